import PyProof.Rows.All
import Wide.All
import OpenK.AllK
import Wide.FinOn
import Lean
import PyProof.EqAt
import PyProof.EqKinds
import PyProof.TupleCall
import PyProof.NeKinds
import PyProof.ZipIter
import PyProof.DictUpdate
import PyProof.FactsAll.dict_1
import PySem.Challenge.RW_chanceduel_k66_whole_means_and_worths
set_option Elab.async false
set_option linter.all false
set_option maxRecDepth 100000
set_option maxHeartbeats 4000000
def aaa:=@List.getElem?_eq_getElem
def aab:=@List.getD_eq_getElem?_getD
def aac:=@List.length_map
def aad:=@List.mem_cons_of_mem
def aae:=@List.mem_cons_self
def aaf:=@List.getElem?_map
def aag:=@List.mem_of_getElem?
def aah:=@Int.le_of_lt
def aai:=@List.getElem?_eq_some_iff
def aaj:=@Int.mul_le_mul_of_nonneg_right
def aak:=@Nat.le_refl
def aal:=@List.mem_map
def aam:=@List.getElem?_append_right
def aan:=@Int.lt_of_le_of_lt
def aao:=@Nat.lt_of_lt_of_le
def aap:=@List.length_append
def aaq:=@Int.mul_pos
def aar:=@Int.mul_le_mul_of_nonneg_left
def aas:=@List.length_cons
def aat:=@Bool.and_eq_true
def aau:=@Bool.false_ne_true
def aav:=@List.getElem?_append_left
def aaw:=@Option.some.inj
def aax:=@List.mem_append_right
def aay:=@List.getElem_mem
def aaz:=@Nat.le_trans
def aaA:=@Nat.ne_of_lt
def aaB:=@List.getElem?_range
def aaC:=@List.map_map
def aaD:=@Rat.intCast_mul
def aaE:=@Int.mul_comm
def aaF:=@Rat.mul_le_mul_of_nonneg_left
def aaG:=@Int.eq_of_mul_eq_mul_left
def aaH:=@Int.ne_of_gt
def aaI:=@List.nil_append
def aaJ:=@List.mem_cons
def aaK:=@List.length_replicate
def aaL:=@List.mem_append
def aaM:=@Int.mul_nonneg
def aaN:=@List.map_cons
def aaO:=@Nat.lt_of_le_of_lt
def aaP:=@Int.pow_succ
def aaQ:=@Int.emod_lt_of_pos
def aaR:=@List.drop_eq_getElem_cons
def aaS:=@Rat.intCast_le_intCast
def aaT:=@List.append_nil
def aaU:=@List.of_mem_zip
def aaV:=@Int.emod_nonneg
def aaW:=@Int.natAbs_mul
def aaX:=@List.map_append
def aaY:=@Rat.intCast_lt_intCast
def aaZ:=@Nat.lt_irrefl
def aa0:=@List.replicate_succ
def aa1:=@List.size_toArray
def aa2:=@List.zip_cons_cons
def aa3:=@Int.pow_zero
def aa4:=@Int.le_trans
def aa5:=@Rat.mul_le_mul_of_nonneg_right
def aa6:=@Int.natCast_add
def aa7:=@List.getElem_of_mem
def aa8:=@List.map_congr_left
def aa9:=@Option.isSome_iff_exists
def aba:=@Int.mul_ediv_cancel_left
def abb:=@Nat.not_lt_zero
def abc:=@Int.natAbs_of_nonneg
def abd:=@List.ext_getElem
def abe:=@List.getElem?_set_self
def abf:=@List.take_of_length_le
def abg:=@Int.toNat_natCast
def abh:=@List.flatten_cons
def abi:=@List.length_range
def abj:=@Int.pow_nonneg
def abl:=@List.length_zip
def abm:=@Int.lt_of_lt_of_le
def abn:=@Nat.lt_succ_self
def abo:=@List.getElem?_set_ne
def abp:=@Nat.pow_le_pow_right
def abq:=@List.getElem?_replicate
def abr:=@Int.mul_le_mul
def abt:=@List.length_set
def abu:=@List.drop_eq_nil_of_le
def abv:=@Int.fmod_eq_emod_of_nonneg
def abw:=@Array.getElem?_eq_some_iff
def abx:=@List.length_drop
def aby:=@List.lookup_cons
def abz:=@Nat.le_add_right
def abA:=@Int.pow_pos
def abB:=@List.mem_range
def abC:=@Int.mul_neg_of_pos_of_neg
def abD:=@List.foldl_cons
def abE:=@Int.lt_trans
def abF:=@List.all_cons
def abG:=@List.any_cons
def abH:=@List.length_take
def abI:=@Int.natCast_zero
def abJ:=@List.range_succ_eq_map
def abK:=@List.mem_filterMap
def abL:=@List.mem_singleton
def abM:=@Nat.zero_le
def abN:=@Int.natCast_pow
def abO:=@Int.ofNat_lt
def abP:=@Int.lt_or_le
def abQ:=@Int.le_of_dvd
def abR:=@Int.fdiv_eq_ediv_of_nonneg
def abS:=@PySem.F.excBase_ValueError
def abT:=@List.mem_append_left
def abU:=@List.drop_zero
def abV:=@Int.le_of_mul_le_mul_left
def abW:=@Int.toNat_of_nonneg
def abX:=@Nat.ne_of_gt
def abY:=@List.getElem?_take_of_lt
def abZ:=@List.mem_of_mem_eraseIdx
def ab0:=@Nat.min_eq_left
def ab1:=@Int.dvd_zero
namespace Hd
open PySem PySem.W PyProof.Rows
def at_(i:Nat):Stmt:=PySem.Challenge.pw_chanceduel_k66_whole_means_and_worths.main.body.getD i (.Pass ⟨0,0,0,0⟩)
def inC:Stmt→Nat→Stmt
  | .ClassDef _ _ _ b _ _ _ _ _ _ _,j=>b.getD j (.Pass ⟨0,0,0,0⟩)
  | s,_=>s
def dA:Stmt→Arguments
  | .FunctionDef _ a _ _ _ _ _ _ _ _=>a
  | _=>⟨[],[],none,[],[],none,[]⟩
def dB:Stmt→List Stmt
  | .FunctionDef _ _ b _ _ _ _ _ _ _=>b
  | _=>[]
def dS:Stmt→Scope
  | .FunctionDef _ _ _ _ _ _ c _ _ _=>c
  | _=>{kind:= .function,names:=[],isGenerator:=false,isCoroutine:=false}
abbrev row:=PySem.Challenge.rw_chanceduel_k66_whole_means_and_worths.row
abbrev en(P:Params)(x:Str)(t:Tok)(v:Value):DictEntry:=⟨PyData.keyHash P x, .str x t,v⟩
def q:Program:={PySem.Challenge.pw_chanceduel_k66_whole_means_and_worths with main:={PySem.Challenge.pw_chanceduel_k66_whole_means_and_worths.main with body:=[at_ 0,at_ 2,at_ 3,at_ 4,at_ 5,at_ 6,at_ 7,at_ 8,at_ 10,at_ 11,at_ 12,at_ 13,at_ 14,at_ 15,at_ 17,at_ 18,at_ 19,at_ 20,at_ 21,at_ 22,at_ 23,at_ 24,at_ 25,at_ 26,at_ 28,at_ 29,at_ 30,at_ 31,at_ 32,at_ 33,at_ 34,at_ 36,at_ 37,at_ 38,at_ 39,at_ 40,at_ 41,at_ 42,at_ 43,at_ 45,at_ 46,at_ 47,at_ 48,at_ 49,at_ 50,at_ 51,at_ 52,at_ 54,at_ 55,at_ 56,at_ 57,at_ 59,at_ 60,at_ 61,at_ 62,at_ 63,at_ 64,at_ 65,at_ 66,at_ 67,at_ 68,at_ 69,at_ 70,at_ 71,at_ 72,at_ 73,at_ 74]}}
abbrev cO(x q:Str)(t l n f a m:Nat):Obj:=⟨.type "code",none, .fields #[.str x t, .str q (t+1), .str "/claim/cut.py" (t+2), .int l 0, .int n 0, .int 0 0, .int 0 0, .int f 0, .ref a, .bool true, .int 181 0, .ref (a+1), .none, .ref (a+2), .ref (a+3), .ref (a+4), .int m 0, .int l 0, .str "/claim/cut.py" (m+1)], #[]⟩
abbrev dO(x q:Str)(t l n f a m:Nat):Obj:=⟨.type "code",none, .fields #[.str x t, .str q (t+1), .str "/claim/cut.py" (t+2), .int l 0, .int n 0, .int 0 0, .int 0 0, .int f 0, .ref a, .bool true, .int 181 0, .ref (a+1), .none, .none, .none, .ref (a+2), .int m 0, .int l 0, .str "/claim/cut.py" (m+1)], #[]⟩
abbrev eO(x:Str)(a d b t u:Nat):Obj:=⟨.type "type",none, .cls ⟨x,[.ref 31],[.ref a, .ref 31, .type "ValueError", .type "Exception", .type "BaseException", .type "object"],d,x,true,[],[],false,none,false⟩, #[some (.ref b),none,some (.str x t),some (.str x u),some (.builtin "ValueError.__new__"),some (.bool true)]⟩
abbrev fO(x q:Str)(s:Stmt)(m:Value)(c:Nat):Obj:=⟨.type "function",none, .func ⟨x,q,(dA s), .stmts (dB s),(dS s),3,[], .none, .none, .none,m,none, .ref c, .none,0⟩, #[]⟩
abbrev m0:Value:= .str "chanceduel.parts" 348
abbrev m1:Value:= .str "chanceduel.places" 402
abbrev m2:Value:= .str "chanceduel.floors" 460
abbrev m3:Value:= .str "chanceduel.rows" 606
abbrev m4:Value:= .str "chanceduel.plans" 682
abbrev m5:Value:= .str "chanceduel.plays" 754
abbrev m6:Value:= .str "law_chanceduel_k66_whole_means_and_worths" 792
def K:Params→Frag:=fun P=>
(nat_lit 2,⟨.none,none,(.dict #[] 0), #[]⟩)::
(nat_lit 3,⟨(.type "dict"),none,(.dict #[(en P "__name__" 165 m6),(en P "__doc__" 166 .none),(en P "__package__" 167 .none),(en P "__loader__" 168 (.builtin "__main__.__loader__#opaque")),(en P "__spec__" 169 .none),(en P "__annotations__" 170 (.ref 6)),(en P "__builtins__" 171 (.ref 4)),(en P "__file__" 173 (.str "/claim/cut.py" 172)),(en P "__cached__" 174 .none),(en P "_wall" 193 (.ref 21)),(en P "DuelError" 213 (.ref 31)),(en P "NoNumber" 229 (.ref 44)),(en P "NoFloor" 245 (.ref 56)),(en P "NoPlace" 270 (.ref 75)),(en P "NoAnswer" 295 (.ref 94)),(en P "ManyAnswers" 322 (.ref 113)),(en P "NoPlan" 347 (.ref 132)),(en P "common_divisor" 360 (.ref 141)),(en P "fraction" 369 (.ref 148)),(en P "plus" 377 (.ref 155)),(en P "minus" 385 (.ref 162)),(en P "times" 393 (.ref 169)),(en P "under" 401 (.ref 176)),(en P "HANDS" 406 (.ref 177)),(en P "MOST_DOORS" 408 (.int 6 407)),(en P "MOST_BOTTOM" 410 (.int 1000000 409)),(en P "fits_pay" 417 (.ref 184)),(en P "fits_door" 425 (.ref 191)),(en P "common_bottom" 434 (.ref 198)),(en P "fits_chances" 440 (.ref 203)),(en P "fits_doors" 446 (.ref 208)),(en P "fits_row" 452 (.ref 213)),(en P "copied_row" 459 (.ref 220)),(en P "MOST_PLACES" 463 (.int 12 462)),(en P "MOST_SHARE_BOTTOM" 465 (.int 1000 464)),(en P "fits_share" 472 (.ref 227)),(en P "weighed" 483 (.ref 234)),(en P "greatest" 492 (.ref 241)),(en P "least" 501 (.ref 248)),(en P "Floor" 605 (.ref 327)),(en P "with_weights" 618 (.ref 338)),(en P "number_of_head" 628 (.ref 345)),(en P "moved_ahead" 637 (.ref 352)),(en P "cleared_line" 643 (.ref 357)),(en P "cleared" 649 (.ref 362)),(en P "quotients" 662 (.ref 369)),(en P "still_of" 668 (.ref 374)),(en P "answer_of" 681 (.ref 381)),(en P "has_door" 692 (.ref 388)),(en P "doors_of" 703 (.ref 395)),(en P "ways_from" 713 (.ref 402)),(en P "whole_row" 719 (.ref 407)),(en P "led_row" 732 (.ref 414)),(en P "row_of" 738 (.ref 419)),(en P "worths_by" 744 (.ref 424)),(en P "worths_of" 753 (.ref 431)),(en P "more_means" 766 (.ref 438)),(en P "first_means" 772 (.ref 443)),(en P "chances_next" 785 (.ref 450)),(en P "mean_of" 791 (.ref 455)),(en P "_law_far" 801 (.ref 462)),(en P "_law_number" 811 (.ref 469)),(en P "_law_rest" 820 (.ref 476)),(en P "_law_lowest" 830 (.ref 483)),(en P "_law_share" 838 (.ref 490)),(en P "_law_pay" 845 (.ref 497)),(en P "_law_doors" 851 (.ref 502)),(en P "_law_rows" 866 (.ref 509)),(en P "_law_plans" 878 (.ref 516)),(en P "_law_times" 886 (.ref 523)),(en P "_law_plus" 894 (.ref 530)),(en P "_law_due" 900 (.ref 535)),(en P "_law_table" 912 (.ref 542)),(en P "_law_power" 922 (.ref 549)),(en P "_law_more" 930 (.ref 556)),(en P "law" 952 (.ref 563))] 76), #[]⟩)::
(nat_lit 30,⟨(.type "dict"),none,(.dict #[(en P "__module__" 203 (.str "chanceduel.errors" 194)),(en P "__firstlineno__" 207 (.int 5 206)),(en P "__static_attributes__" 208 (.ref 29)),(en P "__weakref__" 210 (.ref 32)),(en P "__doc__" 211 .none)] 3), #[]⟩)::
(nat_lit 31,⟨(.type "type"),none,(.cls ⟨"DuelError",[(.type "ValueError")],[(.ref 31),(.type "ValueError"),(.type "Exception"),(.type "BaseException"),(.type "object")],30,"DuelError",true,[],[(.ref 44),(.ref 56),(.ref 75),(.ref 94),(.ref 113),(.ref 132)],false,none,false⟩), #[(some (.ref 22)),none,(some (.str "DuelError" 196)),(some (.str "DuelError" 204)),(some (.builtin "ValueError.__new__")),(some (.bool true))]⟩)::
(nat_lit 43,⟨(.type "dict"),none,(.dict #[(en P "__module__" 221 (.str "chanceduel.errors" 194)),(en P "__firstlineno__" 225 (.int 7 224)),(en P "__static_attributes__" 226 (.ref 42)),(en P "__doc__" 227 .none)] 2), #[]⟩)::
(nat_lit 44,eO "NoNumber" 44 43 35 214 222)::
(nat_lit 55,⟨(.type "dict"),none,(.dict #[(en P "__module__" 237 (.str "chanceduel.errors" 194)),(en P "__firstlineno__" 241 (.int 9 240)),(en P "__static_attributes__" 242 (.ref 54)),(en P "__doc__" 243 .none)] 2), #[]⟩)::
(nat_lit 56,eO "NoFloor" 56 55 47 230 238)::
(nat_lit 75,eO "NoPlace" 75 74 59 246 254)::
(nat_lit 94,eO "NoAnswer" 94 93 78 271 279)::
(nat_lit 113,eO "ManyAnswers" 113 112 97 296 304)::
(nat_lit 132,eO "NoPlan" 132 131 116 323 331)::
(nat_lit 140,cO "common_divisor" "common_divisor" 350 33 2 3 135 358)::
(nat_lit 141,fO "common_divisor" "common_divisor" (at_ 10) m0 140)::
(nat_lit 147,cO "fraction" "fraction" 361 41 2 3 142 367)::
(nat_lit 148,fO "fraction" "fraction" (at_ 11) m0 147)::
(nat_lit 154,cO "plus" "plus" 370 48 2 3 149 375)::
(nat_lit 155,fO "plus" "plus" (at_ 12) m0 154)::
(nat_lit 161,cO "minus" "minus" 378 50 2 3 156 383)::
(nat_lit 162,fO "minus" "minus" (at_ 13) m0 161)::
(nat_lit 168,cO "times" "times" 386 52 2 3 163 391)::
(nat_lit 169,fO "times" "times" (at_ 14) m0 168)::
(nat_lit 175,cO "under" "under" 394 54 2 3 170 399)::
(nat_lit 176,fO "under" "under" (at_ 15) m0 175)::
(nat_lit 177,⟨(.type "tuple"),none,(.seq #[(.str "one" 404),(.str "other" 405)] 0), #[]⟩)::
(nat_lit 183,cO "fits_pay" "fits_pay" 411 60 1 3 178 415)::
(nat_lit 184,fO "fits_pay" "fits_pay" (at_ 20) m1 183)::
(nat_lit 190,cO "fits_door" "fits_door" 418 62 2 3 185 423)::
(nat_lit 191,fO "fits_door" "fits_door" (at_ 21) m1 190)::
(nat_lit 197,cO "common_bottom" "common_bottom" 426 64 1 3 192 432)::
(nat_lit 198,fO "common_bottom" "common_bottom" (at_ 22) m1 197)::
(nat_lit 202,dO "fits_chances" "fits_chances" 435 69 1 3 199 438)::
(nat_lit 203,fO "fits_chances" "fits_chances" (at_ 23) m1 202)::
(nat_lit 207,dO "fits_doors" "fits_doors" 441 75 2 3 204 444)::
(nat_lit 208,fO "fits_doors" "fits_doors" (at_ 24) m1 207)::
(nat_lit 212,dO "fits_row" "fits_row" 447 79 2 3 209 450)::
(nat_lit 213,fO "fits_row" "fits_row" (at_ 25) m1 212)::
(nat_lit 219,cO "copied_row" "copied_row" 453 88 1 3 214 457)::
(nat_lit 220,fO "copied_row" "copied_row" (at_ 26) m1 219)::
(nat_lit 226,cO "fits_share" "fits_share" 466 95 1 3 221 470)::
(nat_lit 227,fO "fits_share" "fits_share" (at_ 30) m2 226)::
(nat_lit 233,cO "weighed" "weighed" 473 97 2 3 228 481)::
(nat_lit 234,fO "weighed" "weighed" (at_ 31) m2 233)::
(nat_lit 240,cO "greatest" "greatest" 484 102 1 3 235 490)::
(nat_lit 241,fO "greatest" "greatest" (at_ 32) m2 240)::
(nat_lit 247,cO "least" "least" 493 108 1 3 242 499)::
(nat_lit 248,fO "least" "least" (at_ 33) m2 247)::
(nat_lit 259,dO "__init__" "Floor.__init__" 514 116 3 3 256 517)::
(nat_lit 260,fO "__init__" "Floor.__init__" (inC (at_ 34) 0) m2 259)::
(nat_lit 266,cO "size" "Floor.size" 520 127 1 3 261 524)::
(nat_lit 267,fO "size" "Floor.size" (inC (at_ 34) 1) m2 266)::
(nat_lit 273,cO "share" "Floor.share" 527 130 1 3 268 531)::
(nat_lit 274,fO "share" "Floor.share" (inC (at_ 34) 2) m2 273)::
(nat_lit 280,cO "kind" "Floor.kind" 534 133 2 3 275 539)::
(nat_lit 281,fO "kind" "Floor.kind" (inC (at_ 34) 3) m2 280)::
(nat_lit 287,cO "doors" "Floor.doors" 542 136 2 3 282 547)::
(nat_lit 288,fO "doors" "Floor.doors" (inC (at_ 34) 4) m2 287)::
(nat_lit 294,cO "pay" "Floor.pay" 550 141 2 3 289 555)::
(nat_lit 295,fO "pay" "Floor.pay" (inC (at_ 34) 5) m2 294)::
(nat_lit 306,cO "shown" "Floor.shown" 564 149 4 3 301 572)::
(nat_lit 307,fO "shown" "Floor.shown" (inC (at_ 34) 7) m2 306)::
(nat_lit 311,dO "all_shown" "Floor.all_shown" 575 153 3 3 308 578)::
(nat_lit 312,fO "all_shown" "Floor.all_shown" (inC (at_ 34) 8) m2 311)::
(nat_lit 316,dO "look" "Floor.look" 581 156 3 3 313 584)::
(nat_lit 317,fO "look" "Floor.look" (inC (at_ 34) 9) m2 316)::
(nat_lit 326,⟨(.type "dict"),none,(.dict #[(en P "__module__" 509 m2),(en P "__firstlineno__" 513 (.int 114 512)),(en P "__init__" 519 (.ref 260)),(en P "size" 526 (.ref 267)),(en P "share" 533 (.ref 274)),(en P "kind" 541 (.ref 281)),(en P "doors" 549 (.ref 288)),(en P "pay" 557 (.ref 295)),(en P "rows" 563 (.ref 300)),(en P "shown" 574 (.ref 307)),(en P "all_shown" 580 (.ref 312)),(en P "look" 586 (.ref 317)),(en P "best" 595 (.ref 324)),(en P "__static_attributes__" 598 (.ref 325)),(en P "__dict__" 600 (.ref 328)),(en P "__weakref__" 602 (.ref 329)),(en P "__doc__" 603 .none)] 4), #[]⟩)::
(nat_lit 327,⟨(.type "type"),none,(.cls ⟨"Floor",[(.type "object")],[(.ref 327),(.type "object")],326,"Floor",true,[],[],false,none,false⟩), #[none,none,(some (.str "Floor" 502)),(some (.str "Floor" 510)),(some (.builtin "object.__new__")),(some (.bool true))]⟩)::
(nat_lit 337,cO "with_weights" "with_weights" 608 169 1 3 332 616)::
(nat_lit 338,fO "with_weights" "with_weights" (at_ 36) m3 337)::
(nat_lit 344,cO "number_of_head" "number_of_head" 619 176 3 3 339 626)::
(nat_lit 345,fO "number_of_head" "number_of_head" (at_ 37) m3 344)::
(nat_lit 351,cO "moved_ahead" "moved_ahead" 629 181 3 3 346 635)::
(nat_lit 352,fO "moved_ahead" "moved_ahead" (at_ 38) m3 351)::
(nat_lit 356,dO "cleared_line" "cleared_line" 638 183 4 3 353 641)::
(nat_lit 357,fO "cleared_line" "cleared_line" (at_ 39) m3 356)::
(nat_lit 361,dO "cleared" "cleared" 644 185 2 3 358 647)::
(nat_lit 362,fO "cleared" "cleared" (at_ 40) m3 361)::
(nat_lit 368,cO "quotients" "quotients" 650 202 4 3 363 660)::
(nat_lit 369,fO "quotients" "quotients" (at_ 41) m3 368)::
(nat_lit 380,cO "answer_of" "answer_of" 669 212 1 3 375 679)::
(nat_lit 381,fO "answer_of" "answer_of" (at_ 43) m3 380)::
(nat_lit 387,cO "has_door" "has_door" 684 225 3 3 382 690)::
(nat_lit 388,fO "has_door" "has_door" (at_ 45) m4 387)::
(nat_lit 394,cO "doors_of" "doors_of" 693 227 2 3 389 701)::
(nat_lit 395,fO "doors_of" "doors_of" (at_ 46) m4 394)::
(nat_lit 401,cO "ways_from" "ways_from" 704 237 3 3 396 711)::
(nat_lit 402,fO "ways_from" "ways_from" (at_ 47) m4 401)::
(nat_lit 406,dO "whole_row" "whole_row" 714 242 1 3 403 717)::
(nat_lit 407,fO "whole_row" "whole_row" (at_ 48) m4 406)::
(nat_lit 413,cO "led_row" "led_row" 720 245 5 3 408 730)::
(nat_lit 414,fO "led_row" "led_row" (at_ 49) m4 413)::
(nat_lit 418,dO "row_of" "row_of" 733 251 3 3 415 736)::
(nat_lit 419,fO "row_of" "row_of" (at_ 50) m4 418)::
(nat_lit 423,dO "worths_by" "worths_by" 739 257 2 3 420 742)::
(nat_lit 424,fO "worths_by" "worths_by" (at_ 51) m4 423)::
(nat_lit 430,cO "worths_of" "worths_of" 745 259 3 3 425 751)::
(nat_lit 431,fO "worths_of" "worths_of" (at_ 52) m4 430)::
(nat_lit 437,cO "more_means" "more_means" 756 262 3 3 432 764)::
(nat_lit 438,fO "more_means" "more_means" (at_ 54) m5 437)::
(nat_lit 442,dO "first_means" "first_means" 767 270 1 3 439 770)::
(nat_lit 443,fO "first_means" "first_means" (at_ 55) m5 442)::
(nat_lit 449,cO "chances_next" "chances_next" 773 272 3 3 444 783)::
(nat_lit 450,fO "chances_next" "chances_next" (at_ 56) m5 449)::
(nat_lit 454,dO "mean_of" "mean_of" 786 281 5 3 451 789)::
(nat_lit 455,fO "mean_of" "mean_of" (at_ 57) m5 454)::
(nat_lit 461,cO "_law_far" "_law_far" 794 290 2 3 456 799)::
(nat_lit 462,fO "_law_far" "_law_far" (at_ 59) m6 461)::
(nat_lit 468,cO "_law_number" "_law_number" 802 292 2 3 463 809)::
(nat_lit 469,fO "_law_number" "_law_number" (at_ 60) m6 468)::
(nat_lit 475,cO "_law_rest" "_law_rest" 812 298 2 3 470 818)::
(nat_lit 476,fO "_law_rest" "_law_rest" (at_ 61) m6 475)::
(nat_lit 482,cO "_law_lowest" "_law_lowest" 821 303 2 3 477 828)::
(nat_lit 483,fO "_law_lowest" "_law_lowest" (at_ 62) m6 482)::
(nat_lit 489,cO "_law_share" "_law_share" 831 309 1 3 484 836)::
(nat_lit 490,fO "_law_share" "_law_share" (at_ 63) m6 489)::
(nat_lit 496,cO "_law_pay" "_law_pay" 839 312 1 3 491 843)::
(nat_lit 497,fO "_law_pay" "_law_pay" (at_ 64) m6 496)::
(nat_lit 501,dO "_law_doors" "_law_doors" 846 316 5 3 498 849)::
(nat_lit 502,fO "_law_doors" "_law_doors" (at_ 65) m6 501)::
(nat_lit 508,cO "_law_rows" "_law_rows" 852 327 3 3 503 864)::
(nat_lit 509,fO "_law_rows" "_law_rows" (at_ 66) m6 508)::
(nat_lit 515,cO "_law_plans" "_law_plans" 867 340 3 3 510 876)::
(nat_lit 516,fO "_law_plans" "_law_plans" (at_ 67) m6 515)::
(nat_lit 522,cO "_law_times" "_law_times" 879 347 2 3 517 884)::
(nat_lit 523,fO "_law_times" "_law_times" (at_ 68) m6 522)::
(nat_lit 529,cO "_law_plus" "_law_plus" 887 349 2 3 524 892)::
(nat_lit 530,fO "_law_plus" "_law_plus" (at_ 69) m6 529)::
(nat_lit 534,dO "_law_due" "_law_due" 895 351 4 3 531 898)::
(nat_lit 535,fO "_law_due" "_law_due" (at_ 70) m6 534)::
(nat_lit 541,cO "_law_table" "_law_table" 901 361 4 3 536 910)::
(nat_lit 542,fO "_law_table" "_law_table" (at_ 71) m6 541)::
(nat_lit 548,cO "_law_power" "_law_power" 913 371 2 3 543 920)::
(nat_lit 549,fO "_law_power" "_law_power" (at_ 72) m6 548)::
(nat_lit 555,cO "_law_more" "_law_more" 923 376 2 3 550 928)::
(nat_lit 556,fO "_law_more" "_law_more" (at_ 73) m6 555)::
(nat_lit 562,cO "law" "law" 931 378 1 3 557 950)::
(nat_lit 563,fO "law" "law" (at_ 74) m6 562)::[]
abbrev H:Hook:=kHook K [2,3,30,31,43,44,55,56,75,94,113,132,140,141,147,148,154,155,161,162,168,169,175,176,177,183,184,190,191,197,198,202,203,207,208,212,213,219,220,226,227,233,234,240,241,247,248,259,260,266,267,273,274,280,281,287,288,294,295,306,307,311,312,316,317,326,327,337,338,344,345,351,352,356,357,361,362,368,369,380,381,387,388,394,395,401,402,406,407,413,414,418,419,423,424,430,431,437,438,442,443,449,450,454,455,461,462,468,469,475,476,482,483,489,490,496,497,501,502,508,509,515,516,522,523,529,530,534,535,541,542,548,549,555,556,562,563] (fun _=>by kernel_rfl)
abbrev Xt:Shared→Bool:=fun s=>xlAt q [] s&&recOk (RowW.records row.toRowW) s
theorem HR{A B C:Type}{o:Option C}{f:C→A}{g:C→B}{a:A}{b:B}(h:o.map f=some a)(k:o.map g=some b):o.map (fun s=>(f s,g s))=some (a,b):=by
  cases o with
  | none=>exact nomatch h
  | some c=>injection h with h;injection k with k;subst h;subst k;rfl
section
variable{A B C D E F G X:Type}{o:Option X}{f:X→A×B×C×D×E×F×G}{t:A×B×C×D×E×F×G}
def p1:A×B×C×D×E×F×G→A
  | (a,_,_,_,_,_,_)=>a
def p2:A×B×C×D×E×F×G→B×C
  | (_,b,c,_,_,_,_)=>(b,c)
def p3:A×B×C×D×E×F×G→D
  | (_,_,_,d,_,_,_)=>d
def p5:A×B×C×D×E×F×G→E
  | (_,_,_,_,e,_,_)=>e
def p6:A×B×C×D×E×F×G→F
  | (_,_,_,_,_,f,_)=>f
def p4:A×B×C×D×E×F×G→G
  | (_,_,_,_,_,_,g)=>g
theorem pr(h:o.map (fun x=>p1 (f x))=some t.1)(g:o.map (fun x=>p2 (f x))=some (t.2.1,t.2.2.1))(k:o.map (fun x=>p3 (f x))=some t.2.2.2.1)(k1:o.map (fun x=>p5 (f x))=some t.2.2.2.2.1)(k2:o.map (fun x=>p6 (f x))=some t.2.2.2.2.2.1)(l:o.map (fun x=>p4 (f x))=some t.2.2.2.2.2.2):o.map f=some t:=by
  cases o with
  | none=>exact nomatch h
  | some x=>
    replace h:p1 (f x)=t.1:=aaw h
    replace g:p2 (f x)=(t.2.1,t.2.2.1):=aaw g
    replace k:p3 (f x)=t.2.2.2.1:=aaw k
    replace k1:p5 (f x)=t.2.2.2.2.1:=aaw k1
    replace k2:p6 (f x)=t.2.2.2.2.2.1:=aaw k2
    replace l:p4 (f x)=t.2.2.2.2.2.2:=aaw l
    show some (f x)=some t
    revert h g k k1 k2 l
    generalize f x=u
    obtain ⟨a,b,c,d,e,f',y⟩:=u
    obtain ⟨a',b',c',d',e',f'',y'⟩:=t
    intro h g k k1 k2 l
    cases (h:a=a');cases (g:(b,c)=(b',c'));cases (k:d=d');cases (k1:e=e');cases (k2:f'=f'');cases (l:y=y');rfl
end
def goG{A B:Type}(o:Option A)(c:A→Bool)(T:A→Option B):Option (A×B):=o.bind fun a=>match c a with
  | true=>(T a).map fun b=>(a,b)
  | false=>none
def enG {A B:Type} (o:Option A) (c:A→Bool) (T:A→Option B) (k:A→B→Bool):Option B:=o.bind fun a=>match c a with
  | true=>(T a).bind fun b=>match k a b with
    | true=>some b
    | false=>none
  | false=>none
theorem bnd {A B C:Type} {o:Option A} {c:A→Bool} {T:A→Option B} {k:A→B→Bool} {g:B→C} {v:C} (h:(goG o c T).map (fun x=>k x.1 x.2)=some true) (l:(goG o c T).map (fun x=>g x.2)=some v):(enG o c T k).map g=some v:=by
  unfold goG at h l
  unfold enG
  cases o with
  | none=>exact nomatch h
  | some a=>
    dsimp only [Option.bind] at h l⊢
    cases hc:c a with
    | false=>rw [hc] at h;exact nomatch h
    | true=>
      rw [hc] at h l
      dsimp only at h l⊢
      cases hT:T a with
      | none=>rw [hT] at h;exact nomatch h
      | some b=>
        rw [hT] at h l
        injection h with h;injection l with l
        dsimp only [Option.bind]
        rw [show k a b=true from h];exact congrArg some l
noncomputable abbrev oA(p:Program)(w:World)(N:Nat):Option Shared:=(Fast.tw10274390034422433532 Fast.tw14364793385576792824 (opening p) w N (Fast.tw1435165496053646825 (opening p)).1 (Fast.tw1435165496053646825 (opening p)).2).bind (fenceModules? p)
abbrev cA(s:Shared):Bool:=s.heap.isNs mainGlobals&&s.gens.size==0
noncomputable abbrev tA(p:Program)(w:World)(N:Nat)(s₀:Shared):Option Shared:=Fast.tw14082659384304107361 Fast.tw14364793385576792824 p w s₀.heap.objs.size (s₀.heap.nsMap mainGlobals "__annotations__") N s₀ (topStub p)
abbrev kA(p:Program)(s₀ s₁:Shared):Bool:=staticsOk (importedModules p.main.body) s₀.heap s₁.heap&&namesBound p s₁.heap&&gensDone s₁&&laidKept s₀.heap s₁.heap
theorem oe(p:Program)(w:World)(N:Nat):openEnds treeTable p w N=enG (oA p w N) cA (tA p w N) (kA p):=by
  unfold openEnds fencedOpening topFrom enG oA tA
  rewrite [Fast.te14082659384304107361,Fast.te14364793385576792824,Fast.te10274390034422433532,Fast.te1435165496053646825]
  rfl
noncomputable abbrev go(w:World):=goG (oA row.prog w 7902) cA (tA row.prog w 7902)
abbrev gd:=openGood q []
noncomputable abbrev sn(x:Shared×Shared):=Fast.tw4187177175401517315 q [] (importedModules row.prog.main.body) Xt true x.2
theorem la(w:World):(go w).map (fun x=>p1 (sn x))=some gd.1:=by kernel_rfl
theorem lb(w:World):(go w).map (fun x=>p2 (sn x))=some (gd.2.1,gd.2.2.1):=by kernel_rfl
theorem lc(w:World):(go w).map (fun x=>p3 (sn x))=some gd.2.2.2.1:=by kernel_rfl
theorem lc1(w:World):(go w).map (fun x=>p5 (sn x))=some gd.2.2.2.2.1:=by kernel_rfl
theorem lc2(w:World):(go w).map (fun x=>p6 (sn x))=some gd.2.2.2.2.2.1:=by kernel_rfl
theorem ld(w:World):(go w).map (fun x=>p4 (sn x))=some gd.2.2.2.2.2.2:=by kernel_rfl
theorem lk(w:World):(go w).map (fun x=>kA row.prog x.1 x.2)=some true:=by kernel_rfl
theorem lo(w:World):(go w).map (fun x=>H.obs x.2)=some (H.val w):=by kernel_rfl
theorem Fd(w:World):(openEnds treeTable row.prog w 7902).map (openSeen q [] (importedModules row.prog.main.body) Xt true)=some gd:=by
  rewrite [oe,Fast.te4187177175401517315]
  exact bnd (lk w) (pr (la w) (lb w) (lc w) (lc1 w) (lc2 w) (ld w))
theorem Fc(w:World):(openEnds treeTable row.prog w 7902).map H.obs=some (H.val w):=by
  rewrite [oe]
  exact bnd (lk w) (lo w)
theorem left:LeftO row.prog q [] Xt H.obs H.val 7902:=fun w=>HR (Fd w) (Fc w)
end Hd
namespace L2
open PySem PySem.Spec PyProof.Rows
abbrev Key:=Sum Int Str
def tW:Key→Value→Bool
 | .inl k,v=>Value.isInt k v
 | .inr x,v=>Value.isStrOf x v
def HC(w:World):Key→Int
 | .inl k=>hashInt k
 | .inr x=>hashStr w x
theorem bz:∀{k:Key} {v:Value},tW k v=true→(∃i t,k=Sum.inl i∧v=Value.int i t)∨(∃x t,k=Sum.inr x∧v=Value.str x t)
 | .inl i,v,h=>by
  obtain ⟨t,e⟩:=Value.isInt_shape (k:=i) (v:=v) h
  exact .inl ⟨i,t,rfl,e⟩
 | .inr x,v,h=>by
  obtain ⟨t,e⟩:=Value.isStrOf_shape (x:=x) (v:=v) h
  exact .inr ⟨x,t,rfl,e⟩
theorem vY(i:Int)(t:Tok):tW (.inl i) (.int i t)=true:=by simp [tW,Value.isInt]
theorem vX(x:Str)(t:Tok):tW (.inr x) (.str x t)=true:=by simp [tW,Value.isStrOf]
theorem C9(a b:Int):decide ((Sum.inl a:Key)=Sum.inl b)=(a==b):=by
 by_cases e:a=b
 ·subst e;simp
 ·have h:¬(Sum.inl a:Key)=Sum.inl b:=fun q=>e (Sum.inl.inj q)
  rw [decide_eq_false h]
  exact (beq_eq_false_iff_ne.mpr e).symm
theorem C6(a b:Str):decide ((Sum.inr a:Key)=Sum.inr b)=decide (a=b):=by
 by_cases e:a=b
 ·subst e;simp
 ·have h:¬(Sum.inr a:Key)=Sum.inr b:=fun q=>e (Sum.inr.inj q)
  rw [decide_eq_false h,decide_eq_false e]
theorem C8(a:Int)(b:Str):decide ((Sum.inl a:Key)=Sum.inr b)=false:=decide_eq_false (fun q=>nomatch q)
theorem C7(a:Str)(b:Int):decide ((Sum.inr a:Key)=Sum.inl b)=false:=decide_eq_false (fun q=>nomatch q)
def b9(prog:Program)(w:World):PySem.KeyKind prog w Key where
 is:=tW
 hash:=HC w
 inj:=fun v a b ha hb=>by
  rcases bz ha with ⟨i,t,rfl,rfl⟩ | ⟨x,t,rfl,rfl⟩
  ·rcases bz hb with ⟨j,u,rfl,e⟩ | ⟨y,u,rfl,e⟩
   ·injection e with e1 _;rw [e1]
   ·exact nomatch e
  ·rcases bz hb with ⟨j,u,rfl,e⟩ | ⟨y,u,rfl,e⟩
   ·exact nomatch e
   ·injection e with e1 _;rw [e1]
 byValue:=fun k v h=>by
  rcases bz h with ⟨i,t,rfl,rfl⟩ | ⟨x,t,rfl,rfl⟩ <;> rfl
 pyHash:=fun hv h=>by
  rcases bz hv with ⟨i,t,rfl,rfl⟩ | ⟨x,t,rfl,rfl⟩
  ·exact wpAny_pyHash_int h
  ·exact wpAny_pyHash_str h
 eqBool:=fun hu hv h=>by
  rcases bz hu with ⟨i,t,rfl,rfl⟩ | ⟨x,t,rfl,rfl⟩
  ·rcases bz hv with ⟨j,u,rfl,rfl⟩ | ⟨y,u,rfl,rfl⟩
   ·rw [C9] at h;exact wpAny_eqBool_int h
   ·rw [C8] at h;exact SeqAt.EqAt.int_str i t y u _ _ _ _ h
  ·rcases bz hv with ⟨j,u,rfl,rfl⟩ | ⟨y,u,rfl,rfl⟩
   ·rw [C7] at h;exact SeqAt.EqAt.str_int x t j u _ _ _ _ h
   ·rw [C6] at h;exact wpAny_eqBool_str h
 «strs»:=fun k x t v h=>by
  rcases bz h with ⟨i,u,rfl,e⟩ | ⟨y,u,rfl,e⟩
  ·exact nomatch e
  ·injection e with e1 _
   subst e1
   cases v <;> rfl
theorem qh(prog:Program)(w:World)(i:Int)(t:Tok):(b9 prog w).is (.inl i) (.int i t)=true:=vY i t
theorem qg(prog:Program)(w:World)(x:Str)(t:Tok):(b9 prog w).is (.inr x) (.str x t)=true:=vX x t
inductive V where
 | non | bl (b:Bool) | int (i:Int) | str (x:Str) | byt (b:Array UInt8) | flt (b:UInt64) | ref (a:Addr) | ty (n:String)
 deriving DecidableEq
def bX:V→Value→Prop
 | .non,u=>u=Value.none
 | .bl b,u=>u=Value.bool b
 | .int i,u=>∃t,u=Value.int i t
 | .str x,u=>∃t,u=Value.str x t
 | .byt b,u=>∃t,u=Value.bytes b t
 | .flt b,u=>∃t,u=Value.float b t
 | .ref a,u=>u=Value.ref a
 | .ty n,u=>u=Value.type n
abbrev bN:List V→List Value→Prop:=Paired bX
theorem bN.length{xs:List V}{us:List Value}(r:bN xs us):xs.length=us.length:=Paired.length r
theorem bN.get:∀{xs:List V} {us:List Value} {i:Nat} {x:V},bN xs us→xs[i]? =some x→∃u,us[i]? =some u∧bX x u
 | _,_,_,_, .nil,e=>by simp at e
 | _,_,0,_, .cons r _,e=>by simp at e;subst e;exact ⟨_,rfl,r⟩
 | _,_,i+1,x, .cons _ t,e=>by
  obtain ⟨u,h1,h2⟩:=bN.get (i:=i) (x:=x) t (by simpa using e)
  exact ⟨u,by simpa using h1,h2⟩
theorem bN.set{x:V}{u:Value}(r:bX x u):∀{xs:List V} {us:List Value} (i:Nat),bN xs us→bN (xs.set i x) (us.set i u)
 | _,_,_, .nil=> .nil
 | _,_,0, .cons _ t=> .cons r t
 | _,_,i+1, .cons q t=> .cons q (bN.set r i t)
theorem bN.append:∀{xs ys:List V} {us ws:List Value},bN xs us→bN ys ws→bN (xs++ys) (us++ws)
 | _,_,_,_, .nil,s=>s
 | _,_,_,_, .cons r t,s=> .cons r (bN.append t s)
theorem bN.take:∀{xs:List V} {us:List Value} (n:Nat),bN xs us→bN (xs.take n) (us.take n)
 | _,_,0,_=> .nil
 | _,_,_+1, .nil=> .nil
 | _,_,n+1, .cons r t=> .cons r (bN.take n t)
theorem bN.drop:∀{xs:List V} {us:List Value} (n:Nat),bN xs us→bN (xs.drop n) (us.drop n)
 | _,_,0,r=>r
 | _,_,_+1, .nil=> .nil
 | _,_,n+1, .cons _ t=>bN.drop n t
def oY:Option V→Option Value→Prop
 | some v,some u=>bX v u
 | none,none=>True
 | _,_=>False
def KV{κ:Type}:List (κ×V)→List (κ×Value)→Prop:=Paired fun (p:κ×V) (q:κ×Value)=>p.1=q.1∧bX p.2 q.2
def kV:Key→V
 | .inl i=> .int i
 | .inr x=> .str x
inductive HO where
 | lst (xs:List V)
 | tup (xs:List V)
 | dK (kvs:List (Key×V)) | dT (kvs:List (List Key×V))
 | set (S:Int→Bool) (n:Nat)
 | ins (C dx:Addr) (fs:List (Str×V))
 | own (x:Addr)
 | xd (fs:List (Str×V))
 | met (f x:Addr)
 | rng (lo hi:Int)
 | frz (o:Obj) (u:HO)
 | tbl (ps:Array Value)
 | ext (φ:Heap→Prop)
abbrev Hp:=Addr→Option HO
def upd(H:Hp)(a:Addr)(o:HO):Hp:=fun b=>if b=a then some o else H b
theorem aC{H:Hp}{a:Addr}{o:HO}:upd H a o a=some o:=by unfold upd;rw [if_pos rfl]
theorem av{H:Hp}{a b:Addr}{o:HO}(h:b≠a):upd H a o b=H b:=by unfold upd;rw [if_neg h]
theorem E7{H:Hp}{a b:Addr}{o u:HO}(h:H a=some o)(h':H b=some u)(d:o≠u):a≠b:=by
 intro e;subst e;rw [h] at h';exact d (aaw h')
theorem bF{H:Hp}{a b:Addr}{o:HO}(h:H a=some o)(h':H b=none):a≠b:=by
 intro e;subst e;rw [h] at h';cases h'
section
variable(P:Program)(w:World)
def cq(H:Hp)(h:Heap)(a:Addr):HO→Prop
 | .lst xs=>xs.length≤sizeLine∧∃(its:List Value) (n:Nat),bN xs its∧h.get? a=some {cls:= .type "list",data:= .seq its.toArray n}
 | .tup xs=>xs.length≤sizeLine∧∃its:List Value,bN xs its∧IsTup h a its.toArray
 | .dK kvs=>kvs.length≤sizeLine∧(a==sysModules)=false∧∃vs,KV kvs vs∧h.DictOf (b9 P w) a vs
 | .dT kvs=>kvs.length≤sizeLine∧(a==sysModules)=false∧∃xs:List (List Key×Addr×Value),
   Paired (fun (p:List Key×V) (q:List Key×Addr×Value)=>p.1=q.1∧H q.2.1=some (.tup (p.1.map kV))∧bX p.2 q.2.2) kvs xs∧
   ∃o es ep,h.get? a=some o∧o.ExactDict∧o.data= .dict es ep∧es.toList=xs.map (entryOfKey (tupleKind (b9 P w)))∧(xs.map (·.1)).Nodup
 | .set S n=>h.SetOf (intKind P w) a S n
 | .ins C dx fs=>H dx=some (.own a)∧fs.length≤1000∧dx≠a∧h.get? a=some (PySem.W.instObj C dx)∧
   ∃mA,h.Ns1 dx mA∧(∀f,oY (fs.lookup f) (mA f))∧PySem.Within mA (fs.map (·.1))
 | .own _=>∃o,h.get? a=some o
 | .xd fs=>∃mA,h.Ns1 a mA∧∀f,oY (fs.lookup f) (mA f)
 | .rng lo hi=>∃t u v,h.get? a=some {cls:= .type "range",data:= .fields #[.int lo t, .int hi u, .int 1 v]}
 | .frz o u=>h.get? a=some o∧cq H h a u
 | .tbl ps=>h.get? a=some {cls:= .none,data:= .fields ps}
 | .met f x=>h.get? a=some (PySem.W.methodObj (.ref f) (.ref x))
 | .ext φ=>φ h∧(∃o,h.get? a=some o)∧∀h1 h2:Heap,φ h1→(∀o,h1.get? a=some o→h2.get? a=some o)→φ h2
def HOk(H:Hp)(h:Heap):Prop:=∀a o,H a=some o→cq P w H h a o
end
section
variable{P:Program}{w:World}{H H':Hp}{h h':Heap}{a:Addr}{o:HO}
theorem cq.lt(x:cq P w H h a o):a < h.objs.size:=by
 cases o with
 | lst xs=>obtain ⟨_,_,_,_,e⟩:=x;exact Heap.lt_size e
 | tup xs=>obtain ⟨_,_,_,p⟩:=x;exact p.lt
 | dK kvs=>obtain ⟨_,_,_,_,o,_,_,e,_⟩:=x;exact Heap.lt_size e
 | dT kvs=>obtain ⟨_,_,_,_,o,_,_,e,_⟩:=x;exact Heap.lt_size e
 | set S n=>obtain ⟨o,_,_,_,e,_⟩:=x;exact Heap.lt_size e
 | ins C dx fs=>obtain ⟨_,_,_,e,_⟩:=x;exact Heap.lt_size e
 | own y=>obtain ⟨_,e⟩:=x;exact Heap.lt_size e
 | xd fs=>obtain ⟨_,⟨_,_,_,e,_⟩,_⟩:=x;exact Heap.lt_size e
 | rng lo hi=>obtain ⟨_,_,_,e⟩:=x;exact Heap.lt_size e
 | frz ob u=>obtain ⟨e,_⟩:=x;exact Heap.lt_size e
 | tbl ps=>exact Heap.lt_size (show h.get? a=some _ from x)
 | met f y=>exact Heap.lt_size (show h.get? a=some _ from x)
 | ext φ=>obtain ⟨_,⟨_,e⟩,_⟩:=x;exact Heap.lt_size e
theorem Paired.mapP{α β:Type}{F G:α→β→Prop}:∀{l₁:List α} {l₂:List β},Paired F l₁ l₂→(∀a b,F a b→G a b)→Paired G l₁ l₂
 | _,_, .nil,_=> .nil
 | _,_, .cons r t,f=> .cons (f _ _ r) (Paired.mapP t f)
theorem cq.stay(x:cq P w H h a o)(k:∀b u,(b=a∨H b=some (.own a))→h.get? b=some u→h'.get? b=some u)
  (ho:∀b,H b=some (.own a)→H' b=some (.own a)) (ht:∀b xs,H b=some (.tup xs)→H' b=some (.tup xs)):cq P w H' h' a o:=by
 induction o with
 | lst xs=>obtain ⟨z,its,n,r,e⟩:=x;exact ⟨z,its,n,r,k _ _ (.inl rfl) e⟩
 | tup xs=>obtain ⟨z,its,r,ob,e,c⟩:=x;exact ⟨z,its,r,ob,k _ _ (.inl rfl) e,c⟩
 | dK kvs=>obtain ⟨z,y,vs,r,ob,es,ep,e,c⟩:=x;exact ⟨z,y,vs,r,ob,es,ep,k _ _ (.inl rfl) e,c⟩
 | dT kvs=>
  obtain ⟨z,y,xs,r,ob,es,ep,e,c⟩:=x
  exact ⟨z,y,xs,Paired.mapP r fun p q z=>⟨z.1,ht _ _ z.2.1,z.2.2⟩,ob,es,ep,k _ _ (.inl rfl) e,c⟩
 | set S n=>obtain ⟨ob,es,ep,t,e,c⟩:=x;exact ⟨ob,es,ep,t,k _ _ (.inl rfl) e,c⟩
 | ins C dx fs=>
  obtain ⟨d,z,ne,e,mA,⟨od,es,ep,e2,c⟩,r⟩:=x
  exact ⟨ho _ d,z,ne,k _ _ (.inl rfl) e,mA,⟨od,es,ep,k _ _ (.inr d) e2,c⟩,r⟩
 | own y=>obtain ⟨ob,e⟩:=x;exact ⟨ob,k _ _ (.inl rfl) e⟩
 | xd fs=>obtain ⟨mA,⟨od,es,ep,e,c⟩,r⟩:=x;exact ⟨mA,⟨od,es,ep,k _ _ (.inl rfl) e,c⟩,r⟩
 | rng lo hi=>obtain ⟨t,u,v,e⟩:=x;exact ⟨t,u,v,k _ _ (.inl rfl) e⟩
 | frz ob u ih=>obtain ⟨e,q⟩:=x;exact ⟨k _ _ (.inl rfl) e,ih q⟩
 | tbl ps=>
  have e:h.get? a=some {cls:= .none,data:= .fields ps}:=x
  show h'.get? a=some {cls:= .none,data:= .fields ps}
  exact k a _ (.inl rfl) e
 | met f y=>
  have e:h.get? a=some (PySem.W.methodObj (.ref f) (.ref y)):=x
  show h'.get? a=some (PySem.W.methodObj (.ref f) (.ref y))
  exact k a _ (.inl rfl) e
 | ext φ=>obtain ⟨p,⟨o,e⟩,st⟩:=x;exact ⟨st _ _ p fun o q=>k _ _ (.inl rfl) q,⟨o,k _ _ (.inl rfl) e⟩,st⟩
theorem HOk.lt(x:HOk P w H h)(e:H a=some o):a < h.objs.size:=(x a o e).lt
theorem HOk.fresh(x:HOk P w H h)(e:h.objs.size≤a):H a=none:=by
 cases q:H a with
 | none=>rfl
 | some u=>exact absurd (aao (x.lt q) e) (aaZ _)
theorem HOk.kept(x:HOk P w H h)(k:∀b u,h.get? b=some u→h'.get? b=some u):HOk P w H h':=fun a o e=>
 (x a o e).stay (fun b u _ q=>k b u q) (fun _ q=>q) fun _ _ q=>q
theorem HOk.laid(x:HOk P w H h)(k:∀b u,h.get? b=some u→h'.get? b=some u)(hp:h.objs.size≤a)(new:cq P w (upd H a o) h' a o):HOk P w (upd H a o) h':=fun b u e=>by
 have hn:=x.fresh hp
 by_cases hb:b=a
 ·subst hb;rw [aC] at e;cases e;exact new
 ·rw [av hb] at e
  exact (x b u e).stay (fun c v _ q=>k c v q) (fun c q=>by rw [av (bF q hn)];exact q) fun c xs q=>by rw [av (bF q hn)];exact q
end
def Rd(H:Hp)(a:Addr)(u:HO):Prop:=H a=some u∨∃o,H a=some (.frz o u)
theorem Rd.ok{P:Program}{w:World}{H:Hp}{h:Heap}{a:Addr}{u:HO}(r:Rd H a u)(x:HOk P w H h):cq P w H h a u:=by
 rcases r with r | ⟨o,r⟩
 ·exact x a u r
 ·obtain ⟨_,q⟩:=x a _ r
  exact q
def Mut:Option HO→Prop
 | some (.lst _)=>True
 | some (.dK _)=>True
 | some (.dT _)=>True
 | some (.set _ _)=>True
 | some (.ins _ _ _)=>True
 | some (.ext _)=>True
 | _=>False
section
variable{P:Program}{w:World}{H:Hp}{h h':Heap}{x e:Addr}{o':HO}
theorem HOk.write(ok:HOk P w H h)(mu:Mut (H x))(he:e=x∨H e=some (.own x))(k:∀b u,b≠e→h.get? b=some u→h'.get? b=some u)(heo:∃u,h'.get? e=some u)
  (new:cq P w (upd H x o') h' x o'):HOk P w (upd H x o') h':=fun b u q=>by
 have nown:∀c y,H c=some (.own y)→c≠x:=fun c y r z=>by subst z;rw [r] at mu;exact mu
 have ntup:∀c xs,H c=some (.tup xs)→c≠x:=fun c xs r z=>by subst z;rw [r] at mu;exact mu
 by_cases hb:b=x
 ·subst hb;rw [aC] at q;cases q;exact new
 ·rw [av hb] at q
  by_cases hbe:b=e
  ·have q':H b=some (.own x):=by
    rcases he with z | z
    ·exact absurd (hbe.trans z) hb
    ·rw [hbe];exact z
   rw [q] at q';cases q'
   obtain ⟨v,hv⟩:=heo
   exact ⟨v,by rw [hbe];exact hv⟩
  ·refine (ok b u q).stay (fun c v hc r=>k c v ?_ r) (fun c r=>by rw [av (nown c b r)];exact r) fun c xs r=>by rw [av (ntup c xs r)];exact r
   rcases hc with rfl | hc
   ·exact hbe
   ·rintro rfl
    rcases he with z | z
    ·exact nown c b hc z
    ·rw [hc] at z;cases z;exact hb rfl
end
structure Un(fs ex:List Addr)(H H':Hp)(h h':Heap):Prop where
 keep:∀b o,h.get? b=some o→H b=none→b∉fs→b∉ex→h'.get? b=some o
 slot:∀b o,h.get? b=some o→H b=none→b∈fs→b∉ex→∃sl,h'.get? b=some {o with slots:=sl}
 free:∀b o,h.get? b=some o→H b=none→b∉ex→H' b=none
 there:∀b o,h.get? b=some o→b∉ex→∃o',h'.get? b=some o'
 tups:∀b xs,H b=some (.tup xs)→H' b=some (.tup xs)
 frzs:∀b o u,H b=some (.frz o u)→H' b=some (.frz o u)
 tbls:∀b ps,H b=some (.tbl ps)→∃more,H' b=some (.tbl (ps++more))
section
variable{fs fs' ex ex':List Addr}{H H1 H2:Hp}{h h1 h2 h':Heap}{a x e:Addr}{o:HO}
theorem Un.any(u:Un fs ex H H1 h h1){b:Addr}{ob:Obj}(q:h.get? b=some ob)(n:H b=none)(hx:b∉ex):∃sl,h1.get? b=some {ob with slots:=sl}:=by
 by_cases hb:b∈fs
 ·exact u.slot b ob q n hb hx
 ·exact ⟨ob.slots,u.keep b ob q n hb hx⟩
theorem Un.kept(k:∀b u,h.get? b=some u→h'.get? b=some u):Un fs ex H H h h':=
 ⟨fun b ob q _ _ _=>k b ob q,fun b ob q _ _ _=>⟨ob.slots,k b ob q⟩,fun _ _ _ n _=>n,fun b ob q _=>⟨ob,k b ob q⟩,fun _ _ q=>q,fun _ _ _ q=>q,fun _ ps q=>⟨#[],by rw [q];simp⟩⟩
theorem Un.refl:Un fs ex H H h h:=Un.kept fun _ _ q=>q
theorem Un.laid(k:∀b u,h.get? b=some u→h'.get? b=some u)(hp:h.objs.size≤a)(hn:H a=none):Un fs ex H (upd H a o) h h' where
 keep:=fun b u q _ _ _=>k b u q
 slot:=fun b u q _ _ _=>⟨u.slots,k b u q⟩
 free:=fun b u q n _=>by rw [av (aaA (aao (Heap.lt_size q) hp))];exact n
 there:=fun b u q _=>⟨u,k b u q⟩
 tups:=fun b xs q=>by rw [av (bF q hn)];exact q
 frzs:=fun b u xs q=>by rw [av (bF q hn)];exact q
 tbls:=fun b ps q=>⟨#[],by rw [av (bF q hn),q];simp⟩
theorem Un.write(mu:Mut (H x))(he:e=x∨H e=some (.own x))(k:∀b u,b≠e→h.get? b=some u→h'.get? b=some u)(heo:∃u,h'.get? e=some u):Un fs ex H (upd H x o) h h':=by
 have hx:∀b,H b=none→b≠x:=fun b n z=>by subst z;rw [n] at mu;exact mu
 have hb:∀b,H b=none→b≠e:=fun b n z=>by
  subst z
  rcases he with r | r
  ·exact hx b n r
  ·rw [n] at r;cases r
 have hm:∀b u,H b=some u→¬Mut (some u)→b≠x:=fun b u q nm z=>by subst z;rw [q] at mu;exact nm mu
 refine ⟨fun b u q n _ _=>k b u (hb b n) q,fun b u q n _ _=>⟨u.slots,k b u (hb b n) q⟩,fun b u q n _=>by rw [av (hx b n)];exact n,fun b u q _=> ?_,
  fun b xs q=>by rw [av (hm b _ q fun z=>z)];exact q,fun b u xs q=>by rw [av (hm b _ q fun z=>z)];exact q,fun b ps q=>⟨#[],by rw [av (hm b _ q fun z=>z),q];simp⟩⟩
 by_cases hbe:b=e
 ·subst hbe;exact heo
 ·exact ⟨u,k b u hbe q⟩
end
def trk(h:Heap)(H:Hp):List Addr:=(List.range h.objs.size).filter fun a=>(H a).isSome
def yD(h:Heap)(H:Hp):Heap:=PySem.W.hideAll h (trk h H)
theorem wB(h:Heap)(H:Hp):(yD h H).objs.size=h.objs.size:=PySem.W.hideAll_size _ _
theorem yC{h:Heap}{H:Hp}{b:Addr}{o:Obj}(e:h.get? b=some o)(n:H b=none):(yD h H).get? b=some o:=
 PySem.W.hideAll_get _ e fun hm=>by
  have q:(H b).isSome=true:=(List.mem_filter.mp hm).2
  rw [n] at q;simp at q
theorem AV{h:Heap}{H:Hp}{b:Addr}{o:Obj}(e:(yD h H).get? b=some o):h.get? b=some o∧H b=none:=by
 have e':h.get? b=some o:=PySem.W.of_hideAll (trk h H) e
 refine ⟨e', ?_⟩
 cases q:H b with
 | none=>rfl
 | some x=>
  have hm:b∈trk h H:=List.mem_filter.mpr ⟨List.mem_range.mpr (Heap.lt_size e'),by simp [q]⟩
  have z:(yD h H).get? b=none:=PySem.W.hideAll_none (trk h H) hm
  rw [z] at e;cases e
structure Mod(K:PySem.W.Frag)(mg:Str→Option Value)(base:Heap):Prop where
 kin:K.In base
 glob:base.Ns mainGlobals mg
 blt:∃mb,base.Ns builtinsNs mb∧∀x:Str,x≠"__name__"→mb x=bootBuiltins x
 nolimit:base.NoLimit
structure Cx where
 prog:Program
 w:World
 K:PySem.W.Frag
 mg:Str→Option Value
 base:Heap
 A:Around
 N:List Str
 s₀:Shared
 H₀:Hp
 env:Env
 outer:List Env
 stack:List Env
 ex:List Addr
 fn:Str→Bool
 calm:Bool
 pn:List (Addr×Obj)
 xe:Value→Shared→Prop
def frs(l:List Env):List Addr:=l.filterMap (·.frame)
abbrev Cx.fs(X:Cx):List Addr:=frs X.outer
def Vis(sc:Scope)(x:Str):Prop:=sc.names.lookup x=some .local∨sc.names.lookup x=some .cell∨sc.names.lookup x=some .free
def Loc(sc:Scope)(x:Str):Prop:=sc.names.lookup x=some .local∨sc.names.lookup x=some .cell
def HZ(env:Env)(h:Heap)(m:Str→Option Value)(x:Str)(u:Value):Prop:=
 (env.kindOf x=some .local∧m x=some u)∨((env.kindOf x=some .cell∨env.kindOf x=some .free)∧∃c,env.cells.lookup x=some c∧h.IsCell c (some u))
structure Cx.Ok(X:Cx):Prop where
 mod:Mod X.K X.mg X.base
 kind:X.env.scope.kind= .function
 glob:X.env.globals=mainGlobals
 blt:X.env.builtins=builtinsNs
 above:X.s₀.heap.objs.size≤X.env.locals
 inj:∀x y c,X.env.cells.lookup x=some c→X.env.cells.lookup y=some c→x=y
 has:∀x,(X.env.kindOf x=some .cell∨X.env.kindOf x=some .free)→∃c,X.env.cells.lookup x=some c
 cab:∀x c,X.fn x=true→X.env.cells.lookup x=some c→X.s₀.heap.objs.size≤c
 hd:X.calm=true→X.A.handled=none
 frames:X.A.frames=some X.stack
 stk:X.stack=X.outer∨(X.stack=X.env::X.outer∧X.env.frame=some X.env.locals)
 exf:∀b∈X.ex,b≠X.env.locals∧∀x c,X.env.cells.lookup x=some c→c≠b
 bs:∀b o,X.base.get? b=some o→X.s₀.heap.get? b=some o∧X.H₀ b=none
 bsz:X.base.objs.size≤X.s₀.heap.objs.size
 noex:∀b o,X.base.get? b=some o→b∉X.ex
 exfs:∀b∈X.ex,b∉X.fs
 funs:X.s₀.heap.FunFrames X.base X.outer
 frf:∀b∈X.fs,X.H₀ b=none
structure Inv(X:Cx)(pins:List (Addr×Obj))(σ:List (Option V))(H:Hp)(s:Shared):Prop where
 ok:X.Ok
 os:s.os=X.s₀.os
 bare:AllBare s.gens
 base:Un X.fs X.ex X.H₀ H X.s₀.heap s.heap
 loc:∃m,s.heap.Ns X.env.locals m∧∀(i:Nat) (x:Str) (v:V),X.N[i]? =some x→σ[i]? =some (some v)→Vis X.env.scope x→∃u,bX v u∧HZ X.env s.heap m x u
 cell:∀x c,X.env.cells.lookup x=some c→∃v,s.heap.IsCell c v
 free:H X.env.locals=none
 freeC:∀x c,X.env.cells.lookup x=some c→H c=none
 pin:∀p∈X.pn++pins,s.heap.get? p.1=some p.2∧H p.1=none∧p.1≠X.env.locals∧p.1∉X.fs∧∀v,p.2.data≠ .cell v
 hok:HOk X.prog X.w H s.heap
 len:σ.length=X.N.length
section
variable{X:Cx}{pins:List (Addr×Obj)}{σ:List (Option V)}{H H':Hp}{s:Shared}{h':Heap}
theorem Cx.Ok.nofr(ok:X.Ok){b:Addr}{o:Obj}(e:X.base.get? b=some o):b∉X.fs:=fun hb=>by
 have:=(ok.funs.mem hb).1
 rw [e] at this;cases this
theorem Inv.bs(I:Inv X pins σ H s):∀b o,X.base.get? b=some o→s.heap.get? b=some o∧H b=none:=fun b o e=>
 ⟨I.base.keep b o (I.ok.bs b o e).1 (I.ok.bs b o e).2 (I.ok.nofr e) (I.ok.noex b o e),I.base.free b o (I.ok.bs b o e).1 (I.ok.bs b o e).2 (I.ok.noex b o e)⟩
theorem Inv.bk(I:Inv X pins σ H s):∀b o,X.base.get? b=some o→s.heap.get? b=some o:=fun b o e=>(I.bs b o e).1
theorem Inv.mod(I:Inv X pins σ H s):Mod X.K X.mg X.base:=I.ok.mod
theorem Inv.kIn(I:Inv X pins σ H s):X.K.In s.heap:=I.ok.mod.kin.keeps I.bk
theorem Inv.lt(I:Inv X pins σ H s):X.env.locals < s.heap.objs.size:=let ⟨_,hn,_⟩:=I.loc;hn.lt
theorem Inv.sz(I:Inv X pins σ H s):X.s₀.heap.objs.size≤s.heap.objs.size:=aaz I.ok.above (Nat.le_of_lt I.lt)
theorem Inv.nofs(I:Inv X pins σ H s){a:Addr}(h:s.heap.objs.size≤a):a∉X.fs:=fun hb=>by
 obtain ⟨_,o,ho,_⟩:=I.ok.funs.mem hb
 exact absurd (aao (Heap.lt_size ho) (aaz I.sz h)) (aaZ _)
theorem Inv.cne(I:Inv X pins σ H s):∀x c,X.env.cells.lookup x=some c→c≠X.env.locals:=fun x c e z=>by
 obtain ⟨v,o,ho,hd⟩:=I.cell x c e
 obtain ⟨m,⟨o',es,ep,ho',hd',_⟩,_⟩:=I.loc
 rw [z,ho'] at ho;cases ho;rw [hd'] at hd;cases hd
theorem Inv.funs(I:Inv X pins σ H s):s.heap.FunFrames X.base X.outer:=by
 have all:∀(l:List Env),(∀b∈frs l,b∈X.fs)→X.s₀.heap.FunFrames X.base l→s.heap.FunFrames X.base l:=by
  intro l
  induction l with
  | nil=>intro _ _;trivial
  | cons env r ih=>
   intro hs hl
   obtain ⟨hk,⟨L,o,hf,hn,ho,hd⟩,hr⟩:=hl
   have hL:L∈X.fs:=hs L (by unfold frs;rw [List.filterMap_cons,hf];exact List.mem_cons_self)
   obtain ⟨sl,e⟩:=I.base.slot L o ho (I.ok.frf L hL) hL fun z=>I.ok.exfs L z hL
   exact ⟨hk,⟨L,_,hf,hn,e,hd⟩,ih (fun b hb=>hs b (by unfold frs;rw [List.filterMap_cons,hf];exact List.mem_cons_of_mem _ hb)) hr⟩
 exact all X.outer (fun _ hb=>hb) I.ok.funs
theorem Inv.stack(I:Inv X pins σ H s):s.heap.FunFrames X.base X.stack:=by
 rcases I.ok.stk with e | ⟨e,hf⟩
 ·rw [e];exact I.funs
 ·rw [e]
  obtain ⟨m,hn,_⟩:=I.loc
  refine .cons (by rw [I.ok.kind];decide) hf hn ?_ I.funs
  exact Heap.get?_none_of_le (aaz I.ok.bsz I.ok.above)
theorem Inv.stkSub(I:Inv X pins σ H s):∀b∈frs X.stack,b∈X.env.locals::X.fs:=fun b hb=>by
 rcases I.ok.stk with e | ⟨e,hf⟩
 ·rw [e] at hb;exact aad _ hb
 ·rw [e] at hb
  unfold frs at hb
  rw [List.filterMap_cons,hf] at hb
  exact hb
theorem Inv.stkFree(I:Inv X pins σ H s):∀b∈frs X.stack,H b=none:=fun b hb=>by
 rcases aaJ.mp (I.stkSub b hb) with e | hb
 ·rw [e];exact I.free
 ·obtain ⟨_,o,ho,_⟩:=I.ok.funs.mem hb
  exact I.base.free b o ho (I.ok.frf b hb) fun z=>I.ok.exfs b z hb
theorem Inv.step{g':Array GenState}{t':Nat}{d':Drawn}{ch:List Addr}(I:Inv X pins σ H s)
  (hch:∀b∈ch,(b∈X.ex∨X.s₀.heap.objs.size≤b)∧b≠X.env.locals∧(∀x c,X.env.cells.lookup x=some c→c≠b)∧∀p∈X.pn++pins,p.1≠b)
  (keep:∀b o,b≠X.env.locals→b∉X.fs→b∉ch→s.heap.get? b=some o→H b=none→h'.get? b=some o)
  (slot:∀b o,b≠X.env.locals→b∈X.fs→b∉ch→s.heap.get? b=some o→H b=none→∃sl,h'.get? b=some {o with slots:=sl}) (free:∀b o,b∉ch→s.heap.get? b=some o→H b=none→H' b=none)
  (there:∀b o,b∉ch→s.heap.get? b=some o→∃o',h'.get? b=some o')
  (tups:∀b xs,H b=some (.tup xs)→H' b=some (.tup xs)) (frzs:∀b o u,H b=some (.frz o u)→H' b=some (.frz o u)) (tbls:∀b ps,H b=some (.tbl ps)→∃more,H' b=some (.tbl (ps++more)))
  (ns:∀m,s.heap.Ns X.env.locals m→h'.Ns X.env.locals m) (hok:HOk X.prog X.w H' h') (hg:AllBare g'):
  Inv X pins σ H' {s with heap:=h',gens:=g',drawn:=d',toks:=t'}:=by
 have neL:∀b o,X.s₀.heap.get? b=some o→b≠X.env.locals:=fun b o e=>aaA (aao (Heap.lt_size e) I.ok.above)
 have neC:∀b o,X.s₀.heap.get? b=some o→b∉X.ex→b∉ch:=fun b o e hx hb=>by
  rcases (hch b hb).1 with z | z
  ·exact hx z
  ·exact absurd (aao (Heap.lt_size e) z) (aaZ _)
 have cellK:∀x c,X.env.cells.lookup x=some c→∀v,s.heap.IsCell c v→h'.IsCell c v:=fun x c e v ⟨o,ho,hd⟩=>by
  have nch:c∉ch:=fun z=>(hch c z).2.2.1 x c e rfl
  by_cases hc:c∈X.fs
  ·obtain ⟨sl,q⟩:=slot c o (I.cne x c e) hc nch ho (I.freeC x c e)
   exact ⟨_,q,hd⟩
  ·exact ⟨o,keep c o (I.cne x c e) hc nch ho (I.freeC x c e),hd⟩
 refine ⟨I.ok,I.os,hg,⟨fun b o e n hb hx=> ?_,fun b o e n hb hx=> ?_,fun b o e n hx=> ?_,fun b o e hx=> ?_,fun b xs e=>tups b xs (I.base.tups b xs e),fun b o xs e=>frzs b o xs (I.base.frzs b o xs e),fun b ps e=> ?_⟩, ?_,fun x c e=> ?_, ?_,fun x c e=> ?_,fun p hp=> ?_,hok,I.len⟩
 ·exact keep b o (neL b o e) hb (neC b o e hx) (I.base.keep b o e n hb hx) (I.base.free b o e n hx)
 ·obtain ⟨sl,e1⟩:=I.base.slot b o e n hb hx
  obtain ⟨sl',e2⟩:=slot b _ (neL b o e) hb (neC b o e hx) e1 (I.base.free b o e n hx)
  exact ⟨sl',e2⟩
 ·obtain ⟨o',e1⟩:=I.base.there b o e hx
  exact free b o' (neC b o e hx) e1 (I.base.free b o e n hx)
 ·obtain ⟨o',e1⟩:=I.base.there b o e hx
  exact there b o' (neC b o e hx) e1
 ·obtain ⟨m1,e1⟩:=I.base.tbls b ps e
  obtain ⟨m2,e2⟩:=tbls b _ e1
  exact ⟨m1++m2,by rw [e2,Array.append_assoc]⟩
 ·obtain ⟨m,hn,hl⟩:=I.loc
  refine ⟨m,ns m hn,fun i x v e1 e2 e3=> ?_⟩
  obtain ⟨u,r,l⟩:=hl i x v e1 e2 e3
  refine ⟨u,r, ?_⟩
  rcases l with l | ⟨k,c,e,z⟩
  ·exact .inl l
  ·exact .inr ⟨k,c,e,cellK x c e _ z⟩
 ·obtain ⟨v,z⟩:=I.cell x c e
  exact ⟨v,cellK x c e v z⟩
 ·obtain ⟨m,⟨o,_,_,ho,_⟩,_⟩:=I.loc
  exact free _ o (fun z=>(hch _ z).2.1 rfl) ho I.free
 ·obtain ⟨v,o,ho,hd⟩:=I.cell x c e
  exact free c o (fun z=>(hch c z).2.2.1 x c e rfl) ho (I.freeC x c e)
 ·obtain ⟨e,n,ne,nf,d⟩:=I.pin p hp
  have nch:p.1∉ch:=fun z=>(hch p.1 z).2.2.2 p hp rfl
  exact ⟨keep p.1 p.2 ne nf nch e n,free p.1 p.2 nch e n,ne,nf,d⟩
theorem Inv.un{t':Nat}(I:Inv X pins σ H s)(u:Un X.fs [] H H' s.heap h')(hok:HOk X.prog X.w H' h'):Inv X pins σ H' {s with heap:=h',toks:=t'}:=by
 obtain ⟨m,⟨o,es,ep,ho,r⟩,_⟩:=id I.loc
 obtain ⟨sl,hL⟩:=u.any ho I.free (by simp)
 exact I.step (g':=s.gens) (d':=s.drawn) (ch:=[]) (fun _ z=>nomatch z) (fun b o _ hb _ e n=>u.keep b o e n hb (by simp)) (fun b o _ hb _ e n=>u.slot b o e n hb (by simp)) (fun b o _ e n=>u.free b o e n (by simp)) (fun b o _ e=>u.there b o e (by simp)) u.tups u.frzs u.tbls (fun m' hm=>by
  obtain ⟨o',es',ep',ho',r'⟩:=hm
  rw [ho] at ho';cases ho'
  exact ⟨_,es',ep',hL,r'⟩) hok I.bare
theorem Inv.call{g':Array GenState}{t':Nat}{d':Drawn}{ch:List Addr}(I:Inv X pins σ H s)(u:Un (frs X.stack) ch H H' s.heap h')(hok:HOk X.prog X.w H' h')(hg:AllBare g')
  (hch:∀b∈ch,(b∈X.ex∨X.s₀.heap.objs.size≤b)∧b≠X.env.locals∧(∀x c,X.env.cells.lookup x=some c→c≠b)∧∀p∈X.pn++pins,p.1≠b):
  Inv X pins σ H' {s with heap:=h',gens:=g',drawn:=d',toks:=t'}:=by
 obtain ⟨m,⟨o,es,ep,ho,r⟩,_⟩:=id I.loc
 obtain ⟨sl,hL⟩:=u.any ho I.free fun z=>(hch _ z).2.1 rfl
 exact I.step (ch:=ch) hch (fun b o hL hb hc e n=>u.keep b o e n (fun z=>(aaJ.mp (I.stkSub b z)).elim hL hb) hc) (fun b o _ _ hc e n=>u.any e n hc) (fun b o hc e n=>u.free b o e n hc) (fun b o hc e=>u.there b o e hc) u.tups u.frzs u.tbls (fun m' hm=>by
  obtain ⟨o',es',ep',ho',r'⟩:=hm
  rw [ho] at ho';cases ho'
  exact ⟨_,es',ep',hL,r'⟩) hok hg
theorem Inv.turned{t':Nat}{it:Addr}(I:Inv X pins σ H s)(k:∀b o,b≠it→s.heap.get? b=some o→h'.get? b=some o)(hn:H it=none)(hL:it≠X.env.locals)
  (h1:it∈X.ex∨X.s₀.heap.objs.size≤it) (h2:∀x c,X.env.cells.lookup x=some c→c≠it) (h3:∀p∈X.pn++pins,p.1≠it):Inv X pins σ H {s with heap:=h',toks:=t'}:=by
 have nit:∀b u,H b=some u→b≠it:=fun b u e z=>by rw [z,hn] at e;cases e
 refine I.step (g':=s.gens) (d':=s.drawn) (ch:=[it]) (fun b hb=> ?_) (fun b o _ _ hc e _=>k b o (fun z=>hc (by simp [z])) e) (fun b o _ _ hc e _=>⟨o.slots,k b o (fun z=>hc (by simp [z])) e⟩) (fun _ _ _ _ n=>n)
  (fun b o hc e=>⟨o,k b o (fun z=>hc (by simp [z])) e⟩) (fun _ _ e=>e) (fun _ _ _ e=>e) (fun b ps e=>⟨#[],by rw [e];simp⟩) (fun m hm=> ?_) (fun b u e=> ?_) I.bare
 ·have e:b=it:=by simpa using hb
  subst e
  exact ⟨h1,hL,h2,h3⟩
 ·obtain ⟨o,es,ep,ho,r⟩:=hm
  exact ⟨o,es,ep,k _ o (Ne.symm hL) ho,r⟩
 ·refine (I.hok b u e).stay (fun c v hc q=>k c v ?_ q) (fun _ q=>q) fun _ _ q=>q
  rcases hc with z | z
  ·rw [z];exact nit b u e
  ·exact nit c _ z
theorem Inv.tok(I:Inv X pins σ H s)(t:Nat):Inv X pins σ H {s with toks:=t}:=I.un (h':=s.heap) (t':=t) Un.refl I.hok
theorem Inv.kept{t':Nat}(I:Inv X pins σ H s)(k:∀b u,s.heap.get? b=some u→h'.get? b=some u):Inv X pins σ H {s with heap:=h',toks:=t'}:=I.un (Un.kept k) (I.hok.kept k)
theorem Inv.laid{a:Addr}{o:HO}{t':Nat}(I:Inv X pins σ H s)(k:∀b u,s.heap.get? b=some u→h'.get? b=some u)(hp:s.heap.objs.size≤a)(new:cq X.prog X.w (upd H a o) h' a o):
  Inv X pins σ (upd H a o) {s with heap:=h',toks:=t'}:=I.un (Un.laid k hp (I.hok.fresh hp)) (I.hok.laid k hp new)
theorem Inv.write{x e:Addr}{o:HO}{t':Nat}(I:Inv X pins σ H s)(mu:Mut (H x))(he:e=x∨H e=some (.own x))(k:∀b u,b≠e→s.heap.get? b=some u→h'.get? b=some u)(heo:∃u,h'.get? e=some u)
  (new:cq X.prog X.w (upd H x o) h' x o):Inv X pins σ (upd H x o) {s with heap:=h',toks:=t'}:=I.un (Un.write mu he k heo) (I.hok.write mu he k heo new)
theorem Inv.pins_of{pins':List (Addr×Obj)}(I:Inv X pins σ H s)(h:∀p∈pins',s.heap.get? p.1=some p.2∧H p.1=none∧p.1≠X.env.locals∧p.1∉X.fs∧∀v,p.2.data≠ .cell v):Inv X pins' σ H s:=
 ⟨I.ok,I.os,I.bare,I.base,I.loc,I.cell,I.free,I.freeC,fun p hp=>(aaL.mp hp).elim (fun z=>I.pin p (abT _ z)) (h p),I.hok,I.len⟩
theorem rP{N:List Str}(hN:N.Nodup){i j:Nat}{x:Str}(a:N[i]? =some x)(b:N[j]? =some x):i=j:=by
 obtain ⟨h1,e1⟩:=aai.mp a
 obtain ⟨h2,e2⟩:=aai.mp b
 exact (List.getElem_inj hN).mp (e1.trans e2.symm)
theorem m8{M:Model}{A:Around}{E:Value→Shared→Prop}{i:Nat}{x:Str}{v:V}{u:Value}{Q:Unit→Shared→Prop}(I:Inv X pins σ H s)(hN:X.N.Nodup)(hi:X.N[i]? =some x)(hx:Loc X.env.scope x)(r:bX v u)
  (h:∀s',Inv X pins (σ.set i (some v)) H s'→(∃a,Heap.SameBut a s.heap s'.heap∧(a=X.env.locals∨X.env.cells.lookup x=some a))→Q () s') (hf:X.fn x=true∨X.env.scope.names.lookup x=some .local:=by first | exact .inl rfl | exact .inr rfl | assumption):wpAny M A (storeName X.env x u) Q E s:=by
 obtain ⟨m,hn,hl⟩:=id I.loc
 have hcls:(X.env.scope.kind== .class || (X.env.scope.kind== .module&&X.env.locals != X.env.globals))=false:=by rw [I.ok.kind];rfl
 have hiσ:i < σ.length:=by rw [I.len];exact (aai.mp hi).1
 have cne:=I.cne
 have tracked:∀{a:Addr} {h':Heap},(∃o,s.heap.get? a=some o∧H a=none)→Heap.SameBut a s.heap h'→HOk X.prog X.w H h':=fun {a h'} ha hs b ob e=>by
  obtain ⟨_,_,hfree⟩:=ha
  refine (I.hok b ob e).stay (fun c w' hc q=>(hs.2 c ?_).trans q) (fun _ q=>q) fun _ _ q=>q
  rintro rfl
  rcases hc with rfl | hc
  ·rw [hfree] at e;cases e
  ·rw [hfree] at hc;cases hc
 rcases hx with hk | hk
 ·refine wpAny_storeName_local hk hn (fun h' hn' hs=> ?_) hcls
  obtain ⟨oL,_,_,hoL,_⟩:=id hn
  refine h _ ⟨I.ok,I.os,I.bare,⟨fun b o e n hb hx=> ?_,fun b o e n hb hx=> ?_,I.base.free,fun b o e hx=> ?_,I.base.tups,I.base.frzs,I.base.tbls⟩,⟨_,hn',fun j y v' e1 e2 e3=> ?_⟩,fun y c e=> ?_,I.free,I.freeC,fun p hp=> ?_,tracked ⟨oL,hoL,I.free⟩ hs,by simpa using I.len⟩ ⟨_,hs, .inl rfl⟩
  ·exact (hs.2 b (aaA (aao (Heap.lt_size e) I.ok.above))).trans (I.base.keep b o e n hb hx)
  ·obtain ⟨sl,e1⟩:=I.base.slot b o e n hb hx
   exact ⟨sl,(hs.2 b (aaA (aao (Heap.lt_size e) I.ok.above))).trans e1⟩
  ·obtain ⟨o',e1⟩:=I.base.there b o e hx
   exact ⟨o',(hs.2 b (aaA (aao (Heap.lt_size e) I.ok.above))).trans e1⟩
  ·by_cases hj:j=i
   ·subst hj
    rw [hi] at e1;cases e1
    rw [abe hiσ] at e2
    cases e2
    exact ⟨u,r, .inl ⟨hk,by simp⟩⟩
   ·rw [abo (Ne.symm hj)] at e2
    obtain ⟨u',r',q⟩:=hl j y v' e1 e2 e3
    refine ⟨u',r', ?_⟩
    rcases q with ⟨k,e⟩ | ⟨k,c,e,z⟩
    ·refine .inl ⟨k, ?_⟩
     have:y≠x:=fun e=>hj (rP hN e1 (e▸hi))
     simp [this,e]
    ·exact .inr ⟨k,c,e,z.sameBut hs (cne y c e)⟩
  ·obtain ⟨w',z⟩:=I.cell y c e
   exact ⟨w',z.sameBut hs (cne y c e)⟩
  ·obtain ⟨e,n,ne,nf,d⟩:=I.pin p hp
   exact ⟨(hs.2 p.1 ne).trans e,n,ne,nf,d⟩
 ·have hfn:X.fn x=true:=by
   rcases hf with z | z
   ·exact z
   ·rw [z] at hk;cases hk
  obtain ⟨c,hc⟩:=I.ok.has x (.inl hk)
  obtain ⟨w',z⟩:=I.cell x c hc
  refine wpAny_storeName_cell I.ok.kind hk hc z (fun h' hc' hs=> ?_)
  obtain ⟨oc,hoc,hocd⟩:=id z
  refine h {s with heap:=h'} ⟨I.ok,I.os,I.bare,⟨fun b o e n hb hx=> ?_,fun b o e n hb hx=> ?_,I.base.free,fun b o e hx=> ?_,I.base.tups,I.base.frzs,I.base.tbls⟩,⟨m,hn.sameBut hs (Ne.symm (cne x c hc)),fun j y v' e1 e2 e3=> ?_⟩,fun y c' e=> ?_,I.free,I.freeC,fun p hp=> ?_,tracked ⟨oc,hoc,I.freeC x c hc⟩ hs,by simpa using I.len⟩ ⟨c,hs, .inr hc⟩
  ·exact (hs.2 b (aaA (aao (Heap.lt_size e) (I.ok.cab x c hfn hc)))).trans (I.base.keep b o e n hb hx)
  ·obtain ⟨sl,e1⟩:=I.base.slot b o e n hb hx
   exact ⟨sl,(hs.2 b (aaA (aao (Heap.lt_size e) (I.ok.cab x c hfn hc)))).trans e1⟩
  ·obtain ⟨o',e1⟩:=I.base.there b o e hx
   exact ⟨o',(hs.2 b (aaA (aao (Heap.lt_size e) (I.ok.cab x c hfn hc)))).trans e1⟩
  ·by_cases hj:j=i
   ·subst hj
    rw [hi] at e1;cases e1
    rw [abe hiσ] at e2
    cases e2
    exact ⟨u,r, .inr ⟨.inl hk,c,hc,hc'⟩⟩
   ·rw [abo (Ne.symm hj)] at e2
    obtain ⟨u',r',q⟩:=hl j y v' e1 e2 e3
    refine ⟨u',r', ?_⟩
    rcases q with q | ⟨k,c',e,z'⟩
    ·exact .inl q
    ·refine .inr ⟨k,c',e,z'.sameBut hs ?_⟩
     rintro rfl
     exact hj (rP hN e1 (I.ok.inj _ _ _ e hc▸hi))
  ·by_cases hcc:c'=c
   ·subst hcc;exact ⟨_,hc'⟩
   ·obtain ⟨w2,z2⟩:=I.cell y c' e
    exact ⟨w2,z2.sameBut hs hcc⟩
  ·obtain ⟨e,n,ne,nf,d⟩:=I.pin p hp
   refine ⟨(hs.2 p.1 ?_).trans e,n,ne,nf,d⟩
   intro q
   rw [q,hoc] at e
   have q':oc=p.2:=aaw e
   exact d w' (by rw [←q'];exact hocd)
theorem iV{M:Model}{A:Around}{E:Value→Shared→Prop}{i:Nat}{x:Str}{v:V}{u:Value}{Q:Unit→Shared→Prop}(I:Inv X pins σ H s)(hN:X.N.Nodup)(hi:X.N[i]? =some x)(hx:Loc X.env.scope x)(r:bX v u)
  (h:∀s',Inv X pins (σ.set i (some v)) H s'→Q () s') (hf:X.fn x=true∨X.env.scope.names.lookup x=some .local:=by first | exact .inl rfl | exact .inr rfl | assumption):wpAny M A (storeName X.env x u) Q E s:=
 m8 I hN hi hx r (fun s' I' _=>h s' I') hf
theorem Inv.call'{s':Shared}{ch:List Addr}(I:Inv X pins σ H s)(ho:s'.os=s.os)(u:Un (frs X.stack) ch H H' s.heap s'.heap)(hok:HOk X.prog X.w H' s'.heap)(hg:AllBare s'.gens)
  (hch:∀b∈ch,(b∈X.ex∨X.s₀.heap.objs.size≤b)∧b≠X.env.locals∧(∀x c,X.env.cells.lookup x=some c→c≠b)∧∀p∈X.pn++pins,p.1≠b):Inv X pins σ H' s':=by
 obtain ⟨h',g',d',t',o'⟩:=s'
 have e:o'=s.os:=ho
 subst e
 exact I.call (g':=g') (t':=t') (d':=d') u hok hg hch
end
abbrev XK:=Value→Option Addr→Hp→Prop
abbrev St:=List (Option V)
abbrev VK:=V→Hp→Prop
abbrev TE:=St→Hp→VK→Prop
abbrev TT:=St→Hp→(Bool→Hp→Prop)→Prop
abbrev TA:=St→Hp→(List V→Hp→Prop)→Prop
structure Ai where
 nx:St→Hp→Prop
 rt:VK
 bk:St→Hp→Prop:=fun _ _=>False
 ct:St→Hp→Prop:=fun _ _=>False
abbrev TS:=Ai→St→Hp→Prop
def EP(X:Cx)(pins:List (Addr×Obj))(σ:St)(Q:VK)(u:Value)(s':Shared):Prop:=∃v H',Inv X pins σ H' s'∧bX v u∧Q v H'
def TP(X:Cx)(pins:List (Addr×Obj))(σ:St)(Q:Bool→Hp→Prop)(b:Bool)(s':Shared):Prop:=∃H',Inv X pins σ H' s'∧Q b H'
def AP(X:Cx)(pins:List (Addr×Obj))(σ:St)(Q:List V→Hp→Prop)(us:List Value)(s':Shared):Prop:=∃vs H',Inv X pins σ H' s'∧bN vs us∧Q vs H'
def SP(X:Cx)(pins:List (Addr×Obj))(D:Ai)(f:Flow)(s':Shared):Prop:=
 match f with
 | .next=>∃σ' H',Inv X pins σ' H' s'∧D.nx σ' H'
 | .brk=>∃σ' H',Inv X pins σ' H' s'∧D.bk σ' H'
 | .cont=>∃σ' H',Inv X pins σ' H' s'∧D.ct σ' H'
 | .ret u=>∃v σ' H',Inv X pins σ' H' s'∧bX v u∧D.rt v H'
def PE(X:Cx)(e:Expr)(t:TE):Prop:=
 ∀(pins:List (Addr×Obj)) (s:Shared) (σ:St) (H:Hp) (Q:VK),Inv X pins σ H s→t σ H Q→wpAny (model X.prog X.w) X.A (eval e X.env) (EP X pins σ Q) X.xe s
def PT(X:Cx)(e:Expr)(t:TT):Prop:=
 ∀(pins:List (Addr×Obj)) (s:Shared) (σ:St) (H:Hp) (Q:Bool→Hp→Prop),Inv X pins σ H s→t σ H Q→wpAny (model X.prog X.w) X.A (isTrue e X.env (eval e X.env)) (TP X pins σ Q) X.xe s
def PW(X:Cx)(e:Expr)(t:TT):Prop:=
 ∀(whole:Sem Value) (pins:List (Addr×Obj)) (s:Shared) (σ:St) (H:Hp) (Q:Bool→Hp→Prop),Inv X pins σ H s→t σ H Q→wpAny (model X.prog X.w) X.A (isTrue e X.env whole) (TP X pins σ Q) X.xe s
def PA(X:Cx)(es:List Expr)(t:TA):Prop:=
 ∀(pos:Pos) (pins:List (Addr×Obj)) (s:Shared) (σ:St) (H:Hp) (Q:List V→Hp→Prop),Inv X pins σ H s→t σ H Q→wpAny (model X.prog X.w) X.A (spliced (backTo pos (starEach es X.env))) (AP X pins σ Q) X.xe s
def PS(X:Cx)(st:Stmt)(t:TS):Prop:=
 ∀(pins:List (Addr×Obj)) (s:Shared) (σ:St) (H:Hp) (D:Ai),Inv X pins σ H s→t D σ H→wpAny (model X.prog X.w) X.A (exec st X.env) (SP X pins D) X.xe s
def PSs(X:Cx)(st:List Stmt)(t:TS):Prop:=
 ∀(pins:List (Addr×Obj)) (s:Shared) (σ:St) (H:Hp) (D:Ai),Inv X pins σ H s→t D σ H→wpAny (model X.prog X.w) X.A (execs st X.env) (SP X pins D) X.xe s
theorem thn{α:Type}{t:Sem α}{Q Q':α→Shared→Prop}{M:Model}{A:Around}{E:Value→Shared→Prop}{s:Shared}(h:wpAny M A t Q E s)(hQ:∀a s,Q a s→Q' a s):wpAny M A t Q' E s:=wpAny_mono h hQ fun _ _ x=>x
section
variable{X:Cx}
def Hb(i:Nat):TE:=fun σ H Q=>∃v,σ[i]? =some (some v)∧Q v H
def tC(v:V):TE:=fun _ H Q=>Q v H
theorem CA{i:Nat}{x:Str}{pos:Pos}(hN:X.N[i]? =some x)(hv:Vis X.env.scope x)(hd:(x==("__debug__":Str))=false:=by decide)(hcd:(x==("__classdict__":Str))=false:=by decide):PE X (.Name x pos) (Hb i):=by
 intro pins s σ H Q I h
 obtain ⟨v,e,h⟩:=h
 obtain ⟨m,hn,hl⟩:=I.loc
 obtain ⟨u,r,l⟩:=hl i x v hN e hv
 have fin:EP X pins σ Q u s:=⟨v,H,I,r,h⟩
 rcases l with ⟨hk,hm⟩ | ⟨hk,c,hc,hcell⟩
 ·exact wpAny_Name (wpAny_loadName_local I.ok.kind hk hn hm fin) hd
 ·rcases hk with hk | hk
  ·exact wpAny_Name (wpAny_loadName_cell I.ok.kind hk hc hcell fin) hd
  ·exact wpAny_Name (wpAny_loadName_free I.ok.kind hk hc hcell fin hcd) hd
theorem CG{i j pos}:PE X (.Constant (.int i) j pos) (tC (.int i)):=fun _ _ _ H _ I h=>wpAny_Constant_int ⟨.int i,H,I.tok _,⟨_,rfl⟩,h⟩
theorem E1{b j pos}:PE X (.Constant (.bool b) j pos) (tC (.bl b)):=fun _ _ _ H _ I h=>Constant_bool ⟨.bl b,H,I,rfl,h⟩
theorem CD{j pos}:PE X (.Constant .none j pos) (tC .non):=fun _ _ _ H _ I h=>Constant_none ⟨.non,H,I,rfl,h⟩
theorem zy{x j pos}:PE X (.Constant (.str x) j pos) (tC (.str x)):=fun _ _ _ H _ I h=>Calls.Constant_str ⟨.str x,H,I.tok _,⟨_,rfl⟩,h⟩
def Gl(X:Cx)(x:Str):Prop:=X.env.kindOf x=some .globalImplicit
theorem mj{E:Value→Shared→Prop}{pins:List (Addr×Obj)}{s:Shared}{σ:St}{H:Hp}{x:Str}{u:Value}{pos:Pos}{Q:Value→Shared→Prop}(I:Inv X pins σ H s)(hg:Gl X x)(hm:X.mg x=some u)(h:Q u s)
  (hd:(x==("__debug__":Str))=false:=by decide):wpAny (model X.prog X.w) X.A (eval (.Name x pos) X.env) Q E s:=
 Calls.Name_function_global I.ok.kind hg (Calls.loadGlobal_global (by rw [I.ok.glob];exact I.mod.glob.keeps I.bk) hm h) hd
theorem jV{E:Value→Shared→Prop}{pins:List (Addr×Obj)}{s:Shared}{σ:St}{H:Hp}{x:Str}{u:Value}{pos:Pos}{Q:Value→Shared→Prop}(I:Inv X pins σ H s)(hg:Gl X x)(hm:X.mg x=none)(hv:bootBuiltins x=some u)(h:Q u s)
  (hn:x≠"__name__":=by decide) (hd:(x==("__debug__":Str))=false:=by decide):wpAny (model X.prog X.w) X.A (eval (.Name x pos) X.env) Q E s:=by
 obtain ⟨mb,h1,h2⟩:=I.mod.blt
 exact Calls.Name_function_global I.ok.kind hg (Calls.loadGlobal_builtin (by rw [I.ok.glob];exact I.mod.glob.keeps I.bk) hm (by rw [I.ok.blt];exact h1.keeps I.bk) ((h2 x hn).trans hv) h) hd
theorem vw{x:Str}{v:V}{u:Value}{pos:Pos}(hg:Gl X x)(hm:X.mg x=some u)(r:bX v u)(hd:(x==("__debug__":Str))=false:=by decide):PE X (.Name x pos) (tC v):=
 fun _ _ _ H _ I h=>mj I hg hm ⟨v,H,I,r,h⟩ hd
theorem AM{x:Str}{v:V}{u:Value}{pos:Pos}(hg:Gl X x)(hm:X.mg x=none)(hv:bootBuiltins x=some u)(r:bX v u)(hn:x≠"__name__":=by decide)(hd:(x==("__debug__":Str))=false:=by decide):PE X (.Name x pos) (tC v):=
 fun _ _ _ H _ I h=>jV I hg hm hv ⟨v,H,I,r,h⟩ hn hd
variable{a b:Expr}{ta tb:TE}{pos:Pos}
def tB(t:TE):TT:=fun σ H Q=>t σ H fun x H1=>∃c,x= .bl c∧Q c H1
theorem Cq{e:Expr}{t:TE}(h:PE X e t)(he:∀whole,isTrue e X.env whole=(do let v←whole;standAt e.pos;holding [v] (truthy v)):=by intro _;rfl):PT X e (tB t):=by
 intro pins s σ H Q I hw
 refine isTrue_plain (thn (h pins s σ H _ I hw) fun v s1 ⟨x,H1,I1,r1,q1⟩=> ?_) (he _)
 obtain ⟨d,rfl,q⟩:=q1
 cases r1
 exact wpAny_truthy_bool ⟨H1,I1,q⟩
variable{tA tB':TT}{rest:List Expr}
def tOr(t u:TT):TT:=fun σ H Q=>t σ H fun c H1=>if c=true then Q true H1 else u σ H1 Q
def Hi(t:TT):TT:=fun σ H Q=>t σ H fun c H1=>Q (!c) H1
theorem Ci(ha:PT X a tA):PW X (.BoolOp .Or [a] pos) tA:=by
 intro wh pins s σ H Q I h
 refine isTrue_or (thn (ha pins s σ H Q I h) fun c s1 e=> ?_)
 cases c with
 | false=>exact isTrue_or_nil e
 | true=>exact e
theorem ET(ha:PT X a tA)(hb:PW X (.BoolOp .Or (b::rest) pos) tB'):PW X (.BoolOp .Or (a::b::rest) pos) (tOr tA tB'):=by
 intro wh pins s σ H Q I h
 refine isTrue_or (thn (ha pins s σ H _ I h) fun c s1 ⟨H1,I1,q1⟩=> ?_)
 cases c with
 | true=>exact ⟨H1,I1,q1⟩
 | false=>exact hb wh pins s1 σ H1 Q I1 q1
theorem Cr(ha:PT X a tA):PT X (.UnaryOp .Not a pos) (Hi tA):=by
 intro pins s σ H Q I h
 exact isTrue_not (ha pins s σ H (fun c H1=>Q (!c) H1) I h)
def EI(ta tb:TE):TE:=fun σ H Q=>ta σ H fun x H1=>∃c,x= .bl c∧if c=true then tb σ H1 Q else Q (.bl false) H1
def Hh(ta tb:TE):TE:=fun σ H Q=>ta σ H fun x H1=>∃c,x= .bl c∧if c=true then Q (.bl true) H1 else tb σ H1 Q
theorem CC{op}{t:TE}(h:PE X a t):PE X (.BoolOp op [a] pos) t:=fun pins s σ H Q I hw=>BoolOp_one (h pins s σ H Q I hw)
theorem CI(ha:PE X a ta)(hb:PE X (.BoolOp .And (b::rest) pos) tb):PE X (.BoolOp .And (a::b::rest) pos) (EI ta tb):=by
 intro pins s σ H Q I h
 refine BoolOp_and (thn (ha pins s σ H _ I h) fun v s1 ⟨x,H1,I1,r1,q1⟩=> ?_)
 obtain ⟨c,rfl,q1⟩:=q1
 cases r1
 refine wpAny_truthy_bool ?_
 cases c with
 | true=>exact hb pins s1 σ H1 Q I1 q1
 | false=>exact ⟨.bl false,H1,I1,rfl,q1⟩
theorem EW(ha:PE X a ta)(hb:PE X (.BoolOp .Or (b::rest) pos) tb):PE X (.BoolOp .Or (a::b::rest) pos) (Hh ta tb):=by
 intro pins s σ H Q I h
 refine BoolOp_or (thn (ha pins s σ H _ I h) fun v s1 ⟨x,H1,I1,r1,q1⟩=> ?_)
 obtain ⟨c,rfl,q1⟩:=q1
 cases r1
 refine wpAny_truthy_bool ?_
 cases c with
 | false=>exact hb pins s1 σ H1 Q I1 q1
 | true=>exact ⟨.bl true,H1,I1,rfl,q1⟩
def tIf(t:TT)(ta tb:TE):TE:=fun σ H Q=>t σ H fun c H1=>if c=true then ta σ H1 Q else tb σ H1 Q
theorem yg{c:Expr}(hc:PT X c tA)(ha:PE X a ta)(hb:PE X b tb):PE X (.IfExp c a b pos) (tIf tA ta tb):=by
 intro pins s σ H Q I h
 refine wpAny_IfExp (thn (hc pins s σ H _ I h) fun d s1 ⟨H1,I1,q1⟩=> ?_)
 cases d with
 | true=>exact ha pins s1 σ H1 Q I1 q1
 | false=>exact hb pins s1 σ H1 Q I1 q1
end
def SqL(K:PySem.W.Frag)(H:Hp)(a:Addr)(xs:List V):Prop:=
 Rd H a (.lst xs)∨
  ∃(o:Obj) (its:Array Value) (n:Nat),K.lookup a=some o∧o.cls= .type "list"∧o.dict=none∧o.data= .seq its n∧its.size≤sizeLine∧bN xs its.toList
def SqT(K:PySem.W.Frag)(H:Hp)(a:Addr)(xs:List V):Prop:=
 Rd H a (.tup xs)∨
  ∃(o:Obj) (its:Array Value) (n:Nat),K.lookup a=some o∧o.cls= .type "tuple"∧o.data= .seq its n∧its.size≤sizeLine∧bN xs its.toList
def HW:Value→Option V
 | .none=>some .non
 | .bool b=>some (.bl b)
 | .int i _=>some (.int i)
 | .str x _=>some (.str x)
 | .bytes b _=>some (.byt b)
 | .float b _=>some (.flt b)
 | .ref a=>some (.ref a)
 | .type n=>some (.ty n)
 | _=>none
theorem bX.abs{x:V}{u:Value}(r:bX x u):HW u=some x:=by
 cases x with
 | non=>cases r;rfl
 | bl _=>cases r;rfl
 | int _=>obtain ⟨t,rfl⟩:=r;rfl
 | str _=>obtain ⟨t,rfl⟩:=r;rfl
 | byt _=>obtain ⟨t,rfl⟩:=r;rfl
 | flt _=>obtain ⟨t,rfl⟩:=r;rfl
 | ref _=>cases r;rfl
 | ty _=>cases r;rfl
theorem bX.inj{x y:V}{u:Value}(r:bX x u)(q:bX y u):x=y:=aaw (r.abs.symm.trans q.abs)
theorem bN.inj:∀{xs ys:List V} {us:List Value},bN xs us→bN ys us→xs=ys
 | _,_,_, .nil, .nil=>rfl
 | _,_,_, .cons r t, .cons r' t'=>by rw [r.inj r',bN.inj t t']
section
variable{X:Cx}{pins:List (Addr×Obj)}{σ:St}{H:Hp}{s:Shared}{a:Addr}{xs ys:List V}
theorem SqL.of{K:PySem.W.Frag}(h:H a=some (.lst xs)):SqL K H a xs:= .inl (.inl h)
theorem SqT.of{K:PySem.W.Frag}(h:H a=some (.tup xs)):SqT K H a xs:= .inl (.inl h)
theorem Inv.list(I:Inv X pins σ H s)(h:SqL X.K H a xs):∃its:List Value,bN xs its∧PlainL s.heap a its.toArray∧xs.length≤sizeLine:=by
 rcases h with h | ⟨o,its,n,hk,hc,hd,hs,hz,r⟩
 ·obtain ⟨z,its,n,r,e⟩:=h.ok I.hok
  exact ⟨its,r,⟨_,n,e,rfl,rfl,rfl⟩,z⟩
 ·refine ⟨its.toList,r,⟨o,n,I.kIn a o hk,hc,hd,by simpa using hs⟩, ?_⟩
  have e:=r.length
  simp only [Array.length_toList] at e
  omega
theorem Inv.tuple(I:Inv X pins σ H s)(h:SqT X.K H a xs):∃its:List Value,bN xs its∧IsTup s.heap a its.toArray∧xs.length≤sizeLine:=by
 rcases h with h | ⟨o,its,n,hk,hc,hs,hz,r⟩
 ·obtain ⟨z,its,r,p⟩:=h.ok I.hok
  exact ⟨its,r,p,z⟩
 ·refine ⟨its.toList,r,⟨o,I.kIn a o hk,hc,n,by simpa using hs⟩, ?_⟩
  have e:=r.length
  simp only [Array.length_toList] at e
  omega
theorem Inv.list_inj(I:Inv X pins σ H s)(h:SqL X.K H a xs)(h':SqL X.K H a ys):xs=ys:=by
 obtain ⟨its,r,⟨o,n,e,_,_,d⟩,_⟩:=I.list h
 obtain ⟨its',r',⟨o',n',e',_,_,d'⟩,_⟩:=I.list h'
 rw [e] at e';cases e'
 rw [d] at d'
 injection d' with d1 _
 have:its=its':=by simpa using congrArg Array.toList d1
 subst this
 exact r.inj r'
theorem Inv.tuple_inj(I:Inv X pins σ H s)(h:SqT X.K H a xs)(h':SqT X.K H a ys):xs=ys:=by
 obtain ⟨its,r,⟨o,e,_,n,d⟩,_⟩:=I.tuple h
 obtain ⟨its',r',⟨o',e',_,n',d'⟩,_⟩:=I.tuple h'
 rw [e] at e';cases e'
 rw [d] at d'
 injection d' with d1 _
 have:its=its':=by simpa using congrArg Array.toList d1
 subst this
 exact r.inj r'
end
section
variable{X:Cx}{st:Stmt}{rest:List Stmt}{t u:TS}{e:Expr}{te:TE}{pos:Pos}
def EC:TS:=fun D σ H=>D.nx σ H
def He(t u:TS):TS:=fun D σ H=>t {D with nx:=u D} σ H
theorem AD:PSs X [] EC:=fun _ _ σ H _ I h=>wpAny_execs_nil ⟨σ,H,I,h⟩
theorem ya(h1:PS X st t)(h2:PSs X rest u):PSs X (st::rest) (He t u):=by
 intro pins s σ H D I h
 refine wpAny_execs_cons (thn (h1 pins s σ H {D with nx:=u D} I h) fun f s1 q=> ?_)
 cases f with
 | next=>
  obtain ⟨σ',H',I',q⟩:=q
  exact h2 pins s1 σ' H' D I' q
 | ret v=>exact q
 | brk=>exact q
 | cont=>exact q
theorem AB(h1:PS X st t):PSs X [st] t:=by
 intro pins s σ H D I h
 refine wpAny_execs_cons (thn (h1 pins s σ H D I h) fun f s1 q=> ?_)
 cases f with
 | next=>exact wpAny_execs_nil q
 | ret v=>exact q
 | brk=>exact q
 | cont=>exact q
def EG:TS:=fun D σ H=>D.ct σ H
theorem pP:PS X (.Continue pos) EG:=fun _ _ σ H _ I h=>wpAny_Continue ⟨σ,H,I,h⟩
theorem Inv.quiet{pins:List (Addr×Obj)}{σ:St}{H:Hp}{s:Shared}(I:Inv X pins σ H s):interactive X.env=false:=by simp [interactive,I.ok.kind]
def ED(te:TE):TS:=fun D σ H=>te σ H fun _ H1=>D.nx σ H1
theorem AE(he:PE X e te)(hs:swapsWith e none pos.line X.env=pure false:=by rfl):PS X (.Expr e pos) (ED te):=by
 intro pins s σ H D I h
 exact wpAny_Expr_any (thn (he pins s σ H _ I h) fun v s1 ⟨x,H1,I1,r1,q1⟩=>⟨σ,H1,I1,q1⟩) I.quiet hs
def Hf(te:TE):TS:=fun D σ H=>te σ H D.rt
theorem Ct(he:PE X e te):PS X (.Return (some e) pos) (Hf te):=by
 intro pins s σ H D I h
 exact wpAny_Return_some (thn (he pins s σ H _ I h) fun v s1 ⟨x,H1,I1,r1,q1⟩=>⟨x,σ,H1,I1,r1,q1⟩)
def Hk(c:TT)(t u:TS):TS:=fun D σ H=>c σ H fun b H1=>if b=true then t D σ H1 else u D σ H1
theorem EU{c:Expr}{a b:List Stmt}{tc:TT}(hc:PT X c tc)(ha:PSs X a t)(hb:PSs X b u):PS X (.If c a b pos) (Hk tc t u):=by
 intro pins s σ H D I h
 refine wpAny_If (thn (hc pins s σ H _ I h) fun d s1 ⟨H1,I1,q1⟩=> ?_)
 cases d with
 | true=>exact ha pins s1 σ H1 D I1 q1
 | false=>exact hb pins s1 σ H1 D I1 q1
end
abbrev TG:=V→St→Hp→(St→Hp→Prop)→Prop
abbrev TGs:=List V→St→Hp→(St→Hp→Prop)→Prop
def PG(X:Cx)(target:Expr)(t:TG):Prop:=
 ∀(pins:List (Addr×Obj)) (s:Shared) (σ:St) (H:Hp) (v:V) (u:Value) (Q:St→Hp→Prop),Inv X pins σ H s→bX v u→t v σ H Q→
  wpAny (model X.prog X.w) X.A (assign target X.env u) (fun _ s'=>∃σ' H',Inv X pins σ' H' s'∧Q σ' H') X.xe s
def PGs(X:Cx)(ts:List Expr)(t:TGs):Prop:=
 ∀(pins:List (Addr×Obj)) (s:Shared) (σ:St) (H:Hp) (vs:List V) (us:List Value) (Q:St→Hp→Prop),Inv X pins σ H s→bN vs us→t vs σ H Q→
  wpAny (model X.prog X.w) X.A (assignInOrder ((assignEach ts X.env).map (·.2)) us) (fun _ s'=>∃σ' H',Inv X pins σ' H' s'∧Q σ' H') X.xe s
abbrev FY:=V→V→V→Hp→(Hp→Prop)→Prop
def G8(X:Cx)(t:FY):Prop:=
 ∀(pins:List (Addr×Obj)) (s:Shared) (σ:St) (H:Hp) (o i v:V) (ov iv u:Value) (Q:Hp→Prop),Inv X pins σ H s→bX o ov→bX i iv→bX v u→t o i v H Q→
  wpAny (model X.prog X.w) X.A (setItem ov iv u) (fun _ s'=>∃H',Inv X pins σ H' s'∧Q H') X.xe s
section
variable{X:Cx}{pos:Pos}
def iu(i:Nat):TG:=fun v σ H Q=>Q (σ.set i (some v)) H
theorem aJ{i:Nat}{x:Str}(hN:X.N.Nodup)(hi:X.N[i]? =some x)(hx:Loc X.env.scope x)(hf:X.fn x=true∨X.env.scope.names.lookup x=some .local:=by first | exact .inl rfl | exact .inr rfl | assumption):PG X (.Name x pos) (iu i):=by
 intro pins s σ H v u Q I r h
 exact wpAny_assign_Name (iV I hN hi hx r (fun s' I'=>⟨_,H,I',h⟩) hf)
def Dw:TGs:=fun vs σ H Q=>vs=[]∧Q σ H
def mD(t:TG)(u:TGs):TGs:=fun vs σ H Q=>∃v r,vs=v::r∧t v σ H fun σ' H'=>u r σ' H' Q
theorem gB:PGs X [] Dw:=by
 intro pins s σ H vs us Q I r h
 obtain ⟨e,h⟩:=h
 subst e
 cases r
 exact assignInOrder_nil ⟨σ,H,I,h⟩
theorem bL{e:Expr}{es:List Expr}{t:TG}{u:TGs}(h1:PG X e t)(h2:PGs X es u)
  (hs:(assignEach (e::es) X.env).map (·.2)=assign e X.env::(assignEach es X.env).map (·.2):=by rfl):PGs X (e::es) (mD t u):=by
 intro pins s σ H vs us Q I r h
 obtain ⟨v,vr,e1,h⟩:=h
 subst e1
 cases r with
 | cons r rr=>
  rw [hs]
  refine assignInOrder_cons (thn (h1 pins s σ H _ _ _ I r h) fun _ s1 ⟨σ1,H1,I1,q1⟩=> ?_)
  exact h2 pins s1 σ1 H1 _ _ Q I1 rr q1
def Dv(K:PySem.W.Frag)(n:Nat)(t:TGs):TG:=fun v σ H Q=>∃a xs,v= .ref a∧SqT K H a xs∧xs.length=n∧t xs σ H Q
theorem jN{es:List Expr}{k:Nat}{t:TGs}{n:Nat}(hc:X.calm=true)(h:PGs X es t)
  (hn:(assignEach es X.env).length=n:=by rfl) (hst:(assignEach es X.env).findIdx? (·.1)=none:=by rfl):PG X (.Tuple es k pos) (Dv X.K n t):=by
 intro pins s σ H v u Q I r hw
 obtain ⟨a,xs,e1,hq,hl,hw⟩:=hw
 subst e1
 cases r
 obtain ⟨its,rv,ht,hz⟩:=I.tuple hq
 refine assign_Tuple_tuple (I.ok.hd hc) ht (by simp [hn,←hl,rv.length]) hst fun h' hx=> ?_
 have I1:Inv X pins σ H {s with heap:=h'}:=I.kept (t':=s.toks) fun b o e=>hx b o (aaA (Heap.lt_size e)) e
 exact h pins _ σ H xs _ Q I1 (by simpa using rv) hw
def HJ(to ti:TE)(t:FY):TG:=fun v σ H Q=>to σ H fun o H1=>ti σ H1 fun i H2=>t o i v H2 fun H3=>Q σ H3
theorem Cw{o i:Expr}{to ti:TE}{t:FY}(ho:PE X o to)(hi:PE X i ti)(hs:G8 X t)
  (ha:∀v,assign (.Subscript o i pos) X.env v=(do
   let ov←holding [v] (eval o X.env)
   let iv←holding [v,ov] (eval i X.env)
   standAt pos
   holding [v,ov,iv] (setItem ov iv v)
   release [v,ov,iv] []):=by intro _;rfl):PG X (.Subscript o i pos) (HJ to ti t):=by
 intro pins s σ H v u Q I r h
 rw [ha]
 refine wpAny_bind (wpAny_holding (thn (ho pins s σ H _ I h) fun ov s1 ⟨x,H1,I1,r1,q1⟩=> ?_))
 refine wpAny_bind (wpAny_holding (thn (hi pins s1 σ H1 _ I1 q1) fun iv s2 ⟨y,H2,I2,r2,q2⟩=> ?_))
 refine wpAny_bind (wpAny_standAt (wpAny_bind (wpAny_holding (thn (hs pins s2 σ H2 x y v ov iv u _ I2 r1 r2 r q2) fun _ s3 ⟨H3,I3,q3⟩=> ?_))))
 exact wpAny_release ⟨σ,H3,I3,q3⟩
def Gm(te:TE)(g:TG):TS:=fun D σ H=>te σ H fun x H1=>g x σ H1 D.nx
theorem zu{tg e:Expr}{te:TE}{g:TG}(he:PE X e te)(hg:PG X tg g)(hs:swapsWithSole [tg] e pos.line X.env=pure false:=by rfl)(hw:swappedStores [tg] e X.env=pure none:=by rfl)
  (h1:(assignEach [tg] X.env).map (·.2)=[assign tg X.env]:=by rfl):PS X (.Assign [tg] e pos) (Gm te g):=by
 intro pins s σ H D I h
 refine wpAny_Assign_stores (thn (he pins s σ H _ I h) fun v s1 ⟨x,H1,I1,r1,q1⟩=> ?_) hs hw
 rw [h1]
 exact thn (hg pins s1 σ H1 x v _ I1 r1 q1) fun _ s2 q=>q
theorem Cs{i:Nat}{x:Str}{e:Expr}{te:TE}{pos':Pos}(hN:X.N.Nodup)(hi:X.N[i]? =some x)(hx:Loc X.env.scope x)(he:PE X e te)(hs:swapsWith e (some (.Name x pos')) pos.line X.env=pure false:=by rfl)(hf:X.fn x=true∨X.env.scope.names.lookup x=some .local:=by first | exact .inl rfl | exact .inr rfl | assumption):
  PS X (.Assign [.Name x pos'] e pos) (Gm te (iu i)):=by
 intro pins s σ H D I h
 refine wpAny_Assign_Name (thn (he pins s σ H _ I h) fun v s1 ⟨y,H1,I1,r1,q1⟩=> ?_) hs
 exact iV I1 hN hi hx r1 (fun s2 I2=>⟨_,H1,I2,q1⟩) hf
def Hg(i j:Nat)(ta:TA):TS:=fun D σ H=>ta σ H fun vs H1=>∃v w,vs=[v,w]∧D.nx ((σ.set i (some v)).set j (some w)) H1
theorem Cu{i j:Nat}{x y:Str}{a b:Expr}{ta:TA}{px py pt:Pos}{kt k2 pt2}(hc:X.calm=true)(hN:X.N.Nodup)(hi:X.N[i]? =some x)(hj:X.N[j]? =some y)(hij:i≠j)
  (hx:X.env.scope.names.lookup x=some .local) (hy:X.env.scope.names.lookup y=some .local) (ha:PA X [a,b] ta)
  (hw:swappedStores [.Tuple [.Name x px, .Name y py] kt pt] (.Tuple [a,b] k2 pt2) X.env=pure (some [x,y]))
  (hs:swapsWithSole [.Tuple [.Name x px, .Name y py] kt pt] (.Tuple [a,b] k2 pt2) pos.line X.env=pure false:=by rfl):
  PS X (.Assign [.Tuple [.Name x px, .Name y py] kt pt] (.Tuple [a,b] k2 pt2) pos) (Hg i j ta):=by
 intro pins s σ H D I h
 rw [exec_Assign_arm]
 refine wpAny_bind (wpAny_standAt ?_)
 rw [hs]
 refine wpAny_bind (wpAny_pure ?_)
 rw [if_neg (by decide)]
 refine wpAny_bind (Tuple_ (thn (ha _ pins s σ H _ I h) fun us s1 ⟨vs,H1,I1,r1,q1⟩=> ?_))
 obtain ⟨v,w,e1,q1⟩:=q1
 subst e1
 obtain ⟨u1,u2,rfl,rv,rw'⟩:∃u1 u2,us=[u1,u2]∧bX v u1∧bX w u2:=by
  cases r1 with
  | cons p q=>
   cases q with
   | cons p' q'=>
    cases q'
    exact ⟨_,_,rfl,p,p'⟩
 refine wpAny_newObj_type ?_ (by show 2≤sizeLine;decide)
 have I2:Inv X pins σ H1 {s1 with heap:=s1.heap.push {cls:= .type "tuple",data:= .seq [u1,u2].toArray}}:=I1.kept (t':=s1.toks) fun b o e=>Heap.get?_push_of_some _ e
 rw [hw]
 refine wpAny_bind (wpAny_pure ?_)
 show wpAny (model X.prog X.w) X.A (do rule "assign.swapped-stores";let items←unpackItems (.ref s1.heap.objs.size) 2 none;assignInOrder [fun v=>bindName X.env y v,fun v=>bindName X.env x v] items.reverse;pure Flow.next) _ _ _
 refine wpAny_bind (wpAny_rule (wpAny_bind (unpackItems_tuple (items:= #[u1,u2]) (I.ok.hd hc) (IsTup.new s1.heap _) fun h' hx'=> ?_)))
 have I3:=I2.kept (h':=h') (t':=s1.toks) fun b o e=>hx' b o (aaA (Heap.lt_size e)) e
 show wpAny _ _ (assignInOrder [fun v=>bindName X.env y v,fun v=>bindName X.env x v] [u2,u1] >>= fun _=>pure Flow.next) _ _ _
 refine wpAny_bind (assignInOrder_cons (wpAny_bindName (iV I3 hN hj (.inl hy) rw' (fun s2 I4=> ?_) (.inr hy))))
 refine assignInOrder_cons (wpAny_bindName (iV I4 hN hi (.inl hx) rv (fun s3 I5=>assignInOrder_nil (wpAny_pure ?_)) (.inr hx)))
 rw [List.set_comm _ _ (Ne.symm hij)] at I5
 exact ⟨_,H1,I5,q1⟩
end
section
variable{X:Cx}{pos:Pos}
def BX(c:TT)(tb:TS):TS:=fun D σ H=>∃W:Nat→St→Hp→Prop,(∃m,W m σ H)∧∀m σ H,W m σ H→
 c σ H fun b H1=>if b=true then∃N:St→Hp→Prop,(∀σ' H',N σ' H'→∃m',m' < m∧W m' σ' H')∧tb {D with nx:=N,ct:=N,bk:=D.nx} σ H1 else D.nx σ H1
theorem yb{c:Expr}{body:List Stmt}{tc:TT}{tb:TS}(hp:PassesOwn (model X.prog X.w) X.A X.env X.xe)(hc:PT X c tc)(hb:PSs X body tb):PS X (.While c body [] pos) (BX tc tb):=by
 intro pins s σ H D I h
 obtain ⟨W,⟨m0,w0⟩,turn⟩:=h
 refine wpAny_While (codeAny_whileLoop (fun n s'=>∃σ' H',Inv X pins σ' H' s'∧W n σ' H') ?_ m0 ⟨σ,H,I,w0⟩)
 rintro n s1 ⟨σ1,H1,I1,w1⟩
 refine wpAny_passesOwn hp (thn (hc pins s1 σ1 H1 _ I1 (turn n σ1 H1 w1)) fun b s2 ⟨H2,I2,q2⟩=> ?_)
 cases b with
 | true=>
  obtain ⟨N,hN,q2⟩:=q2
  rw [if_pos rfl]
  refine wpAny_passesOwn hp (thn (hb pins s2 σ1 H2 _ I2 q2) fun f s3 q3=> ?_)
  cases f with
  | next=>
   obtain ⟨σ3,H3,I3,n3⟩:=q3
   obtain ⟨m',hm,w3⟩:=hN σ3 H3 n3
   exact ⟨m',hm,σ3,H3,I3,w3⟩
  | cont=>
   obtain ⟨σ3,H3,I3,n3⟩:=q3
   obtain ⟨m',hm,w3⟩:=hN σ3 H3 n3
   exact ⟨m',hm,σ3,H3,I3,w3⟩
  | brk=>exact q3
  | ret v=>exact q3
 | false=>
  rw [if_neg aau]
  exact wpAny_execs_nil ⟨σ1,H2,I2,q2⟩
end
structure It where
 go:Nat→Hp→Prop
 yld:Nat→Hp→V→Hp→Prop
 stop:Nat→Hp→Prop
def uo(X:Cx)(pins:List (Addr×Obj))(H:Hp)(b:Addr):Prop:=
 H b=none∧b≠X.env.locals∧b∉X.fs∧(b∈X.ex∨X.s₀.heap.objs.size≤b)∧(∀x c,X.env.cells.lookup x=some c→c≠b)∧∀p∈X.pn++pins,p.1≠b
theorem Inv.fpOk{X:Cx}{pins:List (Addr×Obj)}{σ:St}{H H':Hp}{s:Shared}{b:Addr}(I:Inv X pins σ H s)(hb:s.heap.objs.size≤b)(hn:H' b=none):uo X pins H' b:=by
 refine ⟨hn,abX (aao I.lt hb),I.nofs hb, .inr (aaz I.sz hb),fun x c e z=> ?_,fun p hp z=> ?_⟩
 ·obtain ⟨v,q⟩:=I.cell x c e
  exact absurd (aao q.lt (by rw [z];exact hb)) (aaZ _)
 ·exact absurd (aao (Heap.lt_size (I.pin p hp).1) (by rw [z];exact hb)) (aaZ _)
structure d8(P:Program)(w:World)(K:PySem.W.Frag)(tg:Expr)(J:It)(fp:List Addr)(it:Addr)(tn:Nat→Heap→Prop):Prop where
 mem:it∈fp
 obj:∀i h,tn i h→∀b∈fp,∃o,h.get? b=some o∧∀v,o.data≠ .cell v
 keep:∀i h h',tn i h→(∀b∈fp,∀o,h.get? b=some o→h'.get? b=some o)→tn i h'
 item:∀(X:Cx),X.prog=P→X.w=w→X.K=K→X.calm=true→∀(i:Nat) (pins:List (Addr×Obj)) (s:Shared) (σ:St) (H:Hp) (E:Value→Shared→Prop),Inv X pins σ H s→(∀b∈fp,uo X pins H b)→tn i s.heap→J.go i H→
  wpAny (model P w) X.A (pyNext (.ref it)) (fun r s1=>∃u,r=some u∧
   wpAny (model P w) X.A (letOwnedTupleGo tg (.ref it) u) (fun _ s2=>∃x H',Inv X pins σ H' s2∧bX x u∧J.yld i H x H'∧tn (i+1) s2.heap∧∀b∈fp,H' b=none) E s1) E s
 done:∀(X:Cx),X.prog=P→X.w=w→X.K=K→X.calm=true→∀(i:Nat) (pins:List (Addr×Obj)) (s:Shared) (σ:St) (H:Hp) (E:Value→Shared→Prop),Inv X pins σ H s→(∀b∈fp,uo X pins H b)→tn i s.heap→J.stop i H→
  wpAny (model P w) X.A (pyNext (.ref it)) (fun r s1=>r=none∧Inv X pins σ H s1) E s
 self:∀(A:Around) (i:Nat) (s:Shared) (Q:Value→Shared→Prop) (E:Value→Shared→Prop),tn i s.heap→Q (.ref it) s→wpAny (model P w) A (pyIter (.ref it)) Q E s
abbrev TI:=St→Hp→(It→Hp→Prop)→Prop
def PIE(X:Cx)(pins:List (Addr×Obj))(σ:St)(tg:Expr)(R:It→Hp→Prop)(itv:Value)(s2:Shared):Prop:=
 ∃(it:Addr) (fp:List Addr) (tn:Nat→Heap→Prop) (J:It) (H':Hp),itv= .ref it∧Inv X pins σ H' s2∧d8 X.prog X.w X.K tg J fp it tn∧tn 0 s2.heap∧(∀b∈fp,uo X pins H' b)∧R J H'
def PI(X:Cx)(tg iter:Expr)(wi:TI):Prop:=
 ∀(pins:List (Addr×Obj)) (s:Shared) (σ:St) (H:Hp) (R:It→Hp→Prop),Inv X pins σ H s→wi σ H R→
  wpAny (model X.prog X.w) X.A (eval iter X.env) (fun v s1=>wpAny (model X.prog X.w) X.A (pyIter v) (PIE X pins σ tg R) X.xe s1) X.xe s
theorem wD {M : Model} {A : Around} {E : Value → Shared → Prop} {s : Shared} {tg : Expr} {it : Addr} {u : Value} {o : Obj} {n : String} {vs : Array Value} {Q : Unit → Shared → Prop} (ho : s.heap.get? it = some o) (hc : o.cls = .type n) (hd : o.data = .fields vs)
    (hn : ["enumerate", "zip", "dict_itemiterator", "dict_reverseitemiterator", "odict_iterator", "itertools.zip_longest", "itertools.pairwise"].contains n = false) (hQ : Q () s) : wpAny M A (letOwnedTupleGo tg (.ref it) u) Q E s := by
  unfold letOwnedTupleGo
  cases tg <;> first
    | exact wpAny_pure hQ
    | (cases u <;> first
        | exact wpAny_pure hQ
        | (refine wpAny_bind (wpAny_load ho ?_)
           rw [hc, hd]
           show wpAny M A (if (["enumerate", "zip", "dict_itemiterator", "dict_reverseitemiterator", "odict_iterator", "itertools.zip_longest", "itertools.pairwise"].contains n && vs[0]? == some (rawInt _)) = true then _ else _) Q E s
           rw [if_neg (by intro h; rw [hn, Bool.false_and] at h; cases h)]
           exact wpAny_pure hQ))
def Itl(K:PySem.W.Frag)(a:Addr):It:=
 ⟨fun i H=>∃xs x,SqL K H a xs∧xs[i]? =some x,fun i H x H'=>H'=H∧∀xs,SqL K H a xs→xs[i]? =some x,fun i H=>∃xs,SqL K H a xs∧xs.length≤i⟩
def Itt(K:PySem.W.Frag)(a:Addr):It:=
 ⟨fun i H=>∃xs x,SqT K H a xs∧xs[i]? =some x,fun i H x H'=>H'=H∧∀xs,SqT K H a xs→xs[i]? =some x,fun i H=>∃xs,SqT K H a xs∧xs.length≤i⟩
def Itr(lo:Int)(n:Nat):It:=⟨fun i _=>i < n,fun i H x H'=>H'=H∧x= .int (lo+i),fun i _=>n≤i⟩
theorem uG{P:Program}{w:World}{K:PySem.W.Frag}{tg:Expr}(a it:Addr):d8 P w K tg (Itl K a) [it] it (fun i h=>h.IsListIter it a i) where
 mem:=by simp
 obj:=fun i h st b hb=>by
  have e:b=it:=by simpa using hb
  subst e
  obtain ⟨o,e,c,d⟩:=st
  exact ⟨o,e,fun v z=>by rw [d] at z;cases z⟩
 keep:=fun i h h' st k=>st.at fun o e=>k it (by simp) o e
 item:=by
  intro X hP hw hK hc i pins s σ H E I hf st hg
  subst hP hw hK
  obtain ⟨xs,x,hq,hx⟩:=hg
  obtain ⟨its,rv,p,hz⟩:=I.list hq
  obtain ⟨u,hu,ru⟩:=rv.get hx
  obtain ⟨f0,f1,f2,f3,f4,f5⟩:=hf it (by simp)
  refine wpAny_pyNext_list_item st p.isList (x:=u) (by simpa using hu) fun h' st' sb=> ?_
  have I1:Inv X pins σ H {s with heap:=h'}:=I.turned (t':=s.toks) (fun b o hb e=>(sb.2 b hb).trans e) f0 f1 f3 f4 f5
  obtain ⟨o,e,c,d⟩:=id st'
  exact ⟨u,rfl,wD (s:={s with heap:=h'}) e c d (by decide) ⟨x,H,I1,ru,⟨rfl,fun ys hy=>by rw [I.list_inj hy hq];exact hx⟩,st',fun b hb=>(hf b hb).1⟩⟩
 done:=by
  intro X hP hw hK hc i pins s σ H E I hf st hg
  subst hP hw hK
  obtain ⟨xs,hq,hx⟩:=hg
  obtain ⟨its,rv,p,hz⟩:=I.list hq
  obtain ⟨f0,f1,f2,f3,f4,f5⟩:=hf it (by simp)
  have hl:=rv.length
  exact wpAny_pyNext_list_end (I.ok.hd hc) st p.isList (by simp;omega) fun h' eb=>⟨rfl,I.turned (t':=s.toks) (fun b o hb e=>eb b o hb e) f0 f1 f3 f4 f5⟩
 self:=fun _ _ _ _ _ st h=>wpAny_pyIter_listiter st h
theorem sP{P:Program}{w:World}{K:PySem.W.Frag}{tg:Expr}(a it:Addr):d8 P w K tg (Itt K a) [it] it (fun i h=>h.IsTupleIter it a i) where
 mem:=by simp
 obj:=fun i h st b hb=>by
  have e:b=it:=by simpa using hb
  subst e
  obtain ⟨o,e,c,d⟩:=st
  exact ⟨o,e,fun v z=>by rw [d] at z;cases z⟩
 keep:=fun i h h' st k=>st.at fun o e=>k it (by simp) o e
 item:=by
  intro X hP hw hK hc i pins s σ H E I hf st hg
  subst hP hw hK
  obtain ⟨xs,x,hq,hx⟩:=hg
  obtain ⟨its,rv,p,hz⟩:=I.tuple hq
  obtain ⟨u,hu,ru⟩:=rv.get hx
  obtain ⟨f0,f1,f2,f3,f4,f5⟩:=hf it (by simp)
  refine wpAny_pyNext_tuple_item st (show s.heap.IsTuple a its.toArray from p) (x:=u) (by simpa using hu) fun h' st' sb=> ?_
  have I1:Inv X pins σ H {s with heap:=h'}:=I.turned (t':=s.toks) (fun b o hb e=>(sb.2 b hb).trans e) f0 f1 f3 f4 f5
  obtain ⟨o,e,c,d⟩:=id st'
  exact ⟨u,rfl,wD (s:={s with heap:=h'}) e c d (by decide) ⟨x,H,I1,ru,⟨rfl,fun ys hy=>by rw [I.tuple_inj hy hq];exact hx⟩,st',fun b hb=>(hf b hb).1⟩⟩
 done:=by
  intro X hP hw hK hc i pins s σ H E I hf st hg
  subst hP hw hK
  obtain ⟨xs,hq,hx⟩:=hg
  obtain ⟨its,rv,p,hz⟩:=I.tuple hq
  obtain ⟨f0,f1,f2,f3,f4,f5⟩:=hf it (by simp)
  have hl:=rv.length
  exact wpAny_pyNext_tuple_end (I.ok.hd hc) st (show s.heap.IsTuple a its.toArray from p) (by simp;omega) fun h' eb=>⟨rfl,I.turned (t':=s.toks) (fun b o hb e=>eb b o hb e) f0 f1 f3 f4 f5⟩
 self:=fun _ _ _ _ _ st h=>wpAny_pyIter_tupleiter st h
theorem sQ{P:Program}{w:World}{K:PySem.W.Frag}{tg:Expr}(it:Addr)(lo:Int)(n:Nat):d8 P w K tg (Itr lo n) [it] it (fun i h=>IsRangeIter h it (lo+(i:Nat) * 1) ((n:Int) - (i:Nat)) 1) where
 mem:=by simp
 obj:=fun i h st b hb=>by
  have e:b=it:=by simpa using hb
  subst e
  exact ⟨_,st,fun v z=>by
   have z':Data.fields _=Data.cell v:=z
   cases z'⟩
 keep:=fun i h h' st k=>k it (by simp) _ st
 item:=by
  intro X hP hw hK hc i pins s σ H E I hf st hg
  subst hP hw hK
  obtain ⟨f0,f1,f2,f3,f4,f5⟩:=hf it (by simp)
  have W:=Walks.range (prog:=X.prog) (w:=X.w) (I.ok.hd hc) it lo 1 n
  refine W.item i s _ _ hg st fun v h' tk hv st' kk=> ?_
  obtain ⟨t,rfl⟩:=hv
  have I1:Inv X pins σ H {s with heap:=h',toks:=tk}:=I.turned (fun b o hb e=>kk b o (by simpa using hb) e) f0 f1 f3 f4 f5
  refine ⟨_,rfl,wD (s:={s with heap:=h',toks:=tk}) (n:="range_iterator") st' rfl rfl (by decide) ⟨.int (lo+i),H,I1,⟨t, ?_⟩,⟨rfl,rfl⟩,st',fun b hb=>(hf b hb).1⟩⟩
  rw [Int.mul_one]
 done:=by
  intro X hP hw hK hc i pins s σ H E I hf st hg
  subst hP hw hK
  obtain ⟨f0,f1,f2,f3,f4,f5⟩:=hf it (by simp)
  exact wpAny_pyNext_range_end (I.ok.hd hc) st (by have:n≤i:=hg;omega) fun h' eb=>⟨rfl,I.turned (t':=s.toks) (fun b o hb e=>eb b o hb e) f0 f1 f3 f4 f5⟩
 self:=fun _ _ _ _ _ st h=>wpAny_pyIter_rangeiter st h
section
variable{X:Cx}{tg:Expr}
theorem rB{pins:List (Addr×Obj)}{σ:St}{H:Hp}{s:Shared}{R:It→Hp→Prop}{E:Value→Shared→Prop}{lo hi:Int}{t u v:Tok}{tk:Nat}(I:Inv X pins σ H s)(h1: -(2 ^ 62)≤lo)(h2:lo < 2 ^ 62)(h3: -(2 ^ 62)≤hi)(h4:hi < 2 ^ 62)
  (q:R (Itr lo (hi - lo).toNat) H):wpAny (model X.prog X.w) X.A (pyIter (.ref s.heap.objs.size)) (PIE X pins σ tg R) E {s with heap:=s.heap.push {cls:= .type "range",data:= .fields #[.int lo t, .int hi u, .int 1 v]},toks:=tk}:=by
 refine wpAny_pyIter_range (IsRange.new ..) (small_one h1 h2 h3 h4) ?_
 have I1:Inv X pins σ H {s with heap:=s.heap.push {cls:= .type "range",data:= .fields #[.int lo t, .int hi u, .int 1 v]},toks:=tk}:=I.kept fun b o e=>Heap.get?_push_of_some _ e
 refine ⟨(s.heap.push {cls:= .type "range",data:= .fields #[.int lo t, .int hi u, .int 1 v]}).objs.size,[(s.heap.push {cls:= .type "range",data:= .fields #[.int lo t, .int hi u, .int 1 v]}).objs.size],_,_,H,rfl,
  I1.kept (t':=tk) fun b o e=>Heap.get?_push_of_some _ e,sQ _ lo (hi - lo).toNat, ?_,fun b hb=> ?_,q⟩
 ·have e1:lo+((0:Nat):Int) * 1=lo:=by simp
  have e2:(((hi - lo).toNat:Nat):Int) - ((0:Nat):Int)=Builtin.Range.rangeSize lo hi 1:=by rw [rangeSize_one];split <;> omega
  show IsRangeIter _ _ (lo+((0:Nat):Int) * 1) ((((hi - lo).toNat:Nat):Int) - ((0:Nat):Int)) 1
  rw [e1,e2]
  exact Heap.get?_push_size _ rfl
 ·have e:b=(s.heap.push {cls:= .type "range",data:= .fields #[.int lo t, .int hi u, .int 1 v]}).objs.size:=by simpa using hb
  subst e
  exact I1.fpOk (aak _) (I1.hok.fresh (aak _))
def Fs(ta:TA):TI:=fun σ H R=>ta σ H fun vs H1=>∃j:Int,vs=[.int j]∧ -(2 ^ 62)≤j∧j < 2 ^ 62∧R (Itr 0 j.toNat) H1
def Fq(ta:TA):TI:=fun σ H R=>ta σ H fun vs H1=>∃i j:Int,vs=[.int i, .int j]∧(-(2 ^ 62)≤i∧i < 2 ^ 62∧ -(2 ^ 62)≤j∧j < 2 ^ 62)∧R (Itr i (j - i).toNat) H1
theorem vo{a:Expr}{ta:TA}{p pos:Pos}(hg:Gl X "range")(hm:X.mg "range"=none)(ha:PA X [a] ta)(hs:starEach [a] X.env=[(false,eval a X.env)]:=by rfl):PI X tg (.Call (.Name "range" p) [a] [] pos) (Fs ta):=by
 intro pins s σ H R I h
 refine Call_ (jV I hg hm boot_range (PyProof.Rows.callWith_type1 (thn (ha pos pins s σ H _ I h) fun us s1 ⟨vs,H1,I1,r1,q1⟩=> ?_) hs rfl))
 obtain ⟨j,e,q1,q2,q⟩:=q1
 subst e
 cases r1 with
 | cons r rr=>
  cases rr
  obtain ⟨t,rfl⟩:=r
  exact call_range_1 (rB I1 (by omega) (by omega) q1 q2 (by simpa using q))
theorem vn{a b:Expr}{ta:TA}{p pos:Pos}(hg:Gl X "range")(hm:X.mg "range"=none)(ha:PA X [a,b] ta)(hs:starEach [a,b] X.env=[(false,eval a X.env),(false,eval b X.env)]:=by rfl)(hs2:starEach [b] X.env=[(false,eval b X.env)]:=by rfl):
  PI X tg (.Call (.Name "range" p) [a,b] [] pos) (Fq ta):=by
 intro pins s σ H R I h
 refine Call_ (jV I hg hm boot_range (PyProof.Rows.callWith_type1 (thn (ha pos pins s σ H _ I h) fun us s1 ⟨vs,H1,I1,r1,q1⟩=> ?_) (by rw [hs,hs2]) (by rw [hs2];rfl)))
 obtain ⟨i,j,e,⟨q1,q2,q3,q4⟩,q⟩:=q1
 subst e
 cases r1 with
 | cons r rr=>
  cases rr with
  | cons r' rr=>
   cases rr
   obtain ⟨t,rfl⟩:=r
   obtain ⟨t',rfl⟩:=r'
   exact call_range_2 (rB I1 q1 q2 q3 q4 q)
def Hl(wi:TI)(g:TG)(tb:TS):TS:=fun D σ H=>wi σ H fun J H1=>∃W:Nat→Nat→St→Hp→Prop,(∃m,W 0 m σ H1)∧∀i m σ H,W i m σ H→
 (J.stop i H∧D.nx σ H)∨(J.go i H∧∃N:St→Hp→Prop,(∀σ' H',N σ' H'→∃m',m' < m∧W (i+1) m' σ' H')∧∀x H',J.yld i H x H'→g x σ H' fun σ2 H2=>tb {D with nx:=N,ct:=N,bk:=D.nx} σ2 H2)
def rH(fp:List Addr)(h:Heap):List (Addr×Obj):=fp.filterMap fun b=>(h.get? b).map fun o=>(b,o)
theorem dH{fp:List Addr}{h:Heap}{b:Addr}{o:Obj}(hb:b∈fp)(e:h.get? b=some o):(b,o)∈rH fp h:=abK.mpr ⟨b,hb,by rw [e];rfl⟩
theorem vJ{fp:List Addr}{h:Heap}{p:Addr×Obj}(hp:p∈rH fp h):p.1∈fp∧h.get? p.1=some p.2:=by
 obtain ⟨b,hb,e⟩:=abK.mp hp
 cases q:h.get? b with
 | none=>rw [q] at e;cases e
 | some o=>
  rw [q] at e
  have e':(b,o)=p:=aaw e
  subst e'
  exact ⟨hb,q⟩
theorem Inv.pinned{pins:List (Addr×Obj)}{σ:St}{H:Hp}{s:Shared}{fp:List Addr}(I:Inv X pins σ H s)(hf:∀b∈fp,uo X pins H b)(ho:∀b∈fp,∃o,s.heap.get? b=some o∧∀v,o.data≠ .cell v):Inv X (pins++rH fp s.heap) σ H s:=
 I.pins_of fun p hp=>(aaL.mp hp).elim (fun z=>I.pin p (aax _ z)) fun z=>by
  obtain ⟨hb,e⟩:=vJ z
  obtain ⟨f0,f1,f2,_⟩:=hf p.1 hb
  obtain ⟨o,e',d⟩:=ho p.1 hb
  rw [e] at e';cases e'
  exact ⟨e,f0,f1,f2,d⟩
theorem Inv.unpinned{pins pl:List (Addr×Obj)}{σ:St}{H:Hp}{s:Shared}(I:Inv X (pins++pl) σ H s):Inv X pins σ H s:=I.pins_of fun p hp=>I.pin p (aax _ (abT _ hp))
theorem zt{iter:Expr}{body:List Stmt}{wi:TI}{g:TG}{tb:TS}{pos:Pos}(hp:PassesOwn (model X.prog X.w) X.A X.env X.xe)(hc:X.calm=true)(hi:PI X tg iter wi)(hg:PG X tg g)(hb:PSs X body tb)
  (hs:∀x,foldedSetIterable iter X.env x=pure x:=by intro _;rfl):PS X (.For tg iter body [] pos) (Hl wi g tb):=by
 intro pins s σ H D I h
 refine wpAny_For (thn (hi pins s σ H _ I h) fun v s1 h1=>thn h1 fun itv s2 h2=> ?_) hs
 obtain ⟨it,fp,tn,J,H2,e,I2,T,st2,f2,W,⟨m0,w0⟩,turn⟩:=h2
 subst e
 have stat:∀{H':Hp},(∀b∈fp,H' b=none)→∀b∈fp,uo X pins H' b:=fun hn b hb=>⟨hn b hb,(f2 b hb).2⟩
 refine codeAny_forLoop_any (fun n s'=>∃i σ' H',Inv X pins σ' H' s'∧tn i s'.heap∧(∀b∈fp,H' b=none)∧W i n σ' H') ?_ m0 ⟨0,σ,H2,I2,st2,fun b hb=>(f2 b hb).1,w0⟩
 rintro n s3 ⟨i,σ3,H3,I3,st3,fr3,w3⟩
 rcases turn i n σ3 H3 w3 with ⟨stop,qn⟩ | ⟨go,N,hN,step⟩
 ·refine wpAny_passesOwn hp (thn (T.done X rfl rfl rfl hc i pins s3 σ3 H3 X.xe I3 (stat fr3) st3 stop) fun r s4 ⟨hr,I4⟩=> ?_)
  subst hr
  exact wpAny_execs_nil ⟨σ3,H3,I4,qn⟩
 ·refine wpAny_passesOwn hp (thn (T.item X rfl rfl rfl hc i pins s3 σ3 H3 X.xe I3 (stat fr3) st3 go) fun r s4 ⟨u,hr,h4⟩=> ?_)
  subst hr
  refine wpAny_passesOwn hp (thn h4 fun _ s5 ⟨x,H5,I5,r5,y5,st5,fr5⟩=> ?_)
  have I5':=I5.pinned (stat fr5) (T.obj _ _ st5)
  refine wpAny_passesOwn hp (thn (hg _ s5 σ3 H5 x u _ I5' r5 (step x H5 y5)) fun _ s6 ⟨σ6,H6,I6,q6⟩=> ?_)
  refine wpAny_passesOwn hp (thn (hb _ s6 σ6 H6 _ I6 q6) fun f s7 q7=> ?_)
  have again:∀{σ7:St} {H7:Hp},Inv X (pins++rH fp s5.heap) σ7 H7 s7→N σ7 H7→∃m,m < n∧∃i σ' H',Inv X pins σ' H' s7∧tn i s7.heap∧(∀b∈fp,H' b=none)∧W i m σ' H':=fun {σ7 H7} I7 n7=>by
   obtain ⟨m',hm,w7⟩:=hN σ7 H7 n7
   refine ⟨m',hm,i+1,σ7,H7,I7.unpinned,T.keep _ _ _ st5 fun b hb o e=>(I7.pin (b,o) (aax _ (aax _ (dH hb e)))).1,fun b hb=> ?_,w7⟩
   obtain ⟨o,e,d⟩:=T.obj _ _ st5 b hb
   exact (I7.pin (b,o) (aax _ (aax _ (dH hb e)))).2.1
  cases f with
  | next=>obtain ⟨σ7,H7,I7,n7⟩:=q7;exact again I7 n7
  | cont=>obtain ⟨σ7,H7,I7,n7⟩:=q7;exact again I7 n7
  | brk=>obtain ⟨σ7,H7,I7,q7⟩:=q7;exact ⟨σ7,H7,I7.unpinned,q7⟩
  | ret v=>obtain ⟨x7,σ7,H7,I7,r7,q7⟩:=q7;exact ⟨x7,σ7,H7,I7.unpinned,r7,q7⟩
end
abbrev R2:=V→V→Hp→VK→Prop
def OpR(X:Cx)(f:Value→Value→Sem Value)(r:R2):Prop:=
 ∀(pins:List (Addr×Obj)) (s:Shared) (σ:St) (H:Hp) (x y:V) (v u:Value) (Q:VK),Inv X pins σ H s→bX x v→bX y u→r x y H Q→
  wpAny (model X.prog X.w) X.A (f v u) (EP X pins σ Q) X.xe s
def UnR(X:Cx)(f:Value→Sem Value)(r:V→Hp→VK→Prop):Prop:=
 ∀(pins:List (Addr×Obj)) (s:Shared) (σ:St) (H:Hp) (x:V) (v:Value) (Q:VK),Inv X pins σ H s→bX x v→r x H Q→
  wpAny (model X.prog X.w) X.A (f v) (EP X pins σ Q) X.xe s
def fJ(X:Cx)(f:Value)(r:List V→Hp→VK→Prop):Prop:=
 ∀(pins:List (Addr×Obj)) (s:Shared) (σ:St) (H:Hp) (xs:List V) (us:List Value) (Q:VK),Inv X pins σ H s→bN xs us→r xs H Q→
  wpAny (model X.prog X.w) X.A (call f us) (EP X pins σ Q) X.xe s
def tOp(r:R2)(ta tb:TE):TE:=fun σ H Q=>ta σ H fun x H1=>tb σ H1 fun y H2=>r x y H2 Q
def tUn(r:V→Hp→VK→Prop)(ta:TE):TE:=fun σ H Q=>ta σ H fun x H1=>r x H1 Q
def rI(C:Int→Int→Prop)(g:Int→Int→V):R2:=fun x y H Q=>∃i j,x= .int i∧y= .int j∧C i j∧Q (g i j) H
def rI0(g:Int→Int→V):R2:=fun x y H Q=>∃i j,x= .int i∧y= .int j∧Q (g i j) H
def rU(g:Int→V):V→Hp→VK→Prop:=fun x H Q=>∃i,x= .int i∧Q (g i) H
section
variable{X:Cx}{a b c:Expr}{ta tb tc:TE}{pos:Pos}
theorem FV(ha:PE X a ta)(hb:PE X b tb){pins:List (Addr×Obj)}{s:Shared}{σ:St}{H:Hp}{R:V→V→Hp→Prop}(I:Inv X pins σ H s)
  (h:ta σ H fun x H1=>tb σ H1 fun y H2=>R x y H2) {Q:Value→Shared→Prop} {f:Value→Value→Sem Value}
  (hf:∀v u s2 x y H2,Inv X pins σ H2 s2→bX x v→bX y u→R x y H2→wpAny (model X.prog X.w) X.A (f v u) Q X.xe s2):
  wpAny (model X.prog X.w) X.A (eval a X.env) (fun v s₁=>wpAny (model X.prog X.w) X.A (eval b X.env) (fun u s₂=>wpAny (model X.prog X.w) X.A (f v u) Q X.xe s₂) X.xe s₁) X.xe s:=by
 refine thn (ha pins s σ H _ I h) fun v s1 ⟨x,H1,I1,r1,q1⟩=> ?_
 refine thn (hb pins s1 σ H1 _ I1 q1) fun u s2 ⟨y,H2,I2,r2,q2⟩=> ?_
 exact hf v u s2 x y H2 I2 r1 r2 q2
theorem EX{op:Operator}{r:R2}(ho:OpR X (binaryOp op) r)(ha:PE X a ta)(hb:PE X b tb):PE X (.BinOp a op b pos) (tOp r ta tb):=by
 intro pins s σ H Q I h
 exact wpAny_BinOp (FV ha hb I h fun v u s2 x y H2 I2 rx ry q=>ho pins s2 σ H2 x y v u Q I2 rx ry q)
theorem EV{op:UnaryOp}{r:V→Hp→VK→Prop}(ho:UnR X (unaryOp op) r)(ha:PE X a ta):PE X (.UnaryOp op a pos) (tUn r ta):=by
 intro pins s σ H Q I h
 exact UnaryOp_ (thn (ha pins s σ H _ I h) fun v s1 ⟨x,H1,I1,r1,q1⟩=>ho pins s1 σ H1 x v Q I1 r1 q1)
theorem opI{f:Value→Value→Sem Value}{C:Int→Int→Prop}{g:Int→Int→Int}
  (rule:∀(i j:Int) (t u:Tok) (s:Shared) (Q:Value→Shared→Prop) (E:Value→Shared→Prop),C i j→Q (.int (g i j) s.toks) {s with toks:=s.toks+1}→wpAny (model X.prog X.w) X.A (f (.int i t) (.int j u)) Q E s):
  OpR X f (rI C fun i j=> .int (g i j)):=by
 intro pins s σ H x y v u Q I rx ry h
 obtain ⟨i,j,rfl,rfl,hc,q⟩:=h
 obtain ⟨t,rfl⟩:=rx
 obtain ⟨t',rfl⟩:=ry
 exact rule i j t t' s _ _ hc ⟨.int (g i j),H,I.tok _,⟨_,rfl⟩,q⟩
theorem GC{f:Value→Value→Sem Value}{g:Int→Int→Int}
  (rule:∀(i j:Int) (t u:Tok) (s:Shared) (Q:Value→Shared→Prop) (E:Value→Shared→Prop),Q (.int (g i j) s.toks) {s with toks:=s.toks+1}→wpAny (model X.prog X.w) X.A (f (.int i t) (.int j u)) Q E s):
  OpR X f (rI0 fun i j=> .int (g i j)):=by
 intro pins s σ H x y v u Q I rx ry h
 obtain ⟨i,j,rfl,rfl,q⟩:=h
 obtain ⟨t,rfl⟩:=rx
 obtain ⟨t',rfl⟩:=ry
 exact rule i j t t' s _ _ ⟨.int (g i j),H,I.tok _,⟨_,rfl⟩,q⟩
theorem Eh{f:Value→Value→Sem Value}{g:Int→Int→Bool}
  (rule:∀(i j:Int) (t u:Tok) (s:Shared) (Q:Value→Shared→Prop) (E:Value→Shared→Prop),Q (.bool (g i j)) s→wpAny (model X.prog X.w) X.A (f (.int i t) (.int j u)) Q E s):
  OpR X f (rI0 fun i j=> .bl (g i j)):=by
 intro pins s σ H x y v u Q I rx ry h
 obtain ⟨i,j,rfl,rfl,q⟩:=h
 obtain ⟨t,rfl⟩:=rx
 obtain ⟨t',rfl⟩:=ry
 exact rule i j t t' s _ _ ⟨.bl (g i j),H,I,rfl,q⟩
def y8(i j:Int):Prop:=0≤j∧j≤1000000∧i.natAbs < 2 ^ 64
theorem CV:OpR X (binaryOp .Add) (rI0 fun i j=> .int (i+j)):=GC fun _ _ _ _ _ _ _ q=>add_int q
theorem CK:OpR X (binaryOp .Sub) (rI0 fun i j=> .int (i - j)):=GC fun _ _ _ _ _ _ _ q=>sub_int q
theorem CO:OpR X (binaryOp .Mod) (rI (fun _ j=>0 < j) fun i j=> .int (i % j)):=opI fun i j _ _ _ _ _ hc q=>by
 have h1:(0:Int) < j:=hc
 exact mod_int' (by omega) (by rw [abv i (by omega)];exact q)
theorem CL:OpR X (binaryOp .Pow) (rI y8 fun i j=> .int (i ^ j.toNat)):=opI fun _ _ _ _ _ _ _ hc q=>pow_int_small hc.1 hc.2.1 hc.2.2 q
theorem unI{f:Value→Sem Value}{g:Int→Int}
  (rule:∀(i:Int) (t:Tok) (s:Shared) (Q:Value→Shared→Prop) (E:Value→Shared→Prop),Q (.int (g i) s.toks) {s with toks:=s.toks+1}→wpAny (model X.prog X.w) X.A (f (.int i t)) Q E s):
  UnR X f (rU fun i=> .int (g i)):=by
 intro pins s σ H x v Q I rx h
 obtain ⟨i,rfl,q⟩:=h
 obtain ⟨t,rfl⟩:=rx
 exact rule i t s _ _ ⟨.int (g i),H,I.tok _,⟨_,rfl⟩,q⟩
theorem BS:UnR X (unaryOp .USub) (rU fun i=> .int (-i)):=unI fun _ _ _ _ _ q=>neg_int q
end
def Gn:V→V→Bool
 | .non, .non=>true | .non, .int _=>true | .int _, .non=>true | .non, .bl _=>true | .bl _, .non=>true | .non, .str _=>true | .str _, .non=>true
 | .int _, .int _=>true | .bl _, .bl _=>true | .str _, .str _=>true | .byt _, .byt _=>true
 | .int _, .str _=>true | .str _, .int _=>true | .bl _, .str _=>true | .str _, .bl _=>true
 | _,_=>false
def rEq:R2:=fun x y H Q=>Gn x y=true∧Q (.bl (decide (x=y))) H
def rNe:R2:=fun x y H Q=>Gn x y=true∧Q (.bl (!decide (x=y))) H
theorem wR{i j:Int}:decide (V.int i=V.int j)=(i==j):=by
 rw [Bool.eq_iff_iff]
 simp
theorem zX{i j:Bool}:decide (V.bl i=V.bl j)=(i==j):=by
 rw [Bool.eq_iff_iff]
 simp
theorem wQ{i j:Str}:decide (V.str i=V.str j)=(i==j):=by
 rw [Bool.eq_iff_iff]
 simp
theorem wU{i j:Array UInt8}:decide (V.byt i=V.byt j)=(i.toList==j.toList):=by
 rw [Bool.eq_iff_iff]
 cases i
 cases j
 simp
section
variable{X:Cx}{a b c:Expr}{ta tb tc:TE}{pos:Pos}
theorem aY{pins:List (Addr×Obj)}{σ:St}{H:Hp}{s:Shared}{Q:VK}{k k':Bool}(I:Inv X pins σ H s)(q:Q (.bl k) H)(e:k=k'):EP X pins σ Q (.bool k') s:=by
 subst e
 exact ⟨.bl k,H,I,rfl,q⟩
theorem CU:OpR X (compareOp .Eq) rEq:=by
 intro pins s σ H x y v u Q I rx ry h
 obtain ⟨hs,q⟩:=h
 cases x with
 | non=>
  cases rx
  cases y with
  | non=>cases ry;exact PySem.EqNone.eq_none_none (aY I q (by simp))
  | bl j=>cases ry;exact PySem.EqNone.eq_none_bool (aY I q (by simp))
  | int j=>obtain ⟨t',rfl⟩:=ry;exact PySem.EqNone.eq_none_int (aY I q (by simp))
  | str j=>obtain ⟨t',rfl⟩:=ry;exact PySem.EqNone.eq_none_str (aY I q (by simp))
  | _=>exact absurd (show false=true from hs) aau
 | bl i=>
  cases rx
  cases y with
  | non=>cases ry;exact PySem.EqNone.eq_bool_none (aY I q (by simp))
  | bl j=>cases ry;exact eq_bool (aY I q zX)
  | str j=>obtain ⟨t',rfl⟩:=ry;exact PySem.EqMixed.eq_bool_str (aY I q (by simp))
  | _=>exact absurd (show false=true from hs) aau
 | int i=>
  obtain ⟨t,rfl⟩:=rx
  cases y with
  | non=>cases ry;exact PySem.EqNone.eq_int_none (aY I q (by simp))
  | int j=>obtain ⟨t',rfl⟩:=ry;exact eq_int (aY I q wR)
  | str j=>obtain ⟨t',rfl⟩:=ry;exact PySem.EqMixed.eq_int_str (aY I q (by simp))
  | _=>exact absurd (show false=true from hs) aau
 | str i=>
  obtain ⟨t,rfl⟩:=rx
  cases y with
  | non=>cases ry;exact PySem.EqNone.eq_str_none (aY I q (by simp))
  | bl j=>cases ry;exact PySem.EqMixed.eq_str_bool (aY I q (by simp))
  | int j=>obtain ⟨t',rfl⟩:=ry;exact PySem.EqMixed.eq_str_int (aY I q (by simp))
  | str j=>obtain ⟨t',rfl⟩:=ry;exact eq_str (aY I q wQ)
  | _=>exact absurd (show false=true from hs) aau
 | byt i=>
  obtain ⟨t,rfl⟩:=rx
  cases y with
  | byt j=>obtain ⟨t',rfl⟩:=ry;exact PySem.W.eq_bytes (aY I q wU)
  | _=>exact absurd (show false=true from hs) aau
 | _=>cases y <;> exact absurd (show false=true from hs) aau
theorem E5:OpR X (compareOp .NotEq) rNe:=by
 intro pins s σ H x y v u Q I rx ry h
 obtain ⟨hs,q⟩:=h
 cases x with
 | non=>
  cases rx
  cases y with
  | non=>cases ry;exact PySem.EqNone.ne_none_none (aY I q (by simp))
  | bl j=>cases ry;exact PySem.EqNone.ne_none_bool (aY I q (by simp))
  | int j=>obtain ⟨t',rfl⟩:=ry;exact PySem.EqNone.ne_none_int (aY I q (by simp))
  | str j=>obtain ⟨t',rfl⟩:=ry;exact PySem.EqNone.ne_none_str (aY I q (by simp))
  | _=>exact absurd (show false=true from hs) aau
 | bl i=>
  cases rx
  cases y with
  | non=>cases ry;exact PySem.EqNone.ne_bool_none (aY I q (by simp))
  | bl j=>cases ry;exact ne_bool (aY I q (congrArg not zX))
  | str j=>obtain ⟨t',rfl⟩:=ry;exact PySem.EqMixed.ne_bool_str (aY I q (by simp))
  | _=>exact absurd (show false=true from hs) aau
 | int i=>
  obtain ⟨t,rfl⟩:=rx
  cases y with
  | non=>cases ry;exact PySem.EqNone.ne_int_none (aY I q (by simp))
  | int j=>obtain ⟨t',rfl⟩:=ry;exact ne_int (aY I q (congrArg not wR))
  | str j=>obtain ⟨t',rfl⟩:=ry;exact PySem.EqMixed.ne_int_str (aY I q (by simp))
  | _=>exact absurd (show false=true from hs) aau
 | str i=>
  obtain ⟨t,rfl⟩:=rx
  cases y with
  | non=>cases ry;exact PySem.EqNone.ne_str_none (aY I q (by simp))
  | bl j=>cases ry;exact PySem.EqMixed.ne_str_bool (aY I q (by simp))
  | int j=>obtain ⟨t',rfl⟩:=ry;exact PySem.EqMixed.ne_str_int (aY I q (by simp))
  | str j=>obtain ⟨t',rfl⟩:=ry;exact ne_str (aY I q (congrArg not wQ))
  | _=>exact absurd (show false=true from hs) aau
 | byt i=>
  obtain ⟨t,rfl⟩:=rx
  cases y with
  | byt j=>obtain ⟨t',rfl⟩:=ry;exact PySem.W.ne_bytes (aY I q (congrArg not wU))
  | _=>exact absurd (show false=true from hs) aau
 | _=>cases y <;> exact absurd (show false=true from hs) aau
theorem CP:OpR X (compareOp .Lt) (rI0 fun i j=> .bl (decide (i < j))):=Eh fun _ _ _ _ _ _ _ q=>lt_int q
theorem CQ:OpR X (compareOp .LtE) (rI0 fun i j=> .bl (decide (i≤j))):=Eh fun _ _ _ _ _ _ _ q=>le_int q
theorem CT:OpR X (compareOp .Gt) (rI0 fun i j=> .bl (decide (j < i))):=Eh fun _ _ _ _ _ _ _ q=>gt_int q
theorem E6:OpR X (compareOp .GtE) (rI0 fun i j=> .bl (decide (j≤i))):=Eh fun _ _ _ _ _ _ _ q=>ge_int q
theorem CS:OpR X (compareOp .Is) (fun x y H Q=>y= .non∧Q (.bl (decide (x= .non))) H):=by
 intro pins s σ H x y v u Q I rx ry h
 obtain ⟨rfl,q⟩:=h
 cases ry
 refine is_none_gen (aY I q ?_)
 cases x <;> first
  | (cases rx;rfl)
  | (obtain ⟨t,rfl⟩:=rx;rfl)
theorem OpR.or{f:Value→Value→Sem Value}{r r':R2}(h:OpR X f r)(h':OpR X f r'):OpR X f (fun x y H Q=>r x y H Q∨r' x y H Q):=by
 intro pins s σ H x y v u Q I rx ry q
 rcases q with q | q
 ·exact h pins s σ H x y v u Q I rx ry q
 ·exact h' pins s σ H x y v u Q I rx ry q
theorem fC(b:Expr){op:CmpOp}(h:op≠ .In:=by decide)(h2:op≠ .NotIn:=by decide):behindInMarks op b=false:=by
 have e1:(op==CmpOp.In)=false:=by cases op <;> first | rfl | exact absurd rfl h
 have e2:(op==CmpOp.NotIn)=false:=by cases op <;> first | rfl | exact absurd rfl h2
 cases b <;> simp [behindInMarks,e1,e2]
theorem AL{op:CmpOp}{r:R2}(ho:OpR X (compareOp op) r)(ha:PE X a ta)(hb:PE X b tb)(hm:behindInMarks op b=false):PE X (.Compare a [op] [b] pos) (tOp r ta tb):=by
 intro pins s σ H Q I h
 exact wpAny_Compare1 (FV ha hb I h fun v u s2 x y H2 I2 rx ry q=>ho pins s2 σ H2 x y v u Q I2 rx ry q) hm
def EA(t:TE):TT:=fun σ H Q=>t σ H fun x H'=>∃k,x= .bl k∧Q k H'
theorem AA{op:CmpOp}{r:R2}(ho:OpR X (compareOp op) r)(ha:PE X a ta)(hb:PE X b tb)(hm:behindInMarks op b=false):PT X (.Compare a [op] [b] pos) (EA (tOp r ta tb)):=by
 intro pins s σ H Q I h
 refine wpAny_isTrue_Compare1 (thn (ha pins s σ H _ I h) fun v s1 ⟨x,H1,I1,r1,q1⟩=>thn (hb pins s1 σ H1 _ I1 q1) fun u s2 ⟨y,H2,I2,r2,q2⟩=>
  thn (ho pins s2 σ H2 x y v u _ I2 r1 r2 q2) fun c s3 ⟨z,H3,I3,r3,k,e,q3⟩=> ?_) hm
 subst e
 cases r3
 exact wpAny_truthy_bool ⟨H3,I3,q3⟩
theorem kJ:(sizeLine:Nat) < 2 ^ 63:=by rw [sizeLine_eq];decide
theorem tE:OpR X (binaryOp .Add) (fun x y H Q=>∃i j,x= .str i∧y= .str j∧i.length+j.length≤sizeLine∧Q (.str (i++j)) H):=by
 intro pins s σ H x y v u Q I rx ry h
 obtain ⟨i,j,rfl,rfl,hz,q⟩:=h
 obtain ⟨t,rfl⟩:=rx
 obtain ⟨t',rfl⟩:=ry
 exact add_str (fun t' tk=>⟨.str (i++j),H,I.tok _,⟨_,rfl⟩,q⟩) hz
theorem pj{x:V}{us:List Value}(r:bN [x] us):∃u,us=[u]∧bX x u:=by
 cases r with
 | cons r1 r2=>cases r2;exact ⟨_,rfl,r1⟩
theorem Ew{x y:V}{us:List Value}(r:bN [x,y] us):∃u w',us=[u,w']∧bX x u∧bX y w':=by
 cases r with
 | cons r1 r2=>
  cases r2 with
  | cons r3 r4=>cases r4;exact ⟨_,_,rfl,r1,r3⟩
theorem yW:fJ X (.builtin "abs") (fun xs H Q=>∃i,xs=[.int i]∧Q (.int (if i < 0 then -i else i)) H):=by
 intro pins s σ H xs us Q I r h
 obtain ⟨i,rfl,q⟩:=h
 obtain ⟨u,rfl,t,rfl⟩:=pj r
 exact call_abs_int fun u tk=>⟨.int (if i < 0 then -i else i),H,I.tok _,⟨_,rfl⟩,q⟩
end
structure BG(h:Heap)(x dx C:Addr)(mA:Str→Option Value):Prop where
 obj:h.get? x=some (PySem.W.instObj C dx)
 ns:h.Ns1 dx mA
 ne:dx≠x
theorem vU{h:Heap}{dx:Addr}{mA:Str→Option Value}(n:h.Ns1 dx mA):∃od,h.get? dx=some od∧∀name,PySem.W.lookIn name od=some (mA name):=by
 obtain ⟨o,es,ep,ho,hd,hk,_,hm⟩:=n
 refine ⟨o,ho,fun name=> ?_⟩
 have e:=hm name
 unfold nsFind findBy at e
 rw [←Array.find?_toList] at e
 unfold PySem.W.lookIn
 rw [hd]
 dsimp only
 split
 ·rename_i y q
  rw [q] at e
  exact congrArg some e
 ·rename_i q
  rw [q] at e
  have a:es.toList.any (·.refKey)=false:=by
   rw [List.any_eq_false]
   intro y hy
   obtain ⟨z,t,hkey⟩:=hk y (Array.mem_toList_iff.mp hy)
   simp [DictEntry.refKey,hkey]
  have a':¬es.toList.any (·.refKey)=true:=by rw [a];exact aau
  rw [if_neg a']
  exact congrArg some e
theorem BG.look{h:Heap}{x dx C:Addr}{mA:Str→Option Value}(I:BG h x dx C mA):∃od,PySem.W.InstAt h x (PySem.W.instObj C dx) C (some od)∧∀name,PySem.W.lookIn name od=some (mA name):=
 let ⟨od,ho,hl⟩:=vU I.ns
 ⟨od,⟨I.obj,rfl,rfl,ho⟩,hl⟩
section
variable{prog:Program}{w:World}{A:Around}{E:Value→Shared→Prop}{s:Shared}{K:PySem.W.Frag}{x dx C f:Addr}{mA:Str→Option Value}{name:Str}{v:Value}
theorem mB{expr:Bool}{Q:Value→Shared→Prop}(X:K.In s.heap)(I:BG s.heap x dx C mA)(hg:PySem.W.plainGet K C name=true)(hh:PySem.W.hasDictIn K C=true)
  (ha:PySem.W.findIn K (.ref C) name=some none) (hv:mA name=some v) (hv':PySem.W.handedIn v=true) (h:Q v {s with toks:=s.toks+1}):
  wpAny (model prog w) A (getAttr (.ref x) name expr) Q E s:=by
 obtain ⟨od,J,hl⟩:=I.look
 exact PySem.W.get_value X J (PySem.W.plainGet_of hg).1 (PySem.W.findObj_own hh ha rfl (by rw [hl,hv])) hv' h
theorem yF{pl:Sem Bool}{Q:Value×List Value→Shared→Prop}(X:K.In s.heap)(I:BG s.heap x dx C mA)(hg:PySem.W.plainGet K C name=true)
  (hf:PySem.W.findIn K (.ref C) name=some (some (.ref f))) (ht:PySem.W.isFn K (.ref f)=true) (hv:mA name=none) (h:Q (.ref f,[.ref x]) s):
  wpAny (model prog w) A (getMethod (.ref x) name pl) Q E s:=by
 obtain ⟨od,J,hl⟩:=I.look
 exact PySem.W.method_fn X J (PySem.W.plainGet_of hg).1 (PySem.W.plainGet_of hg).2 hf (beq_iff_eq.mp ht) (by show (PySem.W.lookIn name od).map (·.isSome)=some false;rw [hl,hv];rfl) h
theorem Ar{ns:List Str}{Q:Unit→Shared→Prop}(X:K.In s.heap)(I:BG s.heap x dx C mA)
  (hs:PySem.W.findIn K (.ref C) "__setattr__"=some (some (.builtin "object.__setattr__"))) (hp:PySem.W.plainOver K C=true) (ht:PySem.W.takerIn K C name=some none) (hh:PySem.W.hasDictIn K C=true)
  (hw:PySem.Within mA ns) (hsz:ns.length≤sizeLine)
  (h:∀h',BG h' x dx C (fun y=>if y=name then some v else mA y)→Heap.SameBut dx s.heap h'→Q () {s with heap:=h',toks:=s.toks+2}):
  wpAny (model prog w) A (setAttr (.ref x) name v) Q E s:=by
 obtain ⟨od,J,hl⟩:=I.look
 refine PySem.W.set_plain X J hs (PySem.W.osa_open (s:={s with toks:=s.toks+1}) (r:=none) X J hp ht fun b=> ?_)
 obtain ⟨cd,hc,hd'⟩:=PySem.W.any_some hh
 have hx:s.heap.get? x=some ⟨.ref C,some dx, .plain, #[]⟩:=I.obj
 refine wpAny_bind (wpAny_pure (wpAny_bind (wpAny_bind (wpAny_loadPart hx (wpAny_bind (PySem.W.Looks.here (s:={s with toks:=s.toks+1}) (PySem.W.looks_clsIn X hc) ?_))))))
 rw [hd']
 refine wpAny_pure (a:=some dx) (wpAny_bind (wpAny_pure (wpAny_bind ?_)))
 refine wpAny_nsSet1 (s:={s with toks:=s.toks+1}) I.ns fun h' hn2 hs2=> ?_
 obtain ⟨oD,esD,epD,hoD,hdD,hcD⟩:=hn2.count (PySem.Within.cons name v hw)
 refine wpAny_bind (wpAny_lookBehind hoD (by rw [hdD];exact pastItsLine_dict (aaz hcD (by rw [aas];omega))) ?_)
 exact wpAny_pure (h _ ⟨(hs2.2 _ (Ne.symm I.ne)).trans I.obj,hn2,I.ne⟩ hs2)
theorem yv{R:Result→Shared→Prop}{vs:List Value}{kw:List (Str×Value)}(X:K.In s.heap)(hm:PySem.W.makesIn K C=true)
  (hi:PySem.W.findIn K (.ref C) "__init__"=some (some (.ref f))) (hf:PySem.W.typeIn K (.ref f)=some (.type "function"))
  (h:codeAny (model prog w) (A.under (.builtin "type.__call__" ⟨.ref C::vs,kw⟩)) (.call (.ref f) ⟨.ref (s.heap.objs.size+1)::vs,kw⟩) (PySem.W.InitBack (s.heap.objs.size+1) R)
   {s with heap:=(s.heap.push PySem.W.emptyDict).push (PySem.W.instObj C s.heap.objs.size)}):
  codeAny (model prog w) A (.call (.ref C) ⟨vs,kw⟩) R s:=by
 obtain ⟨hh,g,d,t,os⟩:=s
 exact PySem.W.make_core (PySem.W.makes_of X hm) (PySem.W.looks_findIn X hi) (fun self=>PySem.W.bind_fn X self hf) (.inl rfl) h
end
def mS(f:Str)(v:V):List (Str×V)→List (Str×V)
 | []=>[(f,v)]
 | (g,x)::r=>if g=f then (g,v)::r else (g,x)::mS f v r
theorem jT(f g:Str)(v:V):∀fs:List (Str×V),(mS f v fs).lookup g=if g=f then some v else fs.lookup g
 | []=>by
  show List.lookup g [(f,v)]=_
  by_cases h:g=f
  ·have hb:(g==f)=true:=beq_iff_eq.mpr h
   simp only [List.lookup,hb,if_pos h]
  ·have hb:(g==f)=false:=beq_eq_false_iff_ne.mpr h
   simp only [List.lookup,hb,if_neg h]
 | (k,x)::r=>by
  have ih:=jT f g v r
  rw [show mS f v ((k,x)::r)=(if k=f then (k,v)::r else (k,x)::mS f v r) from rfl]
  by_cases hk:k=f
  ·rw [if_pos hk]
   by_cases h:g=k
   ·have hb:(g==k)=true:=beq_iff_eq.mpr h
    simp only [List.lookup,hb,if_pos (h.trans hk)]
   ·have hb:(g==k)=false:=beq_eq_false_iff_ne.mpr h
    simp only [List.lookup,hb,if_neg (fun e:g=f=>h (e.trans hk.symm))]
  ·rw [if_neg hk]
   by_cases h:g=k
   ·have hb:(g==k)=true:=beq_iff_eq.mpr h
    simp only [List.lookup,hb,if_neg (fun e:g=f=>hk (h.symm.trans e))]
   ·have hb:(g==k)=false:=beq_eq_false_iff_ne.mpr h
    simp only [List.lookup,hb]
    exact ih
theorem jX(f:Str)(v:V):∀fs:List (Str×V),f∈(mS f v fs).map (·.1)∧∀g,g∈fs.map (·.1)→g∈(mS f v fs).map (·.1)
 | []=>⟨by simp [mS],fun g h=>by simp at h⟩
 | (k,x)::r=>by
  obtain ⟨i1,i2⟩:=jX f v r
  rw [show mS f v ((k,x)::r)=(if k=f then (k,v)::r else (k,x)::mS f v r) from rfl]
  by_cases hk:k=f
  ·rw [if_pos hk]
   subst hk
   exact ⟨by simp,fun g h=>by simpa using h⟩
  ·rw [if_neg hk]
   refine ⟨?_,fun g h=> ?_⟩
   ·rw [aaN]
    exact aad _ i1
   ·rw [aaN] at h⊢
    rcases aaJ.mp h with e | e
    ·exact aaJ.mpr (.inl e)
    ·exact aad _ (i2 g e)
theorem jU(f:Str)(v:V):∀fs:List (Str×V),(mS f v fs).length≤fs.length+1
 | []=>by simp [mS]
 | (k,x)::r=>by
  have ih:=jU f v r
  rw [show mS f v ((k,x)::r)=(if k=f then (k,v)::r else (k,x)::mS f v r) from rfl]
  by_cases hk:k=f
  ·rw [if_pos hk,aas,aas];omega
  ·rw [if_neg hk,aas,aas];omega
theorem oY.some_of{v:V}{o:Option Value}(r:oY (some v) o):∃u,o=some u∧bX v u:=by
 cases o with
 | none=>exact (show False from r).elim
 | some u=>exact ⟨u,rfl,r⟩
theorem oY.none_of{o:Option Value}(r:oY none o):o=none:=by
 cases o with
 | none=>rfl
 | some u=>exact (show False from r).elim
theorem wC{v:V}{u:Value}(r:bX v u):PySem.W.handedIn u=true:=by
 cases v with
 | non=>cases (show u=Value.none from r);rfl
 | bl b=>cases (show u=Value.bool b from r);rfl
 | int i=>obtain ⟨t,e⟩:=(show∃t,u=Value.int i t from r);cases e;rfl
 | str x=>obtain ⟨t,e⟩:=(show∃t,u=Value.str x t from r);cases e;rfl
 | byt b=>obtain ⟨t,e⟩:=(show∃t,u=Value.bytes b t from r);cases e;rfl
 | flt b=>obtain ⟨t,e⟩:=(show∃t,u=Value.float b t from r);cases e;rfl
 | ref a=>cases (show u=Value.ref a from r);rfl
 | ty n=>cases (show u=Value.type n from r);rfl
section
variable{P:Program}{w:World}{H H':Hp}{h h':Heap}{a C dx:Addr}{fs fs':List (Str×V)}
theorem my(hok:HOk P w H h)(e:H a=some (.ins C dx fs)):∃mA,BG h a dx C mA∧(∀f,oY (fs.lookup f) (mA f))∧PySem.Within mA (fs.map (·.1))∧fs.length≤1000∧H dx=some (.own a):=by
 obtain ⟨d,z,ne,ob,mA,n,r,q⟩:=(show cq P w H h a (.ins C dx fs) from hok a _ e)
 exact ⟨mA,⟨ob,n,ne⟩,r,q,z,d⟩
end
structure Cls(K:PySem.W.Frag)(C:Addr):Prop where
 pg:PySem.W.plainGet K C Str.empty=true
 hd:PySem.W.hasDictIn K C=true
 po:PySem.W.plainOver K C=true
 sa:PySem.W.findIn K (.ref C) "__setattr__"=some (some (.builtin "object.__setattr__"))
theorem Cls.get{K:PySem.W.Frag}{C:Addr}(c:Cls K C)(f:Str):PySem.W.plainGet K C f=true:=c.pg
def gh(K:PySem.W.Frag)(C:Addr)(f:Str):Prop:=PySem.W.findIn K (.ref C) f=some none
theorem gh.taker{K:PySem.W.Frag}{C:Addr}{f:Str}(n:gh K C f):PySem.W.takerIn K C f=some none:=by
 unfold PySem.W.takerIn
 rw [show PySem.W.findIn K (.ref C) f=some none from n]
 rfl
structure Et(K:PySem.W.Frag)(C:Addr)(m:Str)(f:Addr):Prop where
 at_:PySem.W.findIn K (.ref C) m=some (some (.ref f))
 fn:PySem.W.isFn K (.ref f)=true
 kp:PySem.W.keepIn K (.ref f)=true
section
variable{X:Cx}{pins:List (Addr×Obj)}{σ:St}{H:Hp}{s:Shared}{a C dx:Addr}{fs:List (Str×V)}{f:Str}{v:V}{A:Around}{E:Value→Shared→Prop}
theorem ub{b:Bool}{Q:Value→Shared→Prop}(I:Inv X pins σ H s)(e:H a=some (.ins C dx fs))(c:Cls X.K C)(n:gh X.K C f)(l:fs.lookup f=some v)
  (h:∀u s',Inv X pins σ H s'→bX v u→Q u s'):wpAny (model X.prog X.w) A (getAttr (.ref a) f b) Q E s:=by
 obtain ⟨mA,O,r,_,_,_⟩:=my I.hok e
 obtain ⟨u,hu,ru⟩:=oY.some_of (v:=v) (o:=mA f) (by rw [←l];exact r f)
 exact mB I.kIn O (c.get f) c.hd n hu (wC ru) (h u _ (I.tok _) ru)
theorem kO{m:Str}{g:Addr}{pl:Sem Bool}{Q:Value×List Value→Shared→Prop}(I:Inv X pins σ H s)(e:H a=some (.ins C dx fs))(c:Cls X.K C)(k:Et X.K C m g)(l:fs.lookup m=none)
  (h:Q (.ref g,[.ref a]) s):wpAny (model X.prog X.w) A (getMethod (.ref a) m pl) Q E s:=by
 obtain ⟨mA,O,r,_,_,_⟩:=my I.hok e
 have hn:mA m=none:=oY.none_of (by rw [←l];exact r m)
 exact yF I.kIn O (c.get m) k.at_ k.fn hn h
theorem sX{y:V}{u:Value}{Q:Unit→Shared→Prop}(I:Inv X pins σ H s)(e:H a=some (.ins C dx fs))(c:Cls X.K C)(n:gh X.K C f)(hl:fs.length < 1000)(ry:bX y u)
  (h:∀s',Inv X pins σ (upd H a (.ins C dx (mS f y fs))) s'→Q () s'):wpAny (model X.prog X.w) A (setAttr (.ref a) f u) Q E s:=by
 obtain ⟨mA,O,r,wi,_,ho⟩:=my I.hok e
 have hz:(fs.map (·.1)).length≤sizeLine:=by rw [aac,sizeLine_eq];omega
 refine Ar I.kIn O c.sa c.po n.taker c.hd wi hz fun h' O' sb=>h _ ?_
 have hd:∃o,h'.get? dx=some o:=let ⟨o,_,_,e',_⟩:=O'.ns;⟨o,e'⟩
 refine I.write (x:=a) (e:=dx) (by rw [e];exact True.intro) (.inr ho) (fun b q hb z=>(sb.2 b hb).trans z) hd ?_
 refine ⟨by rw [av O.ne];exact ho, ?_,O.ne,O'.obj,_,O'.ns,fun g=> ?_,fun g hg=> ?_⟩
 ·have:=jU f y fs;omega
 ·show oY ((mS f y fs).lookup g) (if g=f then some u else mA g)
  rw [jT]
  by_cases q:g=f
  ·rw [if_pos q,if_pos q];exact ry
  ·rw [if_neg q,if_neg q];exact r g
 ·by_cases q:g=f
  ·rw [q];exact (jX f y fs).1
  ·refine (jX f y fs).2 g (wi g fun z=>hg ?_)
   show (if g=f then some u else mA g)=none
   rw [if_neg q];exact z
theorem Inv.made(I:Inv X pins σ H s):Inv X pins σ (upd (upd H s.heap.objs.size (.own (s.heap.objs.size+1))) (s.heap.objs.size+1) (.ins C s.heap.objs.size []))
  {s with heap:=(s.heap.push PySem.W.emptyDict).push (PySem.W.instObj C s.heap.objs.size)}:=by
 have e1:(s.heap.push PySem.W.emptyDict).get? s.heap.objs.size=some PySem.W.emptyDict:=Heap.get?_push_size s.heap rfl
 have e2:((s.heap.push PySem.W.emptyDict).push (PySem.W.instObj C s.heap.objs.size)).get? (s.heap.objs.size+1)=some (PySem.W.instObj C s.heap.objs.size):=by
  have:=Heap.get?_push_size (s.heap.push PySem.W.emptyDict) (o:=PySem.W.instObj C s.heap.objs.size) rfl
  rwa [Heap.size_push] at this
 have e3:(s.heap.push PySem.W.emptyDict).Ns s.heap.objs.size (fun _=>none):=⟨PySem.W.emptyDict, #[],_,e1,rfl,(fun e he=>absurd he (by simp)),fun _=>rfl⟩
 have I1:=I.laid (a:=s.heap.objs.size) (o:= .own (s.heap.objs.size+1)) (h':=s.heap.push PySem.W.emptyDict) (t':=s.toks) (fun b u q=>Heap.get?_push_of_some _ q) (aak _) ⟨_,e1⟩
 refine I1.laid (a:=s.heap.objs.size+1) (o:= .ins C s.heap.objs.size []) (t':=s.toks) (fun b u q=>Heap.get?_push_of_some _ q) (Nat.le_of_eq (Heap.size_push _ _)) ?_
 have ne:s.heap.objs.size≠s.heap.objs.size+1:=aaA (abn _)
 refine ⟨by rw [av ne,aC],abM _,ne,e2,fun _=>none,(Heap.Ns1.of_empty e3).at fun o q=>Heap.get?_push_of_some _ q,fun _=>True.intro,fun y hy=>absurd rfl hy⟩
theorem BA{prog:Program}{w:World}{env:Env}{e:Expr}{f:Str}{pos:Pos}{s:Shared}{Q:Value→Shared→Prop}(hb:attributeBase e f env (eval e env)=eval e env)
  (h:wpAny (model prog w) A (eval e env) (fun o s₁=>wpAny (model prog w) A (getAttr o f true) Q E s₁) E s):wpAny (model prog w) A (eval (.Attribute e f pos) env) Q E s:=
 Attribute_any_ h (by rw [arm_eval_Attribute,hb])
end
def Hm(K:PySem.W.Frag)(ta:TE)(f:Str):TE:=fun σ H Q=>ta σ H fun x H1=>∃a C dx fs v,x= .ref a∧H1 a=some (.ins C dx fs)∧Cls K C∧gh K C f∧fs.lookup f=some v∧Q v H1
def Hr(K:PySem.W.Frag)(ta tv:TE)(f:Str):TS:=fun D σ H=>tv σ H fun y H1=>ta σ H1 fun x H2=>∃a C dx fs,x= .ref a∧H2 a=some (.ins C dx fs)∧Cls K C∧gh K C f∧fs.length < 1000∧
 D.nx σ (upd H2 a (.ins C dx (mS f y fs)))
section
variable{X:Cx}{o e value:Expr}{f:Str}{pos pos' tpos:Pos}{ta tv:TE}
theorem CH(he:PE X e ta)(hb:attributeBase e f X.env (eval e X.env)=eval e X.env):PE X (.Attribute e f pos) (Hm X.K ta f):=by
 intro pins s σ H Q I h
 refine BA hb (thn (he pins s σ H _ I h) fun u s1 ⟨x,H1,I1,rx,a,C,dx,fs,v,ex,ea,c,n,l,q⟩=> ?_)
 subst ex
 obtain rfl:u=Value.ref a:=rx
 exact ub I1 ea c n l fun u' s2 I2 ru=>⟨v,H1,I2,ru,q⟩
theorem Cv(ha:PE X o ta)(hv:PE X value tv)(hs:swapsWith value (some (.Attribute o f pos')) pos.line X.env=pure false):PS X (.Assign [.Attribute o f pos'] value pos) (Hr X.K ta tv f):=by
 intro pins s σ H D I h
 refine plainObj_wpAny_Assign_Attribute (thn (hv pins s σ H _ I h) fun u s1 ⟨y,H1,I1,ry,q⟩=>thn (ha pins s1 σ H1 _ I1 q) fun ov s2 ⟨x,H2,I2,rx,a,C,dx,fs,ex,ea,c,n,l,q2⟩=> ?_) hs
 subst ex
 obtain rfl:ov=Value.ref a:=rx
 exact sX I2 ea c n l ry fun s3 I3=>⟨σ,_,I3,q2⟩
end
section
variable{X:Cx}{pins:List (Addr×Obj)}{σ:St}{H:Hp}{s:Shared}{A:Around}{E:Value→Shared→Prop}{Q:Value→Shared→Prop}{c:Value}{b:Bool}
inductive oX(K:PySem.W.Frag)(H:Hp):V→Value→Prop where
 | non:oX K H .non (.type "NoneType")
 | bl (x:Bool):oX K H (.bl x) (.type "bool")
 | int (i:Int):oX K H (.int i) (.type "int")
 | str (x:Str):oX K H (.str x) (.type "str")
 | flt (x:UInt64):oX K H (.flt x) (.type "float")
 | lst {a:Addr} {xs:List V} (e:H a=some (.lst xs)):oX K H (.ref a) (.type "list")
 | frz {a:Addr} {o:Obj} {xs:List V} (e:H a=some (.frz o (.lst xs))):oX K H (.ref a) (.type "list")
 | tup {a:Addr} {xs:List V} (e:H a=some (.tup xs)):oX K H (.ref a) (.type "tuple")
 | dK {a:Addr} {kvs:List (Key×V)} (e:H a=some (.dK kvs)):oX K H (.ref a) (.type "dict")
 | dT {a:Addr} {kvs:List (List Key×V)} (e:H a=some (.dT kvs)):oX K H (.ref a) (.type "dict")
 | ins {a C dx:Addr} {fs:List (Str×V)} (e:H a=some (.ins C dx fs)) (cl:Cls K C) (ha:PySem.W.findIn K (.ref C) "__class__"=some (some (.builtin "object.__class__")))
   (hn:PySem.W.specialIn K (.builtin "object.__class__") "__get__"=some (some (.builtin "getset_descriptor.__get__"))) (htk:PySem.W.takesIn K (.builtin "object.__class__")=some true)
   (hm:PySem.W.mroIn K C (.type "object")=some true):oX K H (.ref a) (.ref C)
theorem wy{x:V}{u t:Value}(I:Inv X pins σ H s)(rx:bX x u)(ty:oX X.K H x t)(e:PySem.W.kitOne X.K t c=some b)(h:∀tk,Q (.bool b) {s with toks:=tk}):
  wpAny (model X.prog X.w) A (call (.builtin "isinstance") [u,c]) Q E s:=by
 cases ty with
 | non=>cases (show u=Value.none from rx);exact PySem.W.kia_one PySem.W.kitx_none I.kIn True.intro e (fun z=>nomatch z) h
 | bl y=>cases (show u=Value.bool y from rx);exact PySem.W.kia_one PySem.W.kitx_bool I.kIn True.intro e (fun z=>nomatch z) h
 | int i=>obtain ⟨t,q⟩:=(show∃t,u=Value.int i t from rx);cases q;exact PySem.W.kia_one PySem.W.kitx_int I.kIn True.intro e (fun z=>nomatch z) h
 | str y=>obtain ⟨t,q⟩:=(show∃t,u=Value.str y t from rx);cases q;exact PySem.W.kia_one PySem.W.kitx_str I.kIn True.intro e (fun z=>nomatch z) h
 | flt y=>obtain ⟨t,q⟩:=(show∃t,u=Value.float y t from rx);cases q;exact PySem.W.kia_one PySem.W.kitx_float I.kIn True.intro e (fun z=>nomatch z) h
 | @lst a xs ea=>
  cases (show u=Value.ref a from rx)
  obtain ⟨_,_,n,_,h1⟩:=(show cq X.prog X.w H s.heap a (.lst xs) from I.hok a _ ea)
  exact PySem.W.kia_one PySem.W.kitx_list I.kIn ⟨_,h1,rfl⟩ e (fun z=>nomatch z) h
 | @frz a ob xs ea=>
  cases (show u=Value.ref a from rx)
  obtain ⟨_,_,_,n,_,h1⟩:=(show cq X.prog X.w H s.heap a (.frz ob (.lst xs)) from I.hok a _ ea)
  exact PySem.W.kia_one PySem.W.kitx_list I.kIn ⟨_,h1,rfl⟩ e (fun z=>nomatch z) h
 | @tup a xs ea=>
  cases (show u=Value.ref a from rx)
  obtain ⟨_,_,_,p⟩:=(show cq X.prog X.w H s.heap a (.tup xs) from I.hok a _ ea)
  obtain ⟨o,h1,h2,_⟩:=p
  exact PySem.W.kia_one PySem.W.kitx_tuple I.kIn ⟨o,h1,h2⟩ e (fun z=>nomatch z) h
 | @dK a kvs ea=>
  cases (show u=Value.ref a from rx)
  obtain ⟨_,_,vs,_,p⟩:=(show cq X.prog X.w H s.heap a (.dK kvs) from I.hok a _ ea)
  obtain ⟨o,es,ep,h1,h2,_⟩:=p
  exact PySem.W.kia_one PySem.W.kitx_dict I.kIn ⟨o,h1,h2.1⟩ e (fun z=>nomatch z) h
 | @dT a kvs ea=>
  cases (show u=Value.ref a from rx)
  obtain ⟨_,_,xs,_,o,es,ep,h1,h2,_⟩:=(show cq X.prog X.w H s.heap a (.dT kvs) from I.hok a _ ea)
  exact PySem.W.kia_one PySem.W.kitx_dict I.kIn ⟨o,h1,h2.1⟩ e (fun z=>nomatch z) h
 | @ins a C dx fs ea cl ha hn htk hm=>
  cases (show u=Value.ref a from rx)
  obtain ⟨mA,O,_⟩:=my I.hok ea
  obtain ⟨od,J,_⟩:=O.look
  exact PySem.W.kia_one (PySem.W.kitx_own (cl.get _) cl.hd ha hn htk hm) I.kIn J e (fun z=>nomatch z) h
end
structure eK(k:Nat)(A:Around):Prop where
 hd:A.handled=none
 dp:A.depth+3 * k+5 < recursionLimit
 un:A.units+16 * k+200 < cLine
theorem eK.mono{j k:Nat}{A:Around}(r:eK k A)(h:j≤k):eK j A:=⟨r.hd,by have:=r.dp;omega,by have:=r.un;omega⟩
theorem eK.deeper{k:Nat}{A:Around}(r:eK (k+1) A)(env:Env):eK k (A.deeper env):=
 ⟨r.hd,by have:=r.dp;show A.depth+1+3 * k+5 < _;omega,by have:=r.un;show A.units+3+16 * k+200 < _;omega⟩
theorem tS{A:Around}{C:Addr}{us:List Value}{kw:List (Str×Value)}:(A.under (.builtin "type.__call__" ⟨.ref C::us,kw⟩)).depth=A.depth+1:=by
 first | rfl | simp [Around.under,Code.weight,Code.isCreation,Code.isGuard,Code.isCaller,Code.frames,Code.isFrame,guardIds]
theorem tR{A:Around}{C:Addr}{us:List Value}{kw:List (Str×Value)}:(A.under (.builtin "type.__call__" ⟨.ref C::us,kw⟩)).units=A.units+1:=by
 first | rfl | simp [Around.under,Code.cUnits,Code.frames,Code.isFrame]
theorem eK.make{k:Nat}{A:Around}(r:eK (k+1) A)(C:Addr)(us:List Value)(kw:List (Str×Value)):eK k (A.under (.builtin "type.__call__" ⟨.ref C::us,kw⟩)):=
 ⟨r.hd,by have:=r.dp;rw [tS];omega,by have:=r.un;rw [tR];omega⟩
theorem eK.depth{k:Nat}{A:Around}(r:eK k A):A.depth < recursionLimit:=by have:=r.dp;omega
theorem eK.units{k:Nat}{A:Around}(r:eK k A):A.units+64 < cLine:=by have:=r.un;omega
theorem eK.units0{k:Nat}{A:Around}(r:eK k A):A.units < cLine:=by have:=r.un;omega
def Gk:TA:=fun _ H Q=>Q [] H
def EH(ta:TE)(tr:TA):TA:=fun σ H Q=>ta σ H fun x H1=>tr σ H1 fun xs H2=>Q (x::xs) H2
section
variable{X:Cx}{e:Expr}{es:List Expr}{te:TE}{t:TA}{pos:Pos}
theorem CJ:PA X [] Gk:=fun _ _ _ _ H Q I h=>Calls.spliced_nil ⟨[],H,I, .nil,h⟩
theorem AO(ha:PE X e te)(hr:PA X es t)(hs:starEach (e::es) X.env=(false,eval e X.env)::starEach es X.env:=by rfl):PA X (e::es) (EH te t):=by
 intro pos pins s σ H Q I h
 rw [hs]
 show wpAny _ _ (spliced ((false,eval e X.env)::backTo pos (starEach es X.env))) _ _ s
 refine Calls.spliced_cons (thn (ha pins s σ H _ I h) fun u s1 ⟨x,H1,I1,r1,q1⟩=> ?_)
 exact thn (hr pos pins s1 σ H1 _ I1 q1) fun us s2 ⟨xs,H2,I2,r2,q2⟩=>⟨x::xs,H2,I2, .cons r1 r2,q2⟩
def Hc(t:TA):TE:=fun σ H Q=>t σ H fun xs H1=>xs.length≤sizeLine∧∀p,H1 p=none→Q (.ref p) (upd H1 p (.tup xs))
def Hj(t:TA):TE:=fun σ H Q=>t σ H fun xs H1=>xs.length≤sizeLine∧∀p,H1 p=none→Q (.ref p) (upd H1 p (.lst xs))
theorem CB{x1}(h:PA X es t):PE X (.Tuple es x1 pos) (Hc t):=by
 intro pins s σ H Q I hq
 refine wpAny_Tuple_spliced (thn (h pos pins s σ H _ I hq) fun us s1 ⟨xs,H1,I1,r,z,q⟩=>⟨by rw [←r.length];exact z, ?_⟩)
 have hf:H1 s1.heap.objs.size=none:=I1.hok.fresh (aak _)
 refine ⟨.ref s1.heap.objs.size,upd H1 s1.heap.objs.size (.tup xs),I1.laid (t':=s1.toks) (fun b u e=>Heap.get?_push_of_some _ e) (aak _) ?_,rfl,q _ hf⟩
 exact ⟨z,us,r,⟨_,Heap.get?_push_size _ rfl,rfl,_,rfl⟩⟩
theorem zz(h:PA X es t):PE X (.List es pos) (Hj t):=by
 intro pins s σ H Q I hq
 refine wpAny_List_spliced (thn (h pos pins s σ H _ I hq) fun us s1 ⟨xs,H1,I1,r,z,q⟩=>⟨by rw [←r.length];exact z, ?_⟩)
 have hf:H1 s1.heap.objs.size=none:=I1.hok.fresh (aak _)
 refine ⟨.ref s1.heap.objs.size,upd H1 s1.heap.objs.size (.lst xs),I1.laid (t':=s1.toks) (fun b u e=>Heap.get?_push_of_some _ e) (aak _) ?_,rfl,q _ hf⟩
 exact ⟨z,us,0,r,Heap.get?_push_size _ rfl⟩
end
abbrev Sp:=List V→Hp→VK→XK→Prop
abbrev CXT:=List Env→Hp→Shared→XK→Value→Shared→Prop
structure BJ(P:Program)(w:World)(K:PySem.W.Frag)(mg:Str→Option Value)(base:Heap)(A:Around)(outer:List Env)(s:Shared)(H:Hp):Prop where
 frames:A.frames=some outer
 mod:Mod K mg base
 bs:∀b o,base.get? b=some o→s.heap.get? b=some o∧H b=none
 bsz:base.objs.size≤s.heap.objs.size
 funs:s.heap.FunFrames base outer
 frf:∀b∈frs outer,H b=none
 hok:HOk P w H s.heap
 bare:AllBare s.gens
def CE(outer:List Env)(P:Program)(w:World)(H:Hp)(s:Shared)(Q:VK)(u:Value)(s':Shared):Prop:=
 ∃v H',s'.os=s.os∧AllBare s'.gens∧Un (frs outer) [] H H' s.heap s'.heap∧HOk P w H' s'.heap∧bX v u∧Q v H'
def CR(CX:CXT)(outer:List Env)(P:Program)(w:World)(H:Hp)(s:Shared)(Q:VK)(E:XK)(r:Result)(s':Shared):Prop:=
 match r with
 | .ok (.ret u)=>CE outer P w H s Q u s'
 | .ok _=>False
 | .error e=>CX outer H s E e s'
structure bA(P:Program)(w:World)(K:PySem.W.Frag)(mg:Str→Option Value)(base:Heap)(CX:CXT)(k:Nat)(f:Addr)(fd:FuncData)(ps:List Str)(sp:Sp):Prop where
 len:∀vs H Q E,sp vs H Q E→vs.length=ps.length
 run:∀(A:Around) (outer:List Env) (s:Shared) (H:Hp) (args:Args) (us:List Value) (vs:List V) (Q:VK) (E:XK),eK k A→BJ P w K mg base A outer s H→BindsTo s fd args (ps.zip us)→bN vs us→sp vs H Q E→
  codeAny (model P w) A (.call (.ref f) args) (CR CX outer P w H s Q E) s
theorem BJ.make{P:Program}{w:World}{K:PySem.W.Frag}{mg:Str→Option Value}{base:Heap}{A:Around}{outer:List Env}{s:Shared}{H:Hp}(e:BJ P w K mg base A outer s H)(C:Addr)(us:List Value)(kw:List (Str×Value)):
  BJ P w K mg base (A.under (.builtin "type.__call__" ⟨.ref C::us,kw⟩)) outer s H:=⟨by first | exact e.frames | (simpa [Around.under,Code.envs,Code.isFrame,pushEnvs] using e.frames),e.mod,e.bs,e.bsz,e.funs,e.frf,e.hok,e.bare⟩
section
variable{X:Cx}{pins:List (Addr×Obj)}{σ:St}{H:Hp}{s s':Shared}
theorem Inv.env0(I:Inv X pins σ H s):BJ X.prog X.w X.K X.mg X.base X.A X.stack s H:=
 ⟨I.ok.frames,I.ok.mod,I.bs,aaz I.ok.bsz I.sz,I.stack,I.stkFree,I.hok,I.bare⟩
theorem Inv.after{Q:VK}{u:Value}(I:Inv X pins σ H s)(h:CE X.stack X.prog X.w H s Q u s'):EP X pins σ Q u s':=by
 obtain ⟨v,H',os,bare,un,hok,r,q⟩:=h
 obtain ⟨hh,g,d,t,os'⟩:=s'
 obtain rfl:os'=s.os:=os
 exact ⟨v,H',I.call (h':=hh) (g':=g) (d':=d) (t':=t) (ch:=[]) un hok bare (fun b z=>absurd z (by simp)),r,q⟩
end
def iS(K:PySem.W.Frag)(fd:FuncData)(ps:List Str)(ds:List Value):Prop:=
 ∀(s:Shared) (us:List Value),K.In s.heap→(us++ds).length=ps.length→BindsTo s fd ⟨us,[]⟩ (ps.zip (us++ds))
theorem iS.all{K:PySem.W.Frag}{fd:FuncData}{ps:List Str}(h:∀us:List Value,us.length=ps.length→bindArgs fd ⟨us,[]⟩=pure (ps.zip us)):iS K fd ps []:=fun s us _ hl=>by
 rw [aaT] at hl⊢
 exact .of_eq (h us hl)
section
variable{X:Cx}{CX:CXT}{k:Nat}{f C:Addr}{fd:FuncData}{ps:List Str}{sp:Sp}{dvs:List V}{ds:List Value}{E:XK}{x m:Str}{p pos apos:Pos}{e o:Expr}{es:List Expr}{ta:TE}{t:TA}
structure Mk(K:PySem.W.Frag)(C f:Addr):Prop where
 makes:PySem.W.makesIn K C=true
 init:PySem.W.findIn K (.ref C) "__init__"=some (some (.ref f))
 fn:PySem.W.isFn K (.ref f)=true
 kp:PySem.W.keepIn K (.ref C)=true
end
structure ar(N P:List Str)(sc:Scope):Prop where
 kind:sc.kind= .function
 co:sc.isCoroutine=false
 gen:sc.isGenerator=false
 nd:N.Nodup
 pre:N.take P.length=P
 par:∀x∈P,sc.names.lookup x=some .local∨sc.names.lookup x=some .cell
 nofree:∀y∈sc.names,y.2≠ .free
theorem oK{kindOf:Str→Option NameKind}{x:Str}:∀{binds:List (Str×Value)} {m:Str→Option Value},(∀v,(x,v)∉binds)→bindL kindOf binds m x=m x
 | [],_,_=>rfl
 | (n,v)::r,m,h=>by
  unfold bindL
  rw [oK fun w hw=>h w (aad _ hw)]
  split
  ·have:x≠n:=by rintro rfl;exact h v aae
   simp [this]
  ·rfl
theorem oN{kindOf:Str→Option NameKind}{x:Str}:∀{binds:List (Str×Value)} {m:Str→Option Value},(∀v,(x,v)∉binds)→bindC kindOf binds m x=m x
 | [],_,_=>rfl
 | (n,v)::r,m,h=>by
  unfold bindC
  rw [oN fun w hw=>h w (aad _ hw)]
  split
  ·rfl
  ·have:x≠n:=by rintro rfl;exact h v aae
   simp [this]
theorem oM{kindOf:Str→Option NameKind}{x:Str}{v:Value}:∀{P:List Str} {vs:List Value} {i:Nat} {m:Str→Option Value},P.Nodup→P[i]? =some x→vs[i]? =some v→kindOf x=some .local→
  bindL kindOf (P.zip vs) m x=some v
 | [],_,_,_,_,h,_,_=>by simp at h
 | _::_,[],_,_,_,_,h,_=>by simp at h
 | p::P,w::vs,0,m,nd,h1,h2,hk=>by
  simp at h1 h2;subst h1;subst h2
  show bindL kindOf ((p,w)::P.zip vs) m p=_
  unfold bindL
  rw [oK fun v hv=>(List.nodup_cons.mp nd).1 (aaU hv).1,if_pos hk]
  simp
 | p::P,w::vs,i+1,m,nd,h1,h2,hk=>by
  show bindL kindOf ((p,w)::P.zip vs) m x=_
  unfold bindL
  exact oM (i:=i) (List.nodup_cons.mp nd).2 (by simpa using h1) (by simpa using h2) hk
theorem oO{kindOf:Str→Option NameKind}{x:Str}{v:Value}:∀{P:List Str} {vs:List Value} {i:Nat} {m:Str→Option Value},P.Nodup→P[i]? =some x→vs[i]? =some v→kindOf x≠some .local→
  bindC kindOf (P.zip vs) m x=some v
 | [],_,_,_,_,h,_,_=>by simp at h
 | _::_,[],_,_,_,_,h,_=>by simp at h
 | p::P,w::vs,0,m,nd,h1,h2,hk=>by
  simp at h1 h2;subst h1;subst h2
  show bindC kindOf ((p,w)::P.zip vs) m p=_
  unfold bindC
  rw [oN fun v hv=>(List.nodup_cons.mp nd).1 (aaU hv).1,if_neg hk]
  simp
 | p::P,w::vs,i+1,m,nd,h1,h2,hk=>by
  show bindC kindOf ((p,w)::P.zip vs) m x=_
  unfold bindC
  exact oO (i:=i) (List.nodup_cons.mp nd).2 (by simpa using h1) (by simpa using h2) hk
def start(N:List Str)(vs:List V):St:=vs.map some++List.replicate (N.length - vs.length) none
def qE(CX:CXT)(P:Program)(w:World)(K:PySem.W.Frag)(mg:Str→Option Value)(base:Heap)(N:List Str)(qual:Str)(scope:Scope)(f:Addr)(cd:Value)(A:Around)(outer:List Env)(s:Shared)(H:Hp)(E:XK):Cx where
 prog:=P
 w:=w
 K:=K
 mg:=mg
 base:=base
 A:=A.deeper (envOfC qual scope s.heap.objs.size f cd)
 N:=N
 s₀:=s
 H₀:=H
 env:=envOfC qual scope s.heap.objs.size f cd
 outer:=outer
 stack:=envOfC qual scope s.heap.objs.size f cd::outer
 ex:=[]
 calm:=true
 fn:=fun _=>true
 pn:=[]
 xe:=fun e s'=>wpAny (model P w) (A.deeper (envOfC qual scope s.heap.objs.size f cd)) (leaving (envOfC qual scope s.heap.objs.size f cd) e) (fun _ s''=>CX outer H s E e s'') (fun e' s''=>CX outer H s E e' s'') s'
theorem sF{sc:Scope}{n:Nat}{x:Str}(h:sc.names.lookup x=some .cell):∃c,(cellsFrom n sc.names []).lookup x=some c:=by
 have q:=PySem.W.cellsFrom_some sc.names n [] (.inl h)
 exact aa9.mp q
theorem wz{CX:CXT}{P:Program}{w:World}{K:PySem.W.Frag}{mg:Str→Option Value}{base:Heap}{N ps:List Str}{qual:Str}{scope:Scope}{f:Addr}{cd:Value}{A:Around}{outer:List Env}{s s1:Shared}{H:Hp}{E:XK}{us:List Value}{vs:List V}
  (S:ar N ps scope) (hd:A.handled=none) (e0:BJ P w K mg base A outer s H) (hl:vs.length=ps.length) (r:bN vs us)
  (x:InCallC s s.heap.objs.size (bindL (envOfC qual scope s.heap.objs.size f cd).kindOf (ps.zip us) fun _=>none) (cellsFrom (s.heap.objs.size+1) scope.names []) (bindC (envOfC qual scope s.heap.objs.size f cd).kindOf (ps.zip us) fun _=>none) s1):
  Inv (qE CX P w K mg base N qual scope f cd A outer s H E) [] (start N vs) H s1:=by
 have hpl:ps.length≤N.length:=by have:=congrArg List.length S.pre;rw [abH] at this;omega
 obtain ⟨h1,tk,rfl,hk⟩:=x.done
 have noA:∀b:Addr,b∉(qE CX P w K mg base N qual scope f cd A outer s H E).ex:=fun b z=>absurd (show b∈([]:List Addr) from z) (by simp)
 refine ⟨⟨e0.mod,S.kind,rfl,rfl,aak _,fun y z c h1 h2=> ?_,fun y hy=> ?_,fun y c _ h=> ?_,fun _=>hd,Around.frames_deeper e0.frames, .inr ⟨rfl,rfl⟩,fun b z=>absurd z (noA b),e0.bs,e0.bsz,fun b _ _=>noA b,fun b z=>absurd z (noA b),e0.funs,e0.frf⟩,
  rfl,e0.bare,Un.kept hk,⟨_,x.toInCall.ns,fun i y v h1 h2 h3=> ?_⟩,fun y c h=>⟨_,x.cell y c h⟩,e0.hok.fresh (Nat.le_refl _),fun y c h=> ?_,fun p hp=>absurd (show p∈([]:List (Addr×Obj)) from hp) (by simp),e0.hok.kept hk, ?_⟩
 ·exact name_of_addr x.apart (PySem.mem_of_lookup h1) (PySem.mem_of_lookup h2)
 ·have hy:scope.names.lookup y=some .cell∨scope.names.lookup y=some .free:=hy
  rcases hy with hy | hy
  ·exact sF hy
  ·exact absurd rfl (S.nofree _ (PySem.mem_of_lookup hy))
 ·exact Nat.le_of_lt (x.above y c (PySem.mem_of_lookup h))
 ·have hi:i < vs.length:=by
   unfold start at h2
   by_cases hi:i < vs.length
   ·exact hi
   ·rw [List.getElem?_append_right (by simpa using hi)] at h2
    rw [abq] at h2
    split at h2 <;> cases h2
  have ha:vs[i]? =some v:=by
   unfold start at h2
   rw [List.getElem?_append_left (by simpa using hi),List.getElem?_map] at h2
   cases e:vs[i]? with
   | none=>rw [e] at h2;cases h2
   | some a=>rw [e] at h2;cases h2;rfl
  obtain ⟨u,hu,rv⟩:=r.get ha
  have hp:ps[i]? =some y:=by
   rw [←S.pre,abY (by omega)];exact h1
  have ndP:ps.Nodup:=by rw [←S.pre];exact S.nd.sublist (List.take_sublist _ _)
  refine ⟨u,rv, ?_⟩
  rcases S.par y (aag hp) with k | k
  ·exact .inl ⟨k,oM ndP hp hu k⟩
  ·obtain ⟨c,e⟩:=sF (n:=s.heap.objs.size+1) k
   refine .inr ⟨.inl k,c,e, ?_⟩
   have q:=x.cell y c e
   rw [oO ndP hp hu (by show scope.names.lookup y≠_;rw [k];decide)] at q
   exact q
 ·exact e0.hok.fresh (Nat.le_of_lt (x.above y c (PySem.mem_of_lookup h)))
 ·unfold start
  show _=N.length
  rw [aap,aac,aaK]
  omega
theorem Fx{CX:CXT}{P:Program}{w:World}{K:PySem.W.Frag}{mg:Str→Option Value}{base:Heap}{k:Nat}{f:Addr}{name qual:Str}{params:Arguments}{body:List Stmt}{scope:Scope}{dV kV doc pm cdv ct oc:Value}{an od:Option Addr}
  {osl:Array (Option Value)} {N ps:List Str} {sp:Sp} (lk:K.lookup f=some ⟨oc,od, .func (PySem.W.fnOf name qual params body scope dV kV doc pm an cdv ct),osl⟩) (hcd:PySem.W.codeIn K cdv qual=true) (S:ar N ps scope)
  (len:∀vs H Q E,sp vs H Q E→vs.length=ps.length)
  (hbody:∀(A:Around) (outer:List Env) (s:Shared) (H:Hp) (vs:List V) (Q:VK) (E:XK),eK k (A.deeper (envOfC qual scope s.heap.objs.size f cdv))→sp vs H Q E→
   ∃t,PSs (qE CX P w K mg base N qual scope f cdv A outer s H E) body t∧t {nx:=fun _ H'=>Q .non H',rt:=Q} (start N vs) H):
  bA P w K mg base CX (k+1) f (PySem.W.fnOf name qual params body scope dV kV doc pm an cdv ct) ps sp:=by
 refine ⟨len,fun A outer s H args us vs Q E hr e0 hb r hsp=> ?_⟩
 have hl:=len _ _ _ _ hsp
 have KX:K.In s.heap:=e0.mod.kin.keeps fun b o e=>(e0.bs b o e).1
 have lim:s.heap.NoLimit:=e0.mod.nolimit.keeps fun b o e=>(e0.bs b o e).1
 have hkind:∀y∈ps.zip us,scope.names.lookup y.1=some .local∨(scope.names.lookup y.1=some .cell∧((cellsFrom (s.heap.objs.size+1) scope.names []).lookup y.1).isSome=true):=fun ⟨n,v⟩ hy=>by
  rcases S.par n (aaU hy).1 with q | q
  ·exact .inl q
  ·exact .inr ⟨q,PySem.W.cellsFrom_some _ _ _ (.inl q)⟩
 refine codeAny_call_function hr.depth (KX _ _ lk) rfl S.co S.gen rfl (PySem.W.codeRec_of KX hcd) (hb _ _ _ _ ?_)
 refine wpAny_newFunctionEnv_cells S.kind hkind fun env he s1 x=> ?_
 subst he
 refine ⟨lim.keeps x.toInCall.keep,codeAny_func ?_⟩
 obtain ⟨t,ht,hq⟩:=hbody A outer s H vs Q E (hr.deeper _) hsp
 have I:Inv (qE CX P w K mg base N qual scope f cdv A outer s H E) [] (start N vs) H s1:=wz S hr.hd e0 hl r x
 refine wpAny_mono (ht [] s1 (start N vs) H _ I hq) (fun fl s' hs=> ?_) fun e s' hs=>hs
 have fin:∀{σ':St} {H':Hp} {v:V} {u:Value},Inv (qE CX P w K mg base N qual scope f cdv A outer s H E) [] σ' H' s'→bX v u→Q v H'→CE outer P w H s Q u s':=
  fun {σ' H' v u} J rv q=>⟨v,H',J.os,J.bare,J.base,J.hok,rv,q⟩
 cases fl with
 | ret u=>
  obtain ⟨v,σ',H',J,rv,q⟩:=hs
  exact fin J rv q
 | next=>
  obtain ⟨σ',H',J,q⟩:=hs
  exact fin (v:=V.non) (u:=Value.none) J rfl q
 | brk=>
  obtain ⟨_,_,_,q⟩:=hs
  exact False.elim q
 | cont=>
  obtain ⟨_,_,_,q⟩:=hs
  exact False.elim q
section
variable{X:Cx}{x:Str}{p pos:Pos}{e:Expr}{es:List Expr}{t:TA}{id T:String}{r:List V→Hp→VK→Prop}
def tCB(r:List V→Hp→VK→Prop)(t:TA):TE:=fun σ H Q=>t σ H fun vs H1=>r vs H1 Q
theorem yk(hc:fJ X (.builtin id) r)(hg:Gl X x)(hm:X.mg x=none)(hv:bootBuiltins x=some (.builtin id))(ha:PA X (e::es) t)(hn:x≠"__name__":=by decide)(hdb:(x==("__debug__":Str))=false:=by decide)
  (he:starEach (e::es) X.env=(false,eval e X.env)::starEach es X.env:=by rfl) (hpl:(backTo pos (starEach es X.env)).any (·.1)=false:=by rfl):PE X (.Call (.Name x p) (e::es) [] pos) (tCB r t):=by
 intro pins s σ H Q I h
 refine wpAny_Call_Name_kw (jV I hg hm hv ?_ hn hdb)
 exact PyProof.Rows.callWith_builtin1 (thn (ha pos pins s σ H _ I h) fun us s1 ⟨vs,H1,I1,r1,q1⟩=>hc pins s1 σ H1 vs us Q I1 r1 q1) he hpl
theorem vy(hc:fJ X (.type T) r)(hg:Gl X x)(hm:X.mg x=none)(hv:bootBuiltins x=some (.type T))(ha:PA X (e::es) t)(hn:x≠"__name__":=by decide)(hdb:(x==("__debug__":Str))=false:=by decide)
  (he:starEach (e::es) X.env=(false,eval e X.env)::starEach es X.env:=by rfl) (hpl:(backTo pos (starEach es X.env)).any (·.1)=false:=by rfl):PE X (.Call (.Name x p) (e::es) [] pos) (tCB r t):=by
 intro pins s σ H Q I h
 refine wpAny_Call_Name_kw (jV I hg hm hv ?_ hn hdb)
 exact PyProof.Rows.callWith_type1 (thn (ha pos pins s σ H _ I h) fun us s1 ⟨vs,H1,I1,r1,q1⟩=>hc pins s1 σ H1 vs us Q I1 r1 q1) he hpl
end
end L2
namespace HT
open PySem PyProof.Rows
section
variable{prog:Program}{w:World}{A:Around}{E:Value→Shared→Prop}{s:Shared}
theorem Bw{t b:Addr}{vs ws:List Value}{Q:Value→Shared→Prop}(ht:IsTup s.heap t vs.toArray)(hb:IsTup s.heap b ws.toArray)(hv:vs≠[])
  (h1:ws=[]→Q (.ref t) s) (h2:ws≠[]→Q (.ref s.heap.objs.size) {s with heap:=s.heap.push {cls:= .type "tuple",data:= .seq (vs++ws).toArray}})
  (hsz:vs.length+ws.length≤sizeLine):wpAny (model prog w) A (binaryOp .Add (.ref t) (.ref b)) Q E s:=by
 obtain ⟨⟨cls,dd,data,sl⟩,ho,hc,n,hd⟩:=id ht
 obtain ⟨⟨cls2,dd2,data2,sl2⟩,ho2,hc2,n2,hd2⟩:=id hb
 simp only at hc hd hc2 hd2
 subst hc hd hc2 hd2
 have e:vs.toArray++ws.toArray=(vs++ws).toArray:=by simp
 by_cases hw:ws=[]
 ·exact concat_meets ⟨_,ho,rfl⟩ ⟨_,ho2,rfl⟩ noFill_tuple_add seq_tuple_add PySem.F.slot_tuple_add PySem.F.entry_tuple_add (PySem.F.args_tuple_add_2 _ _)
   (tuple_addW1 t b vs.toArray ws.toArray n n2 dd dd2 sl sl2 (by simpa using hv) (by simp [hw])) ⟨ho,ho2,h1 hw⟩
 ·refine concat_meets ⟨_,ho,rfl⟩ ⟨_,ho2,rfl⟩ noFill_tuple_add seq_tuple_add PySem.F.slot_tuple_add PySem.F.entry_tuple_add (PySem.F.args_tuple_add_2 _ _)
   (tuple_addW2 t b vs.toArray ws.toArray n n2 dd dd2 sl sl2 (by simpa using hv) (by simpa using hw) (by rw [List.size_toArray,List.size_toArray];exact hsz)) ⟨ho,ho2, ?_⟩
  rw [e]
  exact h2 hw
def sIx(n d:Nat):Option Int→Nat
 | none=>d
 | some v=>if v < 0 then (v+(n:Int)).toNat else min v.toNat n
theorem rq(n d:Nat):sIx n d none=d:=rfl
theorem lD(n d k:Nat):sIx n d (some (k:Int))=min k n:=by
 show (if (k:Int) < 0 then ((k:Int)+(n:Int)).toNat else min (k:Int).toNat n)=min k n
 rw [if_neg (by omega),abg]
end
end HT
namespace L2
open PySem PySem.Spec PyProof.Rows
abbrev TO:=St→Hp→(Option Int→Hp→Prop)→Prop
def PO(X:Cx)(e:Option Expr)(t:TO):Prop:=
 ∀(pins:List (Addr×Obj)) (s:Shared) (σ:St) (H:Hp) (Q:Option Int→Hp→Prop),Inv X pins σ H s→t σ H Q→
  wpAny (model X.prog X.w) X.A (evalPart e X.env) (fun u s'=>∃o H',Inv X pins σ H' s'∧IsPart u o∧Q o H') X.xe s
def Al:TO:=fun _ H Q=>Q none H
def EB(t:TE):TO:=fun σ H Q=>t σ H fun x H1=>∃i,x= .int i∧Q (some i) H1
section
variable{X:Cx}{e:Expr}{te:TE}{lo hi:Option Expr}{tl th:TO}{pos p2:Pos}
theorem vk:PO X none Al:=by
 intro pins s σ H Q I h
 rw [evalPart_none]
 exact wpAny_pure ⟨none,H,I, .none,h⟩
theorem lM(h:PE X e te):PO X (some e) (EB te):=by
 intro pins s σ H Q I hw
 rw [evalPart_some]
 refine thn (h pins s σ H _ I hw) fun u s1 ⟨x,H1,I1,r1,q1⟩=> ?_
 obtain ⟨i,rfl,q⟩:=q1
 obtain ⟨t,rfl⟩:=r1
 exact ⟨some i,H1,I1, .int i t,q⟩
def SlR(X:Cx)(r:V→Option Int→Option Int→Hp→VK→Prop):Prop:=
 ∀(pins:List (Addr×Obj)) (s:Shared) (σ:St) (H:Hp) (x:V) (v vl vu:Value) (lo hi:Option Int) (sl:Addr) (Q:VK),Inv X pins σ H s→bX x v→s.heap.IsSliceOf sl vl vu .none→IsPart vl lo→IsPart vu hi→r x lo hi H Q→
  ∃T id,typeLookup (.type T) "__getitem__"=pure (some (.builtin id))∧s.TypeIs v T∧wpAny (model X.prog X.w) X.A (getItem v (.ref sl)) (EP X pins σ Q) X.xe s
def tSl(r:V→Option Int→Option Int→Hp→VK→Prop)(te:TE)(tl th:TO):TE:=fun σ H Q=>te σ H fun x H1=>tl σ H1 fun l H2=>th σ H2 fun u H3=>r x l u H3 Q
theorem lN{r:V→Option Int→Option Int→Hp→VK→Prop}(hr:SlR X r)(he:PE X e te)(hl:PO X lo tl)(hu:PO X hi th):PE X (.Subscript e (.Slice lo hi none p2) pos) (tSl r te tl th):=by
 intro pins s σ H Q I h
 refine Subscript_ (thn (he pins s σ H _ I h) fun v s1 ⟨x,H1,I1,r1,q1⟩=> ?_)
 refine wpAny_Slice (thn (hl pins s1 σ H1 _ I1 q1) fun vl s2 ⟨l,H2,I2,pl,q2⟩=>thn (hu pins s2 σ H2 _ I2 q2) fun vu s3 ⟨u,H3,I3,pu,q3⟩=> ?_)
 rw [evalPart_none]
 refine wpAny_pure ?_
 have I4:Inv X pins σ H3 {s3 with heap:=s3.heap.push {cls:= .type "slice",data:= .fields #[vl,vu, .none]}}:=I3.kept (t':=s3.toks) fun b ob q=>Heap.get?_push_of_some _ q
 obtain ⟨T,id,hT,ht,hg⟩:=hr pins {s3 with heap:=s3.heap.push {cls:= .type "slice",data:= .fields #[vl,vu, .none]}} σ H3 x v vl vu l u s3.heap.objs.size Q I4 r1 (Heap.IsSliceOf.new ..) pl pu q3
 show wpAny (model X.prog X.w) X.A (subscriptTail e (.Slice lo hi none p2) v (.ref s3.heap.objs.size)) (EP X pins σ Q) X.xe {s3 with heap:=s3.heap.push {cls:= .type "slice",data:= .fields #[vl,vu, .none]}}
 exact tail_any (ops:=[.ref s3.heap.objs.size,v]) ht hT hg (by with_unfolding_all rfl)
def xN(xs:List V)(lo hi:Option Int):List V:=(xs.drop (HT.sIx xs.length 0 lo)).take (HT.sIx xs.length xs.length hi - HT.sIx xs.length 0 lo)
theorem qF(xs:List V)(lo hi:Option Int):(xN xs lo hi).length≤xs.length:=by
 unfold xN
 rw [abH,abx]
 omega
def Cf(K:PySem.W.Frag):R2:=fun x y H Q=>∃a b xs ys,x= .ref a∧y= .ref b∧SqT K H a xs∧SqT K H b ys∧xs≠[]∧xs.length+ys.length≤sizeLine∧
 (ys=[]→Q (.ref a) H)∧(ys≠[]→∀p,H p=none→Q (.ref p) (upd H p (.tup (xs++ys))))
theorem bN.nil_iff{xs:List V}{us:List Value}(r:bN xs us):us=[]↔xs=[]:=by
 cases r with
 | nil=>simp
 | cons _ _=>simp
theorem AS:OpR X (binaryOp .Add) (Cf X.K):=by
 intro pins s σ H x y v u Q I rx ry h
 obtain ⟨a,b,xs,ys,rfl,rfl,ha,hb,hx,hz,q1,q2⟩:=h
 cases rx
 cases ry
 obtain ⟨its,r1,p1,_⟩:=I.tuple ha
 obtain ⟨its2,r2,p2,_⟩:=I.tuple hb
 refine HT.Bw p1 p2 (fun z=>hx (r1.nil_iff.mp z)) (fun z=>⟨.ref a,H,I,rfl,q1 (r2.nil_iff.mp z)⟩) (fun z=> ?_) (by rw [←r1.length,←r2.length];exact hz)
 refine ⟨.ref s.heap.objs.size,_,I.laid (t':=s.toks) (o:= .tup (xs++ys)) (fun b ob q=>Heap.get?_push_of_some _ q) (aak _) ?_,rfl,q2 (fun w=>z (r2.nil_iff.mpr w)) _ (I.hok.fresh (aak _))⟩
 exact ⟨by rw [aap];exact hz,_,r1.append r2,IsTup.new _ _⟩
end
def ixN(n:Nat)(i:Int):Option Nat:=if 0≤i then (if i < n then some i.toNat else none) else if -(n:Int)≤i then some (i+n).toNat else none
def atI{α:Type}(xs:List α)(i:Int):Option α:=(ixN xs.length i).bind fun j=>xs[j]?
theorem wx{n:Nat}{i:Int}{j:Nat}(h:ixN n i=some j):seqIndex? i n=some j∧j < n∧ -(n:Int)≤i∧i < n:=by
 unfold ixN at h
 by_cases h0:0≤i
 ·rw [if_pos h0] at h
  by_cases h1:i < n
  ·rw [if_pos h1] at h
   have e:i.toNat=j:=aaw h
   exact ⟨by rw [seqIndex_of h0 h1,e],by omega,by omega,h1⟩
  ·rw [if_neg h1] at h;cases h
 ·rw [if_neg h0] at h
  by_cases h1: -(n:Int)≤i
  ·rw [if_pos h1] at h
   have e:(i+n).toNat=j:=aaw h
   exact ⟨by rw [seqIndex_neg (by omega) h1,e],by omega,h1,by omega⟩
  ·rw [if_neg h1] at h;cases h
theorem qJ{α:Type}{xs:List α}{i:Int}{v:α}(h:atI xs i=some v):∃j,seqIndex? i xs.length=some j∧xs[j]? =some v∧j < xs.length∧ -(xs.length:Int)≤i∧i < xs.length:=by
 unfold atI at h
 cases e:ixN xs.length i with
 | none=>rw [e] at h;cases h
 | some j=>
  rw [e] at h
  obtain ⟨h1,h2,h3,h4⟩:=wx e
  exact ⟨j,h1,h,h2,h3,h4⟩
theorem aI{α:Type}{xs:List α}{j:Nat}{v:α}(h:xs[j]? =some v):atI xs (j:Int)=some v:=by
 have hj:j < xs.length:=(aai.mp h).1
 have e:ixN xs.length (j:Int)=some j:=by
  unfold ixN
  rw [if_pos (by omega),if_pos (by omega)];simp
 unfold atI;rw [e];exact h
def qO(b:Expr):Prop:=∀o i,subscripted b false o i=operate [o,i] (getItem o i)
def IxR(X:Cx)(r:R2):Prop:=
 ∀(value slice:Expr) (pins:List (Addr×Obj)) (s:Shared) (σ:St) (H:Hp) (x y:V) (v u:Value) (Q:VK),Inv X pins σ H s→bX x v→bX y u→r x y H Q→
  subscripted slice false v u=operate [v,u] (getItem v u)→wpAny (model X.prog X.w) X.A (subscriptTail value slice v u) (EP X pins σ Q) X.xe s
def MtR(X:Cx)(id:String)(r:V→List V→Hp→VK→Prop):Prop:=
 ∀(pins:List (Addr×Obj)) (s:Shared) (σ:St) (H:Hp) (x:V) (xs:List V) (v:Value) (us:List Value) (Q:VK),Inv X pins σ H s→bX x v→bN xs us→r x xs H Q→
  wpAny (model X.prog X.w) X.A (call (.builtin id) (v::us)) (EP X pins σ Q) X.xe s
section
variable{X:Cx}{a b:Expr}{ta tb:TE}{pos:Pos}
theorem IxR.or{r r':R2}(h:IxR X r)(h':IxR X r'):IxR X (fun x y H Q=>r x y H Q∨r' x y H Q):=by
 intro value slice pins s σ H x y v u Q I rx ry q hs
 rcases q with q | q
 ·exact h value slice pins s σ H x y v u Q I rx ry q hs
 ·exact h' value slice pins s σ H x y v u Q I rx ry q hs
theorem EY{r:R2}(hr:IxR X r)(ha:PE X a ta)(hb:PE X b tb)(hs:qO b):PE X (.Subscript a b pos) (tOp r ta tb):=by
 intro pins s σ H Q I h
 exact Subscript_ (FV ha hb I h fun v u s2 x y H2 I2 rx ry q=>hr a b pins s2 σ H2 x y v u Q I2 rx ry q (hs _ _))
def Gy(K:PySem.W.Frag):R2:=fun x y H Q=>∃p xs i v,x= .ref p∧y= .int i∧SqL K H p xs∧atI xs i=some v∧Q v H
def Gw(K:PySem.W.Frag):R2:=fun x y H Q=>∃p xs i v,x= .ref p∧y= .int i∧SqT K H p xs∧atI xs i=some v∧Q v H
def Gx:R2:=fun x y H Q=>∃z i c,x= .str z∧y= .int i∧z.length≤sizeLine∧atI z.cps.toList i=some c∧Q (.str ⟨#[c]⟩) H
theorem Ba:IxR X (Gy X.K):=by
 intro value slice pins s σ H x y v u Q I rx ry h hs
 obtain ⟨p,xs,i,z,rfl,rfl,hq,he,q⟩:=h
 cases rx
 obtain ⟨t,rfl⟩:=ry
 obtain ⟨its,r,pl,hz⟩:=I.list hq
 obtain ⟨j,h1,h2,h3,h4,h5⟩:=qJ he
 obtain ⟨w,ew,rw'⟩:=r.get h2
 have hl:=r.length
 have hn:=kJ
 have fin:EP X pins σ Q w s:=⟨z,H,I,rw',q⟩
 by_cases h0:0≤i
 ·have hj:i.toNat=j:=by
   rw [seqIndex_of h0 h5] at h1
   exact aaw h1
  exact item_listR pl.isList h0 (by omega) (by rw [hj];simpa using ew) fin hs
 ·have hj:(i+(its.toArray.size:Int)).toNat=j:=by
   rw [seqIndex_neg (by omega) h4] at h1
   rw [aa1,←hl]
   exact aaw h1
  exact subscriptTail_builtinR (x:=w) pl.isList.typeIs slot_list_getitem.lookup
   (wpAny_getItem_list_neg (Q:=fun r s'=>r=w∧EP X pins σ Q r s') pl.isList (by omega) (by rw [List.size_toArray] <;> omega) (by omega) (by rw [hj];simpa using ew) ⟨rfl,fin⟩) hs
theorem Dk:IxR X (Gw X.K):=by
 intro value slice pins s σ H x y v u Q I rx ry h hs
 obtain ⟨p,xs,i,z,rfl,rfl,hq,he,q⟩:=h
 cases rx
 obtain ⟨t,rfl⟩:=ry
 obtain ⟨its,r,pl,hz⟩:=I.tuple hq
 obtain ⟨j,h1,h2,h3,h4,h5⟩:=qJ he
 obtain ⟨w,ew,rw'⟩:=r.get h2
 have hl:=r.length
 have hn:=kJ
 have fin:EP X pins σ Q w s:=⟨z,H,I,rw',q⟩
 exact subscriptTail_builtinR (x:=w) pl.typeIs slot_tuple_getitem.lookup
  (getItem_tuple (j:=j) (Q:=fun r s'=>r=w∧EP X pins σ Q r s') pl (by omega) (by omega) (by rw [List.size_toArray,←hl];exact h1) (by simpa using ew) ⟨rfl,fin⟩) hs
theorem Dm:IxR X Gx:=by
 intro value slice pins s σ H x y v u Q I rx ry h hs
 obtain ⟨z,i,c,rfl,rfl,hz,he,q⟩:=h
 obtain ⟨t,rfl⟩:=rx
 obtain ⟨t',rfl⟩:=ry
 obtain ⟨j,h1,h2,h3,h4,h5⟩:=qJ he
 have hl:z.cps.toList.length=z.length:=by simp [Str.length]
 rw [hl] at h1 h4 h5
 have hn:=kJ
 exact tail_any (typeIs_str s z t) slot_str_getitem.lookup (getItem_str (c:=c) (by
  have e1:decide (i < -(2 ^ 63:Int))=false:=decide_eq_false (by omega)
  have e2:decide (i ≥ 2 ^ 63)=false:=decide_eq_false (by omega)
  rw [e1,e2,Bool.or_false]) (by rw [h1];simpa using h2) ⟨.str ⟨#[c]⟩,H,I.tok _,⟨_,rfl⟩,q⟩) hs
def rIx(K:PySem.W.Frag):R2:=fun x y H Q=>Gy K x y H Q∨Gw K x y H Q∨Gx x y H Q
theorem Dp:IxR X (rIx X.K):=Ba.or (Dk.or Dm)
theorem tQ(its:List Value)(n j:Nat)(u:Value):Obj.mapSeq (·.setIfInBounds j u) {cls:= .type "list",data:= .seq its.toArray n}={cls:= .type "list",data:= .seq (its.set j u).toArray n}:=by
 simp [Obj.mapSeq]
theorem Inv.lst{pins:List (Addr×Obj)}{σ:St}{H:Hp}{s:Shared}{p:Addr}{xs:List V}(I:Inv X pins σ H s)(h:H p=some (.lst xs)):
  ∃(its:List Value) (n:Nat),bN xs its∧s.heap.get? p=some {cls:= .type "list",data:= .seq its.toArray n}∧xs.length≤sizeLine:=by
 obtain ⟨z,its,n,r,e⟩:=I.hok p _ h
 exact ⟨its,n,r,e,z⟩
theorem Inv.lstUpd{pins:List (Addr×Obj)}{σ:St}{H:Hp}{s:Shared}{p:Addr}{xs ys:List V}{its its':List Value}{n n':Nat}{f:Obj→Obj}(I:Inv X pins σ H s)(h:H p=some (.lst xs))
  (ho:s.heap.get? p=some {cls:= .type "list",data:= .seq its.toArray n}) (hf:f {cls:= .type "list",data:= .seq its.toArray n}={cls:= .type "list",data:= .seq its'.toArray n'}) (r:bN ys its') (hz:ys.length≤sizeLine) (t:Nat):
  Inv X pins σ (upd H p (.lst ys)) {s with heap:=s.heap.update p f,toks:=t}:=by
 have e:(s.heap.update p f).get? p=some {cls:= .type "list",data:= .seq its'.toArray n'}:=by
  rw [Heap.get?_update_self f ho (by rw [hf] <;> rfl),hf]
 refine I.write (x:=p) (e:=p) (by rw [h];trivial) (.inl rfl) (fun b u hb q=>(Heap.get?_update_other _ _ (Ne.symm hb)).trans q) ⟨_,e⟩ ?_
 exact ⟨hz,its',n',r,e⟩
def Ce:V→V→V→Hp→(Hp→Prop)→Prop:=fun o i v H Q=>∃p xs k j,o= .ref p∧i= .int k∧H p=some (.lst xs)∧ixN xs.length k=some j∧Q (upd H p (.lst (xs.set j v)))
theorem x3:G8 X Ce:=by
 intro pins s σ H o i v ov iv u Q I ro ri rv h
 obtain ⟨p,xs,k,j,rfl,rfl,hp,hj,q⟩:=h
 cases ro
 obtain ⟨t,rfl⟩:=ri
 obtain ⟨its,n,r,ho,hz⟩:=I.lst hp
 obtain ⟨h1,h2,h3,h4⟩:=wx hj
 have hl:=r.length
 have hn:=kJ
 have I':Inv X pins σ (upd H p (.lst (xs.set j v))) {s with heap:=s.heap.update p (Obj.mapSeq (·.setIfInBounds j u))}:=
  I.lstUpd hp ho (tQ its n j u) (r.set rv j) (by rw [abt];exact hz) s.toks
 by_cases h0:0≤k
 ·have hk:k.toNat=j:=by
   rw [seqIndex_of h0 h4] at h1
   exact aaw h1
  exact PySem.W.ki_setAt ho h0 (by omega) (by rw [aa1,←hl];exact h4) (by rw [hk];exact ⟨_,I',q⟩)
 ·have hk:(k+(its.toArray.size:Int)).toNat=j:=by
   rw [seqIndex_neg (by omega) h3] at h1
   rw [aa1,←hl]
   exact aaw h1
  exact PySem.W.ki_setBack ho (by omega) (by rw [aa1,←hl];exact h3) (by omega) (by rw [hk];exact ⟨_,I',q⟩)
theorem ng(lo hi:Option Int)(n:Nat):(sliceBounds lo hi none n).1=((HT.sIx n 0 lo:Nat):Int)∧(sliceBounds lo hi none n).2.1=((HT.sIx n n hi:Nat):Int)∧(sliceBounds lo hi none n).2.2=1:=by
 refine ⟨?_, ?_,rfl⟩
 ·cases lo with
  | none=>simp [sliceBounds,HT.sIx]
  | some i=>
   simp only [sliceBounds,HT.sIx,Option.getD_none,show (1:Int) > 0 by decide,if_true]
   by_cases h:i < 0
   ·simp only [h,if_true] <;> omega
   ·simp only [h,if_false] <;> omega
 ·cases hi with
  | none=>simp [sliceBounds,HT.sIx]
  | some i=>
   simp only [sliceBounds,HT.sIx,Option.getD_none,show (1:Int) > 0 by decide,if_true]
   by_cases h:i < 0
   ·simp only [h,if_true] <;> omega
   ·simp only [h,if_false] <;> omega
theorem lh(its:List Value)(lo hi:Option Int):slicePick its.toArray lo hi none=((its.drop (HT.sIx its.length 0 lo)).take (HT.sIx its.length its.length hi - HT.sIx its.length 0 lo)).toArray:=by
 obtain ⟨h1,h2,h3⟩:=ng lo hi its.toArray.size
 unfold slicePick
 rw [h1,h2,h3]
 simp only [sliceRange_one,pick_run,List.size_toArray] <;> rfl
def Ht(K:PySem.W.Frag):V→Option Int→Option Int→Hp→VK→Prop:=fun x lo hi H Q=>∃a xs,x= .ref a∧SqL K H a xs∧∀p,H p=none→Q (.ref p) (upd H p (.lst (xN xs lo hi)))
theorem pq:SlR X (Ht X.K):=by
 intro pins s σ H x v vl vu lo hi sl Q I rx hs pl pu h
 obtain ⟨a,xs,rfl,hx,q⟩:=h
 cases rx
 obtain ⟨its,r,ht,hz⟩:=I.list hx
 have hlen:=r.length
 refine ⟨"list",_,slot_list_getitem.lookup,ht.isList.typeIs, ?_⟩
 refine wpAny_getItem_list_slice ht.isList hs pl pu .none (by simp) ?_ (by rw [List.size_toArray] <;> omega)
 rw [lh,←hlen]
 refine ⟨.ref s.heap.objs.size,_,I.laid (t':=s.toks) (o:= .lst (xN xs lo hi)) (fun b ob q=>Heap.get?_push_of_some _ q) (aak _) ?_,rfl,q _ (I.hok.fresh (aak _))⟩
 exact ⟨aaz (qF xs lo hi) hz,_,0,(r.drop (HT.sIx xs.length 0 lo)).take (HT.sIx xs.length xs.length hi - HT.sIx xs.length 0 lo),Heap.get?_push_size _ rfl⟩
def fX:V→Bool
 | .non=>true
 | .bl _=>true
 | .int _=>true
 | .str _=>true
 | _=>false
def eqV:V→V→Bool
 | .non, .non=>true
 | .bl a, .bl b=>a==b
 | .bl a, .int b=>(if a then 1 else 0)==b
 | .int a, .bl b=>a==(if b then 1 else 0)
 | .int a, .int b=>a==b
 | .str a, .str b=>a==b
 | _,_=>false
theorem wM{A:Around}{s:Shared}{y x:V}{u v:Value}(ry:bX y u)(rx:bX x v)(fy:fX y=true)(fx:fX x=true):SeqAt.EqAt A s u v (eqV y x):=by
 cases y with
 | non=>
  cases ry
  cases x with
  | non=>cases rx;exact SeqAt.EqAt.same _
  | bl b=>cases rx;exact SeqAt.EqAt.none_bool b
  | int b=>obtain ⟨t,rfl⟩:=rx;exact SeqAt.EqAt.none_int b t
  | str b=>obtain ⟨t,rfl⟩:=rx;exact SeqAt.EqAt.none_str b t
  | _=>exact absurd (show false=true from fx) aau
 | bl a=>
  cases ry
  cases x with
  | non=>cases rx;exact SeqAt.EqAt.bool_none a
  | bl b=>cases rx;exact SeqAt.EqAt.bool_bool a b
  | int b=>obtain ⟨t,rfl⟩:=rx;exact SeqAt.EqAt.bool_int a b t
  | str b=>obtain ⟨t,rfl⟩:=rx;exact SeqAt.EqAt.bool_str a b t
  | _=>exact absurd (show false=true from fx) aau
 | int a=>
  obtain ⟨t',rfl⟩:=ry
  cases x with
  | non=>cases rx;exact SeqAt.EqAt.int_none a t'
  | bl b=>cases rx;exact SeqAt.EqAt.int_bool a t' b
  | int b=>obtain ⟨t,rfl⟩:=rx;exact SeqAt.EqAt.int_int a t' b t
  | str b=>obtain ⟨t,rfl⟩:=rx;exact SeqAt.EqAt.int_str a t' b t
  | _=>exact absurd (show false=true from fx) aau
 | str a=>
  obtain ⟨t',rfl⟩:=ry
  cases x with
  | non=>cases rx;exact SeqAt.EqAt.str_none a t'
  | bl b=>cases rx;exact SeqAt.EqAt.str_bool a t' b
  | int b=>obtain ⟨t,rfl⟩:=rx;exact SeqAt.EqAt.str_int a t' b t
  | str b=>obtain ⟨t,rfl⟩:=rx;exact SeqAt.EqAt.str_str a t' b t
  | _=>exact absurd (show false=true from fx) aau
 | _=>exact absurd (show false=true from fy) aau
def eqU(x:V)(u:Value):Bool:=match u with
 | .none=>eqV .non x
 | .bool b=>eqV (.bl b) x
 | .int i _=>eqV (.int i) x
 | .str z _=>eqV (.str z) x
 | _=>false
theorem zW{x y:V}{u:Value}(r:bX y u)(f:fX y=true):eqU x u=eqV y x:=by
 cases y with
 | non=>cases r;rfl
 | bl b=>cases r;rfl
 | int i=>obtain ⟨t,rfl⟩:=r;rfl
 | str z=>obtain ⟨t,rfl⟩:=r;rfl
 | _=>exact absurd (show false=true from f) aau
theorem qK{x:V}:∀{xs:List V} {us:List Value},bN xs us→xs.all fX=true→us.any (eqU x)=xs.any fun y=>eqV y x
 | _,_, .nil,_=>rfl
 | y::xs,u::us, .cons r t,f=>by
  rw [abF,aat] at f
  rw [abG,abG,zW r f.1,qK t f.2]
theorem lZ{A:Around}{s:Shared}{x:V}{v:Value}(rx:bX x v)(fx:fX x=true):∀{xs:List V} {us:List Value},bN xs us→xs.all fX=true→∀u∈us,SeqAt.EqAt A s u v (eqU x u)
 | _,_, .nil,_=>fun u hu=>by cases hu
 | y::xs,u::us, .cons r t,f=>fun u' hu=>by
  rw [abF,aat] at f
  rcases aaJ.mp hu with rfl | hu
  ·rw [zW r f.1];exact wM r rx f.1 fx
  ·exact lZ rx fx t f.2 u' hu
def inV(x:V)(xs:List V):Bool:=xs.any fun y=>eqV y x
def rIn(K:PySem.W.Frag)(neg:Bool):R2:=fun x y H Q=>∃p xs,y= .ref p∧(SqL K H p xs∨SqT K H p xs)∧fX x=true∧xs.all fX=true∧Q (.bl (if neg then !inV x xs else inV x xs)) H
theorem vC:OpR X (compareOp .In) (rIn X.K false):=by
 intro pins s σ H x y v u Q I rx ry h
 obtain ⟨p,xs,rfl,hq,fx,fs,q⟩:=h
 cases ry
 rcases hq with hq | hq
 ·obtain ⟨its,r,pl,hz⟩:=I.list hq
  refine SeqAt.in_listAt (eqU x) pl.isList (fun w hw=>lZ rx fx r fs w (by simpa using hw)) ⟨.bl _,H,I,rfl, ?_⟩
  rw [show its.toArray.any (eqU x)=its.any (eqU x) by simp,qK r fs]
  exact q
 ·obtain ⟨its,r,pl,hz⟩:=I.tuple hq
  refine SeqAt.in_tupleAt (eqU x) pl (fun w hw=>lZ rx fx r fs w (by simpa using hw)) ⟨.bl _,H,I,rfl, ?_⟩
  rw [show its.toArray.any (eqU x)=its.any (eqU x) by simp,qK r fs]
  exact q
theorem oI:fJ X (.builtin "len") (fun xs H Q=>∃p ys,xs=[.ref p]∧(SqL X.K H p ys∨SqT X.K H p ys)∧Q (.int ys.length) H):=by
 intro pins s σ H xs us Q I r h
 obtain ⟨p,ys,rfl,hq,q⟩:=h
 obtain ⟨u,rfl,rx⟩:=pj r
 cases rx
 have hn:=kJ
 rcases hq with hq | hq
 ·obtain ⟨its,r',pl,hz⟩:=I.list hq
  have hlen:=r'.length
  exact Calls.call_len_list pl.isList (by simp only [List.size_toArray] <;> omega) ⟨.int ys.length,H,I.tok _,⟨s.toks+1,by rw [List.size_toArray,hlen]⟩,q⟩
 ·obtain ⟨its,r',pl,hz⟩:=I.tuple hq
  have hlen:=r'.length
  exact len_tuple pl (by simp only [List.size_toArray] <;> omega) ⟨.int ys.length,H,I.tok _,⟨s.toks+1,by rw [List.size_toArray,hlen]⟩,q⟩
theorem oH:fJ X (.builtin "len") (fun xs H Q=>∃z,xs=[.str z]∧z.length≤sizeLine∧Q (.int z.length) H):=by
 intro pins s σ H xs us Q I r h
 obtain ⟨z,rfl,hz,q⟩:=h
 obtain ⟨u,rfl,t,rfl⟩:=pj r
 have hn:=kJ
 exact len_str (by omega) ⟨.int z.length,H,I.tok _,⟨_,rfl⟩,q⟩
theorem fJ.or{f:Value}{r r':List V→Hp→VK→Prop}(h:fJ X f r)(h':fJ X f r'):fJ X f (fun xs H Q=>r xs H Q∨r' xs H Q):=by
 intro pins s σ H xs us Q I rs q
 rcases q with q | q
 ·exact h pins s σ H xs us Q I rs q
 ·exact h' pins s σ H xs us Q I rs q
theorem oG:fJ X (.type "list") (fun xs H Q=>∃p ys,xs=[.ref p]∧(SqL X.K H p ys∨SqT X.K H p ys)∧∀l,H l=none→Q (.ref l) (upd H l (.lst ys))):=by
 intro pins s σ H xs us Q I r h
 obtain ⟨p,ys,rfl,hq,q⟩:=h
 obtain ⟨u,rfl,rx⟩:=pj r
 cases rx
 have fin:∀(its:List Value),bN ys its→ys.length≤sizeLine→∀(h':Heap) (c':Nat),(∀b o',s.heap.get? b=some o'→h'.get? b=some o')→
   h'.get? s.heap.objs.size=some {cls:= .type "list",dict:=none,data:= .seq its.toArray c',slots:= #[]}→EP X pins σ Q (.ref s.heap.objs.size) {s with heap:=h'}:=fun its r' hz h' c' kp e=>
  ⟨.ref s.heap.objs.size,_,I.laid (t':=s.toks) kp (aak _) (show cq X.prog X.w _ h' _ (.lst ys) from ⟨hz,its,c',r',e⟩),rfl,q _ (I.hok.fresh (aak _))⟩
 rcases hq with hq | hq
 ·obtain ⟨its,r',pl,hz⟩:=I.list hq
  have hlen:=r'.length
  obtain ⟨o,ho,hc,n,hd⟩:=pl.isList
  exact call_list_seq p (.inl rfl) ho hc hd (fun h' c' kp e=>fin its r' hz h' c' kp e) (by simp only [List.size_toArray] <;> omega)
 ·obtain ⟨its,r',pl,hz⟩:=I.tuple hq
  have hlen:=r'.length
  obtain ⟨o,ho,hc,n,hd⟩:=pl
  exact call_list_seq p (.inr rfl) ho hc hd (fun h' c' kp e=>fin its r' hz h' c' kp e) (by simp only [List.size_toArray] <;> omega)
def tyV(K:PySem.W.Frag)(T:String)(x:V)(H:Hp):Prop:=match x with
 | .str _=>T="str"
 | .int _=>T="int"
 | .ref p=>(T="list"∧∃xs,SqL K H p xs)∨(T="tuple"∧∃o,K.lookup p=some o∧o.cls= .type "tuple"∧o.dict=none)∨
   (T="dict"∧((∃kvs,H p=some (.dK kvs))∨∃kvs,H p=some (.dT kvs)))∨(T="set"∧∃S n,H p=some (.set S n))
 | _=>False
theorem BU{pins:List (Addr×Obj)}{σ:St}{H:Hp}{s:Shared}{T:String}{x:V}{v:Value}(I:Inv X pins σ H s)(r:bX x v)(ty:tyV X.K T x H):
  s.TypeIs v T∧∀a,v= .ref a→∃ob,s.heap.get? a=some ob∧ob.dict=none:=by
 cases x with
 | str z=>
  obtain ⟨t,rfl⟩:=r
  cases (show T="str" from ty)
  exact ⟨typeIs_str s z t,fun _ e=>nomatch e⟩
 | int i=>
  obtain ⟨t,rfl⟩:=r
  cases (show T="int" from ty)
  exact ⟨typeIs_int s i t,fun _ e=>nomatch e⟩
 | ref p=>
  cases r
  rcases ty with ⟨rfl,xs,hq⟩ | ⟨rfl,o,hk,hc,hd⟩ | ⟨rfl,hk⟩ | ⟨rfl,S,n,hk⟩
  ·obtain ⟨its,_,pl,_⟩:=I.list hq
   refine ⟨pl.isList.typeIs,fun a e=> ?_⟩
   cases e
   obtain ⟨o,n,e,c,hd,_⟩:=pl
   exact ⟨o,e,hd⟩
  ·refine ⟨⟨o,I.kIn p o hk,hc⟩,fun a e=> ?_⟩
   cases e
   exact ⟨o,I.kIn _ o hk,hd⟩
  ·have z:∃o,s.heap.get? p=some o∧o.ExactDict:=by
    rcases hk with ⟨kvs,hk⟩ | ⟨kvs,hk⟩
    ·obtain ⟨_,_,_,_,o,_,_,e,ex,_⟩:=I.hok p _ hk
     exact ⟨o,e,ex⟩
    ·obtain ⟨_,_,_,_,o,_,_,e,ex,_⟩:=I.hok p _ hk
     exact ⟨o,e,ex⟩
   obtain ⟨o,e,ex⟩:=z
   refine ⟨⟨o,e,ex.1⟩,fun a e2=> ?_⟩
   cases e2
   exact ⟨o,e,ex.2.1⟩
  ·obtain ⟨o,_,_,_,e,ex,_⟩:=I.hok p _ hk
   refine ⟨⟨o,e,ex.1⟩,fun a e2=> ?_⟩
   cases e2
   exact ⟨o,e,ex.2.1⟩
 | _=>exact False.elim ty
def tBM(K:PySem.W.Frag)(T:String)(r:V→List V→Hp→VK→Prop)(to:TE)(t:TA):TE:=fun σ H Q=>to σ H fun x H1=>tyV K T x H1∧t σ H1 fun xs H2=>r x xs H2 Q
variable{o e:Expr}{es:List Expr}{to:TE}{t:TA}{name:Str}{apos cpos:Pos}{T id:String}{r:V→List V→Hp→VK→Prop}
theorem EZ(pa:PlainAttrs T)(slot:Slot T name id)(hty:typeOf (.builtin id)=pure (.type "method_descriptor"))(hm:MtR X id r)(ho:PE X o to)(ha:PA X (e::es) t)
  (hbase:attributeBase o name X.env (eval o X.env)=eval o X.env:=by rfl)
  (hfew:((backTo cpos (starEach (e::es) X.env)).all (fun x=> !x.1)&&(backToKw cpos (keywordEach [] X.env)).all (fun x=>x.1.isSome)
   &&decide ((e::es).length+([]:List Keyword).length+(if ([]:List Keyword).isEmpty then 0 else 1) < 30))=true:=by rfl)
  (hline:(apos.endLine==cpos.line)=true:=by rfl) (hs:starEach (e::es) X.env=(false,eval e X.env)::starEach es X.env:=by rfl) (hplain:(backTo cpos (starEach es X.env)).any (·.1)=false:=by rfl):
  PE X (.Call (.Attribute o name apos) (e::es) [] cpos) (tBM X.K T r to t):=by
 intro pins s σ H Q I h
 refine wpAny_Call_method_late hbase hfew hline rfl (thn (ho pins s σ H _ I h) fun v s1 ⟨x,H1,I1,r1,ty,q1⟩=> ?_)
 obtain ⟨h1,h2⟩:=BU I1 r1 ty
 refine ⟨T,id,pa,slot,hty,h1,h2, ?_⟩
 have hA:=ha cpos pins s1 σ H1 _ I1 q1
 rw [hs] at hA⊢
 refine Calls.callWith_builtin (by show (false || (backTo cpos (starEach es X.env)).any (·.1))=false;rw [hplain] <;> rfl) (Calls.evalArgs_plain ?_)
 exact thn hA fun us s2 ⟨vs,H2,I2,r2,q2⟩=>hm pins s2 σ H2 x vs v us Q I2 r1 r2 q2
/- xs.append(e),list.index on a module's tuple .. are MtR facts of 06m -/
end
def MtM(X:Cx)(id:String)(r:V→List V→Hp→VK→Prop):Prop:=
 ∀(pins:List (Addr×Obj)) (s:Shared) (σ:St) (H:Hp) (x:V) (xs:List V) (v:Value) (us:List Value) (Q:VK),Inv X pins σ H s→bX x v→bN xs us→r x xs H Q→
  wpAny (model X.prog X.w) X.A (call (.builtin id) (v::us)) (EP X pins σ Q) X.xe s
theorem bN.one:∀{x:V} {us:List Value},bN [x] us→∃u,us=[u]∧bX x u
 | _,_, .cons r .nil=>⟨_,rfl,r⟩
theorem bN.rep{xs:List V}{us:List Value}(h:bN xs us):∀k:Nat,bN (List.replicate k xs).flatten (List.replicate k us).flatten
 | 0=> .nil
 | k+1=>by
  rw [aa0,aa0,abh,abh]
  exact bN.append h (bN.rep h k)
theorem ou(its:List Value):∀(k:Nat) (acc:List Value),
  List.foldl (fun x1 x2=>x1++x2) acc.toArray (List.replicate k its.toArray)=(acc++(List.replicate k its).flatten).toArray
 | 0,acc=>by simp
 | k+1,acc=>by
  have e:acc.toArray++its.toArray=(acc++its).toArray:=by simp
  have e2:(acc++its)++(List.replicate k its).flatten=acc++(List.replicate (k+1) its).flatten:=by
   rw [aa0,abh,List.append_assoc]
  rw [←e2,←ou its k (acc++its),←e,aa0,abD]
section
variable{X:Cx}{pins:List (Addr×Obj)}{σ:St}{H:Hp}{s:Shared}{l b:Addr}{xs ys zs:List V}
theorem Inv.lset{its its':List Value}{n:Nat}{f:Array Value→Array Value}{t':Nat}(I:Inv X pins σ H s)(hH:H l=some (.lst xs))
  (e:s.heap.get? l=some {cls:= .type "list",data:= .seq its.toArray n}) (hf:f its.toArray=its'.toArray) (hv:bN ys its') (hz:ys.length≤sizeLine):
  Inv X pins σ (upd H l (.lst ys)) {s with heap:=s.heap.update l (Obj.mapSeq f),toks:=t'}:=by
 have q:=PySem.IsL.update e f
 rw [hf] at q
 refine I.write (x:=l) (e:=l) (by rw [hH];exact trivial) (.inl rfl) (fun b' u hb hu=>(Heap.get?_update_other s.heap (Obj.mapSeq f) (Ne.symm hb)).trans hu) ⟨_,q⟩ ?_
 exact ⟨hz,its',_,hv,q⟩
theorem Inv.lnew{its:List Value}{t':Nat}(I:Inv X pins σ H s)(hv:bN ys its)(hz:ys.length≤sizeLine):
  Inv X pins σ (upd H s.heap.objs.size (.lst ys)) {s with heap:=s.heap.push {cls:= .type "list",data:= .seq its.toArray},toks:=t'}:=
 I.laid (fun _ _ q=>Heap.get?_push_of_some _ q) (aak _) ⟨hz,its,0,hv,Heap.get?_push_size _ rfl⟩
theorem Inv.fresh(I:Inv X pins σ H s):H s.heap.objs.size=none:=I.hok.fresh (aak _)
theorem Inv.lstM(I:Inv X pins σ H s)(hH:H l=some (.lst xs)):xs.length≤sizeLine∧∃(its:List Value) (n:Nat),bN xs its∧xs.length=its.length∧s.heap.get? l=some {cls:= .type "list",data:= .seq its.toArray n}:=by
 obtain ⟨z,its,n,r,e⟩:=I.hok l _ hH
 exact ⟨z,its,n,r,r.length,e⟩
theorem yr{n:Nat}(h:n≤sizeLine):Builtin.List.listTooLong n=false:=by
 unfold Builtin.List.listTooLong
 exact decide_eq_false (by omega)
end
section
variable{X:Cx}
def ve:V→List V→Hp→VK→Prop:=fun x vs H Q=>∃l xs y,x= .ref l∧vs=[y]∧H l=some (.lst xs)∧xs.length < sizeLine∧Q .non (upd H l (.lst (xs++[y])))
theorem jR:MtM X "list.append" ve:=by
 intro pins s σ H x vs v us Q I rx rv h
 obtain ⟨l,xs,y,rfl,rfl,hH,hz,q⟩:=h
 cases rx
 obtain ⟨u,rfl,ru⟩:=rv.one
 obtain ⟨z,its,n,r,hl,e⟩:=I.lstM hH
 refine call_meets F.slot_list_append ⟨_,e,rfl⟩ F.entry_list_append (F.args_list_append_2 _ _) (PySem.list_append l its.toArray n u (by rw [aa1];omega)) ⟨e, ?_⟩
 refine ⟨.non,_,I.lset (its':=its++[u]) hH e (by simp) (r.append (.cons ru .nil)) ?_,rfl,q⟩
 rw [aap,List.length_singleton]
 omega
def ES:R2:=fun x y H Q=>∃l b xs zs,x= .ref l∧y= .ref b∧H l=some (.lst xs)∧H b=some (.lst zs)∧xs.length+zs.length≤sizeLine∧∀p,H p=none→Q (.ref p) (upd H p (.lst (xs++zs)))
theorem zD:OpR X (binaryOp .Add) ES:=by
 intro pins s σ H x y v u Q I rx ry h
 obtain ⟨l,b,xs,zs,rfl,rfl,hH,hB,hz,q⟩:=h
 cases rx
 cases ry
 obtain ⟨z,its,n,r,hl,e⟩:=I.lstM hH
 obtain ⟨z2,its2,n2,r2,hl2,e2⟩:=I.lstM hB
 refine PySem.P.add_list e e2 ?_ (by rw [aa1,aa1];omega)
 have ea:its.toArray++its2.toArray=(its++its2).toArray:=by simp
 rw [ea]
 exact ⟨.ref _,_,I.lnew (t':=s.toks) (r.append r2) (by rw [aap];omega),rfl,q _ I.fresh⟩
def ER:R2:=fun x y H Q=>∃l k xs,x= .ref l∧y= .int k∧H l=some (.lst xs)∧ -(2 ^ 63)≤k∧k < 2 ^ 63∧xs.length * k.toNat≤sizeLine∧
 ∀p,H p=none→Q (.ref p) (upd H p (.lst (List.replicate k.toNat xs).flatten))
theorem A5{α:Type}(xs:List α)(k:Nat):(List.replicate k xs).flatten.length=k * xs.length:=by
 induction k with
 | zero=>simp
 | succ k ih=>rw [aa0,abh,aap,ih,Nat.succ_mul,Nat.add_comm]
theorem zA:OpR X (binaryOp .Mult) ER:=by
 intro pins s σ H x y v u Q I rx ry h
 obtain ⟨l,k,xs,rfl,rfl,hH,h1,h2,hz,q⟩:=h
 cases rx
 obtain ⟨t,rfl⟩:=ry
 obtain ⟨z,its,n,r,hl,e⟩:=I.lstM hH
 have hlen:its.toArray.size * k.toNat≤sizeLine:=by rw [aa1,←hl];exact hz
 have hcap:¬its.toArray.size * k.toNat > (2 ^ 63 - 1) / 8:=by
  have:(sizeLine:Nat)≤(2 ^ 63 - 1) / 8:=by decide
  omega
 have hfit:¬(!Builtin.List.listFitsIndex k)=true:=by
  rw [fitsIndex_both h1 h2]
  exact aau
 have hlong:¬Builtin.List.listTooLong (its.toArray.size * k.toNat)=true:=by
  rw [yr hlen]
  exact aau
 have hnew:List.foldl (fun x1 x2=>x1++x2) #[] (List.replicate (if its.toArray.isEmpty=true then 0 else k.toNat) its.toArray)=(List.replicate k.toNat its).flatten.toArray:=by
  have f0:∀m:Nat,List.foldl (fun x1 x2=>x1++x2) #[] (List.replicate m its.toArray)=(List.replicate m its).flatten.toArray:=fun m=>by
   have:=ou its m []
   rw [aaI] at this
   exact this
  rw [f0]
  cases its with
  | nil=>simp
  | cons a r'=>rw [if_neg (by simp)]
 refine wpAny_binaryOp_repeat_ref (T:="list") (U:="int") (by decide) ⟨_,e,rfl⟩ (fun s'=>typeIs_int s' k t) noFill_list_mul F.fills_int_mul F.slot_int_rmul repeat_list F.slot_int_index.lookup
  (call_meets F.slot_int_rmul (typeIs_int s k t) F.entry_int_rmul (F.args_int_rmul_2 _ _) (int___rmul___int_list k t l its.toArray n)
   ⟨e,rfl,⟨_,e,rfl⟩,call_meets F.slot_list_mul ⟨_,e,rfl⟩ F.entry_list_mul (F.args_list_mul_2 _ _) (AutoListH.list___mul___list_int_3 l its.toArray n k t hfit hcap hlong) ⟨e, ?_⟩⟩)
 rw [hnew]
 exact ⟨.ref _,_,I.lnew (t':=s.toks) (r.rep k.toNat) (by rw [A5,Nat.mul_comm];exact hz),rfl,q _ I.fresh⟩
end
end L2
namespace Att
open PySem PySem.W PySem.Calls PyProof.Rows
theorem j1{P:Params}{h:Heap}:∀(ns:List Int) (vs:List Value),WellAll P h vs (ns.map WData.int)→IntsAre vs ns:=by
 intro ns
 induction ns with
 | nil=>
  intro vs w
  rw [List.map_nil] at w
  cases w
  exact .nil
 | cons n ns ih=>
  intro vs w
  rw [aaN] at w
  cases w with
  | cons a b=>
   cases a
   exact .cons _ _ (ih _ b)
theorem uP{l:OpenLaw}{n:Nat}(hn:l.most=some n){P:Params}{h:Heap}{args:List WData}{vals:List Value}
  (hpre:l.row.toRowW.claim.pre args=true) (hwl:WellAll P h vals args):
  ∃a vs ns,vals=[Value.ref a]∧args=[WData.list (ns.map WData.int)]∧h.get? a=some {cls:= .type "list",data:= .seq vs.toArray}∧IntsAre vs ns∧ns.length≤n:=by
 have hsh:WShape.hasAll [] args [.list .int]=true:=(pre_splitW hpre).1
 have hc:l.pre.holds [] {args:=args}=true:=(pre_splitW hpre).2
 obtain ⟨d,r,rfl,h1,h2⟩:=hasAllW_cons hsh
 obtain rfl:=hasAllW_nil h2
 obtain ⟨xs,rfl,h3⟩:=hasW_list h1
 obtain ⟨ns,rfl⟩:=items_int h3
 have hlen:ns.length≤n:=by
  unfold OpenLaw.pre at hc
  have h4:(WTm.not (.lt (.lit (.int (n:Int))) (.len (.arg 0)))).holds [] {args:=[.list (ns.map .int)]}=true:=by
   have h4:=(holds_andW hc).1
   rw [hn] at h4
   exact h4
  have h5:=condW_of h4 (w_not (w_lt w_lit (w_len_list (w_arg rfl))))
  rw [aac] at h5
  refine Nat.le_of_not_lt fun q=> ?_
  have q':(n:Int) < ((ns.length:Nat):Int):=by omega
  first
   | (rw [decide_eq_true q'] at h5;exact absurd h5 (by decide))
   | (simp at h5;omega)
 cases hwl with
 | cons w1 w2=>
  cases w2
  cases w1 with
  | list ho hall=>exact ⟨_,_,ns,rfl,rfl,ho,j1 ns _ hall,hlen⟩
theorem vj(l:OpenLaw)(args:List WData):l.row.toRowW.claim.post args (.bool true) args=true:=
 postW_of (r:=l.row.toRowW) (X:=(true==true))
  (show WShape.has [] (.bool true) .bool=true by first | rfl | decide | simp [WShape.has,WShape.arms,WShape.armsAll])
  (show (WTm.eq .res (.lit (.bool true))).value [] {args:=args,res:=some (.bool true),after:=args}=some (.bool (true==true)) from w_eq_bool (w_res rfl) w_lit) rfl
theorem qI{l:OpenLaw}{n:Nat}{q:Program}{loose:List Str}{XP:(Str→Option Value)→Heap→Prop}{YP:World→Heap→Prop}{d:DefRec}
  (hn:l.most=some n) (hdf:d.params.defaults=[])
  (call:∀(w:World) (s₀ s₁:Shared) (mg mb:Str→Option Value) (fa:Addr) (o:Obj) (pm cd doc:Value) (a:Addr) (vs:List Value) (ns:List Int),
   Ground q loose [] XP w s₀ mg mb s₁.heap→YP w s₁.heap→
   s₁.heap.get? fa=some o→o.data= .func (docDef d.name d.params d.body d.scope pm cd doc)→s₁.heap.CodeRec cd d.name→mg d.name=some (.ref fa)→
   s₁.heap.get? a=some {cls:= .type "list",data:= .seq vs.toArray}→IntsAre vs ns→ns.length≤n→s₁.gens= #[]→
   codeAny (model l.prog w) callerA (.call (.ref fa) ⟨[.ref a],[]⟩) (fun r s'=>r= .ok (.ret (.bool true))∧OldK s₁.heap s'.heap∧s'.os=s₁.os∧AllBare s'.gens) s₁):
  WalkO q loose XP YP l.row.toRowW d [] (fun f vs=>PySem.call f vs):=by
 intro w s₀ s₁ mg mb G Y fa o pm cd doc dV kV ho hd hcd hD hmg hg args vals as hpre hlay hrd hwl hlo
 obtain rfl:dV= .none:=Dflts.none hD hdf
 obtain rfl:kV= .none:=Dflts.noKw hD
 obtain ⟨a,vs,ns,rfl,rfl,hobj,hints,hlen⟩:=uP hn hpre hwl
 refine enter_call (codeAny_mono (call w s₀ s₁ mg mb fa o pm cd doc a vs ns G Y ho (fd_plain hd) hcd hmg hobj hints hlen hg) fun r s' hq=> ?_)
 obtain ⟨rfl,h2,h3,h4⟩:=hq
 exact ⟨.inl ⟨.bool true, .bool true,[],rfl,fun _=>rfl, .bool true,vj l _,fun _=>⟨List.Pairwise.nil,fun _ hm=>(nomatch hm)⟩⟩,h2,h3,h4⟩
end Att
namespace L2
open PySem PySem.Spec PyProof.Rows
theorem mV:∀{vs:List Value} {ns:List Int},IntsAre vs ns→bN (ns.map V.int) vs
 | _,_, .nil=> .nil
 | _,_, .cons n t h=> .cons ⟨t,rfl⟩ (mV h)
def Gb(H:Hp):Prop:=∀b,H b=none∨∃o xs,H b=some (.frz o (.lst xs))
theorem yx{P:Program}{w:World}{K:PySem.W.Frag}{mg mb:Str→Option Value}{CX:CXT}{k:Nat}{fa a:Addr}{fd:FuncData}{x:Str}{sp:Sp}{s₁:Shared}{vs:List Value}{ns:List Int}
  (KX:K.In s₁.heap) (hns:s₁.heap.Ns mainGlobals mg) (hb:s₁.heap.Ns builtinsNs mb) (hbb:∀x:Str,x≠"__name__"→mb x=bootBuiltins x) (hlim:s₁.heap.NoLimit) (hg:s₁.gens= #[])
  (ha:s₁.heap.get? a=some {cls:= .type "list",data:= .seq vs.toArray}) (hi:IntsAre vs ns) (hl:ns.length≤sizeLine) (hr:eK k callerA)
  (F:∀base:Heap,K.In base→base.Ns mainGlobals mg→bA P w K mg base CX k fa fd [x] sp) (hbind:∀(s:Shared) (u:Value),BindsTo s fd ⟨[u],[]⟩ [(x,u)])
  (hsp:∀H:Hp,Gb H→SqL K H a (ns.map V.int)→sp [.ref a] H (fun v _=>v= .bl true) fun _ _ _=>False)
  (hCX:∀H e s',CX [] H s₁ (fun _ _ _=>False) e s'→False):
  codeAny (model P w) callerA (.call (.ref fa) ⟨[.ref a],[]⟩) (fun r s'=>r= .ok (.ret (.bool true))∧OldK s₁.heap s'.heap∧s'.os=s₁.os∧AllBare s'.gens) s₁:=by
 have rv:=mV hi
 have lenV:=hi.length
 have core:∀H:Hp,Gb H→SqL K H a (ns.map V.int)→HOk P w H s₁.heap→(∀b,H b≠none→b=a)→(H a≠none→K.lookup a=none)→
   codeAny (model P w) callerA (.call (.ref fa) ⟨[.ref a],[]⟩) (fun r s'=>r= .ok (.ret (.bool true))∧OldK s₁.heap s'.heap∧s'.os=s₁.os∧AllBare s'.gens) s₁:=by
  intro H hO hS hok hA hK
  have base_of:∀{b:Addr} {o:Obj},s₁.heap.get? b=some o→H b=none→(yD s₁.heap H).get? b=some o:=fun e n=>yC e n
  have noA:∀{b:Addr} {o:Obj} {es:Array DictEntry} {ep:Nat},s₁.heap.get? b=some o→o.data= .dict es ep→H b=none:=fun {b o es ep} e d=>by
   cases q:H b with
   | none=>rfl
   | some u=>
    have e':b=a:=hA b (by rw [q];simp)
    subst e'
    rw [ha] at e;cases e
    have d':Data.seq vs.toArray _=Data.dict es ep:=d
    cases d'
  have nsK:∀{b:Addr} {m:Str→Option Value},s₁.heap.Ns b m→(yD s₁.heap H).Ns b m:=fun {b m} ⟨o,es,ep,e,d,r⟩=>⟨o,es,ep,base_of e (noA e d),d,r⟩
  have hKb:K.In (yD s₁.heap H):=fun b o e=>base_of (KX b o e) (by
   cases q:H b with
   | none=>rfl
   | some u=>
    have e':b=a:=hA b (by rw [q];simp)
    subst e'
    rw [hK (by rw [q];simp)] at e;cases e)
  have hM:Mod K mg (yD s₁.heap H):=⟨hKb,nsK hns,⟨mb,nsK hb,hbb⟩,let ⟨mc,h1,h2⟩:=hlim;⟨mc,nsK h1,h2⟩⟩
  have e0:BJ P w K mg (yD s₁.heap H) callerA [] s₁ H:=⟨rfl,hM,fun b o e=>AV e,Nat.le_of_eq (wB _ _),trivial,fun b hb=>absurd (show b∈([]:List Addr) from hb) (by simp),hok, .of_eq hg⟩
  refine codeAny_mono ((F _ hKb (nsK hns)).run callerA [] s₁ H ⟨[.ref a],[]⟩ [.ref a] [.ref a] _ _ hr e0 (hbind s₁ (.ref a)) (.cons rfl .nil) (hsp H hO hS)) fun r s' h=> ?_
  cases r with
  | error e=>exact (hCX H e s' h).elim
  | ok fl=>
   cases fl with
   | next=>exact False.elim h
   | brk=>exact False.elim h
   | cont=>exact False.elim h
   | ret u=>
    obtain ⟨v,H',os,bare,un,hok',r',q⟩:=h
    have q':v= .bl true:=q
    subst q'
    obtain rfl:u=Value.bool true:=r'
    refine ⟨rfl,OldK.of_keep fun b o e=> ?_,os,bare⟩
    cases q:H b with
    | none=>exact un.keep b o e q (by intro z;exact absurd (show b∈([]:List Addr) from z) (by simp)) (by simp)
    | some u=>
     rcases hO b with z | ⟨ob,xs,z⟩
     ·rw [q] at z;cases z
     ·have z2:=un.frzs b ob _ z
      obtain ⟨e1,_⟩:=hok b _ z
      obtain ⟨e2,_⟩:=hok' b _ z2
      rw [e] at e1;cases e1
      exact e2
 cases hk:K.lookup a with
 | some o=>
  have e:=KX a o hk
  rw [ha] at e
  cases e
  refine core (fun _=>none) (fun _=> .inl rfl) (.inr ⟨_,vs.toArray,_,hk,rfl,rfl,rfl,by rw [List.size_toArray,lenV];exact hl,by simpa using rv⟩) (fun b u z=>by have z':(none:Option HO)=some u:=z;cases z') (fun b z=>absurd rfl z) fun z=>absurd rfl z
 | none=>
  refine core (fun b=>if b=a then some (.frz {cls:= .type "list",data:= .seq vs.toArray} (.lst (ns.map V.int))) else none) (fun b=> ?_) (.inl (.inr ⟨{cls:= .type "list",data:= .seq vs.toArray},if_pos rfl⟩)) (fun b u z=> ?_) (fun b z=> ?_) fun _=>hk
  ·by_cases hb:b=a
   ·exact .inr ⟨_,_,if_pos hb⟩
   ·exact .inl (if_neg hb)
  ·by_cases hb:b=a
   ·have z':=(if_pos hb).symm.trans z
    cases z'
    subst hb
    exact ⟨ha,by rw [aac];exact hl,vs,_,rv,ha⟩
   ·have z':=(if_neg hb).symm.trans z
    cases z'
  ·by_cases hb:b=a
   ·exact hb
   ·exact absurd (if_neg hb) z
theorem pf{l:PySem.W.OpenLaw}{n k:Nat}{q:Program}{loose:List Str}{XP:(Str→Option Value)→Heap→Prop}{YP:World→Heap→Prop}{d:DefRec}{K:Params→PySem.W.Frag}{CX:World→CXT}{sp:World→Sp}{x:Str}
  (hn:l.most=some n) (hn2:n≤sizeLine) (hdf:d.params.defaults=[]) (hr:eK k callerA)
  (hY:∀(w:World) (h:Heap),YP w h→(K w.params).In h)
  (F:∀(w:World) (mg:Str→Option Value) (fa:Addr) (h:Heap),(K w.params).In h→h.Ns mainGlobals mg→mg d.name=some (.ref fa)→
   ∃fd:FuncData,(∀(s:Shared) (u:Value),BindsTo s fd ⟨[u],[]⟩ [(x,u)])∧
    ∀base:Heap,(K w.params).In base→base.Ns mainGlobals mg→bA l.prog w (K w.params) mg base (CX w) k fa fd [x] (sp w))
  (hsp:∀(w:World) (H:Hp) (a:Addr) (ns:List Int),ns.length≤n→Gb H→SqL (K w.params) H a (ns.map V.int)→sp w [.ref a] H (fun v _=>v= .bl true) fun _ _ _=>False)
  (hCX:∀(w:World) (H:Hp) (s:Shared) (e:Value) (s':Shared),CX w [] H s (fun _ _ _=>False) e s'→False):
  PySem.W.WalkO q loose XP YP l.row.toRowW d [] (fun f vs=>PySem.call f vs):=by
 refine Att.qI hn hdf fun w s₀ s₁ mg mb fa o pm cd doc a vs ns G Y ho hd hcd hmg hobj hints hlen hg=> ?_
 have KX:=hY w _ Y
 obtain ⟨fd,hb,hF⟩:=F w mg fa _ KX G.T.g hmg
 exact yx KX G.T.g G.T.b G.T.builtins G.T.nolimit hg hobj hints (aaz hlen hn2) hr hF hb (fun H hO hS=>hsp w H a ns hlen hO hS) fun H e s'=>hCX w H s₁ e s'
end L2
/- THE LAST THEOREM (shape;LID,My.* are yours):
  My.Adr:a structure of the addresses that your layer names (classes,functions);My.Txt K t:a structure (Prop) of the equations uu K;
  My.txt_mk:{K} {implicit addresses ..} (e1:nsIn K mainGlobals "law"=some (some (.ref f))) (e2:K.lookup f=some ⟨oc,od, .func (fnOf "law" "law" params body scope dV kV doc pm an cdv ct),sl⟩) (e3:codeIn K cdv "law"=true) .. :∃t,My.Txt K t
set_option maxRecDepth 100000 in
set_option maxHeartbeats 0 in
theorem PySem.Challenge.cw_LID_holds : PySem.Challenge.rw_LID.Holds := by
 w_on;o_law;k_head;(case hw=>w_witness2)
 k_fill
 refine L2.pf (l:=PySem.Challenge.rw_LID) (n:=63) (k:=40) (x:="script") (CX:=fun w=> ..) (sp:=fun _=>My.sp_law) rfl (by decide) rfl ⟨rfl,by decide,by decide⟩ (fun w h Y=>PySem.W.kIn_of Y) ?F ?S ?C
 case F=>
  intro w mg fa h KX G hmg
  have T:∃t,My.Txt (L2.KOf KX) t:=by
   dsimp only [L2.KOf] -- K must stand as «<heap const> w.params» for k_is
   refine' My.txt_mk ?e1 ?e2 ?e3 ..
   (case e1=>PySem.W.k_is) -- in the order:a name->its address->its object->its parts
   (case e2=>PySem.W.k_is)
   ..
  obtain ⟨t,T⟩:=T
  have e0:=hmg.symm.trans (PySem.W.mg_of KX G T.law)
  cases e0 -- fa is the law's own address
  exact ⟨_,fun s u=> .of_eq rfl,fun base kb nb=>My.law_fn T kb nb⟩ -- if «.of_eq rfl» comes too early:refine' ⟨_, ?b,fun base kb nb=>My.law_fn T kb nb⟩;exact fun s u=> .of_eq rfl
 case S=>exact fun w H a ns hl hO hS=> ..
 case C=>exact ..
(the tactic k_is has no namespace:write k_is) -/
namespace L2
open PySem PySem.Spec PyProof.Rows
def iA(s:Stmt):Arguments:=match s with
 | .FunctionDef _ a _ _ _ _ _ _ _ _=>a
 | _=>{posonlyargs:=[],args:=[],vararg:=none,kwonlyargs:=[],kw_defaults:=[],kwarg:=none,defaults:=[]}
def fF(s:Stmt):List Stmt:=match s with
 | .FunctionDef _ _ b _ _ _ _ _ _ _=>b
 | _=>[]
def ag(s:Stmt):Scope:=match s with
 | .FunctionDef _ _ _ _ _ _ sc _ _ _=>sc
 | _=>{kind:= .function,names:=[],isGenerator:=false,isCoroutine:=false}
abbrev CX0:CXT:=fun _ _ _ _ _ _=>False
abbrev E0:XK:=fun _ _ _=>False
structure Fun(K:PySem.W.Frag)(x qual:Str)(st:Stmt)(f:Addr)(fd:FuncData):Prop where
 ex:∃(oc:Value) (od:Option Addr) (kV doc pm:Value) (an:Option Addr) (cdv ct:Value) (osl:Array (Option Value)),
  fd=PySem.W.fnOf x qual (iA st) (fF st) (ag st) .none kV doc pm an cdv ct∧K.lookup f=some ⟨oc,od, .func fd,osl⟩∧PySem.W.codeIn K cdv qual=true
 kp:PySem.W.keepIn K (.ref f)=true
section
variable{P:Program}{w:World}{K:PySem.W.Frag}{mg:Str→Option Value}{base:Heap}
theorem Fun.binds{x qual:Str}{st:Stmt}{f:Addr}{fd:FuncData}{ps:List Str}(F:Fun K x qual st f fd)
  (h:∀(kV doc pm:Value) (an:Option Addr) (cdv ct:Value) (us:List Value),us.length=ps.length→bindArgs (PySem.W.fnOf x qual (iA st) (fF st) (ag st) .none kV doc pm an cdv ct) ⟨us,[]⟩=pure (ps.zip us)):iS K fd ps []:=by
 obtain ⟨oc,od,kV,doc,pm,an,cdv,ct,osl,rfl,lk,hcd⟩:=F.ex
 exact .all (h kV doc pm an cdv ct)
theorem zT{x qual:Str}{st:Stmt}{f:Addr}{oc:Value}{od an:Option Addr}{osl:Array (Option Value)}{kV doc pm cdv ct:Value}(l:K.lookup f=some ⟨oc,od, .func (PySem.W.fnOf x qual (iA st) (fF st) (ag st) .none kV doc pm an cdv ct),osl⟩)
  (c:PySem.W.codeIn K cdv qual=true) (k:PySem.W.keepIn K (.ref f)=true):Fun K x qual st f (PySem.W.fnOf x qual (iA st) (fF st) (ag st) .none kV doc pm an cdv ct):=⟨⟨oc,od,kV,doc,pm,an,cdv,ct,osl,rfl,l,c⟩,k⟩
end
theorem wA{A:Around}{k:Nat}(hr:eK k A):A.units+1 < cLine:=aaO (Nat.add_le_add_left (by decide:1≤64) _) hr.units
theorem BM{A B:Prop}(h:B):if false=true then A else B:=by
 rw [if_neg aau]
 exact h
theorem BL{A B:Prop}(h:A):if true=true then A else B:=by
 rw [if_pos rfl]
 exact h
def gK(H H':Hp):Prop:=∀b o,H b=some o→H' b=some o
theorem gK.refl(H:Hp):gK H H:=fun _ _ h=>h
theorem gK.trans{H H1 H2:Hp}(a:gK H H1)(b:gK H1 H2):gK H H2:=fun c o h=>b c o (a c o h)
theorem gK.free{H H':Hp}(e:gK H H'){l:Addr}(h:H' l=Option.none):H l=Option.none:=by
 cases q:H l with
 | none=>rfl
 | some o=>
  rw [e l o q] at h
  cases h
theorem gK.seq{K:PySem.W.Frag}{H H':Hp}{a:Addr}{xs:List V}(e:gK H H')(h:SqL K H a xs):SqL K H' a xs:=by
 rcases h with (h | ⟨o,h⟩) | h
 ·exact .inl (.inl (e _ _ h))
 ·exact .inl (.inr ⟨o,e _ _ h⟩)
 ·exact .inr h
section
variable{P:Program}{w:World}
theorem cq.here{H:Hp}{h:Heap}{a:Addr}{o:HO}(x:cq P w H h a o):∃ob,h.get? a=some ob:=by
 cases o with
 | lst xs=>obtain ⟨_,_,_,_,e⟩:=x;exact ⟨_,e⟩
 | tup xs=>obtain ⟨_,_,_,ob,e,_⟩:=x;exact ⟨ob,e⟩
 | dK kvs=>obtain ⟨_,_,_,_,ob,_,_,e,_⟩:=x;exact ⟨ob,e⟩
 | dT kvs=>obtain ⟨_,_,_,_,ob,_,_,e,_⟩:=x;exact ⟨ob,e⟩
 | set S n=>obtain ⟨ob,_,_,_,e,_⟩:=x;exact ⟨ob,e⟩
 | ins C dx fs=>obtain ⟨_,_,_,e,_⟩:=x;exact ⟨_,e⟩
 | own y=>exact x
 | xd fs=>obtain ⟨_,⟨ob,_,_,e,_⟩,_⟩:=x;exact ⟨ob,e⟩
 | rng lo hi=>obtain ⟨_,_,_,e⟩:=x;exact ⟨_,e⟩
 | frz ob u=>obtain ⟨e,_⟩:=x;exact ⟨_,e⟩
 | tbl ps=>exact ⟨_,show h.get? a=some _ from x⟩
 | met f y=>exact ⟨_,show h.get? a=some _ from x⟩
 | ext φ=>obtain ⟨_,z,_⟩:=x;exact z
def FlA(B:Heap)(l:List Env)(x:Addr)(o:Obj)(fl:Value)(h:Heap):Prop:=
 B.StaysIn h∧B.get? x=none∧h.FunFrames B l∧∃(vs:Array Value) (T:Addr) (oT:Obj) (ts:Array Value),h.get? x=some {o with data:= .fields vs}∧vs[2]? =some .none∧vs[1]? =some (.ref T)∧
  B.get? T=none∧T≠x∧h.get? T=some oT∧oT.data= .fields ts∧ts[3]? =some fl
section
variable{M:Model}{A:Around}{E:Value→Shared→Prop}{s:Shared}{B:Heap}{env:Env}{outer l:List Env}{L x:Addr}{o:Obj}{vs:Array Value}{Q:Unit→Shared→Prop}
theorem ky{h h':Heap}{T:Addr}{oT:Obj}{ts:Array Value}(hT:h.get? T=some oT)(hd:oT.data= .fields ts)(k:∀b,b≠T→h'.get? b=h.get? b):h.UpToSlots h':=fun b ob e hn=>
 ⟨ob.slots,(k b fun z=>by rw [z,hT] at e;cases e;exact hn _ hd).trans e⟩
theorem oq{h h':Heap}(hl:h.FunFrames B l)(u:h.UpToSlots h'):h'.FunFrames B l:=hl.of_keeps fun b ob e hn=>by
 obtain ⟨sl,q⟩:=u b ob e hn
 exact ⟨_,q,rfl⟩
theorem sx{head:Value}{had:Bool}(hfr:A.frames=some (env::outer))(hf:env.frame=some L)(hB:B.StaysIn s.heap)(hn:B.get? x=none)(hl:s.heap.FunFrames B (env::outer))(hx:s.heap.get? x=some {o with data:= .fields vs})(h1:1 < vs.size)(h2:vs[2]? =some .none)
  (h:∀h',FlA B (env::outer) x o (rawInt L) h'→s.heap.UpToSlots h'→Q () {s with heap:=h'}):
  wpAny M A (do let a←frameOf env;let pl←entryPlaceOf L had;let n←EntryCells.newEntry head a .none (rawInt L) .none pl;setField (.ref x) 1 n) Q E s:=by
 refine wpAny_bind (wpAny_frameOf_fun hfr hl hf fun g1 S1=>wpAny_bind (wpAny_entryPlaceOf fun pl hpl=> ?_))
 have nx:x∉(env::outer).filterMap (·.frame):=fun z=>by
  obtain ⟨_,ob,e,d⟩:=hl.mem z
  rw [hx] at e;cases e
  exact d _ rfl
 have hx1:g1.get? x=some {o with data:= .fields vs}:=(S1.2.1 x nx).trans hx
 unfold EntryCells.newEntry newFields
 refine wpAny_bind (wpAny_newObj_type ?_ (hpl.sizeOk5 _ _ _ _ _))
 have hx2:=Heap.get?_push_of_some (h:=g1) {cls:= .type "traceback",dict:=none,data:= .fields ([head, .ref L, .none,rawInt L, .none]++(if pl.isEmpty then List.replicate 6 Value.none else pl)).toArray} hx1
 refine wpAny_setField hx2 rfl h1 (h _ ?_ ?_)
 ·have up1:∀b ob,b≠x→g1.get? b=some ob→((g1.push {cls:= .type "traceback",dict:=none,data:= .fields ([head, .ref L, .none,rawInt L, .none]++(if pl.isEmpty then List.replicate 6 Value.none else pl)).toArray}).update x (Obj.mapFields (·.setIfInBounds 1 (Value.ref g1.objs.size)))).get? b=some ob:=fun b ob nb e=>
   (Heap.get?_update_other _ _ (Ne.symm nb)).trans (Heap.get?_push_of_some _ e)
  have neT:g1.objs.size≠x:=abX (Heap.lt_size hx1)
  refine ⟨fun b ob e=>up1 b ob (fun z=>by rw [z,hn] at e;cases e) ((S1.2.1 b fun z=>by rw [(hl.mem z).1] at e;cases e).trans (hB b ob e)),hn,hl.of_keeps fun b ob e d=> ?_,vs.setIfInBounds 1 (.ref g1.objs.size),g1.objs.size,_,_,Heap.get?_update_self _ hx2 rfl,by rw [Array.getElem?_setIfInBounds_ne (by decide)];exact h2,by simp [h1], ?_,neT,
   (Heap.get?_update_other _ _ (Ne.symm neT)).trans (Heap.get?_push_size g1 rfl),rfl, ?_⟩
  ·obtain ⟨sl,q⟩:=S1.2.2 b ob e
   exact ⟨_,up1 b _ (fun z=>by rw [z,hx] at e;cases e;exact d _ rfl) q,rfl⟩
  ·cases q:B.get? g1.objs.size with
   | none=>rfl
   | some ob=>
    have:=Heap.lt_size (hB _ _ q)
    rw [←S1.1] at this
    exact absurd this (aaZ _)
  ·first
    | (simp;done)
    | (rcases hpl with rfl | ⟨_,_,_,_,_,_,_,rfl⟩ <;> simp)
 ·intro b ob e d
  obtain ⟨sl,q⟩:=S1.2.2 b ob e
  refine ⟨sl, ?_⟩
  rw [Heap.get?_update_other _ _ (fun z:x=b=>by rw [←z,hx] at e;cases e;exact d _ rfl)]
  exact Heap.get?_push_of_some _ q
theorem yK(hfr:A.frames=some (env::outer))(hf:env.frame=some L)(hB:B.StaysIn s.heap)(hn:B.get? x=none)(hl:s.heap.FunFrames B (env::outer))(hx:s.heap.get? x=some {o with data:= .fields vs})(h1:vs[1]? =some .none)(h2:vs[2]? =some .none)
  (h:∀h',FlA B (env::outer) x o (rawInt L) h'→s.heap.UpToSlots h'→Q () {s with heap:=h'}):wpAny M A (noteFrame (.ref x) env) Q E s:=by
 unfold noteFrame
 simp only [hf]
 refine wpAny_bind (wpAny_field hx rfl h1 ?_)
 rw [if_neg (by decide)]
 exact sx hfr hf hB hn hl hx (abw.mp h1).1 h2 h
theorem Fy(hfr:A.frames=some (env::outer))(hf:env.frame=some L)(R:FlA B (env::outer) x o .none s.heap)
  (h:∀h',FlA B (env::outer) x o (rawInt L) h'→s.heap.UpToSlots h'→Q () {s with heap:=h'}):wpAny M A (noteFrame (.ref x) env) Q E s:=by
 obtain ⟨hB,hn,hl,vs,T,oT,ts,hx,h2,h1,nT,nTx,hT,dT,h3⟩:=R
 unfold noteFrame
 simp only [hf]
 refine wpAny_bind (wpAny_field hx rfl h1 ?_)
 rw [if_pos (show (Value.ref T != Value.none)=true by simp)]
 refine wpAny_bind (wpAny_field hT dT h3 ?_)
 rw [if_neg (show¬((Value.none==rawInt L)=true) by simp [rawInt])]
 refine wpAny_bind (wpAny_setField hT dT (abw.mp h3).1 ?_)
 have oth:∀b,b≠T→(s.heap.update T (Obj.mapFields (·.setIfInBounds 3 Value.none))).get? b=s.heap.get? b:=fun b nb=>Heap.get?_update_other _ _ (Ne.symm nb)
 have u:=ky hT dT oth
 exact sx hfr hf (fun b ob e=>(oth b fun z=>by rw [z,nT] at e;cases e).trans (hB b ob e)) hn (oq hl u) ((oth x (Ne.symm nTx)).trans hx) (abw.mp h1).1 h2 fun h' F' u'=>h h' F' (u.trans u')
theorem wK{fl:Value}(R:FlA B l x o fl s.heap)(h:∀h',FlA B l x o .none h'→s.heap.UpToSlots h'→Q () {s with heap:=h'}):wpAny M A (setFlight (.ref x) none) Q E s:=by
 obtain ⟨hB,hn,hl,vs,T,oT,ts,hx,h2,h1,nT,nTx,hT,dT,h3⟩:=R
 unfold setFlight
 refine wpAny_bind (wpAny_field hx rfl h1 ?_)
 rw [if_pos (show (Value.ref T != Value.none)=true by simp)]
 have z3:=(abw.mp h3).1
 have oth:∀b,b≠T→(s.heap.update T (Obj.mapFields (·.setIfInBounds 3 ((none:Option Addr).elim Value.none fun f=>rawInt f)))).get? b=s.heap.get? b:=fun b nb=>Heap.get?_update_other _ _ (Ne.symm nb)
 have u:=ky hT dT oth
 refine wpAny_setField hT dT z3 (h _ ⟨fun b ob e=>(oth b fun z=>by rw [z,nT] at e;cases e).trans (hB b ob e),hn,oq hl u,vs,T,_,_,(oth x (Ne.symm nTx)).trans hx,h2,h1,nT,nTx,Heap.get?_update_self _ hT (Obj.isFreed_of_fields (Obj.data_mapFields dT _)),Obj.data_mapFields dT _,by simp [z3]⟩ u)
theorem zV{fl:Value}{h:Heap}(R:FlA B (env::outer) x o fl h):FlA B outer x o fl h:=by
 obtain ⟨hB,hn,⟨_,_,hl⟩,r⟩:=R
 exact ⟨hB,hn,hl,r⟩
end
structure Fly(P:Program)(w:World)(l:List Env)(H H':Hp)(h h' B:Heap)(x:Addr)(o:Obj):Prop where
 un:Un (frs l) [] H H' h h'
 ok:HOk P w H' B
 fly:FlA B l x o .none h'
 inB:∀b u,h.get? b=some u→H b=none→b∉frs l→B.get? b=some u
 thB:∀b u,h.get? b=some u→b∉frs l→∃u',B.get? b=some u'
variable{l:List Env}{H H':Hp}{h h' h'' B:Heap}{x:Addr}{o:Obj}
end
def CX1(P:Program)(w:World):CXT:=fun outer H s E e s'=>
 ∃x o H' B,e= .ref x∧s'.os=s.os∧AllBare s'.gens∧Fly P w outer H H' s.heap s'.heap B x o∧E o.cls o.dict H'
section
variable{X:Cx}{pins:List (Addr×Obj)}{σ:St}{H H':Hp}{s:Shared}{h'' B:Heap}{x:Addr}{ox:Obj}
theorem Fly.leave(I:Inv X pins σ H s)(hex:X.ex=[])(hst:∀b∈frs X.outer,b∈frs X.stack)(ok:HOk X.prog X.w H' B)(f:FlA B X.outer x ox .none h'')(nx0:X.s₀.heap.get? x=none)
  (inB:∀b o,b≠x→s.heap.get? b=some o→H b=none→b∉frs X.stack→B.get? b=some o)
  (thB:∀b o,b≠x→s.heap.get? b=some o→b∉frs X.stack→∃o',B.get? b=some o')
  (sl:∀b o,s.heap.get? b=some o→b∈frs X.stack→∃sl,h''.get? b=some {o with slots:=sl})
  (free:∀b o,s.heap.get? b=some o→H b=none→H' b=none)
  (tups:∀b xs,H b=some (.tup xs)→H' b=some (.tup xs)) (frzs:∀b o u,H b=some (.frz o u)→H' b=some (.frz o u))
  (tbls:∀b ps,H b=some (.tbl ps)→∃more,H' b=some (.tbl (ps++more))):Fly X.prog X.w X.outer X.H₀ H' X.s₀.heap h'' B x ox:=by
 have nX:∀b o,X.s₀.heap.get? b=some o→b≠x:=fun b o e z=>by rw [z,nx0] at e;cases e
 have noX:∀b:Addr,b∉X.ex:=fun b z=>by rw [hex] at z;cases z
 have nS:∀b o,X.s₀.heap.get? b=some o→b∉frs X.outer→b∉frs X.stack:=fun b o e hb z=>
  (aaJ.mp (I.stkSub b z)).elim (fun q=>aaA (aao (Heap.lt_size e) I.ok.above) q) hb
 refine ⟨⟨fun b o e n hb _=> ?_,fun b o e n hb _=> ?_,fun b o e n _=> ?_,fun b o e _=> ?_,fun b xs e=>tups b xs (I.base.tups b xs e),fun b o u e=>frzs b o u (I.base.frzs b o u e),fun b ps e=> ?_⟩,ok,f,fun b o e n hb=> ?_,fun b o e hb=> ?_⟩
 ·exact f.1 b o (inB b o (nX b o e) (I.base.keep b o e n hb (noX b)) (I.base.free b o e n (noX b)) (nS b o e hb))
 ·obtain ⟨s1,e1⟩:=I.base.slot b o e n hb (noX b)
  obtain ⟨s2,e2⟩:=sl b _ e1 (hst b hb)
  exact ⟨s2,e2⟩
 ·obtain ⟨o',e1⟩:=I.base.there b o e (noX b)
  exact free b o' e1 (I.base.free b o e n (noX b))
 ·obtain ⟨o',e1⟩:=I.base.there b o e (noX b)
  by_cases hb:b∈frs X.stack
  ·obtain ⟨s2,e2⟩:=sl b _ e1 hb
   exact ⟨_,e2⟩
  ·obtain ⟨o2,q⟩:=thB b o' (nX b o e) e1 hb
   exact ⟨o2,f.1 _ _ q⟩
 ·obtain ⟨m1,e1⟩:=I.base.tbls b ps e
  obtain ⟨m2,e2⟩:=tbls b _ e1
  exact ⟨m1++m2,by rw [e2,Array.append_assoc]⟩
 ·exact inB b o (nX b o e) (I.base.keep b o e n hb (noX b)) (I.base.free b o e n (noX b)) (nS b o e hb)
 ·obtain ⟨o',e1⟩:=I.base.there b o e (noX b)
  exact thB b o' (nX b o e) e1 (nS b o e hb)
end
def de(CX:CXT)(X:Cx)(R:St→XK):Prop:=∀(pins:List (Addr×Obj)) (σ:St) (H:Hp) (s:Shared) (e:Value) (s':Shared),Inv X pins σ H s→CX X.stack H s (R σ) e s'→X.xe e s'
def xH(X:Cx)(R:St→XK):Prop:=∀(pins:List (Addr×Obj)) (σ:St) (H:Hp) (s:Shared) (x:Addr) (o:Obj) (vs:Array Value),Inv X pins σ H s→s.heap.get? x=some {o with data:= .fields vs}→vs[1]? =some .none→vs[2]? =some .none→X.s₀.heap.get? x=none→H x=none→
 R σ o.cls o.dict H→X.xe (.ref x) s
section
variable{P:Program}{w:World}{K:PySem.W.Frag}{mg:Str→Option Value}{base:Heap}{N:List Str}{qual:Str}{scope:Scope}{f:Addr}{cd:Value}{A:Around}{outer:List Env}{s₀:Shared}{H₀:Hp}{E:XK}
theorem uM{env:Env}{outer:List Env}:∀b∈frs outer,b∈frs (env::outer):=fun b hb=>by
 obtain ⟨en,he,hf⟩:=abK.mp hb
 exact abK.mpr ⟨en,aad _ he,hf⟩
theorem aj:de (CX1 P w) (qE (CX1 P w) P w K mg base N qual scope f cd A outer s₀ H₀ E) (fun _=>E):=by
 intro pins σ H s e s' I hx
 obtain ⟨x,o,H',B,rfl,os,bare,F,hE⟩:=hx
 show wpAny _ _ (do noteFrame (.ref x) _;setFlight (.ref x) none) _ _ s'
 refine wpAny_bind (Fy (B:=B) I.ok.frames rfl F.fly fun h4 f4 u4=>wK f4 fun h5 f5 u5=> ?_)
 refine ⟨x,o,H',B,rfl,os.trans I.os,bare,Fly.leave I rfl uM F.ok (zV f5) ?_ (fun b o _=>F.inB b o) (fun b o _=>F.thB b o) (fun b o q hb=> ?_) (fun b o q n=>F.un.free b o q n (by simp)) F.un.tups F.un.frzs F.un.tbls,hE⟩
 ·show s₀.heap.get? x=none
  cases q:s₀.heap.get? x with
  | none=>rfl
  | some u=>
   obtain ⟨u',e1⟩:=I.base.there x u q (fun z=>nomatch z)
   by_cases hb:x∈frs (qE (CX1 P w) P w K mg base N qual scope f cd A outer s₀ H₀ E).stack
   ·obtain ⟨vs,_,_,_,hxx,_⟩:=F.fly.2.2.2
    obtain ⟨_,o',ho',hd⟩:=F.fly.2.2.1.mem hb
    rw [hxx] at ho';cases ho'
    exact absurd rfl (hd _)
   ·obtain ⟨u2,e2⟩:=F.thB x u' e1 hb
    rw [F.fly.2.1] at e2;cases e2
 ·obtain ⟨sl,e1⟩:=F.un.slot b o q (I.stkFree b hb) hb (by simp)
  obtain ⟨_,o',ho',hd⟩:=F.fly.2.2.1.mem hb
  rw [e1] at ho';cases ho'
  obtain ⟨sl2,e2⟩:=(u4.trans u5) b _ e1 hd
  exact ⟨sl2,e2⟩
theorem pN:xH (qE (CX1 P w) P w K mg base N qual scope f cd A outer s₀ H₀ E) (fun _=>E):=by
 intro pins σ H s x o vs I hx h1 h2 nx0 nH hE
 show wpAny _ _ (do noteFrame (.ref x) _;setFlight (.ref x) none) _ _ s
 have hin:∀env∈(qE (CX1 P w) P w K mg base N qual scope f cd A outer s₀ H₀ E).stack,∀b,env.frame=some b→b∈x::frs (qE (CX1 P w) P w K mg base N qual scope f cd A outer s₀ H₀ E).stack:=
  fun env he b hb=>aad _ (abK.mpr ⟨env,he,hb⟩)
 refine wpAny_bind (yK (B:=PySem.W.hideAll s.heap (x::frs (qE (CX1 P w) P w K mg base N qual scope f cd A outer s₀ H₀ E).stack)) I.ok.frames rfl (fun b o q=>PySem.W.of_hideAll _ q) (PySem.W.hideAll_none _ aae)
  (PySem.W.funFrames_hide I.stack hin) hx h1 h2 fun h4 f4 u4=>wK f4 fun h5 f5 u5=> ?_)
 have hid:∀b u,b≠x→s.heap.get? b=some u→b∉frs (qE (CX1 P w) P w K mg base N qual scope f cd A outer s₀ H₀ E).stack→(PySem.W.hideAll s.heap (x::frs (qE (CX1 P w) P w K mg base N qual scope f cd A outer s₀ H₀ E).stack)).get? b=some u:=
  fun b u nb q hb=>PySem.W.hideAll_get _ q fun z=>(aaJ.mp z).elim nb hb
 refine ⟨x,o,H,_,rfl,I.os,I.bare,Fly.leave I rfl uM (fun a o e=>(I.hok a o e).stay (fun b v hb q=> ?_) (fun _ q=>q) fun _ _ q=>q) (zV f5) nx0
  (fun b o nb q _ hb=>hid b o nb q hb) (fun b o nb q hb=>⟨o,hid b o nb q hb⟩) (fun b o q hb=> ?_) (fun _ _ _ n=>n) (fun _ _ q=>q) (fun _ _ _ q=>q) (fun b ps q=>⟨#[],by rw [q];simp⟩),hE⟩
 ·have tr:H b≠none:=fun n=>by
   rcases hb with hb | hb
   ·rw [hb,e] at n;cases n
   ·rw [hb] at n;cases n
  exact hid b v (fun z=>tr (by rw [z];exact nH)) q fun z=>tr (I.stkFree b z)
 ·obtain ⟨_,o',ho',hd⟩:=I.stack.mem hb
  rw [q] at ho';cases ho'
  exact (u4.trans u5) b o q hd
end
def B4(sp:Sp)(dvs:List V)(R:St→XK)(t:TA):TE:=fun σ H Q=>t σ H fun vs H1=>sp (vs++dvs) H1 Q (R σ)
section
variable{X:Cx}{CX:CXT}{k:Nat}{f:Addr}{fd:FuncData}{ps:List Str}{sp:Sp}{dvs:List V}{ds:List Value}{R:St→XK}{x:Str}{p pos:Pos}{e:Expr}{es:List Expr}{t:TA}
theorem pJ{pins:List (Addr×Obj)}{σ:St}{H:Hp}{s:Shared}{Q:VK}{us:List Value}{vs:List V}(F:bA X.prog X.w X.K X.mg X.base CX k f fd ps sp)(hr:eK k X.A)(hb:iS X.K fd ps ds)(hd:bN dvs ds)(hx:de CX X R)
  (I:Inv X pins σ H s) (r:bN vs us) (h:sp (vs++dvs) H Q (R σ)):wpAny (model X.prog X.w) X.A (call (.ref f) us) (EP X pins σ Q) X.xe s:=by
 have r2:bN (vs++dvs) (us++ds):=r.append hd
 have hl:(us++ds).length=ps.length:=by rw [←r2.length];exact F.len _ _ _ _ h
 refine wpAny_call (codeAny_mono (F.run X.A X.stack s H ⟨us,[]⟩ (us++ds) (vs++dvs) Q (R σ) hr I.env0 (hb s us I.kIn hl) r2 h) fun r s' hq=> ?_)
 cases r with
 | error e=>exact hx pins σ H s e s' I hq
 | ok fl=>
  cases fl with
  | ret u=>exact I.after hq
  | next=>exact False.elim hq
  | brk=>exact False.elim hq
  | cont=>exact False.elim hq
theorem yj(F:bA X.prog X.w X.K X.mg X.base CX k f fd ps sp)(hr:eK k X.A)(hg:Gl X x)(hm:X.mg x=some (.ref f))(hk:PySem.W.keepIn X.K (.ref f)=true)(hb:iS X.K fd ps ds)(hd:bN dvs ds)(hx:de CX X R)
  (ha:PA X (e::es) t) (hdb:(x==("__debug__":Str))=false:=by decide) (he:starEach (e::es) X.env=(false,eval e X.env)::starEach es X.env:=by rfl) (hpl:(backTo pos (starEach es X.env)).any (·.1)=false:=by rfl):
  PE X (.Call (.Name x p) (e::es) [] pos) (B4 sp dvs R t):=by
 intro pins s σ H Q I h
 refine wpAny_Call_Name_kw (mj I hg hm ?_ hdb)
 refine PySem.W.callWith_K (h₀:=X.base) I.ok.mod.kin hk (thn (ha pos pins s σ H _ I h) fun us s1 ⟨vs,H1,I1,r,q⟩=>⟨I1.kIn, ?_⟩) he hpl
 exact pJ F hr hb hd hx I1 r q
end
structure iM(K:PySem.W.Frag)(C:Addr)(bmB:List Value)(newId:String):Prop where
 ok:PySem.W.excIn K C bmB newId=true
theorem AZ{K:PySem.W.Frag}{N:Addr}{h0 h:Heap}{m:Str→Option Value}(q:PySem.W.nsOkIn K N=true)(X0:K.In h0)(X:K.In h)(n:h0.Ns N m):h.Ns N m:=by
 obtain ⟨o,es,ep,e,r⟩:=n
 cases z:K.lookup N with
 | none=>unfold PySem.W.nsOkIn at q;rw [z] at q;cases q
 | some ob=>
  have e0:=X0 _ _ z
  rw [e] at e0
  cases e0
  exact ⟨o,es,ep,X _ _ z,r⟩
theorem iM.obj{K:PySem.W.Frag}{C:Addr}{bmB:List Value}{newId:String}{h0:Heap}(c:iM K C bmB newId)(X0:K.In h0):
  ∃bm N nm q bs hdct sn sub ab col dd k0 k1 k2 k3 k5 mN,mN ("__init__":Str)=none∧
   ∀h:Heap,K.In h→h.get? C=some (excClassObj nm q C N bs bm hdct sn sub ab col dd k0 k1 k2 k3 k5 newId)∧h.Ns N mN∧OwnTail h bmB bm:=by
 have q:=c.ok
 unfold PySem.W.excIn at q
 split at q
 ·rename_i dd cd sl ho
  split at q
  ·rename_i C' bm k0 k1 k2 k3 n k5 hm hs
   rw [aat,aat,aat,aat,aat] at q
   obtain ⟨⟨⟨⟨⟨q1,q2⟩,q3⟩,q4⟩,q5⟩,q6⟩:=q
   cases beq_iff_eq.mp q1
   cases beq_iff_eq.mp q2
   have q3:cd.hasDel=false:=by simpa using q3
   have hsl:sl= #[k0,k1,k2,k3,some (.builtin newId),k5]:=by
    cases sl with | mk l=>exact congrArg Array.mk hs
   obtain ⟨c1,c2,c3,c4,c5,c6,c7,c8,c9,c10,c11⟩:=cd
   cases (show c3=_ from hm)
   cases (show c11=_ from q3)
   subst hsl
   refine ⟨bm,c4,c1,c5,c2,c6,c7,c8,c9,c10,dd,k0,k1,k2,k3,k5,h0.nsMap c4,PySem.W.nsMap_none_of_in X0 q5 (beq_iff_eq.mp q6),fun h X=>⟨X _ _ ho, ?_,PySem.W.tail_of_in X q4⟩⟩
   exact AZ q5 X0 X (.of_isNs (PySem.W.isNs_of_in X0 q5))
  ·cases q
 ·cases q
def BY(C:Addr)(R:St→XK)(t:TA):TS:=fun _ σ H=>t σ H fun vs H1=>vs.length≤sizeLine∧R σ (.ref C) none H1
section
variable{X:Cx}{C:Addr}{R:St→XK}{t:TA}{Bn newId initId:String}{bmB:List Value}{x:Str}{np cpos pos:Pos}{e:Expr}{es:List Expr}
theorem yc(hR:xH X R)(hc:X.calm=true)(hex:X.ex=[])(F:ExcBaseFacts Bn newId initId bmB)(c:iM X.K C bmB newId)(hg:Gl X x)(hm:X.mg x=some (.ref C))(ha:PA X (e::es) t)
  (hdb:(x==("__debug__":Str))=false:=by decide) (he:starEach (e::es) X.env=(false,eval e X.env)::starEach es X.env:=by rfl) (hpl:(backTo cpos (starEach es X.env)).any (·.1)=false:=by rfl):
  PS X (.Raise (some (.Call (.Name x np) (e::es) [] cpos)) none pos) (BY C R t):=by
 intro pins s σ H D I h
 obtain ⟨bm,N,nm,q,bs,hdct,sn,sub,ab,col,dd,k0,k1,k2,k3,k5,mN,hni,hob⟩:=c.obj I.kIn
 refine wpAny_Raise_call_subT (nm:=nm) (q:=q) (C:=C) (N:=N) (bs:=bs) (bm:=bm) (hdct:=hdct) (sn:=sn) (sub:=sub) (ab:=ab) (col:=col) (dd:=dd) (k0:=k0) (k1:=k1) (k2:=k2) (k3:=k3) (k5:=k5) F ((hob _ I.kIn).2.2.hasType F.hasBase) (I.ok.hd hc) (by rw [he];show (false || (backTo cpos (starEach es X.env)).any (·.1))=false;rw [hpl];rfl) hni (mj I hg hm ⟨rfl, ?_⟩ hdb)
 have h2:=ha cpos pins s σ H _ I h
 rw [he] at h2⊢
 refine Calls.evalArgs_plain (wpAny_mono h2 (fun us s2 z=> ?_) fun _ _ y=>y)
 obtain ⟨vs,H1,I1,r,hz,hq⟩:=z
 obtain ⟨g1,g2,g3⟩:=hob _ I1.kIn
 refine ⟨rfl,by rw [←r.length];exact hz,g1,g2,g3,fun h' x M=> ?_⟩
 obtain ⟨t,hx,_,_⟩:=M.there
 refine hR pins σ H1 {s2 with heap:=h'} x {cls:= .ref C,data:= .fields #[]} _ (I1.kept (t':=s2.toks) M.keeps) hx rfl rfl ?_ ?_ hq
 ·cases q:X.s₀.heap.get? x with
  | none=>rfl
  | some u=>
   obtain ⟨u',e1⟩:=I1.base.there x u q (by rw [hex];simp)
   rw [M.new] at e1;cases e1
 ·cases q:H1 x with
  | none=>rfl
  | some u=>
   obtain ⟨ob,e1⟩:=cq.here (I1.hok x u q)
   rw [M.new] at e1;cases e1
end
def mT(env:Env):List (Str×NameKind)→List (Str×Addr)→List (Str×Addr)
 | [],acc=>acc
 | p::r,acc=>mT env r (if p.2== .free then (p.1,(env.cells.lookup p.1).getD 0)::acc else acc)
theorem iC{scope:Scope}{env:Env}(h:∀p∈scope.names,p.2= .free→(env.cells.lookup p.1).isSome=true):closureFor scope env=pure (mT env scope.names []):=by
 have key:∀(l:List (Str×NameKind)) (acc:List (Str×Addr)),(∀p∈l,p.2= .free→(env.cells.lookup p.1).isSome=true)→
   (forIn l acc (fun (p:Str×NameKind) (r:List (Str×Addr))=>(if p.2== .free then (do let c←cellOf env p.1;pure (ForInStep.yield ((p.1,c)::r))) else pure (ForInStep.yield r):Sem (ForInStep (List (Str×Addr))))))=(pure (mT env l acc):Sem (List (Str×Addr))):=by
  intro l
  induction l with
  | nil=>intro acc _;rfl
  | cons p r ih=>
   intro acc hp
   rw [List.forIn_cons]
   have ih':=fun a=>ih a fun q hq=>hp q (aad _ hq)
   obtain ⟨n,k⟩:=p
   by_cases hk:k= .free
   ·subst hk
    have hs:=hp (n, .free) aae rfl
    cases hl:env.cells.lookup n with
    | none=>rw [show env.cells.lookup (n,NameKind.free).1=none from hl] at hs;cases hs
    | some c=>
     have e1:mT env ((n, .free)::r) acc=mT env r ((n,c)::acc):=by
      show mT env r (if (NameKind.free==NameKind.free)=true then (n,(env.cells.lookup n).getD 0)::acc else acc)=_
      rw [if_pos (by decide),hl]
      rfl
     have e2:cellOf env n=pure c:=by unfold cellOf;rw [hl]
     rw [e1]
     have e3:(NameKind.free==NameKind.free)=true:=by decide
     simp only [e3,if_true,e2,pure_bind]
     exact ih' _
   ·have hb:(k==NameKind.free)=false:=by simpa using hk
    have e1:mT env ((n,k)::r) acc=mT env r acc:=by
     show mT env r (if (k==NameKind.free)=true then (n,(env.cells.lookup n).getD 0)::acc else acc)=_
     rw [hb,if_neg (by decide)]
    rw [e1]
    simp only [hb,Bool.false_eq_true,if_false,pure_bind]
    exact ih' _
 have:=key scope.names [] h
 unfold closureFor
 first
  | exact this
  | (simp only [bind_pure];exact this)
  | (rw [bind_pure];exact this)
theorem j8{env:Env}{y:Str}{c:Addr}:∀(l:List (Str×NameKind)) (acc:List (Str×Addr)),(∀p∈l,p.2= .free→(env.cells.lookup p.1).isSome=true)→
  (acc.lookup y=some c→env.cells.lookup y=some c)→(mT env l acc).lookup y=some c→env.cells.lookup y=some c
 | [],acc,_,ha,h=>ha h
 | (n,k)::r,acc,hp,ha,h=>by
  refine j8 r _ (fun q hq=>hp q (aad _ hq)) (fun e=> ?_) h
  split at e
  ·rename_i hk
   rw [aby] at e
   cases q:(y==n) with
   | true=>
    rw [q] at e
    have e':(env.cells.lookup n).getD 0=c:=aaw e
    have hn:y=n:=by simpa using q
    subst hn
    have hs:=hp (y,k) List.mem_cons_self (by simpa using hk)
    cases z:env.cells.lookup y with
    | none=>rw [show env.cells.lookup (y,k).1=none from z] at hs;cases hs
    | some d=>rw [z] at e';rw [←e'];rfl
   | false=>rw [q] at e;exact ha e
  ·exact ha e
theorem hJ{env:Env}{y:Str}:∀(l:List (Str×NameKind)) (acc:List (Str×Addr)),((y,NameKind.free)∈l∨(acc.lookup y).isSome=true)→((mT env l acc).lookup y).isSome=true
 | [],acc,h=>by
  rcases h with h | h
  ·cases h
  ·exact h
 | (n,k)::r,acc,h=>by
  refine hJ r _ ?_
  by_cases hy:y=n
  ·subst hy
   by_cases hk:k= .free
   ·subst hk
    right
    show (List.lookup y (if (NameKind.free==NameKind.free)=true then (y,(env.cells.lookup y).getD 0)::acc else acc)).isSome=true
    rw [if_pos (by decide),aby,beq_self_eq_true]
    rfl
   ·rcases h with h | h
    ·rcases aaJ.mp h with z | z
     ·exact absurd (Prod.mk.inj z).2.symm hk
     ·exact .inl z
    ·right
     rw [if_neg (by simpa using hk)]
     exact h
  ·rcases h with h | h
   ·rcases aaJ.mp h with z | z
    ·exact absurd (Prod.mk.inj z).1 hy
    ·exact .inl z
   ·right
    split
    ·rw [List.lookup_cons,show (y==n)=false by simpa using hy]
     exact h
    ·exact h
def Cx.comp(X:Cx)(Nc:List Str)(scope:Scope)(C:Addr)(s:Shared)(H:Hp)(fp:List Addr):Cx:={X with
 N:=Nc
 s₀:=s
 H₀:=H
 env:=compEnvC scope (mT X.env scope.names []) C X.env
 outer:=X.stack
 ex:=fp
 fn:=fun _=>false
 pn:=[]
 xe:=fun _ _=>False}
structure cE(X:Cx)(scope:Scope)(x:Str)(ys:List Str)(caps:List Nat):Prop where
 kind:scope.kind= .function
 nocell:∀p∈scope.names,p.2≠ .cell
 names:∀p∈scope.names,p.2= .local→scope.names.lookup p.1=some .local
 own:scope.names.lookup x=some .local
 free:∀p∈scope.names,p.2= .free→X.env.scope.names.lookup p.1=some .cell
 nd:(x::ys).Nodup
 cap:∀q∈ys.zip caps,X.N[q.2]? =some q.1∧X.env.scope.names.lookup q.1=some .cell∧scope.names.lookup q.1=some .free
 len:ys.length=caps.length
theorem vb{env:Env}{y:Str}:∀{l:List (Str×NameKind)},(∀p∈l,p.2≠ .cell)→
  ((l.map fun (n,k)=>if (k==NameKind.free&&env.scope.kind== .function&&env.kindOf n==some .cell) then (n,NameKind.cell) else (n,k)).lookup y=some .cell∨
   (l.map fun (n,k)=>if (k==NameKind.free&&env.scope.kind== .function&&env.kindOf n==some .cell) then (n,NameKind.cell) else (n,k)).lookup y=some .free)→(y,NameKind.free)∈l
 | [],_,h=>by rcases h with h | h <;> cases h
 | (n,k)::r,hc,h=>by
  have ih:= @vb env y r (fun p hp=>hc p (aad _ hp))
  rw [aaN] at h
  by_cases q:(k==NameKind.free&&env.scope.kind== .function&&env.kindOf n==some .cell)=true
  ·have hk:k= .free:=by
    rw [aat,aat] at q
    simpa using q.1.1
   subst hk
   by_cases hy:y=n
   ·subst hy;exact aae
   ·refine aad _ (ih ?_)
    have hb:(y==n)=false:=by simpa using hy
    simp only [q,if_true,List.lookup_cons,hb] at h
    exact h
  ·by_cases hy:y=n
   ·subst hy
    have hb:(y==y)=true:=by simp
    simp only [q,Bool.false_eq_true,if_false,List.lookup_cons,hb] at h
    rcases h with h | h
    ·exact absurd (aaw h) (hc (y,k) aae)
    ·rw [←aaw h];exact aae
   ·refine aad _ (ih ?_)
    have hb:(y==n)=false:=by simpa using hy
    simp only [q,Bool.false_eq_true,if_false,List.lookup_cons,hb] at h
    exact h
theorem lH{env:Env}{y:Str}(hk:env.scope.kind= .function)(hy:env.kindOf y=some .cell):∀{l:List (Str×NameKind)},l.lookup y=some .free→
  (l.map fun (n,k)=>if (k==NameKind.free&&env.scope.kind== .function&&env.kindOf n==some .cell) then (n,NameKind.cell) else (n,k)).lookup y=some .cell
 | [],h=>by cases h
 | (n,k)::r,h=>by
  have ih:= @lH env y hk hy r
  rw [aaN]
  rw [aby] at h
  by_cases e:y=n
  ·subst e
   have hb:(y==y)=true:=by simp
   rw [hb] at h
   have:k= .free:=aaw h
   subst this
   have q:(NameKind.free==NameKind.free&&env.scope.kind== .function&&env.kindOf y==some .cell)=true:=by rw [hk,hy];rfl
   simp only [q,if_true,List.lookup_cons,hb]
  ·have hb:(y==n)=false:=by simpa using e
   rw [hb] at h
   by_cases q:(k==NameKind.free&&env.scope.kind== .function&&env.kindOf n==some .cell)=true
   ·simp only [q,if_true,List.lookup_cons,hb];exact ih h
   ·simp only [q,Bool.false_eq_true,if_false,List.lookup_cons,hb];exact ih h
theorem cE.has{X:Cx}{scope:Scope}{x:Str}{ys:List Str}{caps:List Nat}(S:cE X scope x ys caps)(ok:X.Ok):∀p∈scope.names,p.2= .free→(X.env.cells.lookup p.1).isSome=true:=fun p hp hf=>by
 obtain ⟨c,e⟩:=ok.has p.1 (.inl (S.free p hp hf))
 rw [e];rfl
theorem uv{α β:Type}:∀{xs:List α} {ys:List β} {j:Nat} {x:α} {y:β},xs[j]? =some x→ys[j]? =some y→(x,y)∈xs.zip ys
 | x::xs,y::ys,0,_,_,h1,h2=>by cases h1;cases h2;exact aae
 | x::xs,y::ys,j+1,_,_,h1,h2=>aad _ (uv (xs:=xs) (ys:=ys) (j:=j) h1 h2)
 | [],_,_,_,_,h1,_=>by simp at h1
 | _::_,[],_,_,_,_,h2=>by simp at h2
def hW(caps:List Nat)(σ:St):St:=caps.map fun i=>(σ[i]?).join
def y6(J:It)(te:TE)(cs:St)(Q:VK)(H1:Hp)(D:Addr):Prop:=
 ∃W:Nat→Nat→List V→Hp→Prop,(∃m,W 0 m [] (upd H1 D (.lst [])))∧∀i m ys H2,W i m ys H2→H2 D=some (.lst ys)∧
  ((J.stop i H2∧Q (.ref D) H2)∨(J.go i H2∧∀x H3,J.yld i H2 x H3→te (some x::cs) H3 fun y H4=>H4 D=some (.lst ys)∧ys.length < sizeLine∧∃m',m' < m∧W (i+1) m' (ys++[y]) (upd H4 D (.lst (ys++[y])))))
def B3(wi:TI)(te:TE)(caps:List Nat):TE:=fun σ H Q=>wi σ H fun J H1=>∀D,H1 D=none→y6 J te (hW caps σ) Q H1 D
section
variable{X:Cx}{elt iter:Expr}{x:Str}{px:Pos}{scope:Scope}{pos:Pos}{wi:TI}{te:TE}{ys:List Str}{caps:List Nat}
theorem sD(S:cE X scope x ys caps)(hc:X.calm=true)(he:∀C s H fp,PE (Cx.comp X (x::ys) scope C s H fp) elt te)
  {pins:List (Addr×Obj)} {σ:St} {H2:Hp} {s2:Shared} {it:Addr} {fp:List Addr} {tn:Nat→Heap→Prop} {J:It} {Q:V→Hp→Prop} {PQ:Value→Addr→Result→Shared→Prop} (I:Inv X pins σ H2 s2) (T:d8 X.prog X.w X.K (.Name x px) J fp it tn) (t0:tn 0 s2.heap) (f2:∀b∈fp,uo X pins H2 b)
  (h:∀D,H2 D=none→y6 J te (hW caps σ) Q H2 D)
  (hPQ:∀D C s' H',Inv X pins σ H' s'→Q (.ref D) H'→(∃m,s'.heap.Ns C m)→H' C=none→X.s₀.heap.objs.size≤C→C≠X.env.locals→(∀z c,X.env.cells.lookup z=some c→c≠C)→(∀p∈X.pn++pins,p.1≠C)→PQ (.ref D) C (.ok .next) s'):
  wpAny (model X.prog X.w) X.A (newList []) (fun acc s3=>wpAny (model X.prog X.w) X.A (newFunctionEnv scope X.env.globals (mT X.env scope.names []) [] X.env.qual none .none (some X.env)) (fun cenv s4=>
   codeAny (model X.prog X.w) X.A (.compStart (.ListComp elt [⟨.Name x px,iter,[],0⟩] scope pos) 0 (.ref it) acc {cenv with scope:=relabel scope X.env}) (PQ acc cenv.locals) s4) X.xe s3) X.xe s2:=by
 have hD:H2 s2.heap.objs.size=none:=I.fresh
 obtain ⟨W,⟨m0,w0⟩,step⟩:=h _ hD
 refine wpAny_newObj_type ?_
 have I3:Inv X pins σ (upd H2 s2.heap.objs.size (.lst [])) {s2 with heap:=s2.heap.push {cls:= .type "list",data:= .seq ([]:List Value).toArray}}:=Inv.lnew (t':=s2.toks) I (ys:=[]) (its:=[]) .nil (abM _)
 generalize hH3:upd H2 s2.heap.objs.size (.lst [])=H3 at I3 w0
 generalize hs3:({s2 with heap:=s2.heap.push {cls:= .type "list",data:= .seq ([]:List Value).toArray}}:Shared)=s3 at I3
 have hfp3:∀b∈fp,H3 b=none:=fun b hb=>by
  obtain ⟨o,e,_⟩:=T.obj _ _ t0 b hb
  rw [←hH3,av (aaA (Heap.lt_size e))]
  exact (f2 b hb).1
 have t3:tn 0 s3.heap:=T.keep _ _ _ t0 fun b hb o e=>by rw [←hs3];exact Heap.get?_push_of_some _ e
 refine wpAny_newFunctionEnv S.nocell (fun y hy=>nomatch hy) (fun h4 ns4 sb4=> ?_) S.kind
 have hC:H3 s3.heap.objs.size=none:=I3.fresh
 have kp:∀b o,s3.heap.get? b=some o→h4.get? b=some o:=fun b o e=>
  (sb4.2 b (aaA (Heap.lt_size e))).trans (Heap.get?_push_of_some _ e)
 generalize hs4:({s3 with heap:=h4,toks:=s3.toks+([]:List (Str×Value)).length}:Shared)=s4
 have e4:s4.heap=h4:=by rw [←hs4]
 have cne:∀z c,X.env.cells.lookup z=some c→c≠s3.heap.objs.size:=fun z c e q=>by
  obtain ⟨v,w⟩:=I3.cell z c e
  exact aaZ _ (q▸w.lt)
 have cl_in:∀z c,(mT X.env scope.names []).lookup z=some c→X.env.cells.lookup z=some c:=fun z c e=>j8 scope.names [] (S.has I.ok) (fun q=>nomatch q) e
 have Lne:s3.heap.objs.size≠X.env.locals:=abX I3.lt
 have ok:(Cx.comp X (x::ys) scope s3.heap.objs.size s3 H3 fp).Ok:=by
  refine ⟨I3.ok.mod,S.kind,I3.ok.glob,I3.ok.blt,aak _,fun z z' c e1 e2=>I3.ok.inj z z' c (cl_in z c e1) (cl_in z' c e2),fun z hz=> ?_,fun z c hz=>(by cases hz),I3.ok.hd,I3.ok.frames, .inl rfl,fun b hb=>⟨?_,fun z c e=> ?_⟩,I3.bs, ?_,fun b o e hb=> ?_,fun b hb hf=> ?_,I3.stack,I3.stkFree⟩
  ·have:=hJ (env:=X.env) scope.names [] (.inl (vb S.nocell hz))
   exact aa9.mp this
  ·obtain ⟨o,e,_⟩:=T.obj _ _ t3 b hb
   exact aaA (Heap.lt_size e)
  ·exact (f2 b hb).2.2.2.2.1 z c (cl_in z c e)
  ·exact aaz I3.ok.bsz I3.sz
  ·obtain ⟨_,_,_,hy,_⟩:=f2 b hb
   have e0:=(I3.ok.bs b o e).1
   rcases hy with hy | hy
   ·exact I3.ok.noex b o e hy
   ·exact absurd (aao (Heap.lt_size e0) hy) (aaZ _)
  ·obtain ⟨_,hl,hfs,_⟩:=f2 b hb
   exact (aaJ.mp (I3.stkSub b hf)).elim hl hfs
 have hlen:((none:Option V)::hW caps σ).length=(x::ys).length:=by
  rw [aas,aas,S.len]
  unfold hW
  rw [aac]
 have I4:Inv X pins σ H3 s4:=by
  rw [←hs4]
  exact I3.kept kp
 have Ic:Inv (Cx.comp X (x::ys) scope s3.heap.objs.size s3 H3 fp) [] ((none:Option V)::hW caps σ) H3 s4:=by
  refine ⟨ok,by rw [←hs4];rfl,I4.bare,Un.kept (by rw [e4];exact kp),⟨_,by rw [e4];exact ns4,fun i z v e1 e2 e3=> ?_⟩,fun z c e=>I4.cell z c (cl_in z c e),hC,fun z c e=>I4.freeC z c (cl_in z c e),(fun p hp=>nomatch hp),I4.hok,hlen⟩
  cases i with
  | zero=>cases e2
  | succ j=>
   have e1:ys[j]? =some z:=e1
   have e2:(hW caps σ)[j]? =some (some v):=e2
   unfold hW at e2
   rw [aaf] at e2
   cases hi:caps[j]? with
   | none=>rw [hi] at e2;cases e2
   | some i=>
    rw [hi] at e2
    have e2:(σ[i]?).join=some v:=aaw e2
    have e2:σ[i]? =some (some v):=by
     cases q:σ[i]? with
     | none=>rw [q] at e2;cases e2
     | some o=>rw [q] at e2;exact congrArg some e2
    obtain ⟨c1,c2,c3⟩:=S.cap (z,i) (uv e1 hi)
    have c4:=lH (env:=X.env) I.ok.kind c2 c3
    have c3:(z,NameKind.free)∈scope.names:=PySem.mem_of_lookup c3
    obtain ⟨m,hn,hl⟩:=I4.loc
    obtain ⟨u,r,lk⟩:=hl i z v c1 e2 (.inr (.inl c2))
    refine ⟨u,r, .inr ⟨.inl c4, ?_⟩⟩
    rcases lk with ⟨k,_⟩ | ⟨_,c,hc',z'⟩
    ·exact absurd ((show X.env.scope.names.lookup z=some .local from k).symm.trans c2) (by decide)
    ·obtain ⟨d,hd⟩:=aa9.mp (hJ (env:=X.env) scope.names [] (.inl c3))
     have:=cl_in z d hd
     rw [hc'] at this
     cases this
     exact ⟨c,hd,z'⟩
 have loop:codeAny (model X.prog X.w) X.A (.compLoop (.ListComp elt [⟨.Name x px,iter,[],0⟩] scope pos) 0 (.ref it) (.ref s2.heap.objs.size) (compEnvC scope (mT X.env scope.names []) s3.heap.objs.size X.env)) (PQ (.ref s2.heap.objs.size) s3.heap.objs.size) s4:=by
  have fpC:∀{H':Hp},(∀b∈fp,H' b=none)→∀b∈fp,uo (Cx.comp X (x::ys) scope s3.heap.objs.size s3 H3 fp) [] H' b:=fun hn b hb=>
   ⟨hn b hb,(ok.exf b hb).1,ok.exfs b hb, .inl hb,(ok.exf b hb).2,(fun p hp=>nomatch hp)⟩
  refine codeAny_loop rfl (fun n s'=>∃i zs v H',Inv (Cx.comp X (x::ys) scope s3.heap.objs.size s3 H3 fp) [] (v::hW caps σ) H' s'∧tn i s'.heap∧(∀b∈fp,H' b=none)∧W i n zs H') (fun n s5 z=> ?_) m0 ⟨0,[],none,H3,Ic,T.keep _ _ _ t3 (fun b hb o e=>by rw [e4];exact kp b o e),hfp3,w0⟩
  obtain ⟨i,zs,v,H5,I5,t5,fr5,w5⟩:=z
  show wpAny _ _ ((compTurn _ 0 (.ref it) _ _).onRaise _) _ _ s5
  refine wpAny_noted ?_
  rw [compTurn_list1]
  refine wpAny_bind (wpAny_standAt (wpAny_bind ?_))
  obtain ⟨hacc,stop | go⟩:=step i n zs H5 w5
  ·obtain ⟨stop,q⟩:=stop
   refine thn (T.done (Cx.comp X (x::ys) scope s3.heap.objs.size s3 H3 fp) rfl rfl rfl hc i [] s5 _ H5 _ I5 (fpC fr5) t5 stop) fun r s6 ⟨hr,I6⟩=> ?_
   subst hr
   refine wpAny_pure (hPQ _ _ s6 H5 ?_ q ?_ I6.free ?_ Lne cne fun p hp z=> ?_)
   ·refine I3.call' I6.os I6.base I6.hok I6.bare fun b hb=> ?_
    obtain ⟨_,g1,_,g3,g4,g5⟩:=f2 b hb
    exact ⟨g3,g1,g4,g5⟩
   ·obtain ⟨m,hn,_⟩:=I6.loc
    exact ⟨m,hn⟩
   ·exact I3.sz
   ·exact aaA (Heap.lt_size (I3.pin p hp).1) z
  ·obtain ⟨go,turn⟩:=go
   refine thn (T.item (Cx.comp X (x::ys) scope s3.heap.objs.size s3 H3 fp) rfl rfl rfl hc i [] s5 _ H5 _ I5 (fpC fr5) t5 go) fun r s6 ⟨u,hr,h6⟩=> ?_
   subst hr
   refine wpAny_bind (thn h6 fun _ s7 ⟨y,H7,I7,r7,y7,t7,fr7⟩=> ?_)
   have I7':=I7.pinned (fpC fr7) (T.obj _ _ t7)
   have hg:PG (Cx.comp X (x::ys) scope s3.heap.objs.size s3 H3 fp) (.Name x px) (iu 0):=aJ S.nd rfl (.inl (lookup_relabel_local S.own)) (.inr (lookup_relabel_local S.own))
   refine wpAny_bind (wpAny_mono (hg _ s7 _ H7 y u (fun σ' H'=>σ'=some y::hW caps σ∧H'=H7) I7' r7 ⟨rfl,rfl⟩) (fun _ s8 z8=> ?_) fun _ _ f=>f.elim)
   obtain ⟨σ8,H8,I8,e8,e8'⟩:=z8
   subst e8 e8'
   refine wpAny_bind (wpAny_bind (wpAny_mono (he _ _ _ _ _ s8 _ _ _ I8 (turn y _ y7)) (fun u9 s9 z9=> ?_) fun _ _ f=>f.elim))
   obtain ⟨v9,H9,I9,r9,a9,l9,m9,hm9,w9⟩:=z9
   refine wpAny_bind (wpAny_mono (jR (X:=Cx.comp X (x::ys) scope s3.heap.objs.size s3 H3 fp) _ s9 _ H9 (.ref s2.heap.objs.size) [v9] _ [u9] (fun _ H'=>H'=upd H9 s2.heap.objs.size (.lst (zs++[v9]))) I9 rfl (.cons r9 .nil) ⟨_,zs,v9,rfl,rfl,a9,l9,rfl⟩) (fun _ s10 z10=> ?_) fun _ _ f=>f.elim)
   obtain ⟨_,H10,I10,_,e10⟩:=z10
   subst e10
   refine wpAny_pure (wpAny_pure ⟨rfl,m9,hm9,i+1,zs++[v9],some y,_,I10.unpinned,T.keep _ _ _ t7 fun b hb o e=>(I10.pin (b,o) (aax _ (aax _ (dH hb e)))).1,fun b hb=> ?_,w9⟩)
   obtain ⟨o,e,_⟩:=T.obj _ _ t7 b hb
   exact (I10.pin (b,o) (aax _ (aax _ (dH hb e)))).2.1
 exact codeAny_compStart_list loop (T.self X.A 0 _ _ _ (T.keep _ _ _ t3 (fun b hb o e=>by rw [e4];exact kp b o e)) loop)
theorem vx(S:cE X scope x ys caps)(hc:X.calm=true)(hi:PI X (.Name x px) iter wi)(he:∀C s H fp,PE (Cx.comp X (x::ys) scope C s H fp) elt te)(hs:∀x,foldedSetIterable iter X.env x=pure x:=by intro _;rfl):
  PE X (.ListComp elt [⟨.Name x px,iter,[],0⟩] scope pos) (B3 wi te caps):=by
 intro pins s σ H Q I h
 rw [eval_ListComp]
 refine wpAny_comprehension_free (use:=none) rfl hs (iC (S.has I.ok)) S.kind S.names (thn (hi pins s σ H _ I h) fun v s1 h1=>thn h1 fun itv s2 h2=> ?_)
 obtain ⟨it,fp,tn,J,H2,rfl,I2,T,t0,f2,q⟩:=h2
 refine sD S hc he (Q:=Q) I2 T t0 f2 q fun D C s' H' I' q' n' hC hz hL hcc hp=> ?_
 obtain ⟨m,n'⟩:=n'
 exact ⟨m,n',fun h' sb=>⟨.ref D,H',I'.turned (it:=C) (t':=s'.toks) (fun b o hb e=>(sb.2 b hb).trans e) hC hL (.inr hz) hcc hp,rfl,q'⟩⟩
def xU(i:Nat)(wi:TI)(te:TE)(caps:List Nat):TS:=fun D σ H=>B3 wi te caps σ H fun v H1=>D.nx (σ.set i (some v)) H1
theorem kH{i:Nat}{y:Str}{py spos:Pos}(hN:X.N.Nodup)(hiy:X.N[i]? =some y)(hy:Loc X.env.scope y)(S:cE X scope x ys caps)(hc:X.calm=true)(hi:PI X (.Name x px) iter wi)(he:∀C s H fp,PE (Cx.comp X (x::ys) scope C s H fp) elt te)
  (hsw:swapsWith (.ListComp elt [⟨.Name x px,iter,[],0⟩] scope pos) (some (.Name y py)) spos.line X.env=pure true:=by rfl) (hs:∀x,foldedSetIterable iter X.env x=pure x:=by intro _;rfl)
  (hf:X.fn y=true∨X.env.scope.names.lookup y=some .local:=by first | exact .inl rfl | exact .inr rfl | assumption):
  PS X (.Assign [.Name y py] (.ListComp elt [⟨.Name x px,iter,[],0⟩] scope pos) spos) (xU i wi te caps):=by
 intro pins s σ H D I h
 rw [exec_Assign_Name_used _ _ _ _ hsw]
 refine wpAny_bind (wpAny_standAt (wpAny_bind ?_))
 show wpAny _ _ (do let _←comprehension (.ListComp elt [⟨.Name x px,iter,[],0⟩] scope pos) scope X.env _ (newList []) false (eval iter X.env) (some (assign (.Name y py) X.env))) _ _ s
 refine wpAny_bind (wpAny_mono (wpAny_comprehension_free (use:=some (assign (.Name y py) X.env)) (Q:=fun _ s'=>SP X pins D .next s') rfl hs (iC (S.has I.ok)) S.kind S.names (thn (hi pins s σ H _ I h) fun v s1 h1=>thn h1 fun itv s2 h2=> ?_)) (fun _ s' hq=>wpAny_pure (wpAny_pure hq)) fun _ _ e=>e)
 obtain ⟨it,fp,tn,J,H2,rfl,I2,T,t0,f2,q⟩:=h2
 refine sD S hc he (Q:=fun v H1=>D.nx (σ.set i (some v)) H1) I2 T t0 f2 q fun Dl C s' H' I' q' n' hC hz hL hcc hp=> ?_
 obtain ⟨m,n'⟩:=n'
 show wpAny _ _ (assign (.Name y py) X.env (.ref Dl)) _ _ s'
 refine wpAny_assign_Name (m8 I' hN hiy hy (v:= .ref Dl) rfl (fun s3 I3 sb3=> ?_) hf)
 obtain ⟨a,sb3,ha⟩:=sb3
 have hCa:C≠a:=by
  rcases ha with rfl | ha
  ·exact hL
  ·exact (hcc _ _ ha).symm
 exact ⟨m,n'.sameBut sb3 hCa,fun h' sb=>⟨_,H',I3.turned (it:=C) (t':=s3.toks) (fun b o hb e=>(sb.2 b hb).trans e) hC hL (.inr hz) hcc hp,q'⟩⟩
end
section
variable{P:Program}{w:World}{K:PySem.W.Frag}{mg:Str→Option Value}{base:Heap}
theorem Fun.okX{x qual:Str}{st:Stmt}{f:Addr}{fd:FuncData}{N ps:List Str}{k:Nat}{sp:Sp}(F:Fun K x qual st f fd)(S:ar N ps (ag st))(len:∀vs H Q E,sp vs H Q E→vs.length=ps.length)
  (hbody:∀(cdv:Value) (A:Around) (outer:List Env) (s:Shared) (H:Hp) (vs:List V) (Q:VK) (E:XK),eK k (A.deeper (envOfC qual (ag st) s.heap.objs.size f cdv))→sp vs H Q E→
   ∃t,PSs (qE (CX1 P w) P w K mg base N qual (ag st) f cdv A outer s H E) (fF st) t∧t {nx:=fun _ H'=>Q .non H',rt:=Q} (start N vs) H):bA P w K mg base (CX1 P w) (k+1) f fd ps sp:=by
 obtain ⟨oc,od,kV,doc,pm,an,cdv,ct,osl,rfl,lk,hcd⟩:=F.ex
 exact Fx lk hcd S len fun A outer s H vs Q E hr hsp=>hbody cdv A outer s H vs Q E hr hsp
end
theorem dU{X:Cx}{P:Program}{w:World}:de (CX1 P w) X (fun _=>E0):=by
 intro pins σ H s e s' _ hx
 obtain ⟨_,_,_,_,_,_,_,_,hE⟩:=hx
 exact hE.elim
theorem log2_lt{n:Nat}{k:Nat}(h:n < 2 ^ k)(hk:0 < k):n.log2 < k:=by
 by_cases h0:n=0
 ·rw [h0,show Nat.log2 0=0 from rfl];exact hk
 ·exact (Nat.log2_lt h0).mpr h
def Big(i:Int):Prop:=i.natAbs < 2 ^ 8000
theorem vO{i j:Int}(hi:Big i)(hj:Big j):IntMulOk i j:=by
 have b:∀{i:Int},Big i→Builtin.Int.intBits i≤8000:=fun {i} h=>by
  unfold Builtin.Int.intBits
  split
  ·exact abM _
  ·have:=log2_lt (k:=8000) h (by decide)
   omega
 have b1:=b hi
 have b2:=b hj
 have h3:Builtin.Int.intTooBig (Builtin.Int.intBits i+Builtin.Int.intBits j)=false:=by
  unfold Builtin.Int.intTooBig
  refine decide_eq_false ?_
  have:(bitsLine:Int)=134217728:=by decide
  omega
 unfold IntMulOk
 rw [h3,Bool.and_false]
 exact aau
section
variable{X:Cx}
theorem AR:OpR X (binaryOp .Mult) (rI (fun i j=>Big i∧Big j) fun i j=> .int (i * j)):=opI fun _ _ _ _ _ _ _ hc q=>mul_int q (vO hc.1 hc.2)
theorem rN:OpR X (binaryOp .FloorDiv) (rI (fun _ j=>j≠0∧Big j) fun i j=> .int (i.fdiv j)):=opI fun _ _ _ _ _ _ _ hc q=>
 floordiv_int hc.1 q (.inl (PyProof.noPylong_of_log2 (aao (log2_lt (k:=8000) hc.2 (by decide)) (by decide))))
end
def Eo:V→Option Value
 | .ty T=>some (.type T)
 | .ref C=>some (.ref C)
 | _=>none
theorem Bu{c:V}{u t:Value}(r:bX c u)(h:Eo c=some t):u=t:=by
 cases c with
 | ty T=>cases r;exact aaw h
 | ref C=>cases r;exact aaw h
 | _=>cases h
section
variable{X:Cx}
theorem qG:fJ X (.builtin "isinstance") (fun xs H Q=>∃x c t t' b,xs=[x,c]∧oX X.K H x t∧Eo c=some t'∧PySem.W.kitOne X.K t t'=some b∧Q (.bl b) H):=by
 intro pins s σ H xs us Q I r h
 obtain ⟨x,c,t,t',b,rfl,ty,hc,hk,q⟩:=h
 obtain ⟨u,u',rfl,r1,r2⟩:=Ew r
 cases Bu r2 hc
 exact wy I r1 ty hk fun tk=>⟨.bl b,H,I.tok tk,rfl,q⟩
end
def sA:List V→List V→Bool
 | [],[]=>true
 | x::xs,y::ys=>eqV x y&&sA xs ys
 | _,_=>false
theorem iz:∀(xs ys:List V) (e:Nat→Bool),(∀j x y,xs[j]? =some x→ys[j]? =some y→e j=eqV x y)→((List.range (min xs.length ys.length)).all e&&xs.length==ys.length)=sA xs ys
 | [],[],e,_=>rfl
 | [],_::_,e,_=>by simp [sA]
 | _::_,[],e,_=>by simp [sA]
 | x::xs,y::ys,e,h=>by
  have ih:=iz xs ys (fun j=>e (j+1)) fun j x y h1 h2=>h (j+1) x y h1 h2
  have h0:e 0=eqV x y:=h 0 x y rfl rfl
  show _=(eqV x y&&sA xs ys)
  rw [←ih,←h0]
  have e1:min (x::xs).length (y::ys).length=min xs.length ys.length+1:=by simp only [List.length_cons];omega
  rw [e1,abJ,abF,List.all_map]
  have e2:((x::xs).length==(y::ys).length)=(xs.length==ys.length):=by simp only [List.length_cons];rw [Bool.eq_iff_iff];simp
  rw [e2,Bool.and_assoc]
  rfl
def Gz(K:PySem.W.Frag):R2:=fun x y H Q=>∃a b xs ys,x= .ref a∧y= .ref b∧SqT K H a xs∧SqT K H b ys∧xs.all fX=true∧ys.all fX=true∧Q (.bl (sA xs ys)) H
def Gv(K:PySem.W.Frag):R2:=fun x y H Q=>∃a b xs ys,x= .ref a∧y= .ref b∧SqT K H a xs∧SqT K H b ys∧xs.all fX=true∧ys.all fX=true∧Q (.bl (!sA xs ys)) H
theorem j5:∀{xs:List V} {j:Nat} {x:V},xs.all fX=true→xs[j]? =some x→fX x=true
 | _::_,0,_,h,e=>by
  rw [abF,aat] at h
  cases e
  exact h.1
 | _::_,j+1,_,h,e=>by
  rw [abF,aat] at h
  exact j5 h.2 e
section
variable{X:Cx}
theorem CM(hu:X.A.units < cLine):OpR X (compareOp .NotEq) (Gv X.K):=by
 intro pins s σ H x y v u Q I rx ry h
 obtain ⟨a,b,xs,ys,rfl,rfl,h1,h2,f1,f2,q⟩:=h
 cases rx
 cases ry
 obtain ⟨i1,v1,t1,_⟩:=I.tuple h1
 obtain ⟨i2,v2,t2,_⟩:=I.tuple h2
 have l1:=v1.length
 have l2:=v2.length
 refine SeqAt.RcNeAt.tuples (e:=fun j=>match xs[j]?,ys[j]? with | some x,some y=>eqV x y | _,_=>true) (show s.heap.IsTuple a i1.toArray from t1) (show s.heap.IsTuple b i2.toArray from t2) hu (fun j h1 h2=> ?_) _ _ _ _ ?_
 ·have b1:j < i1.length:=by simpa using h1
  have b2:j < i2.length:=by simpa using h2
  have e1:xs[j]? =some (xs[j]'(by omega)):=aaa _
  have e2:ys[j]? =some (ys[j]'(by omega)):=aaa _
  obtain ⟨u1,g1,r1⟩:=v1.get e1
  obtain ⟨u2,g2,r2⟩:=v2.get e2
  rw [aaa b1] at g1
  rw [aaa b2] at g2
  have w1:i1.toArray[j]=u1:=by simpa using Option.some.inj g1
  have w2:i2.toArray[j]=u2:=by simpa using Option.some.inj g2
  rw [w1,w2]
  simp only [e1,e2]
  exact wM r1 r2 (j5 f1 e1) (j5 f2 e2)
 ·rw [List.size_toArray,List.size_toArray,←l1,←l2,iz xs ys _ (fun j x y h1 h2=>by simp only [h1,h2])]
  exact ⟨.bl (!sA xs ys),H,I,rfl,q⟩
theorem zB(hu:X.A.units < cLine):OpR X (compareOp .Eq) (Gz X.K):=by
 intro pins s σ H x y v u Q I rx ry h
 obtain ⟨a,b,xs,ys,rfl,rfl,h1,h2,f1,f2,q⟩:=h
 cases rx
 cases ry
 obtain ⟨i1,v1,t1,_⟩:=I.tuple h1
 obtain ⟨i2,v2,t2,_⟩:=I.tuple h2
 have l1:=v1.length
 have l2:=v2.length
 refine SeqAt.eq_tupleAt (e:=fun j=>match xs[j]?,ys[j]? with | some x,some y=>eqV x y | _,_=>true) (show s.heap.IsTuple a i1.toArray from t1) (show s.heap.IsTuple b i2.toArray from t2) hu (fun j h1 h2=> ?_) ?_
 ·have b1:j < i1.length:=by simpa using h1
  have b2:j < i2.length:=by simpa using h2
  have e1:xs[j]? =some (xs[j]'(by omega)):=aaa _
  have e2:ys[j]? =some (ys[j]'(by omega)):=aaa _
  obtain ⟨u1,g1,r1⟩:=v1.get e1
  obtain ⟨u2,g2,r2⟩:=v2.get e2
  rw [aaa b1] at g1
  rw [aaa b2] at g2
  have w1:i1.toArray[j]=u1:=by simpa using Option.some.inj g1
  have w2:i2.toArray[j]=u2:=by simpa using Option.some.inj g2
  rw [w1,w2]
  simp only [e1,e2]
  exact wM r1 r2 (j5 f1 e1) (j5 f2 e2)
 ·rw [List.size_toArray,List.size_toArray,←l1,←l2,iz xs ys _ (fun j x y h1 h2=>by simp only [h1,h2])]
  exact ⟨.bl (sA xs ys),H,I,rfl,q⟩
end
theorem vc(bs:List Bool):(List.range bs.length).any (fun i=>bs.getD i false)=bs.any id:=by
 induction bs with
 | nil=>rfl
 | cons b bs ih=>
  rw [aas,abJ,abG,List.any_map,abG,←ih]
  rfl
theorem ph:∀{bs:List Bool} {us:List Value},bN (bs.map V.bl) us→us=bs.map Value.bool
 | [],_,r=>by cases r;rfl
 | b::bs,_,r=>by
  cases r with
  | cons h t=>
   cases h
   rw [ph t]
   rfl
theorem qX{prog:Program}{w:World}{A:Around}{bs:List Bool}:TruthOf prog w A (fun i v=>(bs.map Value.bool).toArray[i]? =some v) (fun i=>bs.getD i false):=by
 intro i v s Q E h q
 have h':(bs.map Value.bool)[i]? =some v:=by simpa using h
 rw [aaf] at h'
 cases e:bs[i]? with
 | none=>rw [e] at h';cases h'
 | some b=>
  rw [e] at h'
  cases h'
  have q':Q b s:=by
   have eb:bs.getD i false=b:=by rw [aab,e];rfl
   exact eb▸q
  exact wpAny_truthy_bool q'
def GA(K:PySem.W.Frag):List V→Hp→VK→Prop:=fun xs H Q=>∃(p:Addr) (bs:List Bool),xs=[.ref p]∧SqL K H p (bs.map V.bl)∧Q (.bl (bs.any id)) H
section
variable{X:Cx}
theorem yU (hc : X.calm = true) : fJ X (.builtin "any") (GA X.K) := by
  intro pins s σ H xs us Q I r h
  obtain ⟨p, bs, rfl, hq, q⟩ := h
  obtain ⟨u, rfl, r1⟩ := pj r
  cases r1
  obtain ⟨its, rv, pl, hz⟩ := I.list hq
  have eits := ph rv
  subst eits
  refine call_any_walk (wpAny_pyIter_list pl.isList ?_)
  have lp : p < s.heap.objs.size := by obtain ⟨o, e, _⟩ := pl.isList; exact Heap.lt_size e
  refine ⟨s.heap.objs.size, _, _, _, _, _, fun i => bs.getD i false, rfl, Walks.list (show X.A.in1.handled = none from I.ok.hd hc) s.heap.objs.size p (aaA lp) (bs.map Value.bool).toArray, ⟨⟨_, Heap.get?_push_size _ rfl, rfl, rfl⟩, pl.isList.at fun o e => Heap.get?_push_of_some _ e⟩, qX, fun h' tk hk => ?_⟩
  refine ⟨.bl (bs.any id), H, I.kept fun b o e => hk b o (fun z => by have : b = s.heap.objs.size := by simpa using z
                                                                      exact aaZ _ (this ▸ Heap.lt_size e)) (Heap.get?_push_of_some _ e), ?_, q⟩
  rw [aa1, aac, vc]
  rfl
end
end L2
namespace PySem
open Sem (wp)
end PySem
namespace PySem.W
open PySem PySem.Builtin PySem.Builtin.ObjectAttr
end PySem.W
namespace PySem
open Sem (wp)
end PySem
namespace L2
open PySem PySem.Spec PyProof.Rows
def xO(a C:Addr)(od:Option Addr):HO:= .ext fun h=>∃ob vs,h.get? a=some ob∧ob.cls= .ref C∧ob.dict=od∧ob.data= .fields vs
inductive Dt where
 | non
 | bl (b:Bool)
 | int (i:Int)
 | str (x:Str)
 | tup (xs:List Dt)
 | lst (xs:List Dt)
 | obj (C:Addr) (ns:List Str) (xs:List Dt)
 | loc (k:Nat)
 | ref (a:Addr)
 | ty (n:String)
 | scr (ns:List Int)
 | kt (xs:List Dt)
 | exc (C:Addr) (ns:List Str) (xs:List Dt)
 | exn (x C:Addr) (od:Option Addr) (ns:List Str) (xs:List Dt)
inductive MO where
 | lst (xs:List Dt)
 | ins (C:Addr) (ns:List Str) (xs:List Dt)
 | dct (ks:List Key) (xs:List Dt)
abbrev Ms:=List MO
abbrev En:=List (Option Dt)
mutual
def Den(K:PySem.W.Frag)(G:Hp)(L:List Addr):Dt→V→Prop
 | .non,v=>v= .non
 | .bl b,v=>v= .bl b
 | .int i,v=>v= .int i
 | .str x,v=>v= .str x
 | .tup ds,v=>∃a vs,v= .ref a∧G a=some (.tup vs)∧bb K G L ds vs
 | .lst ds,v=>∃a vs,v= .ref a∧G a=some (.lst vs)∧bb K G L ds vs
 | .obj C ns ds,v=>∃a dx vs,v= .ref a∧G a=some (.ins C dx (ns.zip vs))∧ns.length=ds.length∧bb K G L ds vs
 | .loc k,v=>∃a,v= .ref a∧L[k]? =some a
 | .ref a,v=>v= .ref a
 | .ty n,v=>v= .ty n
 | .scr ns,v=>∃a,v= .ref a∧SqL K G a (ns.map V.int)
 | .kt ds,v=>∃a vs,v= .ref a∧SqT K G a vs∧bb K G L ds vs
 | .exc C ns ds,v=>∃a od vs,v= .ref a∧G a=some (xO a C od)∧((ns=[]∧od=none)∨∃dx,od=some dx∧G dx=some (.xd (ns.zip vs)))∧ns.length=ds.length∧bb K G L ds vs
 | .exn x _ od ns ds,v=>∃vs,v= .ref x∧((ns=[]∧od=none)∨∃dx,od=some dx∧G dx=some (.xd (ns.zip vs)))∧ns.length=ds.length∧bb K G L ds vs
def bb(K:PySem.W.Frag)(G:Hp)(L:List Addr):List Dt→List V→Prop
 | [],vs=>vs=[]
 | d::ds,vs=>∃v r,vs=v::r∧Den K G L d v∧bb K G L ds r
end
def Pre(L L':List Addr):Prop:=∃t,L'=L++t
theorem Pre.refl(L:List Addr):Pre L L:=⟨[],by simp⟩
theorem Pre.trans{a b c:List Addr}(h:Pre a b)(h':Pre b c):Pre a c:=by
 obtain ⟨t,rfl⟩:=h
 obtain ⟨u,rfl⟩:=h'
 exact ⟨t++u,by simp⟩
theorem Pre.get{a b:List Addr}(h:Pre a b){k:Nat}{x:Addr}(e:a[k]? =some x):b[k]? =some x:=by
 obtain ⟨t,rfl⟩:=h
 have hk:k < a.length:=(aai.mp e).1
 rw [aav hk];exact e
theorem gK.rd{H H':Hp}{a:Addr}{u:HO}(e:gK H H')(h:Rd H a u):Rd H' a u:=by
 rcases h with h | ⟨o,h⟩
 ·exact .inl (e _ _ h)
 ·exact .inr ⟨o,e _ _ h⟩
theorem gK.sqT{K:PySem.W.Frag}{H H':Hp}{a:Addr}{xs:List V}(e:gK H H')(h:SqT K H a xs):SqT K H' a xs:=by
 rcases h with h | h
 ·exact .inl (e.rd h)
 ·exact .inr h
section
variable{K:PySem.W.Frag}{G G':Hp}{L L':List Addr}
mutual
theorem Den.mono(g:gK G G')(l:Pre L L'):∀(d:Dt) (v:V),Den K G L d v→Den K G' L' d v
 | .non,_,h=>h
 | .bl _,_,h=>h
 | .int _,_,h=>h
 | .str _,_,h=>h
 | .tup ds,_,⟨a,vs,e,h1,h2⟩=>⟨a,vs,e,g _ _ h1,bb.mono g l ds vs h2⟩
 | .lst ds,_,⟨a,vs,e,h1,h2⟩=>⟨a,vs,e,g _ _ h1,bb.mono g l ds vs h2⟩
 | .obj C ns ds,_,⟨a,dx,vs,e,h1,hn,h2⟩=>⟨a,dx,vs,e,g _ _ h1,hn,bb.mono g l ds vs h2⟩
 | .loc k,_,⟨a,e,h1⟩=>⟨a,e,l.get h1⟩
 | .ref _,_,h=>h
 | .ty _,_,h=>h
 | .scr _,_,⟨a,e,h1⟩=>⟨a,e,g.seq h1⟩
 | .kt ds,_,⟨a,vs,e,h1,h2⟩=>⟨a,vs,e,g.sqT h1,bb.mono g l ds vs h2⟩
 | .exc _ _ ds,_,⟨a,od,vs,e,h1,h2,h3,h4⟩=>⟨a,od,vs,e,g _ _ h1,h2.imp (fun z=>z) (fun ⟨dx,z1,z2⟩=>⟨dx,z1,g _ _ z2⟩),h3,bb.mono g l ds vs h4⟩
 | .exn _ _ _ _ ds,_,⟨vs,e,h2,h3,h4⟩=>⟨vs,e,h2.imp (fun z=>z) (fun ⟨dx,z1,z2⟩=>⟨dx,z1,g _ _ z2⟩),h3,bb.mono g l ds vs h4⟩
theorem bb.mono(g:gK G G')(l:Pre L L'):∀(ds:List Dt) (vs:List V),bb K G L ds vs→bb K G' L' ds vs
 | [],_,h=>h
 | d::ds,_,⟨v,r,e,h1,h2⟩=>⟨v,r,e,Den.mono g l d v h1,bb.mono g l ds r h2⟩
end
theorem bb.pair:∀{ds:List Dt} {vs:List V},bb K G L ds vs→Paired (Den K G L) ds vs
 | [],_,h=>by
  have h:_=_:=h
  subst h
  exact .nil
 | d::ds,_,⟨v,r,e,h1,h2⟩=>by
  subst e
  exact .cons h1 (bb.pair h2)
theorem bb.of:∀{ds:List Dt} {vs:List V},Paired (Den K G L) ds vs→bb K G L ds vs
 | _,_, .nil=>rfl
 | _,_, .cons h t=>⟨_,_,rfl,h,bb.of t⟩
end
section
variable{α β:Type}{F:α→β→Prop}
theorem vh:∀{xs:List α} {us:List β} {i:Nat} {x:α},Paired F xs us→xs[i]? =some x→∃u,us[i]? =some u∧F x u
 | _,_,_,_, .nil,e=>by simp at e
 | _,_,0,_, .cons r _,e=>by simp at e;subst e;exact ⟨_,rfl,r⟩
 | _,_,i+1,x, .cons _ t,e=>by
  obtain ⟨u,h1,h2⟩:=vh (i:=i) (x:=x) t (by simpa using e)
  exact ⟨u,by simpa using h1,h2⟩
theorem vg{x:α}{u:β}(r:F x u):∀{xs:List α} {us:List β} (i:Nat),Paired F xs us→Paired F (xs.set i x) (us.set i u)
 | _,_,_, .nil=> .nil
 | _,_,0, .cons _ t=> .cons r t
 | _,_,i+1, .cons q t=> .cons q (vg r i t)
theorem pR:∀{xs ys:List α} {us ws:List β},Paired F xs us→Paired F ys ws→Paired F (xs++ys) (us++ws)
 | _,_,_,_, .nil,s=>s
 | _,_,_,_, .cons r t,s=> .cons r (pR t s)
theorem lK:∀{xs:List α} {us:List β} (n:Nat),Paired F xs us→Paired F (xs.take n) (us.take n)
 | _,_,0,_=> .nil
 | _,_,_+1, .nil=> .nil
 | _,_,n+1, .cons r t=> .cons r (lK n t)
theorem lL:∀{xs:List α} {us:List β} (n:Nat),Paired F xs us→Paired F (xs.drop n) (us.drop n)
 | _,_,0,r=>r
 | _,_,_+1, .nil=> .nil
 | _,_,n+1, .cons _ t=>lL n t
theorem pQ{xs:List α}{us:List β}(h:Paired F xs us):∀k:Nat,Paired F (List.replicate k xs).flatten (List.replicate k us).flatten
 | 0=> .nil
 | k+1=>by
  rw [aa0,aa0,abh,abh]
  exact pR h (pQ h k)
end
section
variable{K:PySem.W.Frag}{G:Hp}{L:List Addr}
theorem bb.length{ds:List Dt}{vs:List V}(h:bb K G L ds vs):ds.length=vs.length:=Paired.length h.pair
theorem bb.get{ds:List Dt}{vs:List V}{i:Nat}{d:Dt}(h:bb K G L ds vs)(e:ds[i]? =some d):∃v,vs[i]? =some v∧Den K G L d v:=vh h.pair e
theorem bb.app{ds es:List Dt}{vs us:List V}(h:bb K G L ds vs)(h':bb K G L es us):bb K G L (ds++es) (vs++us):= .of (pR h.pair h'.pair)
theorem fE:∀{ns:List Int},bb K G L (ns.map Dt.int) (ns.map V.int)
 | []=>rfl
 | n::ns=>⟨_,_,rfl,rfl,fE⟩
theorem b7{d:Dt}{vs:List V}(h:bb K G L [d] vs):∃v,vs=[v]∧Den K G L d v:=by
 obtain ⟨v,r,rfl,h1,h2⟩:=h
 have h2:r=[]:=h2
 subst h2
 exact ⟨v,rfl,h1⟩
theorem fV{d e:Dt}{vs:List V}(h:bb K G L [d,e] vs):∃v u,vs=[v,u]∧Den K G L d v∧Den K G L e u:=by
 obtain ⟨v,r,rfl,h1,h2⟩:=h
 obtain ⟨u,rfl,h3⟩:=b7 h2
 exact ⟨v,u,rfl,h1,h3⟩
end
def MOk(K:PySem.W.Frag)(G:Hp)(L:List Addr)(H:Hp)(a:Addr):MO→Prop
 | .lst ds=>∃vs,H a=some (.lst vs)∧bb K G L ds vs
 | .ins C ns ds=>∃dx vs,H a=some (.ins C dx (ns.zip vs))∧ns.length=ds.length∧bb K G L ds vs
 | .dct ks ds=>∃vs,H a=some (.dK (ks.zip vs))∧ks.length=ds.length∧bb K G L ds vs
structure Rl(K:PySem.W.Frag)(G:Hp)(L:List Addr)(M:Ms)(H:Hp):Prop where
 sub:gK G H
 len:L.length=M.length
 nd:L.Nodup
 ats:∀(k:Nat) (a:Addr) (m:MO),L[k]? =some a→M[k]? =some m→G a=none∧MOk K G L H a m
structure Ex(G:Hp)(L:List Addr)(H:Hp)(G':Hp)(L':List Addr)(H':Hp):Prop where
 g:gK G G'
 l:Pre L L'
 fr:∀b,G b=none→H b≠none→G' b=none
 out:∀b o,H b=some o→b∉L→H' b=some o
 new:∀b∈L',b∈L∨H b=none
 dom:∀b,H b≠none→H' b≠none
theorem Ex.refl(G:Hp)(L:List Addr)(H:Hp):Ex G L H G L H:=⟨.refl _, .refl _,fun _ h _=>h,fun _ _ h _=>h,fun _ h=> .inl h,fun _ h=>h⟩
theorem Ex.trans{G:Hp}{L:List Addr}{H G1:Hp}{L1:List Addr}{H1 G2:Hp}{L2:List Addr}{H2:Hp}(a:Ex G L H G1 L1 H1)(b:Ex G1 L1 H1 G2 L2 H2):Ex G L H G2 L2 H2 where
 g:=a.g.trans b.g
 l:=a.l.trans b.l
 fr:=fun x h1 h2=>b.fr x (a.fr x h1 h2) (a.dom x h2)
 out:=fun x o h1 h2=>b.out x o (a.out x o h1 h2) fun z=>(a.new x z).elim h2 fun q=>by rw [h1] at q;cases q
 new:=fun x h=>by
  rcases b.new x h with z | z
  ·exact a.new x z
  ·right
   cases q:H x with
   | none=>rfl
   | some o=>exact absurd z (a.dom x (by rw [q];simp))
 dom:=fun x h=>b.dom x (a.dom x h)
theorem MOk.there{K:PySem.W.Frag}{G:Hp}{L:List Addr}{H:Hp}{a:Addr}{m:MO}(h:MOk K G L H a m):H a≠none:=by
 cases m with
 | lst ds=>obtain ⟨vs,e,_⟩:=h;rw [e];simp
 | ins C ns ds=>obtain ⟨dx,vs,e,_⟩:=h;rw [e];simp
 | dct ks ds=>obtain ⟨vs,e,_⟩:=h;rw [e];simp
theorem MOk.mono{K:PySem.W.Frag}{G G':Hp}{L L':List Addr}{H H':Hp}{a:Addr}{m:MO}(g:gK G G')(l:Pre L L')(e:H' a=H a)(h:MOk K G L H a m):MOk K G' L' H' a m:=by
 cases m with
 | lst ds=>obtain ⟨vs,e1,h⟩:=h;exact ⟨vs,e.trans e1,bb.mono g l _ _ h⟩
 | ins C ns ds=>obtain ⟨dx,vs,e1,h0,h⟩:=h;exact ⟨dx,vs,e.trans e1,h0,bb.mono g l _ _ h⟩
 | dct ks ds=>obtain ⟨vs,e1,h0,h⟩:=h;exact ⟨vs,e.trans e1,h0,bb.mono g l _ _ h⟩
section
variable{K:PySem.W.Frag}{G:Hp}{L:List Addr}{M:Ms}{H:Hp}{p:Addr}{o:HO}
theorem Rl.at_mem(r:Rl K G L M H){a:Addr}(h:a∈L):∃(k:Nat) (m:MO),L[k]? =some a∧M[k]? =some m∧G a=none∧MOk K G L H a m:=by
 obtain ⟨k,hk,e⟩:=aa7 h
 have e1:L[k]? =some a:=by rw [aaa hk,e]
 have e2:M[k]? =some (M[k]'(by rw [←r.len];exact hk)):=aaa _
 exact ⟨k,_,e1,e2,r.ats k a _ e1 e2⟩
theorem Rl.memN(r:Rl K G L M H)(hp:H p=none):p∉L:=fun z=>by
 obtain ⟨k,m,_,_,_,h⟩:=r.at_mem z
 exact h.there hp
theorem Rl.newG(r:Rl K G L M H)(hp:H p=none):Rl K (upd G p o) L M (upd H p o) where
 sub:=fun b u e=>by
  by_cases hb:b=p
  ·subst hb;rw [aC] at e⊢;exact e
  ·rw [av hb] at e⊢;exact r.sub b u e
 len:=r.len
 nd:=r.nd
 ats:=fun k a m h1 h2=>by
  obtain ⟨q1,q2⟩:=r.ats k a m h1 h2
  have hb:a≠p:=fun z=>q2.there (by rw [z];exact hp)
  exact ⟨by rw [av hb];exact q1,q2.mono (fun b u e=>by rw [av (fun z=>by rw [z,r.sub.free hp] at e;cases e)];exact e) (.refl _) (av hb)⟩
theorem Rl.exG(r:Rl K G L M H)(hp:H p=none):Ex G L H (upd G p o) L (upd H p o) where
 g:=fun b u e=>by rw [av (fun z=>by rw [z,r.sub.free hp] at e;cases e)];exact e
 l:= .refl _
 fr:=fun b h1 h2=>by rw [av (fun z=>h2 (by rw [z];exact hp))];exact h1
 out:=fun b u h1 _=>by rw [av (fun z=>by rw [z,hp] at h1;cases h1)];exact h1
 new:=fun b h=> .inl h
 dom:=fun b h=>by rw [av (fun z=>h (by rw [z];exact hp))];exact h
theorem Rl.newM{m:MO}(r:Rl K G L M H)(hp:H p=none)(hm:MOk K G (L++[p]) (upd H p o) p m):Rl K G (L++[p]) (M++[m]) (upd H p o) where
 sub:=fun b u e=>by rw [av (fun z=>by rw [z,r.sub.free hp] at e;cases e)];exact r.sub b u e
 len:=by rw [aap,aap,r.len];rfl
 nd:=List.nodup_append.mpr ⟨r.nd,by simp,fun a ha b hb=>by
  have e:b=p:=by simpa using hb
  rw [e];exact fun z=>r.memN hp (z▸ha)⟩
 ats:=fun k a m' h1 h2=>by
  by_cases hk:k < L.length
  ·rw [aav hk] at h1
   rw [aav (by rw [←r.len];exact hk)] at h2
   obtain ⟨q1,q2⟩:=r.ats k a m' h1 h2
   exact ⟨q1,q2.mono (.refl _) ⟨[p],rfl⟩ (av fun z=>q2.there (by rw [z];exact hp))⟩
  ·have e:k=L.length:=by
    have:=(aai.mp h1).1
    rw [aap] at this
    simp at this
    omega
   rw [e,aam (aak _)] at h1
   rw [e,r.len,aam (aak _)] at h2
   simp at h1 h2
   subst h1 h2
   exact ⟨r.sub.free hp,hm⟩
theorem Rl.exM(r:Rl K G L M H)(hp:H p=none):Ex G L H G (L++[p]) (upd H p o) where
 g:= .refl _
 l:=⟨[p],rfl⟩
 fr:=fun b h1 _=>h1
 out:=fun b u h1 _=>by rw [av (fun z=>by rw [z,hp] at h1;cases h1)];exact h1
 new:=fun b h=>by
  rcases aaL.mp h with z | z
  ·exact .inl z
  ·have e:b=p:=by simpa using z
   right;rw [e];exact hp
 dom:=fun b h=>by rw [av (fun z=>h (by rw [z];exact hp))];exact h
theorem Rl.setM{k:Nat}{a:Addr}{m:MO}(r:Rl K G L M H)(hk:L[k]? =some a)(hm:MOk K G L (upd H a o) a m):Rl K G L (M.set k m) (upd H a o) where
 sub:=fun b u e=>by
  obtain ⟨k',m',e1,e2,q1,_⟩:=r.at_mem (aag hk)
  rw [av (fun z=>by rw [z,q1] at e;cases e)];exact r.sub b u e
 len:=by rw [abt];exact r.len
 nd:=r.nd
 ats:=fun k' a' m' h1 h2=>by
  by_cases e:k'=k
  ·subst e
   rw [hk] at h1;cases h1
   have hl:k' < M.length:=by rw [←r.len];exact (aai.mp hk).1
   rw [abe hl] at h2
   cases h2
   obtain ⟨_,_,_,_,q1,_⟩:=r.at_mem (aag hk)
   exact ⟨q1,hm⟩
  ·rw [abo (fun z=>e z.symm)] at h2
   obtain ⟨q1,q2⟩:=r.ats k' a' m' h1 h2
   have ne:a'≠a:=fun z=>by
    subst z
    exact e ((List.getElem?_inj (aai.mp h1).1 r.nd).mp (h1.trans hk.symm))
   exact ⟨q1,q2.mono (.refl _) (.refl _) (av ne)⟩
theorem Rl.exS{k:Nat}{a:Addr}(r:Rl K G L M H)(hk:L[k]? =some a):Ex G L H G L (upd H a o) where
 g:= .refl _
 l:= .refl _
 fr:=fun b h1 _=>h1
 out:=fun b u h1 h2=>by rw [av (fun z=>h2 (by rw [z];exact aag hk))];exact h1
 new:=fun b h=> .inl h
 dom:=fun b h=>by
  by_cases e:b=a
  ·rw [e,aC];simp
  ·rw [av e];exact h
end
structure EnD(K:PySem.W.Frag)(G:Hp)(L:List Addr)(ρ:En)(σ:St):Prop where
 len:ρ.length=σ.length
 ats:∀(i:Nat) (d:Dt),ρ[i]? =some (some d)→∃v,σ[i]? =some (some v)∧Den K G L d v
section
variable{K:PySem.W.Frag}{G G':Hp}{L L':List Addr}{H H':Hp}{ρ:En}{σ:St}
theorem EnD.mono(h:EnD K G L ρ σ)(e:Ex G L H G' L' H'):EnD K G' L' ρ σ:=⟨h.len,fun i d q=>let ⟨v,a,b⟩:=h.ats i d q;⟨v,a,Den.mono e.g e.l d v b⟩⟩
theorem EnD.set(h:EnD K G L ρ σ)(i:Nat){d:Dt}{v:V}(q:Den K G L d v):EnD K G L (ρ.set i (some d)) (σ.set i (some v)):=by
 refine ⟨by rw [abt,abt];exact h.len,fun j d' e=> ?_⟩
 by_cases hj:i=j
 ·subst hj
  have hl:i < ρ.length:=by
   have:=(aai.mp e).1
   rwa [abt] at this
  rw [abe hl] at e
  cases e
  exact ⟨v,abe (by rw [←h.len];exact hl),q⟩
 ·rw [abo hj] at e
  obtain ⟨u,a,b⟩:=h.ats j d' e
  exact ⟨u,by rw [abo hj];exact a,b⟩
end
abbrev DQ:=Dt→Ms→Prop
abbrev DX:=En→Addr→List (Str×Dt)→Ms→Prop
def Gj(K:PySem.W.Frag)(G:Hp)(L:List Addr)(H:Hp)(fs:List (Str×Dt))(od:Option Addr):Prop:=
 (fs=[]∧od=none)∨fs≠[]∧∃dx vs,od=some dx∧G dx=some (.xd ((fs.map (·.1)).zip vs))∧bb K G L (fs.map (·.2)) vs
def XOk(K:PySem.W.Frag)(G:Hp)(L:List Addr)(H:Hp)(R:St→XK)(x:DX):Prop:=
 ∀σ ρ C fs M' G' L' H' od,x ρ C fs M'→Ex G L H G' L' H'→Rl K G' L' M' H'→EnD K G' L' ρ σ→Gj K G' L' H' fs od→R σ (.ref C) od H'
theorem XOk.on{K:PySem.W.Frag}{G:Hp}{L:List Addr}{H G1:Hp}{L1:List Addr}{H1:Hp}{R:St→XK}{x:DX}(h:XOk K G L H R x)(e:Ex G L H G1 L1 H1):XOk K G1 L1 H1 R x:=
 fun σ ρ C fs M' G' L' H' od q e' r n y=>h σ ρ C fs M' G' L' H' od q (e.trans e') r n y
def noX:DX:=fun _ _ _ _=>False
theorem ux{K:PySem.W.Frag}{G:Hp}{L:List Addr}{H:Hp}{R:St→XK}:XOk K G L H R noX:=fun _ _ _ _ _ _ _ _ _ q=>q.elim
abbrev DE:=En→Ms→DQ→DX→Prop
abbrev DT:=En→Ms→(Bool→Ms→Prop)→DX→Prop
abbrev DA:=En→Ms→(List Dt→Ms→Prop)→DX→Prop
structure mQ where
 nx:En→Ms→Prop
 rt:DQ
 bk:En→Ms→Prop:=fun _ _=>False
 ct:En→Ms→Prop:=fun _ _=>False
 x:DX:=noX
abbrev DS:=mQ→En→Ms→Prop
inductive Fin(K:PySem.W.Frag)(G0:Hp)(L0:List Addr)(H0:Hp)(q:DQ)(v:V)(H:Hp):Prop
 | mk (d:Dt) (G:Hp) (L:List Addr) (M:Ms) (e:Ex G0 L0 H0 G L H) (r:Rl K G L M H) (n:Den K G L d v) (h:q d M)
inductive yY(K:PySem.W.Frag)(G0:Hp)(L0:List Addr)(H0:Hp)(q:Bool→Ms→Prop)(b:Bool)(H:Hp):Prop
 | mk (G:Hp) (L:List Addr) (M:Ms) (e:Ex G0 L0 H0 G L H) (r:Rl K G L M H) (h:q b M)
inductive Eu(K:PySem.W.Frag)(G0:Hp)(L0:List Addr)(H0:Hp)(q:List Dt→Ms→Prop)(vs:List V)(H:Hp):Prop
 | mk (ds:List Dt) (G:Hp) (L:List Addr) (M:Ms) (e:Ex G0 L0 H0 G L H) (r:Rl K G L M H) (n:bb K G L ds vs) (h:q ds M)
inductive jh(K:PySem.W.Frag)(G0:Hp)(L0:List Addr)(H0:Hp)(q:En→Ms→Prop)(σ:St)(H:Hp):Prop
 | mk (ρ:En) (G:Hp) (L:List Addr) (M:Ms) (e:Ex G0 L0 H0 G L H) (r:Rl K G L M H) (n:EnD K G L ρ σ) (h:q ρ M)
def yZ(K:PySem.W.Frag)(G0:Hp)(L0:List Addr)(H0:Hp)(Dn:mQ):Ai:=⟨jh K G0 L0 H0 Dn.nx,Fin K G0 L0 H0 Dn.rt,jh K G0 L0 H0 Dn.bk,jh K G0 L0 H0 Dn.ct⟩
inductive tU(K:PySem.W.Frag)(R:St→XK)(t:DE)(σ:St)(H:Hp)(Q:VK):Prop
 | mk (G:Hp) (L:List Addr) (ρ:En) (M:Ms) (q:DQ) (x:DX) (r:Rl K G L M H) (n:EnD K G L ρ σ) (h:t ρ M q x) (hx:XOk K G L H R x) (hQ:∀v H1,Fin K G L H q v H1→Q v H1)
inductive GG(K:PySem.W.Frag)(R:St→XK)(t:DT)(σ:St)(H:Hp)(Q:Bool→Hp→Prop):Prop
 | mk (G:Hp) (L:List Addr) (ρ:En) (M:Ms) (q:Bool→Ms→Prop) (x:DX) (r:Rl K G L M H) (n:EnD K G L ρ σ) (h:t ρ M q x) (hx:XOk K G L H R x) (hQ:∀b H1,yY K G L H q b H1→Q b H1)
inductive GI(K:PySem.W.Frag)(R:St→XK)(t:DA)(σ:St)(H:Hp)(Q:List V→Hp→Prop):Prop
 | mk (G:Hp) (L:List Addr) (ρ:En) (M:Ms) (q:List Dt→Ms→Prop) (x:DX) (r:Rl K G L M H) (n:EnD K G L ρ σ) (h:t ρ M q x) (hx:XOk K G L H R x) (hQ:∀vs H1,Eu K G L H q vs H1→Q vs H1)
structure Gg(A B:Ai):Prop where
 nx:∀σ H,A.nx σ H→B.nx σ H
 rt:∀v H,A.rt v H→B.rt v H
 bk:∀σ H,A.bk σ H→B.bk σ H
 ct:∀σ H,A.ct σ H→B.ct σ H
inductive GH(K:PySem.W.Frag)(R:St→XK)(t:DS)(De:Ai)(σ:St)(H:Hp):Prop
 | mk (G:Hp) (L:List Addr) (ρ:En) (M:Ms) (Dn:mQ) (r:Rl K G L M H) (n:EnD K G L ρ σ) (h:t Dn ρ M) (hx:XOk K G L H R Dn.x) (hQ:Gg (yZ K G L H Dn) De)
def JE(X:Cx)(R:St→XK)(e:Expr)(t:DE):Prop:=PE X e (tU X.K R t)
def JT(X:Cx)(R:St→XK)(e:Expr)(t:DT):Prop:=PT X e (GG X.K R t)
def JW(X:Cx)(R:St→XK)(e:Expr)(t:DT):Prop:=PW X e (GG X.K R t)
def JA(X:Cx)(R:St→XK)(es:List Expr)(t:DA):Prop:=PA X es (GI X.K R t)
def JS(X:Cx)(R:St→XK)(st:Stmt)(t:DS):Prop:=PS X st (GH X.K R t)
def JSs(X:Cx)(R:St→XK)(st:List Stmt)(t:DS):Prop:=PSs X st (GH X.K R t)
section
variable{K:PySem.W.Frag}{G0:Hp}{L0:List Addr}{H0 G1:Hp}{L1:List Addr}{H1:Hp}
theorem Fin.back{q:DQ}(e:Ex G0 L0 H0 G1 L1 H1){v:V}{H:Hp}(h:Fin K G1 L1 H1 q v H):Fin K G0 L0 H0 q v H:=let ⟨d,G,L,M,a,b,c,f⟩:=h;⟨d,G,L,M,e.trans a,b,c,f⟩
theorem jh.back{q:En→Ms→Prop}(e:Ex G0 L0 H0 G1 L1 H1){v:St}{H:Hp}(h:jh K G1 L1 H1 q v H):jh K G0 L0 H0 q v H:=let ⟨d,G,L,M,a,b,c,f⟩:=h;⟨d,G,L,M,e.trans a,b,c,f⟩
theorem yY.back{q:Bool→Ms→Prop}(e:Ex G0 L0 H0 G1 L1 H1){v:Bool}{H:Hp}(h:yY K G1 L1 H1 q v H):yY K G0 L0 H0 q v H:=let ⟨G,L,M,a,b,f⟩:=h;⟨G,L,M,e.trans a,b,f⟩
theorem yZ.back{Dn:mQ}(e:Ex G0 L0 H0 G1 L1 H1):Gg (yZ K G1 L1 H1 Dn) (yZ K G0 L0 H0 Dn):=⟨fun _ _ h=>jh.back e h,fun _ _ h=>Fin.back e h,fun _ _ h=>jh.back e h,fun _ _ h=>jh.back e h⟩
theorem SP.imp{X:Cx}{pins:List (Addr×Obj)}{A B:Ai}(e:Gg A B){f:Flow}{s:Shared}(h:SP X pins A f s):SP X pins B f s:=by
 cases f with
 | next=>obtain ⟨a,b,I,q⟩:=h;exact ⟨a,b,I,e.nx _ _ q⟩
 | brk=>obtain ⟨a,b,I,q⟩:=h;exact ⟨a,b,I,e.bk _ _ q⟩
 | cont=>obtain ⟨a,b,I,q⟩:=h;exact ⟨a,b,I,e.ct _ _ q⟩
 | ret u=>obtain ⟨v,a,b,I,r,q⟩:=h;exact ⟨v,a,b,I,r,e.rt _ _ q⟩
end
section
variable{X:Cx}{R:St→XK}{e:Expr}
theorem JE.of{te:TE}{t:DE}(h:PE X e te)(hw:∀σ H G L ρ M q x,Rl X.K G L M H→EnD X.K G L ρ σ→t ρ M q x→XOk X.K G L H R x→te σ H (Fin X.K G L H q)):JE X R e t:=by
 intro pins s σ H Q I ⟨G,L,ρ,M,q,x,r,n,ht,hx,hQ⟩
 refine thn (h pins s σ H _ I (hw σ H G L ρ M q x r n ht hx)) fun u s1 ⟨v,H1,I1,rv,f⟩=>⟨v,H1,I1,rv,hQ v H1 f⟩
theorem JT.of{te:TT}{t:DT}(h:PT X e te)(hw:∀σ H G L ρ M q x,Rl X.K G L M H→EnD X.K G L ρ σ→t ρ M q x→XOk X.K G L H R x→te σ H (yY X.K G L H q)):JT X R e t:=by
 intro pins s σ H Q I ⟨G,L,ρ,M,q,x,r,n,ht,hx,hQ⟩
 refine thn (h pins s σ H _ I (hw σ H G L ρ M q x r n ht hx)) fun u s1 ⟨H1,I1,f⟩=>⟨H1,I1,hQ u H1 f⟩
theorem JW.of{te:TT}{t:DT}(h:PW X e te)(hw:∀σ H G L ρ M q x,Rl X.K G L M H→EnD X.K G L ρ σ→t ρ M q x→XOk X.K G L H R x→te σ H (yY X.K G L H q)):JW X R e t:=by
 intro wh pins s σ H Q I ⟨G,L,ρ,M,q,x,r,n,ht,hx,hQ⟩
 refine thn (h wh pins s σ H _ I (hw σ H G L ρ M q x r n ht hx)) fun u s1 ⟨H1,I1,f⟩=>⟨H1,I1,hQ u H1 f⟩
theorem JA.of{es:List Expr}{te:TA}{t:DA}(h:PA X es te)(hw:∀σ H G L ρ M q x,Rl X.K G L M H→EnD X.K G L ρ σ→t ρ M q x→XOk X.K G L H R x→te σ H (Eu X.K G L H q)):JA X R es t:=by
 intro pos pins s σ H Q I ⟨G,L,ρ,M,q,x,r,n,ht,hx,hQ⟩
 refine thn (h pos pins s σ H _ I (hw σ H G L ρ M q x r n ht hx)) fun u s1 ⟨v,H1,I1,rv,f⟩=>⟨v,H1,I1,rv,hQ v H1 f⟩
theorem JS.of{st:Stmt}{te:TS}{t:DS}(h:PS X st te)(hw:∀σ H G L ρ M Dn,Rl X.K G L M H→EnD X.K G L ρ σ→t Dn ρ M→XOk X.K G L H R Dn.x→te (yZ X.K G L H Dn) σ H):JS X R st t:=by
 intro pins s σ H De I ⟨G,L,ρ,M,Dn,r,n,ht,hx,hQ⟩
 exact thn (h pins s σ H _ I (hw σ H G L ρ M Dn r n ht hx)) fun u s1 f=>SP.imp hQ f
theorem JSs.of{st:List Stmt}{te:TS}{t:DS}(h:PSs X st te)(hw:∀σ H G L ρ M Dn,Rl X.K G L M H→EnD X.K G L ρ σ→t Dn ρ M→XOk X.K G L H R Dn.x→te (yZ X.K G L H Dn) σ H):JSs X R st t:=by
 intro pins s σ H De I ⟨G,L,ρ,M,Dn,r,n,ht,hx,hQ⟩
 exact thn (h pins s σ H _ I (hw σ H G L ρ M Dn r n ht hx)) fun u s1 f=>SP.imp hQ f
end
def wX(i:Nat):DE:=fun ρ M q _=>match ρ[i]? with
 | some (some d)=>q d M
 | _=>False
def dC(d:Dt):DE:=fun _ M q _=>q d M
def dOp(f:Dt→Dt→Ms→DQ→Prop)(a b:DE):DE:=fun ρ M q x=>a ρ M (fun d1 M1=>b ρ M1 (fun d2 M2=>f d1 d2 M2 q) x) x
def dUn(f:Dt→Ms→DQ→Prop)(a:DE):DE:=fun ρ M q x=>a ρ M (fun d1 M1=>f d1 M1 q) x
def FX:DA:=fun _ M q _=>q [] M
def D0(a:DE)(r:DA):DA:=fun ρ M q x=>a ρ M (fun d M1=>r ρ M1 (fun ds M2=>q (d::ds) M2) x) x
def dFn(f:List Dt→Ms→DQ→Prop)(a:DA):DE:=fun ρ M q x=>a ρ M (fun ds M1=>f ds M1 q) x
def OpD(K:PySem.W.Frag)(r:R2)(f:Dt→Dt→Ms→DQ→Prop):Prop:=
 ∀G0 L0 H0 G L M H v1 v2 d1 d2 q,Ex G0 L0 H0 G L H→Rl K G L M H→Den K G L d1 v1→Den K G L d2 v2→f d1 d2 M q→r v1 v2 H (Fin K G0 L0 H0 q)
def UnD(K:PySem.W.Frag)(r:V→Hp→VK→Prop)(f:Dt→Ms→DQ→Prop):Prop:=
 ∀G0 L0 H0 G L M H v1 d1 q,Ex G0 L0 H0 G L H→Rl K G L M H→Den K G L d1 v1→f d1 M q→r v1 H (Fin K G0 L0 H0 q)
def CaD(K:PySem.W.Frag)(r:List V→Hp→VK→Prop)(f:List Dt→Ms→DQ→Prop):Prop:=
 ∀G0 L0 H0 G L M H vs ds q,Ex G0 L0 H0 G L H→Rl K G L M H→bb K G L ds vs→f ds M q→r vs H (Fin K G0 L0 H0 q)
section
variable{K:PySem.W.Frag}{R:St→XK}{ta tb:DE}{tc:DA}{σ:St}{H G:Hp}{L:List Addr}{ρ:En}{M:Ms}{q:DQ}{x:DX}
theorem xn{r:R2}{f:Dt→Dt→Ms→DQ→Prop}(od:OpD K r f)(rl:Rl K G L M H)(n:EnD K G L ρ σ)(h:dOp f ta tb ρ M q x)(hx:XOk K G L H R x):tOp r (tU K R ta) (tU K R tb) σ H (Fin K G L H q):=by
 refine ⟨G,L,ρ,M,_,x,rl,n,h,hx,fun v H1 ⟨d1,G1,L1,M1,e1,r1,n1,h1⟩=> ?_⟩
 refine ⟨G1,L1,ρ,M1,_,x,r1,n.mono e1,h1,hx.on e1,fun v2 H2 ⟨d2,G2,L2,M2,e2,r2,n2,h2⟩=> ?_⟩
 exact od G L H G2 L2 M2 H2 v v2 d1 d2 q (e1.trans e2) r2 (Den.mono e2.g e2.l _ _ n1) n2 h2
theorem Ez{r:V→Hp→VK→Prop}{f:Dt→Ms→DQ→Prop}(od:UnD K r f)(rl:Rl K G L M H)(n:EnD K G L ρ σ)(h:dUn f ta ρ M q x)(hx:XOk K G L H R x):tUn r (tU K R ta) σ H (Fin K G L H q):=by
 refine ⟨G,L,ρ,M,_,x,rl,n,h,hx,fun v H1 ⟨d1,G1,L1,M1,e1,r1,n1,h1⟩=> ?_⟩
 exact od G L H G1 L1 M1 H1 v d1 q e1 r1 n1 h1
theorem DU{r:List V→Hp→VK→Prop}{f:List Dt→Ms→DQ→Prop}(od:CaD K r f)(rl:Rl K G L M H)(n:EnD K G L ρ σ)(h:dFn f tc ρ M q x)(hx:XOk K G L H R x):tCB r (GI K R tc) σ H (Fin K G L H q):=by
 refine ⟨G,L,ρ,M,_,x,rl,n,h,hx,fun v H1 ⟨d1,G1,L1,M1,e1,r1,n1,h1⟩=> ?_⟩
 exact od G L H G1 L1 M1 H1 v d1 q e1 r1 n1 h1
end
section
variable{X:Cx}{R:St→XK}{a b c:Expr}{ta tb:DE}{pos:Pos}
theorem jv(i:Nat){x:Str}{pos:Pos}(hN:X.N[i]? =some x:=by rfl)(hv:Vis X.env.scope x:=by first | exact Or.inl rfl | exact Or.inr (Or.inl rfl) | exact Or.inr (Or.inr rfl))(hd:(x==("__debug__":Str))=false:=by decide)
  (hcd:(x==("__classdict__":Str))=false:=by decide):JE X R (.Name x pos) (wX i):= .of (CA hN hv hd hcd) fun σ H G L ρ M q x r n h hx=>by
 unfold wX at h
 split at h
 ·rename_i d e
  obtain ⟨v,e1,h1⟩:=n.ats i d e
  exact ⟨v,e1,d,G,L,M, .refl _ _ _,r,h1,h⟩
 ·exact h.elim
theorem j_c{d:Dt}{v:V}{e:Expr}(h:PE X e (tC v))(hd:∀G L,Den X.K G L d v):JE X R e (dC d):= .of h fun σ H G L ρ M q x r n h hx=>⟨d,G,L,M, .refl _ _ _,r,hd G L,h⟩
theorem aw{i j pos}:JE X R (.Constant (.int i) j pos) (dC (.int i)):=j_c CG fun _ _=>rfl
theorem jbl{b j pos}:JE X R (.Constant (.bool b) j pos) (dC (.bl b)):=j_c E1 fun _ _=>rfl
theorem Ek{j pos}:JE X R (.Constant .none j pos) (dC .non):=j_c CD fun _ _=>rfl
theorem g9{x j pos}:JE X R (.Constant (.str x) j pos) (dC (.str x)):=j_c zy fun _ _=>rfl
theorem yB{op:Operator}{r:R2}{f:Dt→Dt→Ms→DQ→Prop}(ho:OpR X (binaryOp op) r)(od:OpD X.K r f)(ja:JE X R a ta)(jb:JE X R b tb):JE X R (.BinOp a op b pos) (dOp f ta tb):=
 .of (EX ho ja jb) fun σ H G L ρ M q x r n h hx=>xn od r n h hx
theorem HD{op:UnaryOp}{r:V→Hp→VK→Prop}{f:Dt→Ms→DQ→Prop}(ho:UnR X (unaryOp op) r)(od:UnD X.K r f)(ja:JE X R a ta):JE X R (.UnaryOp op a pos) (dUn f ta):=
 .of (EV ho ja) fun σ H G L ρ M q x r n h hx=>Ez od r n h hx
theorem tY{op:CmpOp}{r:R2}{f:Dt→Dt→Ms→DQ→Prop}(ho:OpR X (compareOp op) r)(od:OpD X.K r f)(ja:JE X R a ta)(jb:JE X R b tb)(hm:behindInMarks op b=false):JE X R (.Compare a [op] [b] pos) (dOp f ta tb):=
 .of (AL ho ja jb hm) fun σ H G L ρ M q x r n h hx=>xn od r n h hx
theorem Fh{r:R2}{f:Dt→Dt→Ms→DQ→Prop}(hr:IxR X r)(od:OpD X.K r f)(ja:JE X R a ta)(jb:JE X R b tb)(hs:qO b):JE X R (.Subscript a b pos) (dOp f ta tb):=
 .of (EY hr ja jb hs) fun σ H G L ρ M q x r n h hx=>xn od r n h hx
theorem bB{env:Env}{es:List Expr}{c j p}:starEach (.Constant c j p::es) env=(false,eval (.Constant c j p) env)::starEach es env:=rfl
theorem ak{env:Env}{es:List Expr}{c p}:starEach (.Name c p::es) env=(false,eval (.Name c p) env)::starEach es env:=rfl
theorem bO{env:Env}{es:List Expr}{a o b p}:starEach (.BinOp a o b p::es) env=(false,eval (.BinOp a o b p) env)::starEach es env:=rfl
theorem aU{env:Env}{es:List Expr}{a b c p}:starEach (.Call a b c p::es) env=(false,eval (.Call a b c p) env)::starEach es env:=rfl
theorem aS{env:Env}{es:List Expr}{a b p}:starEach (.Subscript a b p::es) env=(false,eval (.Subscript a b p) env)::starEach es env:=rfl
theorem sV{env:Env}{es:List Expr}{a b p}:starEach (.Tuple a b p::es) env=(false,eval (.Tuple a b p) env)::starEach es env:=rfl
theorem af:JA X R [] FX:= .of CJ fun σ H G L ρ M q x r n h hx=>⟨[],G,L,M, .refl _ _ _,r,rfl,h⟩
theorem aa{e:Expr}{es:List Expr}{te:DE}{t:DA}(ha:JE X R e te)(hr:JA X R es t)(hs:starEach (e::es) X.env=(false,eval e X.env)::starEach es X.env:=by first | exact bB | exact ak | exact bO | exact aU | exact aS | exact sV | exact starK | exact starU | rfl):JA X R (e::es) (D0 te t):=
 .of (AO ha hr hs) fun σ H G L ρ M q x rl n h hx=>by
  refine ⟨G,L,ρ,M,_,x,rl,n,h,hx,fun v H1 ⟨d1,G1,L1,M1,e1,r1,n1,h1⟩=> ?_⟩
  refine ⟨G1,L1,ρ,M1,_,x,r1,n.mono e1,h1,hx.on e1,fun v2 H2 ⟨d2,G2,L2,M2,e2,r2,n2,h2⟩=> ?_⟩
  exact ⟨d1::d2,G2,L2,M2,e1.trans e2,r2,⟨_,_,rfl,Den.mono e2.g e2.l _ _ n1,n2⟩,h2⟩
def GR(t:DA):DE:=fun ρ M q x=>t ρ M (fun ds M1=>ds.length≤sizeLine∧q (.tup ds) M1) x
def GU(t:DA):DE:=fun ρ M q x=>t ρ M (fun ds M1=>ds.length≤sizeLine∧q (.lst ds) M1) x
def FQ(t:DA):DE:=fun ρ M q x=>t ρ M (fun ds M1=>ds.length≤sizeLine∧q (.loc M1.length) (M1++[.lst ds])) x
theorem iw{K:PySem.W.Frag}{G0:Hp}{L0:List Addr}{H0 G:Hp}{L:List Addr}{M:Ms}{H:Hp}{p:Addr}{o:HO}{d:Dt}{q:DQ}(e:Ex G0 L0 H0 G L H)(r:Rl K G L M H)(hp:H p=none)(hd:Den K (upd G p o) L d (.ref p))(h:q d M):Fin K G0 L0 H0 q (.ref p) (upd H p o):=
 ⟨d,upd G p o,L,M,e.trans (r.exG hp),r.newG hp,hd,h⟩
theorem mG{K:PySem.W.Frag}{G:Hp}{L:List Addr}{M:Ms}{H:Hp}{p:Addr}{ds:List Dt}{vs:List V}(r:Rl K G L M H)(hp:H p=none)(h:bb K G L ds vs):Den K (upd G p (.tup vs)) L (.tup ds) (.ref p):=
 ⟨p,vs,rfl,aC,bb.mono (r.exG hp).g (.refl _) _ _ h⟩
theorem mH{K:PySem.W.Frag}{G:Hp}{L:List Addr}{M:Ms}{H:Hp}{p:Addr}{ds:List Dt}{vs:List V}(r:Rl K G L M H)(hp:H p=none)(h:bb K G L ds vs):Den K (upd G p (.lst vs)) L (.lst ds) (.ref p):=
 ⟨p,vs,rfl,aC,bb.mono (r.exG hp).g (.refl _) _ _ h⟩
theorem ix{K:PySem.W.Frag}{G0:Hp}{L0:List Addr}{H0 G:Hp}{L:List Addr}{M:Ms}{H:Hp}{p:Addr}{q:DQ}{ds:List Dt}{vs:List V}(e:Ex G0 L0 H0 G L H)(r:Rl K G L M H)(hp:H p=none)(hd:bb K G L ds vs)(h:q (.loc M.length) (M++[.lst ds])):Fin K G0 L0 H0 q (.ref p) (upd H p (.lst vs)):=
 ⟨.loc M.length,G,L++[p],M++[.lst ds],e.trans (r.exM hp),r.newM (m:= .lst ds) hp ⟨vs,aC,bb.mono (.refl _) ⟨[p],rfl⟩ _ _ hd⟩,⟨p,rfl,by rw [←r.len,List.getElem?_append_right (Nat.le_refl _)];simp⟩,h⟩
variable{es:List Expr}{t:DA}
theorem cJ{x1}(h:JA X R es t):JE X R (.Tuple es x1 pos) (GR t):= .of (CB h) fun σ H G L ρ M q x rl n h hx=>by
 refine ⟨G,L,ρ,M,_,x,rl,n,h,hx,fun v H1 ⟨d1,G1,L1,M1,e1,r1,n1,h1⟩=>⟨by rw [←n1.length];exact h1.1,fun p hp=> ?_⟩⟩
 exact iw e1 r1 hp (mG r1 hp n1) h1.2
theorem qt(h:JA X R es t):JE X R (.List es pos) (GU t):= .of (zz h) fun σ H G L ρ M q x rl n h hx=>by
 refine ⟨G,L,ρ,M,_,x,rl,n,h,hx,fun v H1 ⟨d1,G1,L1,M1,e1,r1,n1,h1⟩=>⟨by rw [←n1.length];exact h1.1,fun p hp=> ?_⟩⟩
 exact iw e1 r1 hp (mH r1 hp n1) h1.2
theorem kM(h:JA X R es t):JE X R (.List es pos) (FQ t):= .of (zz h) fun σ H G L ρ M q x rl n h hx=>by
 refine ⟨G,L,ρ,M,_,x,rl,n,h,hx,fun v H1 ⟨d1,G1,L1,M1,e1,r1,n1,h1⟩=>⟨by rw [←n1.length];exact h1.1,fun p hp=> ?_⟩⟩
 exact ix e1 r1 hp n1 h1.2
def sR(t:DE):DT:=fun ρ M q x=>t ρ M (fun d M1=>match d with
 | .bl b=>q b M1
 | _=>False) x
def orT(t u:DT):DT:=fun ρ M q x=>t ρ M (fun c M1=>(c=true→q true M1)∧(c=false→u ρ M1 q x)) x
def GF(t:DT):DT:=fun ρ M q x=>t ρ M (fun c M1=>q (!c) M1) x
theorem BW{K:PySem.W.Frag}{t:DE}{σ:St}{H G:Hp}{L:List Addr}{ρ:En}{M:Ms}{q:Bool→Ms→Prop}{x:DX}(rl:Rl K G L M H)(n:EnD K G L ρ σ)(h:sR t ρ M q x)(hx:XOk K G L H R x):tB (tU K R t) σ H (yY K G L H q):=by
 refine ⟨G,L,ρ,M,_,x,rl,n,h,hx,fun v H1 ⟨d1,G1,L1,M1,e1,r1,n1,h1⟩=> ?_⟩
 (try dsimp only at h1)
 split at h1
 ·rename_i b
  exact ⟨b,n1,G1,L1,M1,e1,r1,h1⟩
 ·exact h1.elim
theorem eG{e:Expr}{t:DE}(h:JE X R e t)(he:∀whole,isTrue e X.env whole=(do let v←whole;standAt e.pos;holding [v] (truthy v)):=by intro _;rfl):JT X R e (sR t):=
 .of (Cq h he) fun σ H G L ρ M q x rl n h hx=>BW rl n h hx
theorem g8{op:CmpOp}{r:R2}{f:Dt→Dt→Ms→DQ→Prop}(ho:OpR X (compareOp op) r)(od:OpD X.K r f)(ja:JE X R a ta)(jb:JE X R b tb)(hm:behindInMarks op b=false):JT X R (.Compare a [op] [b] pos) (sR (dOp f ta tb)):=
 .of (AA ho ja jb hm) fun σ H G L ρ M q x rl n h hx=>by
  have h:dOp f ta tb ρ M (fun d M1=>match d with | .bl b=>q b M1 | _=>False) x:=h
  refine ⟨G,L,ρ,M,_,x,rl,n,h,hx,fun v H1 ⟨d1,G1,L1,M1,e1,r1,n1,h1⟩=> ?_⟩
  refine ⟨G1,L1,ρ,M1,_,x,r1,n.mono e1,h1,hx.on e1,fun v2 H2 ⟨d2,G2,L2,M2,e2,r2,n2,h2⟩=> ?_⟩
  have:=od G L H G2 L2 M2 H2 v v2 d1 d2 _ (e1.trans e2) r2 (Den.mono e2.g e2.l _ _ n1) n2 h2
  have e:(fun x H'=>∃k,x=V.bl k∧yY X.K G L H q k H')=Fin X.K G L H (fun d M1=>match d with | .bl b=>q b M1 | _=>False):=by
   funext y H'
   apply propext
   constructor
   ·rintro ⟨k,rfl,G3,L3,M3,e3,r3,h3⟩
    exact ⟨.bl k,G3,L3,M3,e3,r3,rfl,h3⟩
   ·rintro ⟨d,G3,L3,M3,e3,r3,n3,h3⟩
    split at h3
    ·rename_i k
     exact ⟨k,n3,G3,L3,M3,e3,r3,h3⟩
    ·exact h3.elim
  rw [e]
  exact this
theorem JW.jt{e:Expr}{t:DT}(h:JW X R e t):JT X R e t:=h _
variable{t1 t2:DT}{rest:List Expr}
theorem iG(ha:JT X R a t1):JW X R (.BoolOp .Or [a] pos) t1:=Ci ha
theorem oa(ha:JT X R a t1)(hb:JW X R (.BoolOp .Or (b::rest) pos) t2):JW X R (.BoolOp .Or (a::b::rest) pos) (orT t1 t2):= .of (ET ha hb) fun σ H G L ρ M q x rl n h hx=>by
 refine ⟨G,L,ρ,M,_,x,rl,n,h,hx,fun c H1 ⟨G1,L1,M1,e1,r1,h1⟩=> ?_⟩
 cases c with
 | true=>exact BL ⟨G1,L1,M1,e1,r1,h1.1 rfl⟩
 | false=>exact BM ⟨G1,L1,ρ,M1,_,x,r1,n.mono e1,h1.2 rfl,hx.on e1,fun b H2 f=>yY.back e1 f⟩
theorem kK(ha:JT X R a t1):JT X R (.UnaryOp .Not a pos) (GF t1):= .of (Cr ha) fun σ H G L ρ M q x rl n h hx=>
 ⟨G,L,ρ,M,_,x,rl,n,h,hx,fun _ _ ⟨G,L,M,e,r,h⟩=>⟨G,L,M,e,r,h⟩⟩
def GV(t u:DE):DE:=fun ρ M q x=>t ρ M (fun d M1=>match d with
 | .bl c=>(c=true→u ρ M1 q x)∧(c=false→q (.bl false) M1)
 | _=>False) x
def dOr(t u:DE):DE:=fun ρ M q x=>t ρ M (fun d M1=>match d with
 | .bl c=>(c=true→q (.bl true) M1)∧(c=false→u ρ M1 q x)
 | _=>False) x
def dIf(t:DT)(u v:DE):DE:=fun ρ M q x=>t ρ M (fun c M1=>(c=true→u ρ M1 q x)∧(c=false→v ρ M1 q x)) x
theorem iI{op}{t:DE}(h:JE X R a t):JE X R (.BoolOp op [a] pos) t:=CC h
theorem gf(ha:JE X R a ta)(hb:JE X R (.BoolOp .And (b::rest) pos) tb):JE X R (.BoolOp .And (a::b::rest) pos) (GV ta tb):= .of (CI ha hb) fun σ H G L ρ M q x rl n h hx=>by
 refine ⟨G,L,ρ,M,_,x,rl,n,h,hx,fun v H1 ⟨d1,G1,L1,M1,e1,r1,n1,h1⟩=> ?_⟩
 (try dsimp only at h1)
 split at h1
 ·rename_i c
  refine ⟨c,n1, ?_⟩
  cases c with
  | true=>exact BL ⟨G1,L1,ρ,M1,_,x,r1,n.mono e1,h1.1 rfl,hx.on e1,fun b H2 f=>Fin.back e1 f⟩
  | false=>exact BM ⟨.bl false,G1,L1,M1,e1,r1,rfl,h1.2 rfl⟩
 ·exact h1.elim
theorem Ff(ha:JE X R a ta)(hb:JE X R (.BoolOp .Or (b::rest) pos) tb):JE X R (.BoolOp .Or (a::b::rest) pos) (dOr ta tb):= .of (EW ha hb) fun σ H G L ρ M q x rl n h hx=>by
 refine ⟨G,L,ρ,M,_,x,rl,n,h,hx,fun v H1 ⟨d1,G1,L1,M1,e1,r1,n1,h1⟩=> ?_⟩
 (try dsimp only at h1)
 split at h1
 ·rename_i c
  refine ⟨c,n1, ?_⟩
  cases c with
  | true=>exact BL ⟨.bl true,G1,L1,M1,e1,r1,rfl,h1.1 rfl⟩
  | false=>exact BM ⟨G1,L1,ρ,M1,_,x,r1,n.mono e1,h1.2 rfl,hx.on e1,fun b H2 f=>Fin.back e1 f⟩
 ·exact h1.elim
theorem yA{c:Expr}(hc:JT X R c t1)(ha:JE X R a ta)(hb:JE X R b tb):JE X R (.IfExp c a b pos) (dIf t1 ta tb):= .of (yg hc ha hb) fun σ H G L ρ M q x rl n h hx=>by
 refine ⟨G,L,ρ,M,_,x,rl,n,h,hx,fun c H1 ⟨G1,L1,M1,e1,r1,h1⟩=> ?_⟩
 cases c with
 | true=>exact BL ⟨G1,L1,ρ,M1,_,x,r1,n.mono e1,h1.1 rfl,hx.on e1,fun b H2 f=>Fin.back e1 f⟩
 | false=>exact BM ⟨G1,L1,ρ,M1,_,x,r1,n.mono e1,h1.2 rfl,hx.on e1,fun b H2 f=>Fin.back e1 f⟩
end
def B9:DS:=fun Dn ρ M=>Dn.nx ρ M
def Gp(t u:DS):DS:=fun Dn ρ M=>t {Dn with nx:=u Dn} ρ M
def sIf(c:DT)(t u:DS):DS:=fun Dn ρ M=>c ρ M (fun b M1=>(b=true→t Dn ρ M1)∧(b=false→u Dn ρ M1)) Dn.x
def Gq(t:DE):DS:=fun Dn ρ M=>t ρ M Dn.rt Dn.x
def Eg(i:Nat)(t:DE):DS:=fun Dn ρ M=>t ρ M (fun d M1=>Dn.nx (ρ.set i (some d)) M1) Dn.x
def Cb(t:DE):DS:=fun Dn ρ M=>t ρ M (fun _ M1=>Dn.nx ρ M1) Dn.x
def Hs(t:DS):DS:=fun Dn ρ M=>∃J:En→Ms→Prop,t {Dn with nx:=J} ρ M∧∀ρ' M',J ρ' M'→Dn.nx ρ' M'
section
variable{X:Cx}{R:St→XK}{st:Stmt}{rest:List Stmt}{t u:DS}{e:Expr}{te:DE}{pos:Pos}
theorem aA:JSs X R [] B9:= .of AD fun σ H G L ρ M Dn rl n h hx=>⟨ρ,G,L,M, .refl _ _ _,rl,n,h⟩
theorem ah(h1:JS X R st t):JSs X R [st] t:=AB h1
theorem ae(h1:JS X R st t)(h2:JSs X R rest u):JSs X R (st::rest) (Gp t u):= .of (ya h1 h2) fun σ H G L ρ M Dn rl n h hx=>by
 refine ⟨G,L,ρ,M,_,rl,n,h,hx,⟨fun σ1 H1 ⟨ρ1,G1,L1,M1,e1,r1,n1,h1⟩=> ?_,fun _ _ f=>f,fun _ _ f=>f,fun _ _ f=>f⟩⟩
 exact ⟨G1,L1,ρ1,M1,Dn,r1,n1,h1,hx.on e1,yZ.back e1⟩
theorem gG:JS X R (.Continue pos) (fun Dn ρ M=>Dn.ct ρ M):= .of pP fun σ H G L ρ M Dn rl n h hx=>⟨ρ,G,L,M, .refl _ _ _,rl,n,h⟩
theorem au(he:JE X R e te):JS X R (.Return (some e) pos) (Gq te):= .of (Ct he) fun σ H G L ρ M Dn rl n h hx=>⟨G,L,ρ,M,_,_,rl,n,h,hx,fun _ _ f=>f⟩
theorem gF(he:JE X R e te)(hs:swapsWith e none pos.line X.env=pure false:=by rfl):JS X R (.Expr e pos) (Cb te):= .of (AE he hs) fun σ H G L ρ M Dn rl n h hx=>by
 refine ⟨G,L,ρ,M,_,_,rl,n,h,hx,fun v H1 ⟨d1,G1,L1,M1,e1,r1,n1,h1⟩=>⟨ρ,G1,L1,M1,e1,r1,n.mono e1,h1⟩⟩
theorem bc{c:Expr}{a b:List Stmt}{tc:DT}(hc:JT X R c tc)(ha:JSs X R a t)(hb:JSs X R b u):JS X R (.If c a b pos) (sIf tc t u):= .of (EU hc ha hb) fun σ H G L ρ M Dn rl n h hx=>by
 refine ⟨G,L,ρ,M,_,_,rl,n,h,hx,fun c H1 ⟨G1,L1,M1,e1,r1,h1⟩=> ?_⟩
 cases c with
 | true=>exact BL ⟨G1,L1,ρ,M1,Dn,r1,n.mono e1,h1.1 rfl,hx.on e1,yZ.back e1⟩
 | false=>exact BM ⟨G1,L1,ρ,M1,Dn,r1,n.mono e1,h1.2 rfl,hx.on e1,yZ.back e1⟩
theorem aq{i:Nat}{x:Str}{pos':Pos}(hN:X.N.Nodup)(hi:X.N[i]? =some x)(hx:Loc X.env.scope x)(he:JE X R e te)(hs:swapsWith e (some (.Name x pos')) pos.line X.env=pure false:=by rfl)(hf:X.fn x=true∨X.env.scope.names.lookup x=some .local:=by first | exact .inl rfl | exact .inr rfl | assumption):
  JS X R (.Assign [.Name x pos'] e pos) (Eg i te):= .of (Cs hN hi hx he hs hf) fun σ H G L ρ M Dn rl n h hx=>by
 refine ⟨G,L,ρ,M,_,_,rl,n,h,hx,fun v H1 ⟨d1,G1,L1,M1,e1,r1,n1,h1⟩=>⟨_,G1,L1,M1,e1,r1,(n.mono e1).set i n1,h1⟩⟩
theorem iH(h:JS X R st t):JS X R st (Hs t):= .of h fun σ H G L ρ M Dn rl n h hx=>by
 obtain ⟨J,h1,h2⟩:=h
 refine ⟨G,L,ρ,M,_,rl,n,h1,hx,⟨fun σ1 H1 ⟨ρ1,G1,L1,M1,e1,r1,n1,h1⟩=>⟨ρ1,G1,L1,M1,e1,r1,n1,h2 _ _ h1⟩,fun _ _ f=>f,fun _ _ f=>f,fun _ _ f=>f⟩⟩
end
abbrev DXF:=Addr→List (Str×Dt)→Ms→Prop
abbrev DF:=List Dt→Ms→DQ→DXF→Prop
inductive spD(K:PySem.W.Frag)(T:DF)(vs:List V)(H:Hp)(Q:VK)(E:XK):Prop
 | mk (G:Hp) (L:List Addr) (ds:List Dt) (M:Ms) (q:DQ) (x:DXF) (r:Rl K G L M H) (n:bb K G L ds vs) (h:T ds M q x) (hQ:∀v H1,Fin K G L H q v H1→Q v H1) (hE:∀C fs M1 G1 L1 H1 od,x C fs M1→Ex G L H G1 L1 H1→Rl K G1 L1 M1 H1→Gj K G1 L1 H1 fs od→E (.ref C) od H1)
def kB(N:List Str)(ds:List Dt):En:=ds.map some++List.replicate (N.length - ds.length) none
theorem xW{K:PySem.W.Frag}{G:Hp}{L:List Addr}{N:List Str}{ds:List Dt}{vs:List V}(h:bb K G L ds vs):EnD K G L (kB N ds) (start N vs):=by
 have hl:=h.length
 refine ⟨by unfold kB start;simp [hl],fun i d e=> ?_⟩
 unfold kB at e
 unfold start
 by_cases hi:i < ds.length
 ·rw [List.getElem?_append_left (by simpa using hi),List.getElem?_map] at e
  rw [List.getElem?_append_left (by simpa [←hl] using hi),List.getElem?_map]
  cases q:ds[i]? with
  | none=>rw [q] at e;cases e
  | some d'=>
   rw [q] at e
   cases e
   obtain ⟨v,e1,h1⟩:=h.get q
   exact ⟨v,by rw [e1];rfl,h1⟩
 ·rw [List.getElem?_append_right (by simpa using Nat.le_of_not_lt hi),List.getElem?_replicate] at e
  split at e <;> cases e
section
variable{P:Program}{w:World}{K:PySem.W.Frag}{mg:Str→Option Value}{base:Heap}
theorem Fun.okD{x qual:Str}{st:Stmt}{f:Addr}{fd:FuncData}{N ps:List Str}{k:Nat}{T:DF}(F:Fun K x qual st f fd)(S:ar N ps (ag st))(len:∀ds M q x,T ds M q x→ds.length=ps.length)
  (hbody:∀(cdv:Value) (A:Around) (outer:List Env) (s:Shared) (H:Hp) (E:XK),eK k (A.deeper (envOfC qual (ag st) s.heap.objs.size f cdv))→
   ∃t,JSs (qE (CX1 P w) P w K mg base N qual (ag st) f cdv A outer s H E) (fun _=>E) (fF st) t∧∀ds M q x,T ds M q x→t {nx:=fun _ M'=>q .non M',rt:=q,x:=fun _=>x} (kB N ds) M):
  bA P w K mg base (CX1 P w) (k+1) f fd ps (spD K T):=by
 refine F.okX S (fun vs H Q E h=> ?_) (fun cdv A outer s H vs Q E hr h=> ?_)
 ·obtain ⟨G,L,ds,M,q,x,rl,n,hT,_⟩:=h
  rw [←n.length];exact len _ _ _ _ hT
 ·obtain ⟨t,j,ht⟩:=hbody cdv A outer s H E hr
  obtain ⟨G,L,ds,M,q,x,rl,n,hT,hQ,hE⟩:=h
  refine ⟨_,j,G,L,kB N ds,M,_,rl,xW n,ht ds M q x hT,fun σ ρ C fs M' G' L' H' od hx e r _ y=>hE C fs M' G' L' H' od hx e r y,⟨fun σ' H' ⟨ρ',G',L',M',e,r,_,h⟩=>hQ _ _ ⟨.non,G',L',M',e,r,rfl,h⟩,fun v H' f=>hQ v H' f,fun _ _ ⟨_,_,_,_,_,_,_,h⟩=>h.elim,fun _ _ ⟨_,_,_,_,_,_,_,h⟩=>h.elim⟩⟩
structure bx(P:Program)(w:World)(K:PySem.W.Frag)(mg:Str→Option Value)(base:Heap)(k:Nat)(x:Str)(ps:List Str)(T:DF)(f:Addr)(fd:FuncData):Prop where
 ok:bA P w K mg base (CX1 P w) k f fd ps (spD K T)
 b:iS K fd ps []
 m:mg x=some (.ref f)
 kp:PySem.W.keepIn K (.ref f)=true
end
def DP(T:DF)(t:DA):DE:=fun ρ M q x=>t ρ M (fun ds M1=>T ds M1 q (fun C fs M'=>x ρ C fs M')) x
section
variable{X:Cx}{R:St→XK}{T:DF}{k k':Nat}{f:Addr}{fd:FuncData}{ps:List Str}{x:Str}{p pos:Pos}{e:Expr}{es:List Expr}{t:DA}
theorem aV(C:bx X.prog X.w X.K X.mg X.base k x ps T f fd)(hr:eK k' X.A)(hx:de (CX1 X.prog X.w) X R)(ha:JA X R (e::es) t)(hk:k≤k':=by decide)(hg:Gl X x:=by rfl)(hdb:(x==("__debug__":Str))=false:=by decide)
  (he:starEach (e::es) X.env=(false,eval e X.env)::starEach es X.env:=by rfl) (hpl:(backTo pos (starEach es X.env)).any (·.1)=false:=by rfl):JE X R (.Call (.Name x p) (e::es) [] pos) (DP T t):=
 .of (yj C.ok (hr.mono hk) hg C.m C.kp C.b .nil hx ha hdb he hpl) fun σ H G L ρ M q x rl n h hx=>by
  refine ⟨G,L,ρ,M,_,x,rl,n,h,hx,fun vs H1 ⟨ds,G1,L1,M1,e1,r1,n1,h1⟩=> ?_⟩
  show spD X.K T (vs++[]) H1 _ _
  rw [aaT]
  exact ⟨G1,L1,ds,M1,q,_,r1,n1,h1,fun v H' f=>Fin.back e1 f,fun C fs M' G' L' H' od hq e' r' y=>hx σ ρ C fs M' G' L' H' od hq (e1.trans e') r' (n.mono (e1.trans e')) y⟩
end
def zl(C:Addr)(t:DA):DS:=fun Dn ρ M=>t ρ M (fun ds M1=>ds.length≤sizeLine∧Dn.x ρ C [] M1) Dn.x
section
variable{X:Cx}{R:St→XK}{C:Addr}{t:DA}{Bn newId initId:String}{bmB:List Value}{x:Str}{np cpos pos:Pos}{e:Expr}{es:List Expr}
theorem mw(hR:xH X R)(F:ExcBaseFacts Bn newId initId bmB)(c:iM X.K C bmB newId)(hm:X.mg x=some (.ref C))(ha:JA X R (e::es) t)(hc:X.calm=true:=by rfl)(hex:X.ex=[]:=by rfl)(hg:Gl X x:=by rfl)
  (hdb:(x==("__debug__":Str))=false:=by decide) (he:starEach (e::es) X.env=(false,eval e X.env)::starEach es X.env:=by rfl) (hpl:(backTo cpos (starEach es X.env)).any (·.1)=false:=by rfl):
  JS X R (.Raise (some (.Call (.Name x np) (e::es) [] cpos)) none pos) (zl C t):= .of (yc hR hc hex F c hg hm ha hdb he hpl) fun σ H G L ρ M Dn rl n h hx=>by
 refine ⟨G,L,ρ,M,_,_,rl,n,h,hx,fun vs H1 ⟨ds,G1,L1,M1,e1,r1,n1,h1⟩=>⟨by rw [←n1.length];exact h1.1, ?_⟩⟩
 exact hx σ ρ C [] M1 G1 L1 H1 none h1.2 e1 r1 (n.mono e1) (.inl ⟨rfl,rfl⟩)
end
structure Yl(K:PySem.W.Frag)(J:It)(xs:List Dt)(G0:Hp)(L0:List Addr):Prop where
 go:∀(i:Nat) G L M H (d:Dt),gK G0 G→Pre L0 L→Rl K G L M H→xs[i]? =some d→J.go i H∧∀v H',J.yld i H v H'→∃G',Ex G L H G' L H'∧Rl K G' L M H'∧Den K G' L d v
 stop:∀(i:Nat) G L M H,gK G0 G→Pre L0 L→Rl K G L M H→xs.length≤i→J.stop i H
inductive G9(K:PySem.W.Frag)(G0:Hp)(L0:List Addr)(H0:Hp)(q:List Dt→Ms→Prop)(J:It)(H:Hp):Prop
 | mk (xs:List Dt) (G:Hp) (L:List Addr) (M:Ms) (e:Ex G0 L0 H0 G L H) (r:Rl K G L M H) (y:Yl K J xs G L) (h:q xs M)
inductive E9(K:PySem.W.Frag)(R:St→XK)(t:DA)(σ:St)(H:Hp)(Q:It→Hp→Prop):Prop
 | mk (G:Hp) (L:List Addr) (ρ:En) (M:Ms) (q:List Dt→Ms→Prop) (x:DX) (r:Rl K G L M H) (n:EnD K G L ρ σ) (h:t ρ M q x) (hx:XOk K G L H R x) (hQ:∀J H1,G9 K G L H q J H1→Q J H1)
def JI(X:Cx)(R:St→XK)(tg iter:Expr)(t:DA):Prop:=PI X tg iter (E9 X.K R t)
theorem PIE.imp{X:Cx}{pins:List (Addr×Obj)}{σ:St}{tg:Expr}{R R':It→Hp→Prop}(hR:∀J H,R J H→R' J H){v:Value}{s:Shared}(h:PIE X pins σ tg R v s):PIE X pins σ tg R' v s:=by
 obtain ⟨it,fp,tn,J,H',a,b,c,d,e,f⟩:=h
 exact ⟨it,fp,tn,J,H',a,b,c,d,e,hR J H' f⟩
theorem uw{K:PySem.W.Frag}{G:Hp}{L:List Addr}{a:Addr}{ds:List Dt}{vs:List V}(h:∀G':Hp,gK G G'→SqL K G' a vs)(n:bb K G L ds vs):Yl K (Itl K a) ds G L where
 go:=fun i G1 L1 M1 H1 d g l r e=>by
  obtain ⟨v,e1,n1⟩:=n.get e
  have hs:=h H1 (g.trans r.sub)
  exact ⟨⟨vs,v,hs,e1⟩,fun v' H' ⟨eH,y⟩=>by
   subst eH
   have e2:=y vs hs
   rw [e1] at e2;cases e2
   exact ⟨G1, .refl _ _ _,r,Den.mono g l _ _ n1⟩⟩
 stop:=fun i G1 L1 M1 H1 g l r e=>⟨vs,h H1 (g.trans r.sub),by rw [←n.length];exact e⟩
theorem y9{K:PySem.W.Frag}{G:Hp}{L:List Addr}{a:Addr}{ds:List Dt}{vs:List V}(h:∀G':Hp,gK G G'→SqT K G' a vs)(n:bb K G L ds vs):Yl K (Itt K a) ds G L where
 go:=fun i G1 L1 M1 H1 d g l r e=>by
  obtain ⟨v,e1,n1⟩:=n.get e
  have hs:=h H1 (g.trans r.sub)
  exact ⟨⟨vs,v,hs,e1⟩,fun v' H' ⟨eH,y⟩=>by
   subst eH
   have e2:=y vs hs
   rw [e1] at e2;cases e2
   exact ⟨G1, .refl _ _ _,r,Den.mono g l _ _ n1⟩⟩
 stop:=fun i G1 L1 M1 H1 g l r e=>⟨vs,h H1 (g.trans r.sub),by rw [←n.length];exact e⟩
def fW(lo:Int)(n:Nat):List Dt:=(List.range n).map fun k:Nat=>Dt.int (lo+(k:Int))
theorem za{K:PySem.W.Frag}{G:Hp}{L:List Addr}{lo:Int}{n:Nat}:Yl K (Itr lo n) (fW lo n) G L where
 go :=fun i G1 L1 M1 H1 d g l r e=>by
  unfold fW at e
  rw [aaf] at e
  have hi:i < n:=by
   cases q:(List.range n)[i]? with
   | none=>rw [q] at e;cases e
   | some j=>
    have:=(aai.mp q).1
    rwa [abi] at this
  rw [aaB hi] at e
  cases e
  exact ⟨hi,fun v' H' ⟨eH,y⟩=>by subst eH y;exact ⟨G1, .refl _ _ _,r,rfl⟩⟩
 stop:=fun i G1 L1 M1 H1 g l r e=>by show n≤i;unfold fW at e;simpa using e
section
variable{X:Cx}{R:St→XK}{tg iter:Expr}
theorem JI.of{wi:TI}{t:DA}(h:PI X tg iter wi)(hw:∀σ H G L ρ M q x,Rl X.K G L M H→EnD X.K G L ρ σ→t ρ M q x→XOk X.K G L H R x→wi σ H (G9 X.K G L H q)):JI X R tg iter t:=by
 intro pins s σ H Q I ⟨G,L,ρ,M,q,x,r,n,ht,hx,hQ⟩
 exact thn (h pins s σ H _ I (hw σ H G L ρ M q x r n ht hx)) fun u s1 f=>thn f fun u2 s2 f2=>PIE.imp hQ f2
def GL(t:DA):DA:=fun ρ M q x=>t ρ M (fun ds M1=>match ds with
 | [.int j]=>(-(2 ^ 62)≤j∧j < 2 ^ 62)∧q (fW 0 j.toNat) M1
 | _=>False) x
theorem bq{a:Expr}{t:DA}{p pos:Pos}(hm:X.mg "range"=none)(ha:JA X R [a] t)(hg:Gl X "range":=by rfl)(hs:starEach [a] X.env=[(false,eval a X.env)]:=by rfl):JI X R tg (.Call (.Name "range" p) [a] [] pos) (GL t):=
 .of (vo hg hm ha hs) fun σ H G L ρ M q x rl n h hx=>by
  refine ⟨G,L,ρ,M,_,x,rl,n,h,hx,fun vs H1 ⟨ds,G1,L1,M1,e1,r1,n1,h1⟩=> ?_⟩
  (try dsimp only at h1)
  split at h1
  ·rename_i j
   obtain ⟨v,rfl,n2⟩:=b7 n1
   have n2:v= .int j:=n2
   subst n2
   exact ⟨j,rfl,h1.1.1,h1.1.2,_,G1,L1,M1,e1,r1,za,h1.2⟩
  ·exact h1.elim
def zQ(t:DA):DA:=fun ρ M q x=>t ρ M (fun ds M1=>match ds with
 | [.int i, .int j]=>(-(2 ^ 62)≤i∧i < 2 ^ 62∧ -(2 ^ 62)≤j∧j < 2 ^ 62)∧q (fW i (j - i).toNat) M1
 | _=>False) x
theorem wc{a b:Expr}{t:DA}{p pos:Pos}(hm:X.mg "range"=none)(ha:JA X R [a,b] t)(hg:Gl X "range":=by rfl)(hs:starEach [a,b] X.env=[(false,eval a X.env),(false,eval b X.env)]:=by rfl)(hs2:starEach [b] X.env=[(false,eval b X.env)]:=by rfl):
  JI X R tg (.Call (.Name "range" p) [a,b] [] pos) (zQ t):=
 .of (vn hg hm ha hs hs2) fun σ H G L ρ M q x rl n h hx=>by
  refine ⟨G,L,ρ,M,_,x,rl,n,h,hx,fun vs H1 ⟨ds,G1,L1,M1,e1,r1,n1,h1⟩=> ?_⟩
  (try dsimp only at h1)
  split at h1
  ·rename_i i j
   obtain ⟨v,u,rfl,n3,n2⟩:=fV n1
   have n3:v= .int i:=n3
   have n2:u= .int j:=n2
   subst n3 n2
   exact ⟨i,j,rfl,h1.1,_,G1,L1,M1,e1,r1,za,h1.2⟩
  ·exact h1.elim
end
def GD(K:PySem.W.Frag)(gg:TG)(g:Dt→En→(En→Prop)→Prop):Prop:=
 ∀G L M H d v ρ σ (k:En→Prop) (Q:St→Hp→Prop),Rl K G L M H→Den K G L d v→EnD K G L ρ σ→g d ρ k→(∀ρ' σ',EnD K G L ρ' σ'→k ρ'→Q σ' H)→gg v σ H Q
def gN(i:Nat):Dt→En→(En→Prop)→Prop:=fun d ρ k=>k (ρ.set i (some d))
theorem bJ{K:PySem.W.Frag}{i:Nat}:GD K (iu i) (gN i):=fun G L M H d v ρ σ k Q rl n en h hQ=>hQ _ _ (en.set i n) h
def g2(i j:Nat):Dt→En→(En→Prop)→Prop:=fun d ρ k=>match d with
 | .tup [a,b]=>k ((ρ.set i (some a)).set j (some b))
 | _=>False
theorem kQ{K:PySem.W.Frag}{i j:Nat}:GD K (Dv K 2 (mD (iu i) (mD (iu j) Dw))) (g2 i j):=fun G L M H d v ρ σ k Q rl n en h hQ=>by
 unfold g2 at h
 split at h
 ·rename_i a b
  obtain ⟨p,vs,rfl,e,n⟩:=n
  obtain ⟨v1,v2,rfl,n1,n2⟩:=fV n
  exact ⟨p,_,rfl, .inl (.inl (rl.sub _ _ e)),rfl,v1,_,rfl,v2,_,rfl,rfl,hQ _ _ ((en.set i n1).set j n2) h⟩
 ·exact h.elim
def yJ(g:Dt→En→(En→Prop)→Prop)(tb:DS)(Dn:mQ):List Dt→En→Ms→Prop
 | [],ρ,M=>Dn.nx ρ M
 | x::xs,ρ,M=>g x ρ fun ρ'=>tb {Dn with nx:=yJ g tb Dn xs,ct:=yJ g tb Dn xs,bk:=Dn.nx} ρ' M
def Gs(ti:DA)(g:Dt→En→(En→Prop)→Prop)(tb:DS):DS:=fun Dn ρ M=>ti ρ M (fun xs M1=>yJ g tb Dn xs ρ M1) Dn.x
section
variable{X:Cx}{R:St→XK}{tg iter:Expr}{body:List Stmt}{ti:DA}{gg:TG}{g:Dt→En→(En→Prop)→Prop}{tb:DS}{pos:Pos}
theorem fg(hi:JI X R tg iter ti)(hg:PG X tg gg)(gd:GD X.K gg g)(hb:JSs X R body tb)(hp:PassesOwn (model X.prog X.w) X.A X.env X.xe:=by first | exact PassesOwn.never | exact PassesOwn.leaving)(hc:X.calm=true:=by rfl)(hs:∀x,foldedSetIterable iter X.env x=pure x:=by intro _;rfl):
  JS X R (.For tg iter body [] pos) (Gs ti g tb):= .of (zt hp hc hi hg hb hs) fun σ H G L ρ M Dn rl n h hx=>by
 refine ⟨G,L,ρ,M,_,_,rl,n,h,hx,fun J H1 ⟨xs,G1,L1,M1,e1,r1,y,h1⟩=> ?_⟩
 refine ⟨fun i m σ' H'=>m+i=xs.length∧jh X.K G1 L1 H1 (fun ρ' M'=>yJ g tb Dn (xs.drop i) ρ' M') σ' H',⟨xs.length,rfl,ρ,G1,L1,M1, .refl _ _ _,r1,n.mono e1,by rw [abU];exact h1⟩, ?_⟩
 rintro i m σ' H' ⟨hm,ρ',G',L',M',e',r',n',h'⟩
 by_cases hi:i < xs.length
 ·right
  have hd:xs[i]? =some xs[i]:=aaa hi
  obtain ⟨go,yl⟩:=y.go i G' L' M' H' _ e'.g e'.l r' hd
  rw [aaR hi] at h'
  refine ⟨go,jh X.K G1 L1 H1 (fun ρ' M'=>yJ g tb Dn (xs.drop (i+1)) ρ' M'),fun σ2 H2 f=>⟨m - 1,by omega,by omega,f⟩,fun v H2 hy=> ?_⟩
  obtain ⟨G2,e2,r2,n2⟩:=yl v H2 hy
  refine gd G2 L' M' H2 _ v ρ' σ' _ _ r2 n2 (n'.mono e2) h' fun ρ3 σ3 n3 h3=> ?_
  refine ⟨G2,L',ρ3,M',_,r2,n3,h3,hx.on (e1.trans (e'.trans e2)),⟨fun _ _ f=>jh.back (e'.trans e2) f,fun _ _ f=>Fin.back (e1.trans (e'.trans e2)) f,fun _ _ f=>jh.back (e1.trans (e'.trans e2)) f,fun _ _ f=>jh.back (e'.trans e2) f⟩⟩
 ·left
  refine ⟨y.stop i G' L' M' H' e'.g e'.l r' (by omega),ρ',G',L',M',e1.trans e',r',n', ?_⟩
  rw [abu (by omega)] at h'
  exact h'
end
def oF(caps:List Nat)(ρ:En):En:=caps.map fun i=>(ρ[i]?).join
theorem zY{K:PySem.W.Frag}{G:Hp}{L:List Addr}{ρ:En}{σ:St}(h:EnD K G L ρ σ)(caps:List Nat){d:Dt}{v:V}(n:Den K G L d v):EnD K G L (some d::oF caps ρ) (some v::hW caps σ):=by
 refine ⟨by unfold oF hW;simp,fun i d' e=> ?_⟩
 cases i with
 | zero=>cases e;exact ⟨v,rfl,n⟩
 | succ j=>
  have e:(oF caps ρ)[j]? =some (some d'):=e
  show∃v',(hW caps σ)[j]? =some (some v')∧_
  unfold oF at e
  unfold hW
  rw [aaf] at e⊢
  cases q:caps[j]? with
  | none=>rw [q] at e;cases e
  | some i=>
   rw [q] at e
   have e:(ρ[i]?).join=some d':=aaw e
   have e:ρ[i]? =some (some d'):=by
    cases q2:ρ[i]? with
    | none=>rw [q2] at e;cases e
    | some o=>rw [q2] at e;exact congrArg some e
   obtain ⟨v',e1,n1⟩:=h.ats i d' e
   exact ⟨v',by show some ((σ[i]?).join)=_;rw [e1];rfl,n1⟩
def uh(te:DE)(cs:En):List Dt→List Dt→Ms→(List Dt→Ms→Prop)→Prop
 | [],acc,M,k=>k acc M
 | x::xs,acc,M,k=>te (some x::cs) M (fun d M1=>uh te cs xs (acc++[d]) M1 k) noX
def wZ(ti:DA)(te:DE)(caps:List Nat):DE:=fun ρ M q x=>ti ρ M (fun xs M1=>xs.length≤sizeLine∧uh te (oF caps ρ) xs [] M1 (fun ys M2=>q (.lst ys) M2)) x
theorem xc{K:PySem.W.Frag}{J:It}{te:DE}{caps:List Nat}{ρ:En}{σ:St}{G1:Hp}{L1:List Addr}{M1:Ms}{H1:Hp}{xs:List Dt}{Dl:Addr}{Q:VK}{k:List Dt→Ms→Prop}(r1:Rl K G1 L1 M1 H1)(n:EnD K G1 L1 ρ σ)(y:Yl K J xs G1 L1)(hD:H1 Dl=none)(hz:xs.length≤sizeLine)
  (h:uh te (oF caps ρ) xs [] M1 k)
  (fin:∀G2 L2 M2 H2 ds vs,Ex G1 L1 H1 G2 L2 H2→Rl K G2 L2 M2 H2→G2 Dl=none→Dl∉L2→H2 Dl=some (.lst vs)→bb K G2 L2 ds vs→k ds M2→Q (.ref Dl) H2):
  y6 J (tU K (fun _=>E0) te) (hW caps σ) Q H1 Dl:=by
 refine ⟨fun i m ys H2=>m+i=xs.length∧H2 Dl=some (.lst ys)∧∃acc G2 L2 M2,Ex G1 L1 H1 G2 L2 H2∧Rl K G2 L2 M2 H2∧G2 Dl=none∧Dl∉L2∧bb K G2 L2 acc ys∧acc.length=i∧uh te (oF caps ρ) (xs.drop i) acc M2 k,⟨xs.length,rfl,aC,[],G1,L1,M1, ?_⟩, ?_⟩
 ·have gn:G1 Dl=none:=r1.sub.free hD
  refine ⟨⟨.refl _, .refl _,fun _ h _=>h,fun b u h1 _=>by rw [av (fun z=>by rw [z,hD] at h1;cases h1)];exact h1,fun _ h=> .inl h,fun b h=>by rw [av (fun z=>h (by rw [z];exact hD))];exact h⟩,⟨fun b u e=>by rw [av (fun z=>by rw [z,gn] at e;cases e)];exact r1.sub b u e,r1.len,r1.nd,fun i a m h1 h2=> ?_⟩,gn,r1.memN hD,rfl,rfl,by rw [abU];exact h⟩
  obtain ⟨q1,q2⟩:=r1.ats i a m h1 h2
  exact ⟨q1,q2.mono (.refl _) (.refl _) (av fun z=>q2.there (by rw [z];exact hD))⟩
 ·rintro i m ys H2 ⟨hm,hacc,acc,G2,L2,M2,e2,r2,g2,l2,n2,la,h2⟩
  refine ⟨hacc, ?_⟩
  by_cases hi:i < xs.length
  ·right
   have hd:xs[i]? =some xs[i]:=aaa hi
   obtain ⟨go,yl⟩:=y.go i G2 L2 M2 H2 _ e2.g e2.l r2 hd
   rw [aaR hi] at h2
   refine ⟨go,fun v H3 hy=> ?_⟩
   obtain ⟨G3,e3,r3,n3⟩:=yl v H3 hy
   refine ⟨G3,L2,_,M2,_,noX,r3,zY ((n.mono e2).mono e3) caps n3,h2,ux,fun v4 H4 ⟨d4,G4,L4,M4,e4,r4,n4,h4⟩=> ?_⟩
   have l3:Dl∉L2:=l2
   have h3:H3 Dl=some (.lst ys):=e3.out _ _ hacc l2
   have g3:G3 Dl=none:=e3.fr _ g2 (by rw [hacc];simp)
   have h4':H4 Dl=some (.lst ys):=e4.out _ _ h3 l2
   have g4:G4 Dl=none:=e4.fr _ g3 (by rw [h3];simp)
   have l4:Dl∉L4:=fun z=>(e4.new _ z).elim l2 fun q=>by rw [h3] at q;cases q
   have e24:=e3.trans e4
   have lenys:ys.length=i:=by rw [←n2.length];exact la
   have ne1:∀{b:Addr} {u:HO},H1 b=some u→b≠Dl:=fun e z=>by rw [z,hD] at e;cases e
   refine ⟨h4',by omega,m - 1,by omega,by omega,aC,acc++[d4],G4,L4,M4, ?_, ?_,g4,l4,(bb.mono e24.g e24.l _ _ n2).app ⟨_,_,rfl,n4,rfl⟩,by rw [aap,la];rfl,h4⟩
   ·have e14:=e2.trans e24
    exact ⟨e14.g,e14.l,e14.fr,fun b u h1 h2=>by rw [av (ne1 h1)];exact e14.out b u h1 h2,e14.new,fun b h=>by
     by_cases hb:b=Dl
     ·rw [hb,aC];simp
     ·rw [av hb];exact e14.dom b h⟩
   ·refine ⟨fun b u e=>by rw [av (fun z=>by rw [z,g4] at e;cases e)];exact r4.sub b u e,r4.len,r4.nd,fun i a m h1 h2=> ?_⟩
    obtain ⟨q1,q2⟩:=r4.ats i a m h1 h2
    exact ⟨q1,q2.mono (.refl _) (.refl _) (av fun z=>l4 (by rw [←z];exact aag h1))⟩
  ·left
   rw [abu (by omega)] at h2
   exact ⟨y.stop i G2 L2 M2 H2 e2.g e2.l r2 (by omega),fin G2 L2 M2 H2 acc ys e2 r2 g2 l2 hacc n2 h2⟩
section
variable{K:PySem.W.Frag}{G1:Hp}{L1:List Addr}{H1 G:Hp}{L:List Addr}{M:Ms}{H:Hp}{p:Addr}{ds:List Dt}{vs:List V}{q:DQ}
theorem jO(e:Ex G1 L1 H1 G L H)(r:Rl K G L M H)(hp1:H1 p=none)(hg:G p=none)(hl:p∉L)(h:H p=some (.lst vs))(n:bb K G L ds vs)(k:q (.lst ds) M):Fin K G1 L1 H1 q (.ref p) H:=by
 have g1:gK G (upd G p (.lst vs)):=fun b u e=>by rw [av (fun z=>by rw [z,hg] at e;cases e)];exact e
 refine ⟨.lst ds,upd G p (.lst vs),L,M,⟨e.g.trans g1,e.l,fun b h1 h2=> ?_,e.out,e.new,e.dom⟩,⟨fun b u e=> ?_,r.len,r.nd,fun k a m h1 h2=> ?_⟩,⟨p,vs,rfl,aC,bb.mono g1 (.refl _) _ _ n⟩,k⟩
 ·rw [av (fun z=>h2 (by rw [z];exact hp1))];exact e.fr b h1 h2
 ·by_cases hb:b=p
  ·rw [hb,aC] at e;rw [hb];cases e;exact h
  ·rw [av hb] at e;exact r.sub b u e
 ·obtain ⟨q1,q2⟩:=r.ats k a m h1 h2
  have hb:a≠p:=fun z=>hl (by rw [←z];exact aag h1)
  exact ⟨by rw [av hb];exact q1,q2.mono g1 (.refl _) rfl⟩
end
section
variable{X:Cx}{R:St→XK}{elt iter:Expr}{x:Str}{px:Pos}{scope:Scope}{pos:Pos}{ti:DA}{te:DE}{ys:List Str}{caps:List Nat}
theorem wu(S:cE X scope x ys caps)(hi:JI X R (.Name x px) iter ti)(he:∀C s H fp,JE (Cx.comp X (x::ys) scope C s H fp) (fun _=>E0) elt te)(hc:X.calm=true:=by rfl)(hs:∀x,foldedSetIterable iter X.env x=pure x:=by intro _;rfl):
  JE X R (.ListComp elt [⟨.Name x px,iter,[],0⟩] scope pos) (wZ ti te caps):= .of (vx (wi:=E9 X.K R ti) (te:=tU X.K (fun _=>E0) te) S hc hi he hs) fun σ H G L ρ M q x rl n h hx=>by
 refine ⟨G,L,ρ,M,_,x,rl,n,h,hx,fun J H1 ⟨xs,G1,L1,M1,e1,r1,y,hz,h1⟩ D hD=> ?_⟩
 exact xc r1 (n.mono e1) y hD hz h1 fun G2 L2 M2 H2 ds vs e2 r2 g2 l2 h2 n2 k=>Fin.back e1 (jO e2 r2 hD g2 l2 h2 n2 k)
theorem kL{i:Nat}{y:Str}{py spos:Pos}(hN:X.N.Nodup)(hiy:X.N[i]? =some y)(hy:Loc X.env.scope y)(S:cE X scope x ys caps)(hi:JI X R (.Name x px) iter ti)(he:∀C s H fp,JE (Cx.comp X (x::ys) scope C s H fp) (fun _=>E0) elt te)(hc:X.calm=true:=by rfl)
  (hsw:swapsWith (.ListComp elt [⟨.Name x px,iter,[],0⟩] scope pos) (some (.Name y py)) spos.line X.env=pure true:=by rfl) (hs:∀x,foldedSetIterable iter X.env x=pure x:=by intro _;rfl)
  (hf:X.fn y=true∨X.env.scope.names.lookup y=some .local:=by first | exact .inl rfl | exact .inr rfl | assumption):
  JS X R (.Assign [.Name y py] (.ListComp elt [⟨.Name x px,iter,[],0⟩] scope pos) spos) (Eg i (wZ ti te caps)):= .of (kH (wi:=E9 X.K R ti) (te:=tU X.K (fun _=>E0) te) hN hiy hy S hc hi he hsw hs hf) fun σ H G L ρ M Dn rl n h hx=>by
 refine ⟨G,L,ρ,M,_,_,rl,n,h,hx,fun J H1 ⟨xs,G1,L1,M1,e1,r1,y,hz,h1⟩ D hD=> ?_⟩
 refine xc r1 (n.mono e1) y hD hz h1 fun G2 L2 M2 H2 ds vs e2 r2 g2 l2 h2 n2 k=> ?_
 obtain ⟨d,G3,L3,M3,e3,r3,n3,h3⟩:=jO (q:=fun d M=>Dn.nx (ρ.set i (some d)) M) e2 r2 hD g2 l2 h2 n2 k
 exact ⟨_,G3,L3,M3,e1.trans e3,r3,((n.mono e1).mono e3).set i n3,h3⟩
end
theorem ba{K:PySem.W.Frag}{G0:Hp}{L0:List Addr}{H0 G:Hp}{L:List Addr}{M:Ms}{H:Hp}{d:Dt}{v:V}{q:DQ}(e:Ex G0 L0 H0 G L H)(r:Rl K G L M H)(n:Den K G L d v)(h:q d M):Fin K G0 L0 H0 q v H:=⟨d,G,L,M,e,r,n,h⟩
theorem dF{K:PySem.W.Frag}{G0:Hp}{L0:List Addr}{H0 G:Hp}{L:List Addr}{M:Ms}{H:Hp}{d:Dt}{v:V}{q:DQ}(e:Ex G0 L0 H0 G L H)(r:Rl K G L M H)(h:q d M)(n:Den K G L d v:=by rfl):Fin K G0 L0 H0 q v H:=⟨d,G,L,M,e,r,n,h⟩
def DD:Dt→Dt→Ms→DQ→Prop
 | .int i, .int j,M,q=>q (.int (i+j)) M
 | .str a, .str b,M,q=>a.length+b.length≤sizeLine∧q (.str (a++b)) M
 | .lst a, .lst b,M,q=>a.length+b.length≤sizeLine∧q (.lst (a++b)) M
 | .tup a, .tup b,M,q=>(a≠[]∧a.length+b.length≤sizeLine)∧q (.tup (a++b)) M
 | _,_,_,_=>False
def BN:Dt→Dt→Ms→DQ→Prop
 | .int i, .int j,M,q=>q (.int (i - j)) M
 | _,_,_,_=>False
def Dy:Dt→Dt→Ms→DQ→Prop
 | .int i, .int j,M,q=>(Big i∧Big j)∧q (.int (i * j)) M
 | .lst a, .int k,M,q=>(-(2 ^ 63)≤k∧k < 2 ^ 63∧a.length * k.toNat≤sizeLine)∧q (.lst (List.replicate k.toNat a).flatten) M
 | _,_,_,_=>False
def FG:Dt→Dt→Ms→DQ→Prop
 | .int i, .int j,M,q=>(0 < j∧Big j)∧q (.int (i / j)) M
 | _,_,_,_=>False
def yN:Dt→Dt→Ms→DQ→Prop
 | .int i, .int j,M,q=>(j≠0∧Big j)∧q (.int (i.fdiv j)) M
 | _,_,_,_=>False
def FE:Dt→Dt→Ms→DQ→Prop
 | .int i, .int j,M,q=>0 < j∧q (.int (i % j)) M
 | _,_,_,_=>False
def FC:Dt→Dt→Ms→DQ→Prop
 | .int i, .int j,M,q=>y8 i j∧q (.int (i ^ j.toNat)) M
 | _,_,_,_=>False
def FD:Dt→Ms→DQ→Prop
 | .int i,M,q=>q (.int (-i)) M
 | _,_,_=>False
section
variable{K:PySem.W.Frag}
theorem HQ:OpD K (fun x y H Q=>(∃i j,x=V.int i∧y= .int j∧Q (.int (i+j)) H)∨(∃i j,x=V.str i∧y= .str j∧i.length+j.length≤sizeLine∧Q (.str (i++j)) H)∨ES x y H Q∨Cf K x y H Q) DD:=by
 intro G0 L0 H0 G L M H v1 v2 d1 d2 q e r n1 n2 h
 unfold DD at h
 split at h
 ·rename_i i j
  exact .inl ⟨i,j,n1,n2,dF e r h⟩
 ·rename_i a b
  exact .inr (.inl ⟨a,b,n1,n2,h.1,dF e r h.2⟩)
 ·rename_i a b
  obtain ⟨p1,w1,rfl,e1,m1⟩:=n1
  obtain ⟨p2,w2,rfl,e2,m2⟩:=n2
  refine .inr (.inr (.inl ⟨p1,p2,w1,w2,rfl,rfl,r.sub _ _ e1,r.sub _ _ e2,by rw [←m1.length,←m2.length];exact h.1,fun p hp=> ?_⟩))
  exact iw e r hp (mH r hp (m1.app m2)) h.2
 ·rename_i a b
  obtain ⟨p1,w1,rfl,e1,m1⟩:=n1
  obtain ⟨p2,w2,rfl,e2,m2⟩:=n2
  have ne:w1≠[]:=fun z=>h.1.1 (by have:=m1.length;rw [z] at this;exact List.eq_nil_of_length_eq_zero this)
  refine .inr (.inr (.inr ⟨p1,p2,w1,w2,rfl,rfl, .inl (.inl (r.sub _ _ e1)), .inl (.inl (r.sub _ _ e2)),ne,by rw [←m1.length,←m2.length];exact h.1.2,fun z=> ?_,fun _ p hp=> ?_⟩))
  ·have hb:b=[]:=by have:=m2.length;rw [z] at this;exact List.eq_nil_of_length_eq_zero this
   subst hb
   rw [aaT] at h
   exact ba (d:= .tup a) e r ⟨p1,w1,rfl,e1,m1⟩ h.2
  ·exact iw e r hp (mG r hp (m1.app m2)) h.2
 ·exact h.elim
theorem Ho:OpD K (rI0 fun i j=> .int (i - j)) BN:=by
 intro G0 L0 H0 G L M H v1 v2 d1 d2 q e r n1 n2 h
 unfold BN at h
 split at h
 ·exact ⟨_,_,n1,n2,dF e r h⟩
 ·exact h.elim
theorem Hz:OpD K (fun x y H Q=>(rI (fun i j=>Big i∧Big j) fun i j=> .int (i * j)) x y H Q∨ER x y H Q) Dy:=by
 intro G0 L0 H0 G L M H v1 v2 d1 d2 q e r n1 n2 h
 unfold Dy at h
 split at h
 ·exact .inl ⟨_,_,n1,n2,h.1,dF e r h.2⟩
 ·rename_i a k
  obtain ⟨p1,w1,rfl,e1,m1⟩:=n1
  refine .inr ⟨p1,k,w1,rfl,n2,r.sub _ _ e1,h.1.1,h.1.2.1,by rw [←m1.length];exact h.1.2.2,fun p hp=> ?_⟩
  exact iw e r hp (mH r hp (.of (pQ m1.pair k.toNat))) h.2
 ·exact h.elim
theorem HL:OpD K (rI (fun _ j=>j≠0∧Big j) fun i j=> .int (i.fdiv j)) FG:=by
 intro G0 L0 H0 G L M H v1 v2 d1 d2 q e r n1 n2 h
 unfold FG at h
 split at h
 ·rename_i i j
  have h0:=h.1.1
  refine ⟨_,_,n1,n2,⟨by omega,h.1.2⟩,ba (d:= .int (i.fdiv j)) e r rfl ?_⟩
  rw [abR i (aah h0)]
  exact h.2
 ·exact h.elim
theorem FL:OpD K (rI (fun _ j=>j≠0∧Big j) fun i j=> .int (i.fdiv j)) yN:=by
 intro G0 L0 H0 G L M H v1 v2 d1 d2 q e r n1 n2 h
 unfold yN at h
 split at h
 ·exact ⟨_,_,n1,n2,h.1,dF e r h.2⟩
 ·exact h.elim
theorem HA:OpD K (rI (fun _ j=>0 < j) fun i j=> .int (i % j)) FE:=by
 intro G0 L0 H0 G L M H v1 v2 d1 d2 q e r n1 n2 h
 unfold FE at h
 split at h
 ·exact ⟨_,_,n1,n2,h.1,dF e r h.2⟩
 ·exact h.elim
theorem Hu:OpD K (rI y8 fun i j=> .int (i ^ j.toNat)) FC:=by
 intro G0 L0 H0 G L M H v1 v2 d1 d2 q e r n1 n2 h
 unfold FC at h
 split at h
 ·exact ⟨_,_,n1,n2,h.1,dF e r h.2⟩
 ·exact h.elim
theorem Hx:UnD K (rU fun i=> .int (-i)) FD:=by
 intro G0 L0 H0 G L M H v1 d1 q e r n1 h
 unfold FD at h
 split at h
 ·exact ⟨_,n1,dF e r h⟩
 ·exact h.elim
end
section
variable{X:Cx}{R:St→XK}{a b c:Expr}{ta tb:DE}{pos:Pos}
theorem dc(ja:JE X R a ta)(jb:JE X R b tb):JE X R (.BinOp a .Add b pos) (dOp DD ta tb):=yB (CV.or (tE.or (zD.or AS))) HQ ja jb
theorem og(ja:JE X R a ta)(jb:JE X R b tb):JE X R (.BinOp a .Sub b pos) (dOp BN ta tb):=yB CK Ho ja jb
theorem bW(ja:JE X R a ta)(jb:JE X R b tb):JE X R (.BinOp a .Mult b pos) (dOp Dy ta tb):=yB (AR.or zA) Hz ja jb
theorem fi(ja:JE X R a ta)(jb:JE X R b tb):JE X R (.BinOp a .FloorDiv b pos) (dOp FG ta tb):=yB rN HL ja jb
theorem wq(ja:JE X R a ta)(jb:JE X R b tb):JE X R (.BinOp a .FloorDiv b pos) (dOp yN ta tb):=yB rN FL ja jb
theorem cY(ja:JE X R a ta)(jb:JE X R b tb):JE X R (.BinOp a .Mod b pos) (dOp FE ta tb):=yB CO HA ja jb
theorem oh(ja:JE X R a ta)(jb:JE X R b tb):JE X R (.BinOp a .Pow b pos) (dOp FC ta tb):=yB CL Hu ja jb
theorem Fg(ja:JE X R a ta):JE X R (.UnaryOp .USub a pos) (dUn FD ta):=HD BS Hx ja
end
def fLt:Dt→Dt→Ms→DQ→Prop
 | .int i, .int j,M,q=>q (.bl (decide (i < j))) M
 | _,_,_,_=>False
def fLe:Dt→Dt→Ms→DQ→Prop
 | .int i, .int j,M,q=>q (.bl (decide (i≤j))) M
 | _,_,_,_=>False
def fGt:Dt→Dt→Ms→DQ→Prop
 | .int i, .int j,M,q=>q (.bl (decide (j < i))) M
 | _,_,_,_=>False
def fGe:Dt→Dt→Ms→DQ→Prop
 | .int i, .int j,M,q=>q (.bl (decide (j≤i))) M
 | _,_,_,_=>False
def Bk:Dt→Option V
 | .non=>some .non
 | .bl b=>some (.bl b)
 | .int i=>some (.int i)
 | .str x=>some (.str x)
 | _=>none
def iJ:List Dt→Option (List V)
 | []=>some []
 | d::ds=>match Bk d,iJ ds with
  | some v,some vs=>some (v::vs)
  | _,_=>none
section
variable{K:PySem.W.Frag}{G:Hp}{L:List Addr}
theorem so{d:Dt}{v u:V}(h:Bk d=some u)(n:Den K G L d v):v=u∧fX u=true:=by
 cases d <;> first | (cases h;exact ⟨n,rfl⟩) | cases h
theorem eJ:∀{ds:List Dt} {vs us:List V},iJ ds=some us→bb K G L ds vs→vs=us∧us.all fX=true
 | [],vs,us,h,n=>by
  cases h
  exact ⟨n,rfl⟩
 | d::ds,_,us,h,⟨v,r,e,n1,n2⟩=>by
  subst e
  unfold iJ at h
  split at h
  ·rename_i u1 u2 h1 h2
   cases h
   obtain ⟨a1,a2⟩:=so h1 n1
   obtain ⟨b1,b2⟩:=eJ h2 n2
   subst a1 b1
   exact ⟨rfl,by rw [abF,a2,b2];rfl⟩
  ·cases h
end
def DB:Dt→Dt→Ms→DQ→Prop
 | .int i, .int j,M,q=>q (.bl (decide (i=j))) M
 | .str i, .str j,M,q=>q (.bl (decide (i=j))) M
 | .bl i, .bl j,M,q=>q (.bl (decide (i=j))) M
 | .tup a, .tup b,M,q=>match iJ a,iJ b with
  | some us,some vs=>q (.bl (sA us vs)) M
  | _,_=>False
 | _,_,_,_=>False
def Em:Dt→Dt→Ms→DQ→Prop
 | .int i, .int j,M,q=>q (.bl (!decide (i=j))) M
 | .str i, .str j,M,q=>q (.bl (!decide (i=j))) M
 | .bl i, .bl j,M,q=>q (.bl (!decide (i=j))) M
 | .tup a, .tup b,M,q=>match iJ a,iJ b with
  | some us,some vs=>q (.bl (!sA us vs)) M
  | _,_=>False
 | _,_,_,_=>False
def FF:Dt→Dt→Ms→DQ→Prop
 | .non, .non,M,q=>q (.bl true) M
 | .bl _, .non,M,q=>q (.bl false) M
 | .int _, .non,M,q=>q (.bl false) M
 | .str _, .non,M,q=>q (.bl false) M
 | .tup _, .non,M,q=>q (.bl false) M
 | .lst _, .non,M,q=>q (.bl false) M
 | _,_,_,_=>False
section
variable{K:PySem.W.Frag}
theorem ltD:OpD K (rI0 fun i j=> .bl (decide (i < j))) fLt:=by
 intro G0 L0 H0 G L M H v1 v2 d1 d2 q e r n1 n2 h
 unfold fLt at h
 split at h
 ·exact ⟨_,_,n1,n2,dF e r h⟩
 ·exact h.elim
theorem leD:OpD K (rI0 fun i j=> .bl (decide (i≤j))) fLe:=by
 intro G0 L0 H0 G L M H v1 v2 d1 d2 q e r n1 n2 h
 unfold fLe at h
 split at h
 ·exact ⟨_,_,n1,n2,dF e r h⟩
 ·exact h.elim
theorem gtD:OpD K (rI0 fun i j=> .bl (decide (j < i))) fGt:=by
 intro G0 L0 H0 G L M H v1 v2 d1 d2 q e r n1 n2 h
 unfold fGt at h
 split at h
 ·exact ⟨_,_,n1,n2,dF e r h⟩
 ·exact h.elim
theorem geD:OpD K (rI0 fun i j=> .bl (decide (j≤i))) fGe:=by
 intro G0 L0 H0 G L M H v1 v2 d1 d2 q e r n1 n2 h
 unfold fGe at h
 split at h
 ·exact ⟨_,_,n1,n2,dF e r h⟩
 ·exact h.elim
theorem iB{p q:Prop} [Decidable p] [Decidable q](h:p↔q):decide p=decide q:=decide_eq_decide.mpr h
theorem GP:OpD K (fun x y H Q=>rEq x y H Q∨Gz K x y H Q) DB:=by
 intro G0 L0 H0 G L M H v1 v2 d1 d2 q e r n1 n2 h
 unfold DB at h
 split at h
 ·rename_i i j
  cases n1;cases n2
  exact .inl ⟨rfl,ba (d:= .bl _) e r (by show V.bl _=V.bl _;rw [iB (p:=V.int i=V.int j) (q:=i=j) ⟨fun z=>V.int.inj z,fun z=>by rw [z]⟩]) h⟩
 ·rename_i i j
  cases n1;cases n2
  exact .inl ⟨rfl,ba (d:= .bl _) e r (by show V.bl _=V.bl _;rw [iB (p:=V.str i=V.str j) (q:=i=j) ⟨fun z=>V.str.inj z,fun z=>by rw [z]⟩]) h⟩
 ·rename_i i j
  cases n1;cases n2
  exact .inl ⟨rfl,ba (d:= .bl _) e r (by show V.bl _=V.bl _;rw [iB (p:=V.bl i=V.bl j) (q:=i=j) ⟨fun z=>V.bl.inj z,fun z=>by rw [z]⟩]) h⟩
 ·rename_i a b
  obtain ⟨p1,w1,rfl,e1,m1⟩:=n1
  obtain ⟨p2,w2,rfl,e2,m2⟩:=n2
  split at h
  ·rename_i us vs h1 h2
   obtain ⟨rfl,a2⟩:=eJ h1 m1
   obtain ⟨rfl,b2⟩:=eJ h2 m2
   exact .inr ⟨p1,p2,_,_,rfl,rfl, .inl (.inl (r.sub _ _ e1)), .inl (.inl (r.sub _ _ e2)),a2,b2,dF e r h⟩
  ·exact h.elim
 ·exact h.elim
theorem Hy:OpD K (fun x y H Q=>rNe x y H Q∨Gv K x y H Q) Em:=by
 intro G0 L0 H0 G L M H v1 v2 d1 d2 q e r n1 n2 h
 unfold Em at h
 split at h
 ·rename_i i j
  cases n1;cases n2
  exact .inl ⟨rfl,ba (d:= .bl _) e r (by show V.bl _=V.bl _;rw [iB (p:=V.int i=V.int j) (q:=i=j) ⟨fun z=>V.int.inj z,fun z=>by rw [z]⟩]) h⟩
 ·rename_i i j
  cases n1;cases n2
  exact .inl ⟨rfl,ba (d:= .bl _) e r (by show V.bl _=V.bl _;rw [iB (p:=V.str i=V.str j) (q:=i=j) ⟨fun z=>V.str.inj z,fun z=>by rw [z]⟩]) h⟩
 ·rename_i i j
  cases n1;cases n2
  exact .inl ⟨rfl,ba (d:= .bl _) e r (by show V.bl _=V.bl _;rw [iB (p:=V.bl i=V.bl j) (q:=i=j) ⟨fun z=>V.bl.inj z,fun z=>by rw [z]⟩]) h⟩
 ·rename_i a b
  obtain ⟨p1,w1,rfl,e1,m1⟩:=n1
  obtain ⟨p2,w2,rfl,e2,m2⟩:=n2
  split at h
  ·rename_i us vs h1 h2
   obtain ⟨rfl,a2⟩:=eJ h1 m1
   obtain ⟨rfl,b2⟩:=eJ h2 m2
   exact .inr ⟨p1,p2,_,_,rfl,rfl, .inl (.inl (r.sub _ _ e1)), .inl (.inl (r.sub _ _ e2)),a2,b2,dF e r h⟩
  ·exact h.elim
 ·exact h.elim
theorem HG:OpD K (fun x y H Q=>y= .non∧Q (.bl (decide (x= .non))) H) FF:=by
 intro G0 L0 H0 G L M H v1 v2 d1 d2 q e r n1 n2 h
 unfold FF at h
 split at h
 ·cases n1;exact ⟨n2,ba (d:= .bl true) e r (by show V.bl _=V.bl _;rw [decide_eq_true rfl]) h⟩
 ·cases n1;exact ⟨n2,ba (d:= .bl false) e r (by show V.bl _=V.bl _;rw [decide_eq_false (fun z=>nomatch z)]) h⟩
 ·cases n1;exact ⟨n2,ba (d:= .bl false) e r (by show V.bl _=V.bl _;rw [decide_eq_false (fun z=>nomatch z)]) h⟩
 ·cases n1;exact ⟨n2,ba (d:= .bl false) e r (by show V.bl _=V.bl _;rw [decide_eq_false (fun z=>nomatch z)]) h⟩
 ·obtain ⟨p1,w1,rfl,_⟩:=n1;exact ⟨n2,ba (d:= .bl false) e r (by show V.bl _=V.bl _;rw [decide_eq_false (fun z=>nomatch z)]) h⟩
 ·obtain ⟨p1,w1,rfl,_⟩:=n1;exact ⟨n2,ba (d:= .bl false) e r (by show V.bl _=V.bl _;rw [decide_eq_false (fun z=>nomatch z)]) h⟩
 ·exact h.elim
end
section
variable{X:Cx}{R:St→XK}{a b c:Expr}{ta tb:DE}{pos:Pos}
theorem BK(ja:JE X R a ta)(jb:JE X R b tb):JE X R (.Compare a [.Lt] [b] pos) (dOp fLt ta tb):=tY CP ltD ja jb (fC _)
theorem zM(ja:JE X R a ta)(jb:JE X R b tb):JE X R (.Compare a [.LtE] [b] pos) (dOp fLe ta tb):=tY CQ leD ja jb (fC _)
theorem HE(ja:JE X R a ta)(jb:JE X R b tb):JE X R (.Compare a [.Gt] [b] pos) (dOp fGt ta tb):=tY CT gtD ja jb (fC _)
theorem HF(ja:JE X R a ta)(jb:JE X R b tb):JE X R (.Compare a [.GtE] [b] pos) (dOp fGe ta tb):=tY E6 geD ja jb (fC _)
theorem GK{k:Nat}(hr:eK k X.A)(ja:JE X R a ta)(jb:JE X R b tb):JE X R (.Compare a [.Eq] [b] pos) (dOp DB ta tb):=tY (CU.or (zB hr.units0)) GP ja jb (fC _)
theorem qp(ja:JE X R a ta)(jb:JE X R b tb):JT X R (.Compare a [.Lt] [b] pos) (sR (dOp fLt ta tb)):=g8 CP ltD ja jb (fC _)
theorem Fe(ja:JE X R a ta)(jb:JE X R b tb):JT X R (.Compare a [.LtE] [b] pos) (sR (dOp fLe ta tb)):=g8 CQ leD ja jb (fC _)
theorem Dd(ja:JE X R a ta)(jb:JE X R b tb):JT X R (.Compare a [.Gt] [b] pos) (sR (dOp fGt ta tb)):=g8 CT gtD ja jb (fC _)
theorem eg{k:Nat}(hr:eK k X.A)(ja:JE X R a ta)(jb:JE X R b tb):JT X R (.Compare a [.Eq] [b] pos) (sR (dOp DB ta tb)):=g8 (CU.or (zB hr.units0)) GP ja jb (fC _)
theorem mv{k:Nat}(hr:eK k X.A)(ja:JE X R a ta)(jb:JE X R b tb):JT X R (.Compare a [.NotEq] [b] pos) (sR (dOp Em ta tb)):=g8 (E5.or (CM hr.units0)) Hy ja jb (fC _)
theorem zK(ja:JE X R a ta)(jb:JE X R b tb):JT X R (.Compare a [.Is] [b] pos) (sR (dOp FF ta tb)):=g8 CS HG ja jb (fC _)
end
def rh(M:Ms):Dt→Option (List Dt)
 | .lst xs=>some xs
 | .tup xs=>some xs
 | .scr ns=>some (ns.map .int)
 | .kt xs=>some xs
 | .loc k=>match M[k]? with
  | some (.lst xs)=>some xs
  | _=>none
 | _=>none
theorem ll{K:PySem.W.Frag}{G:Hp}{L:List Addr}{M:Ms}{H:Hp}{d:Dt}{v:V}{xs:List Dt}(r:Rl K G L M H)(n:Den K G L d v)(h:rh M d=some xs):∃a vs,v= .ref a∧(SqL K H a vs∨SqT K H a vs)∧bb K G L xs vs:=by
 cases d with
 | lst ds=>cases h;obtain ⟨a,vs,rfl,e,m⟩:=n;exact ⟨a,vs,rfl, .inl (.of (r.sub _ _ e)),m⟩
 | tup ds=>cases h;obtain ⟨a,vs,rfl,e,m⟩:=n;exact ⟨a,vs,rfl, .inr (.of (r.sub _ _ e)),m⟩
 | kt ds=>cases h;obtain ⟨a,vs,rfl,e,m⟩:=n;exact ⟨a,vs,rfl, .inr (r.sub.sqT e),m⟩
 | scr ns=>cases h;obtain ⟨a,rfl,e⟩:=n;exact ⟨a,_,rfl, .inl (r.sub.seq e),fE⟩
 | loc k=>
  obtain ⟨a,rfl,e⟩:=n
  have h:(match M[k]? with | some (.lst xs)=>some xs | _=>none)=some xs:=h
  split at h
  ·rename_i ys hm
   cases h
   obtain ⟨_,vs,e1,m1⟩:=r.ats k a _ e hm
   exact ⟨a,vs,rfl, .inl (.of e1),m1⟩
  ·cases h
 | _=>cases h
theorem BB{K:PySem.W.Frag}{G:Hp}{L:List Addr}{ds:List Dt}{vs:List V}{i:Int}{d:Dt}(n:bb K G L ds vs)(h:atI ds i=some d):∃v,atI vs i=some v∧Den K G L d v:=by
 unfold atI at h⊢
 rw [←n.length]
 cases q:ixN ds.length i with
 | none=>rw [q] at h;cases h
 | some j=>
  rw [q] at h
  obtain ⟨v,e,m⟩:=n.get h
  exact ⟨v,e,m⟩
def fIx:Dt→Dt→Ms→DQ→Prop
 | .str z, .int i,M,q=>z.length≤sizeLine∧match atI z.cps.toList i with
  | some c=>q (.str ⟨#[c]⟩) M
  | none=>False
 | d, .int i,M,q=>match rh M d with
  | some xs=>(match atI xs i with
   | some y=>q y M
   | none=>False)
  | none=>False
 | _,_,_,_=>False
def j6:List Dt→Ms→DQ→Prop
 | [.str z],M,q=>z.length≤sizeLine∧q (.int z.length) M
 | [d],M,q=>match rh M d with
  | some xs=>q (.int xs.length) M
  | none=>False
 | _,_,_=>False
section
variable{K:PySem.W.Frag}
theorem ixD:OpD K (rIx K) fIx:=by
 intro G0 L0 H0 G L M H v1 v2 d1 d2 q e r n1 n2 h
 unfold fIx at h
 split at h
 ·rename_i z i
  split at h
  ·rename_i c hc
   exact .inr (.inr ⟨z,i,c,n1,n2,h.1,hc,dF e r h.2⟩)
  ·exact h.2.elim
 ·rename_i d i _
  split at h
  ·rename_i xs hx
   split at h
   ·rename_i y hy
    obtain ⟨a,vs,rfl,hs,m⟩:=ll r n1 hx
    obtain ⟨v,e1,m1⟩:=BB m hy
    rcases hs with hs | hs
    ·exact .inl ⟨a,vs,i,v,rfl,n2,hs,e1,ba e r m1 h⟩
    ·exact .inr (.inl ⟨a,vs,i,v,rfl,n2,hs,e1,ba e r m1 h⟩)
   ·exact h.elim
  ·exact h.elim
 ·exact h.elim
theorem HB:CaD K (fun xs H Q=>(∃z,xs=[V.str z]∧z.length≤sizeLine∧Q (.int z.length) H)∨(∃p ys,xs=[V.ref p]∧(SqL K H p ys∨SqT K H p ys)∧Q (.int ys.length) H)) j6:=by
 intro G0 L0 H0 G L M H vs ds q e r n h
 unfold j6 at h
 split at h
 ·rename_i z
  obtain ⟨v,rfl,n1⟩:=b7 n
  cases n1
  exact .inl ⟨z,rfl,h.1,dF e r h.2⟩
 ·rename_i d _
  obtain ⟨v,rfl,n1⟩:=b7 n
  split at h
  ·rename_i xs hx
   obtain ⟨a,ws,rfl,hs,m⟩:=ll r n1 hx
   exact .inr ⟨a,ws,rfl,hs,ba (d:= .int xs.length) e r (by show V.int _=V.int _;rw [m.length]) h⟩
  ·exact h.elim
 ·exact h.elim
end
section
variable{X:Cx}{R:St→XK}{a b c:Expr}{ta tb:DE}{pos:Pos}
theorem aD(ja:JE X R a ta)(jb:JE X R b tb)(hs:qO b:=by exact fun _ _=>rfl):JE X R (.Subscript a b pos) (dOp fIx ta tb):=Fh Dp ixD ja jb hs
variable{x:Str}{p:Pos}{e:Expr}{es:List Expr}{t:DA}{id T:String}{r:List V→Hp→VK→Prop}{f:List Dt→Ms→DQ→Prop}
theorem iq(hc:fJ X (.builtin id) r)(cd:CaD X.K r f)(hm:X.mg x=none)(hv:bootBuiltins x=some (.builtin id))(ha:JA X R (e::es) t)(hg:Gl X x:=by rfl)(hn:x≠"__name__":=by decide)(hdb:(x==("__debug__":Str))=false:=by decide)
  (he:starEach (e::es) X.env=(false,eval e X.env)::starEach es X.env:=by rfl) (hpl:(backTo pos (starEach es X.env)).any (·.1)=false:=by rfl):JE X R (.Call (.Name x p) (e::es) [] pos) (dFn f t):=
 .of (yk hc hg hm hv ha hn hdb he hpl) fun σ H G L ρ M q x r n h hx=>DU cd r n h hx
theorem se(hc:fJ X (.type T) r)(cd:CaD X.K r f)(hm:X.mg x=none)(hv:bootBuiltins x=some (.type T))(ha:JA X R (e::es) t)(hg:Gl X x:=by rfl)(hn:x≠"__name__":=by decide)(hdb:(x==("__debug__":Str))=false:=by decide)
  (he:starEach (e::es) X.env=(false,eval e X.env)::starEach es X.env:=by rfl) (hpl:(backTo pos (starEach es X.env)).any (·.1)=false:=by rfl):JE X R (.Call (.Name x p) (e::es) [] pos) (dFn f t):=
 .of (vy hc hg hm hv ha hn hdb he hpl) fun σ H G L ρ M q x r n h hx=>DU cd r n h hx
theorem dE(hm:X.mg "len"=none)(ha:JA X R [e] t)(he:starEach [e] X.env=(false,eval e X.env)::starEach [] X.env:=by rfl)(hpl:(backTo pos (starEach [] X.env)).any (·.1)=false:=by rfl)(hg:Gl X "len":=by rfl):JE X R (.Call (.Name "len" p) [e] [] pos) (dFn j6 t):=
 iq (oH.or oI) HB hm PySem.boot_len ha hg (by decide) (by decide) he hpl
end
def BO:List Dt→Ms→DQ→Prop
 | [.int i],M,q=>q (.int (if i < 0 then -i else i)) M
 | _,_,_=>False
def FI:List Dt→Ms→DQ→Prop
 | [d],M,q=>∃bs:List Bool,rh M d=some (bs.map Dt.bl)∧(∀k,d≠ .kt k)∧(∀k,d≠ .tup k)∧q (.bl (bs.any id)) M
 | _,_,_=>False
def C5:Dt→Option Value
 | .non=>some (.type "NoneType")
 | .bl _=>some (.type "bool")
 | .int _=>some (.type "int")
 | .str _=>some (.type "str")
 | .lst _=>some (.type "list")
 | .tup _=>some (.type "tuple")
 | _=>none
def GW:Dt→Option Value
 | .ty T=>some (.type T)
 | .ref C=>some (.ref C)
 | _=>none
section
variable{K:PySem.W.Frag}
theorem oB{G:Hp}{L:List Addr}:∀{l:List Str},bb K G L (l.map Dt.str) (l.map V.str)
 | []=>rfl
 | _::_=>⟨_,_,rfl,rfl,oB⟩
theorem je{G:Hp}{L:List Addr}:∀{bs:List Bool} {vs:List V},bb K G L (bs.map Dt.bl) vs→vs=bs.map V.bl
 | [],_,h=>h
 | b::bs,_,⟨v,r,e,h1,h2⟩=>by
  subst e
  rw [je h2,show v=V.bl b from h1]
  rfl
theorem HX:CaD K (fun xs H Q=>∃i,xs=[V.int i]∧Q (.int (if i < 0 then -i else i)) H) BO:=by
 intro G0 L0 H0 G L M H vs ds q e r n h
 unfold BO at h
 split at h
 ·rename_i i
  obtain ⟨v,rfl,n1⟩:=b7 n
  cases n1
  exact ⟨i,rfl,dF e r h⟩
 ·exact h.elim
theorem HU:CaD K (GA K) FI:=by
 intro G0 L0 H0 G L M H vs ds q e r n h
 unfold FI at h
 split at h
 ·rename_i d
  obtain ⟨bs,hs,nk,nt,h⟩:=h
  obtain ⟨v,rfl,n1⟩:=b7 n
  cases d with
  | lst xs=>
   cases hs
   obtain ⟨a,ws,rfl,e1,m⟩:=n1
   exact ⟨a,bs,rfl,by rw [←je m];exact .of (r.sub _ _ e1),dF e r h⟩
  | loc k=>
   obtain ⟨a,rfl,e1⟩:=n1
   have hs:(match M[k]? with | some (.lst xs)=>some xs | _=>none)=some (bs.map Dt.bl):=hs
   split at hs
   ·rename_i ys hm
    cases hs
    obtain ⟨_,ws,e2,m⟩:=r.ats k a _ e1 hm
    exact ⟨a,bs,rfl,by rw [←je m];exact .of e2,dF e r h⟩
   ·cases hs
  | tup xs=>exact absurd rfl (nt xs)
  | kt xs=>exact absurd rfl (nk xs)
  | scr ns=>
   have e0:ns.map Dt.int=bs.map Dt.bl:=aaw hs
   cases ns with
   | nil=>
    cases bs with
    | nil=>obtain ⟨a,rfl,e1⟩:=n1;exact ⟨a,[],rfl,r.sub.seq e1,dF e r h⟩
    | cons _ _=>cases e0
   | cons _ _=>
    cases bs with
    | nil=>cases e0
    | cons _ _=>cases e0
  | _=>cases hs
 ·exact h.elim
theorem uC{G:Hp}{L:List Addr}{M:Ms}{H:Hp}{d:Dt}{v:V}{t:Value}(r:Rl K G L M H)(n:Den K G L d v)(h:C5 d=some t):oX K H v t:=by
 cases d with
 | non=>cases h;cases n;exact .non
 | bl b=>cases h;cases n;exact .bl _
 | int i=>cases h;cases n;exact .int _
 | str x=>cases h;cases n;exact .str _
 | lst xs=>cases h;obtain ⟨a,ws,rfl,e,_⟩:=n;exact .lst (r.sub _ _ e)
 | tup xs=>cases h;obtain ⟨a,ws,rfl,e,_⟩:=n;exact .tup (r.sub _ _ e)
 | _=>cases h
theorem Bt{G:Hp}{L:List Addr}{d:Dt}{v:V}{t:Value}(n:Den K G L d v)(h:GW d=some t):Eo v=some t:=by
 cases d with
 | ty T=>cases n;exact h
 | ref C=>cases n;exact h
 | _=>cases h
end
section
variable{X:Cx}{R:St→XK}{o a e e1 e2:Expr}{es:List Expr}{to ta te:DE}{t:DA}{name:Str}{apos cpos pos p p2:Pos}{T id:String}
theorem xm:bootBuiltins "abs"=some (.builtin "abs"):=by decide+kernel
theorem xk:bootBuiltins "any"=some (.builtin "any"):=by decide+kernel
theorem iR:bootBuiltins "isinstance"=some (.builtin "isinstance"):=by decide+kernel
theorem qH:bootBuiltins "tuple"=some (.type "tuple"):=by decide+kernel
theorem kX:bootBuiltins "list"=some (.type "list"):=by decide+kernel
theorem GJ{x:Str}{T:String}(hm:X.mg x=none)(hv:bootBuiltins x=some (.type T))(hg:Gl X x:=by rfl)(hn:x≠"__name__":=by decide)(hd:(x==("__debug__":Str))=false:=by decide):JE X R (.Name x p) (dC (.ty T)):=j_c (AM (v:= .ty T) hg hm hv rfl hn hd) fun _ _=>rfl
theorem oi{x:Str}{z:Int}(hm:∃tk,X.mg x=some (.int z tk))(hg:Gl X x:=by rfl)(hd:(x==("__debug__":Str))=false:=by decide):JE X R (.Name x p) (dC (.int z)):=let ⟨tk,hm⟩:=hm;j_c (vw (v:= .int z) hg hm ⟨tk,rfl⟩ hd) fun _ _=>rfl
end
def Its(x:Str):It:=⟨fun i _=>i < x.cps.size,fun i H v H'=>H'=H∧∃c,x.cps[i]? =some c∧v= .str ⟨#[c]⟩,fun i _=>x.cps.size≤i⟩
theorem uF{P:Program}{w:World}{K:PySem.W.Frag}{tg:Expr}(x:Str)(t:Tok)(it:Addr):d8 P w K tg (Its x) [it] it (fun i h=>h.IsStrIter it "str_ascii_iterator" x t i) where
 mem:=by simp
 obj:=fun i h st b hb=>by
  have e:b=it:=by simpa using hb
  subst e
  obtain ⟨o,e,c,d⟩:=st
  exact ⟨o,e,fun v z=>by rw [d] at z;cases z⟩
 keep:=fun i h h' st k=>let ⟨o,ho,r⟩:=st;⟨o,k it (by simp) o ho,r⟩
 item:=by
  intro X hP hw hK hc i pins s σ H E I hf st hg
  subst hP hw hK
  obtain ⟨f0,f1,f2,f3,f4,f5⟩:=hf it (by simp)
  have hg:i < x.cps.size:=hg
  refine wpAny_pyNext_ascii_item st (c:=x.cps[i]) (by simp [hg]) fun h' st' sb=> ?_
  have I1:Inv X pins σ H {s with heap:=h',toks:=s.toks+1}:=I.turned (fun b o hb e=>(sb.2 b hb).trans e) f0 f1 f3 f4 f5
  obtain ⟨o,e,c,d⟩:=id st'
  exact ⟨_,rfl,wD (s:={s with heap:=h',toks:=s.toks+1}) e c d (by decide) ⟨.str ⟨#[x.cps[i]]⟩,H,I1,⟨_,rfl⟩,⟨rfl,_,by simp [hg],rfl⟩,st',fun b hb=>(hf b hb).1⟩⟩
 done:=by
  intro X hP hw hK hc i pins s σ H E I hf st hg
  subst hP hw hK
  obtain ⟨f0,f1,f2,f3,f4,f5⟩:=hf it (by simp)
  have hg:x.cps.size≤i:=hg
  exact wpAny_pyNext_ascii_end (I.ok.hd hc) st (by simp;omega) fun h' eb=>⟨rfl,I.turned (t':=s.toks) (fun b o hb e=>eb b o hb e) f0 f1 f3 f4 f5⟩
 self:=fun _ _ _ _ _ st h=>wpAny_pyIter_striter_ascii st h
theorem uE{P:Program}{w:World}{K:PySem.W.Frag}{tg:Expr}(x:Str)(t:Tok)(it:Addr):d8 P w K tg (Its x) [it] it (fun i h=>h.IsStrIter it "str_iterator" x t i) where
 mem:=by simp
 obj:=fun i h st b hb=>by
  have e:b=it:=by simpa using hb
  subst e
  obtain ⟨o,e,c,d⟩:=st
  exact ⟨o,e,fun v z=>by rw [d] at z;cases z⟩
 keep:=fun i h h' st k=>let ⟨o,ho,r⟩:=st;⟨o,k it (by simp) o ho,r⟩
 item:=by
  intro X hP hw hK hc i pins s σ H E I hf st hg
  subst hP hw hK
  obtain ⟨f0,f1,f2,f3,f4,f5⟩:=hf it (by simp)
  have hg:i < x.cps.size:=hg
  refine wpAny_pyNext_wide_item st (c:=x.cps[i]) (by simp [hg]) fun h' st' sb=> ?_
  have I1:Inv X pins σ H {s with heap:=h',toks:=s.toks+1}:=I.turned (fun b o hb e=>(sb.2 b hb).trans e) f0 f1 f3 f4 f5
  obtain ⟨o,e,c,d⟩:=id st'
  exact ⟨_,rfl,wD (s:={s with heap:=h',toks:=s.toks+1}) e c d (by decide) ⟨.str ⟨#[x.cps[i]]⟩,H,I1,⟨_,rfl⟩,⟨rfl,_,by simp [hg],rfl⟩,st',fun b hb=>(hf b hb).1⟩⟩
 done:=by
  intro X hP hw hK hc i pins s σ H E I hf st hg
  subst hP hw hK
  obtain ⟨f0,f1,f2,f3,f4,f5⟩:=hf it (by simp)
  have hg:x.cps.size≤i:=hg
  exact wpAny_pyNext_wide_end (I.ok.hd hc) st (by simp;omega) fun h' eb=>⟨rfl,I.turned (t':=s.toks) (fun b o hb e=>eb b o hb e) f0 f1 f3 f4 f5⟩
 self:=fun _ _ _ _ _ st h=>wpAny_pyIter_striter_wide st h
def rf(z:Str):List Dt:=z.cps.toList.map fun c=>Dt.str ⟨#[c]⟩
theorem BR{K:PySem.W.Frag}{G:Hp}{L:List Addr}{z:Str}:Yl K (Its z) (rf z) G L where
 go :=fun i G1 L1 M1 H1 d g l r e=>by
  unfold rf at e
  rw [aaf] at e
  cases q:z.cps.toList[i]? with
  | none=>rw [q] at e;cases e
  | some c=>
   rw [q] at e
   cases e
   have hi:i < z.cps.size:=by
    have:=(aai.mp q).1
    simpa using this
   refine ⟨hi,fun v' H' ⟨eH,c',e',y⟩=> ?_⟩
   subst eH y
   have:c'=c:=by
    rw [←Array.getElem?_toList,q] at e'
    exact (aaw e').symm
   subst this
   exact ⟨G1, .refl _ _ _,r,rfl⟩
 stop:=fun i G1 L1 M1 H1 g l r e=>by
  unfold rf at e
  show z.cps.size≤i
  simpa using e
def Fo(M:Ms):Dt→Option (List Dt)
 | .lst xs=>some xs
 | .tup xs=>some xs
 | .scr ns=>some (ns.map .int)
 | .kt xs=>some xs
 | .str z=>some (rf z)
 | _=>none
section
variable{X:Cx}{R:St→XK}{tg e:Expr}{te:DE}
theorem qx{pins:List (Addr×Obj)}{σ:St}{H:Hp}{s:Shared}{a:Addr}{vs:List V}{Q:It→Hp→Prop}{E:Value→Shared→Prop}(I:Inv X pins σ H s)(hq:SqL X.K H a vs)(q:Q (Itl X.K a) H):wpAny (model X.prog X.w) X.A (pyIter (.ref a)) (PIE X pins σ tg Q) E s:=by
 obtain ⟨its,rv,p,hz⟩:=I.list hq
 refine wpAny_pyIter_list p.isList ?_
 refine ⟨s.heap.objs.size,[s.heap.objs.size],_,_,H,rfl,I.kept (t':=s.toks) fun b o e=>Heap.get?_push_of_some _ e,uG a _,⟨_,Heap.get?_push_size _ rfl,rfl,rfl⟩,fun b hb=> ?_,q⟩
 have e:b=s.heap.objs.size:=by simpa using hb
 subst e
 exact I.fpOk (aak _) (I.hok.fresh (aak _))
theorem zO{pins:List (Addr×Obj)}{σ:St}{H:Hp}{s:Shared}{a:Addr}{vs:List V}{Q:It→Hp→Prop}{E:Value→Shared→Prop}(I:Inv X pins σ H s)(hq:SqT X.K H a vs)(q:Q (Itt X.K a) H):wpAny (model X.prog X.w) X.A (pyIter (.ref a)) (PIE X pins σ tg Q) E s:=by
 obtain ⟨its,rv,p,hz⟩:=I.tuple hq
 refine wpAny_pyIter_tuple (show s.heap.IsTuple a its.toArray from p) ?_
 refine ⟨s.heap.objs.size,[s.heap.objs.size],_,_,H,rfl,I.kept (t':=s.toks) fun b o e=>Heap.get?_push_of_some _ e,sP a _,⟨_,Heap.get?_push_size _ rfl,rfl,rfl⟩,fun b hb=> ?_,q⟩
 have e:b=s.heap.objs.size:=by simpa using hb
 subst e
 exact I.fpOk (aak _) (I.hok.fresh (aak _))
theorem Dq{pins:List (Addr×Obj)}{σ:St}{H:Hp}{s:Shared}{z:Str}{t:Tok}{Q:It→Hp→Prop}{E:Value→Shared→Prop}(I:Inv X pins σ H s)(q:Q (Its z) H):wpAny (model X.prog X.w) X.A (pyIter (.str z t)) (PIE X pins σ tg Q) E s:=by
 have fp:∀b∈[s.heap.objs.size],uo X pins H b:=fun b hb=>by
  have e:b=s.heap.objs.size:=by simpa using hb
  subst e
  exact I.fpOk (aak _) (I.hok.fresh (aak _))
 cases ha:z.cps.all (· < 128)
 ·exact wpAny_pyIter_wide ha ⟨s.heap.objs.size,[s.heap.objs.size],_,_,H,rfl,I.kept (t':=s.toks) fun b o e=>Heap.get?_push_of_some _ e,uE z t _,⟨_,Heap.get?_push_size _ rfl,rfl,rfl⟩,fp,q⟩
 ·exact wpAny_pyIter_ascii ha ⟨s.heap.objs.size,[s.heap.objs.size],_,_,H,rfl,I.kept (t':=s.toks) fun b o e=>Heap.get?_push_of_some _ e,uF z t _,⟨_,Heap.get?_push_size _ rfl,rfl,rfl⟩,fp,q⟩
end
def FZ:DF:=fun ds _ q _=>∃ns:List Int,ds=[.scr ns]∧ns.length≤63∧∀M',q (.bl true) M'
def uN(K:PySem.W.Frag):Sp:=fun vs H Q _=>∃(a:Addr) (ns:List Int),vs=[.ref a]∧SqL K H a (ns.map V.int)∧ns.length≤63∧∀H',Q (.bl true) H'
theorem C4{P:Program}{w:World}{K:PySem.W.Frag}{mg:Str→Option Value}{base:Heap}{k:Nat}{f:Addr}{fd:FuncData}{x:Str}(F:bA P w K mg base (CX1 P w) k f fd [x] (spD K FZ)):bA P w K mg base CX0 k f fd [x] (uN K):=by
 have sp:∀vs H Q E,uN K vs H Q E→spD K FZ vs H Q E0:=by
  rintro vs H Q E ⟨a,ns,rfl,hS,hl,hQ⟩
  refine ⟨H,[],[.scr ns],[],fun d _=>d= .bl true,fun _ _ _=>False,⟨.refl _,rfl,List.nodup_nil,fun k a m h=>by simp at h⟩,⟨_,_,rfl,⟨a,rfl,hS⟩,rfl⟩,⟨ns,rfl,hl,fun _=>rfl⟩,fun v H' ⟨d,G',L',M',_,_,n,e⟩=> ?_,fun _ _ _ _ _ _ _ h=>h.elim⟩
  subst e
  rw [show v=V.bl true from n]
  exact hQ H'
 refine ⟨fun vs H Q E h=>F.len vs H Q E0 (sp vs H Q E h),fun A outer s H args us vs Q E hr he hb hv h=>codeAny_mono (F.run A outer s H args us vs Q E0 hr he hb hv (sp vs H Q E h)) fun r s' hq=> ?_⟩
 cases r with
 | error e=>
  obtain ⟨_,_,_,_,_,_,_,_,hE⟩:=hq
  exact hE.elim
 | ok fl=>cases fl <;> exact hq
def B7(c:DT)(tb:DS):DS:=fun Dn ρ M=>∃W:Nat→En→Ms→Prop,(∃m,W m ρ M)∧∀m ρ M,W m ρ M→
 c ρ M (fun b M1=>(b=true→∃N:En→Ms→Prop,(∀ρ' M',N ρ' M'→∃m',m' < m∧W m' ρ' M')∧tb {Dn with nx:=N,ct:=N,bk:=Dn.nx} ρ M1)∧(b=false→Dn.nx ρ M1)) Dn.x
def Hq(i j:Nat)(t:DA):DS:=fun Dn ρ M=>t ρ M (fun ds M1=>match ds with
 | [a,b]=>Dn.nx ((ρ.set i (some a)).set j (some b)) M1
 | _=>False) Dn.x
section
variable{X:Cx}{R:St→XK}{c a b:Expr}{body:List Stmt}{tc:DT}{tb:DS}{pos:Pos}
theorem rZ(hc:JT X R c tc)(hb:JSs X R body tb)(hp:PassesOwn (model X.prog X.w) X.A X.env X.xe:=by first | exact PassesOwn.never | exact PassesOwn.leaving):JS X R (.While c body [] pos) (B7 tc tb):= .of (yb hp hc hb) fun σ H G L ρ M Dn rl n h hx=>by
 obtain ⟨W,⟨m0,w0⟩,turn⟩:=h
 refine ⟨fun m σ' H'=>jh X.K G L H (W m) σ' H',⟨m0,ρ,G,L,M, .refl _ _ _,rl,n,w0⟩,fun m σ' H' ⟨ρ',G',L',M',e',r',n',w'⟩=> ?_⟩
 refine ⟨G',L',ρ',M',_,_,r',n',turn m ρ' M' w',hx.on e',fun v H1 ⟨G1,L1,M1,e1,r1,h1⟩=> ?_⟩
 cases v with
 | true=>
  obtain ⟨N,hN,hb⟩:=h1.1 rfl
  refine BL ⟨jh X.K G L H N,fun σ2 H2 ⟨ρ2,G2,L2,M2,e2,r2,n2,h2⟩=> ?_, ?_⟩
  ·obtain ⟨m',hm,w2⟩:=hN ρ2 M2 h2
   exact ⟨m',hm,ρ2,G2,L2,M2,e2,r2,n2,w2⟩
  ·have e01:=e'.trans e1
   exact ⟨G1,L1,ρ',M1,_,r1,n'.mono e1,hb,hx.on e01,⟨fun _ _ f=>jh.back e01 f,fun _ _ f=>Fin.back e01 f,fun _ _ f=>jh.back e01 f,fun _ _ f=>jh.back e01 f⟩⟩
 | false=>exact BM ⟨ρ',G1,L1,M1,e'.trans e1,r1,n'.mono e1,h1.2 rfl⟩
theorem Dg{i j:Nat}{x y:Str}{t:DA}{px py pt:Pos}{kt k2 pt2}(hN:X.N.Nodup)(hi:X.N[i]? =some x)(hj:X.N[j]? =some y)(ha:JA X R [a,b] t)(hij:i≠j:=by decide)
  (hx:X.env.scope.names.lookup x=some .local:=by rfl) (hy:X.env.scope.names.lookup y=some .local:=by rfl)
  (hw:swappedStores [.Tuple [.Name x px, .Name y py] kt pt] (.Tuple [a,b] k2 pt2) X.env=pure (some [x,y]):=by rfl) (hc:X.calm=true:=by rfl)
  (hs:swapsWithSole [.Tuple [.Name x px, .Name y py] kt pt] (.Tuple [a,b] k2 pt2) pos.line X.env=pure false:=by rfl):
  JS X R (.Assign [.Tuple [.Name x px, .Name y py] kt pt] (.Tuple [a,b] k2 pt2) pos) (Hq i j t):= .of (Cu hc hN hi hj hij hx hy ha hw hs) fun σ H G L ρ M Dn rl n h hx=>by
 refine ⟨G,L,ρ,M,_,_,rl,n,h,hx,fun vs H1 ⟨ds,G1,L1,M1,e1,r1,n1,h1⟩=> ?_⟩
 (try dsimp only at h1)
 split at h1
 ·obtain ⟨v,u,rfl,m1,m2⟩:=fV n1
  exact ⟨v,u,rfl,_,G1,L1,M1,e1,r1,((n.mono e1).set i m1).set j m2,h1⟩
 ·exact h1.elim
end
section
variable{X:Cx}{R:St→XK}{e e2 o:Expr}{es:List Expr}{t:DA}{to ta tb:DE}{a b:Expr}{p pos apos cpos:Pos}
theorem qw(hm:X.mg "abs"=none)(ha:JA X R [e] t)(he:starEach [e] X.env=(false,eval e X.env)::starEach [] X.env:=by rfl)(hpl:(backTo pos (starEach [] X.env)).any (·.1)=false:=by rfl)(hg:Gl X "abs":=by rfl):JE X R (.Call (.Name "abs" p) [e] [] pos) (dFn BO t):=
 iq yW HX hm xm ha hg (by decide) (by decide) he hpl
theorem Fj(hm:X.mg "any"=none)(ha:JA X R [e] t)(hc:X.calm=true:=by rfl)(he:starEach [e] X.env=(false,eval e X.env)::starEach [] X.env:=by rfl)(hpl:(backTo pos (starEach [] X.env)).any (·.1)=false:=by rfl)(hg:Gl X "any":=by rfl):JE X R (.Call (.Name "any" p) [e] [] pos) (dFn FI t):=
 iq (yU hc) HU hm xk ha hg (by decide) (by decide) he hpl
end
theorem fH{te:DE}{cs:En}{f:Dt→Dt}{M:Ms}{k:List Dt→Ms→Prop}:∀(xs acc:List Dt),(∀x∈xs,∀q:DQ,q (f x) M→te (some x::cs) M q noX)→k (acc++xs.map f) M→uh te cs xs acc M k
 | [],acc,_,h=>by rw [List.map_nil,aaT] at h;exact h
 | x::xs,acc,ht,h=>ht x List.mem_cons_self _ (fH xs (acc++[f x]) (fun y hy=>ht y (List.mem_cons_of_mem _ hy)) (by simpa using h))
theorem ax{d y:Dt}{xs:List Dt}{i:Int}{M:Ms}{q:DQ}(hs:rh M d=some xs)(h:atI xs i=some y)(k:q y M):fIx d (.int i) M q:=by
 cases d with
 | str z=>cases hs
 | _=>
  unfold fIx
  simp only [hs,h]
  exact k
theorem aL{d:Dt}{xs:List Dt}{M:Ms}{q:DQ}(hs:rh M d=some xs)(k:q (.int xs.length) M):j6 [d] M q:=by
 cases d with
 | str z=>cases hs
 | _=>
  unfold j6
  simp only [hs]
  exact k
theorem dG{α:Type}{x:α}{xs:List α}:atI (x::xs) 0=some x:=aI (j:=0) rfl
theorem vd(bs:List Bool):(List.range bs.length).all (fun i=>bs.getD i false)=bs.all id:=by
 induction bs with
 | nil=>rfl
 | cons b bs ih=>
  rw [aas,abJ,abF,List.all_map,abF,←ih]
  rfl
def GB(K:PySem.W.Frag):List V→Hp→VK→Prop:=fun xs H Q=>∃(p:Addr) (bs:List Bool),xs=[.ref p]∧SqL K H p (bs.map V.bl)∧Q (.bl (bs.all id)) H
section
variable{X:Cx}
theorem yV (hc : X.calm = true) : fJ X (.builtin "all") (GB X.K) := by
  intro pins s σ H xs us Q I r h
  obtain ⟨p, bs, rfl, hq, q⟩ := h
  obtain ⟨u, rfl, r1⟩ := pj r
  cases r1
  obtain ⟨its, rv, pl, hz⟩ := I.list hq
  have eits := ph rv
  subst eits
  refine call_all_walk (wpAny_pyIter_list pl.isList ?_)
  have lp : p < s.heap.objs.size := by obtain ⟨o, e, _⟩ := pl.isList; exact Heap.lt_size e
  refine ⟨s.heap.objs.size, _, _, _, _, _, fun i => bs.getD i false, rfl, Walks.list (show X.A.in1.handled = none from I.ok.hd hc) s.heap.objs.size p (aaA lp) (bs.map Value.bool).toArray, ⟨⟨_, Heap.get?_push_size _ rfl, rfl, rfl⟩, pl.isList.at fun o e => Heap.get?_push_of_some _ e⟩, qX, fun h' tk hk => ?_⟩
  refine ⟨.bl (bs.all id), H, I.kept fun b o e => hk b o (fun z => by have : b = s.heap.objs.size := by simpa using z
                                                                      exact aaZ _ (this ▸ Heap.lt_size e)) (Heap.get?_push_of_some _ e), ?_, q⟩
  rw [aa1, aac, vd]
  rfl
end
def FJ:List Dt→Ms→DQ→Prop
 | [.lst xs],M,q=>∃bs:List Bool,xs=bs.map Dt.bl∧q (.bl (bs.all id)) M
 | _,_,_=>False
theorem HV{K:PySem.W.Frag}:CaD K (GB K) FJ:=by
 intro G0 L0 H0 G L M H vs ds q e r n h
 unfold FJ at h
 split at h
 ·rename_i xs
  obtain ⟨bs,rfl,h⟩:=h
  obtain ⟨v,rfl,n1⟩:=b7 n
  obtain ⟨a,ws,rfl,e1,m⟩:=n1
  exact ⟨a,bs,rfl,by rw [←je m];exact .of (r.sub _ _ e1),dF e r h⟩
 ·exact h.elim
def B8(i j:Nat)(t:DE):DS:=fun Dn ρ M=>t ρ M (fun d M1=>match d with
 | .tup [a,b]=>Dn.nx ((ρ.set i (some a)).set j (some b)) M1
 | _=>False) Dn.x
section
variable{X:Cx}{R:St→XK}{e o:Expr}{es:List Expr}{t:DA}{to te:DE}{p pos apos cpos:Pos}
theorem xl:bootBuiltins "all"=some (.builtin "all"):=by decide+kernel
theorem Fm(hm:X.mg "all"=none)(ha:JA X R [e] t)(hc:X.calm=true:=by rfl)(he:starEach [e] X.env=(false,eval e X.env)::starEach [] X.env:=by rfl)(hpl:(backTo pos (starEach [] X.env)).any (·.1)=false:=by rfl)(hg:Gl X "all":=by rfl):JE X R (.Call (.Name "all" p) [e] [] pos) (dFn FJ t):=
 iq (yV hc) HV hm xl ha hg (by decide) (by decide) he hpl
variable{i j k:Nat}{tg:Expr}
theorem A8(he:JE X R e te)(hg:PG X tg (Dv X.K 2 (mD (iu i) (mD (iu j) Dw))))(hs:swapsWithSole [tg] e pos.line X.env=pure false:=by rfl)(hw:swappedStores [tg] e X.env=pure none:=by rfl)
  (h1:(assignEach [tg] X.env).map (·.2)=[assign tg X.env]:=by rfl):JS X R (.Assign [tg] e pos) (B8 i j te):= .of (zu he hg hs hw h1) fun σ H G L ρ M Dn rl n h hx=>by
 refine ⟨G,L,ρ,M,_,_,rl,n,h,hx,fun v H1 ⟨d1,G1,L1,M1,e1,r1,n1,h1⟩=> ?_⟩
 (try dsimp only at h1)
 split at h1
 ·rename_i a b
  obtain ⟨p,vs,rfl,e,m⟩:=n1
  obtain ⟨v1,v2,rfl,m1,m2⟩:=fV m
  exact ⟨p,_,rfl, .inl (.inl (r1.sub _ _ e)),rfl,v1,_,rfl,v2,_,rfl,rfl,_,G1,L1,M1,e1,r1,((n.mono e1).set i m1).set j m2,h1⟩
 ·exact h1.elim
end
mutual
def Dt.under(n:Nat):Dt→Prop
 | .non=>True
 | .bl _=>True
 | .int _=>True
 | .str _=>True
 | .tup ds=>Dt.underL n ds
 | .lst ds=>Dt.underL n ds
 | .obj _ _ ds=>Dt.underL n ds
 | .loc k=>k < n
 | .ref _=>True
 | .ty _=>True
 | .scr _=>True
 | .kt ds=>Dt.underL n ds
 | .exc _ _ ds=>Dt.underL n ds
 | .exn _ _ _ _ ds=>Dt.underL n ds
def Dt.underL(n:Nat):List Dt→Prop
 | []=>True
 | d::ds=>Dt.under n d∧Dt.underL n ds
end
def MO.under(n:Nat):MO→Prop
 | .lst ds=>Dt.underL n ds
 | .ins _ _ ds=>Dt.underL n ds
 | .dct _ ds=>Dt.underL n ds
mutual
inductive Frz(n:Nat)(E:Ms):Dt→Dt→Prop
 | old {d:Dt} (h:d.under n):Frz n E d d
 | tup {ds es:List Dt} (h:mU n E ds es):Frz n E (.tup ds) (.tup es)
 | lst {ds es:List Dt} (h:mU n E ds es):Frz n E (.lst ds) (.lst es)
 | obj {C:Addr} {ns:List Str} {ds es:List Dt} (h:mU n E ds es):Frz n E (.obj C ns ds) (.obj C ns es)
 | newL {k:Nat} {ds es:List Dt} (hk:n≤k) (e:E[k - n]? =some (.lst ds)) (h:mU n E ds es):Frz n E (.loc k) (.lst es)
 | newO {k:Nat} {C:Addr} {ns:List Str} {ds es:List Dt} (hk:n≤k) (e:E[k - n]? =some (.ins C ns ds)) (h:mU n E ds es):Frz n E (.loc k) (.obj C ns es)
inductive mU(n:Nat)(E:Ms):List Dt→List Dt→Prop
 | nil:mU n E [] []
 | cons {d e:Dt} {ds es:List Dt} (h:Frz n E d e) (t:mU n E ds es):mU n E (d::ds) (e::es)
end
theorem mU.length{n:Nat}{E:Ms}:∀{ds es:List Dt},mU n E ds es→ds.length=es.length
 | [],es,h=>by cases h;rfl
 | d::ds,es,h=>by
  cases h with
  | cons h t=>rw [aas,aas,mU.length t]
theorem mU.old{n:Nat}{E:Ms}:∀{ds:List Dt},Dt.underL n ds→mU n E ds ds
 | [],_=> .nil
 | _::_,h=> .cons (.old h.1) (mU.old h.2)
section
variable{K:PySem.W.Frag}{G G':Hp}{L0 t:List Addr}{n:Nat}
mutual
theorem oz(hn:L0.length=n)(g:gK G G'):∀(d:Dt) (v:V),d.under n→Den K G (L0++t) d v→Den K G' L0 d v
 | .non,_,_,h=>h
 | .bl _,_,_,h=>h
 | .int _,_,_,h=>h
 | .str _,_,_,h=>h
 | .tup ds,_,u,⟨a,vs,e,h1,h2⟩=>⟨a,vs,e,g _ _ h1,bH hn g ds vs u h2⟩
 | .lst ds,_,u,⟨a,vs,e,h1,h2⟩=>⟨a,vs,e,g _ _ h1,bH hn g ds vs u h2⟩
 | .obj C ns ds,_,u,⟨a,dx,vs,e,h1,hl,h2⟩=>⟨a,dx,vs,e,g _ _ h1,hl,bH hn g ds vs u h2⟩
 | .loc k,_,u,⟨a,e,h1⟩=>⟨a,e,by
   have u:k < n:=u
   rwa [aav (by rw [hn];exact u)] at h1⟩
 | .ref _,_,_,h=>h
 | .ty _,_,_,h=>h
 | .scr _,_,_,⟨a,e,h1⟩=>⟨a,e,g.seq h1⟩
 | .kt ds,_,u,⟨a,vs,e,h1,h2⟩=>⟨a,vs,e,g.sqT h1,bH hn g ds vs u h2⟩
 | .exc _ _ ds,_,u,⟨a,od,vs,e,h1,h2,h3,h4⟩=>⟨a,od,vs,e,g _ _ h1,h2.imp (fun z=>z) (fun ⟨dx,z1,z2⟩=>⟨dx,z1,g _ _ z2⟩),h3,bH hn g ds vs u h4⟩
 | .exn _ _ _ _ ds,_,u,⟨vs,e,h2,h3,h4⟩=>⟨vs,e,h2.imp (fun z=>z) (fun ⟨dx,z1,z2⟩=>⟨dx,z1,g _ _ z2⟩),h3,bH hn g ds vs u h4⟩
theorem bH(hn:L0.length=n)(g:gK G G'):∀(ds:List Dt) (vs:List V),Dt.underL n ds→bb K G (L0++t) ds vs→bb K G' L0 ds vs
 | [],_,_,h=>h
 | d::ds,_,u,⟨v,r,e,h1,h2⟩=>⟨v,r,e,oz hn g d v u.1 h1,bH hn g ds r u.2 h2⟩
end
theorem vQ{H:Hp}{a:Addr}(hn:L0.length=n)(g:gK G G'){m:MO}(u:m.under n)(h:MOk K G (L0++t) H a m):MOk K G' L0 H a m:=by
 cases m with
 | lst ds=>obtain ⟨vs,e,h⟩:=h;exact ⟨vs,e,bH hn g _ _ u h⟩
 | ins C ns ds=>obtain ⟨dx,vs,e,hl,h⟩:=h;exact ⟨dx,vs,e,hl,bH hn g _ _ u h⟩
 | dct ks ds=>obtain ⟨vs,e,hl,h⟩:=h;exact ⟨vs,e,hl,bH hn g _ _ u h⟩
end
open Classical in
noncomputable def uu(G H:Hp)(t:List Addr):Hp:=fun b=>if b∈t then H b else G b
theorem vB{G H:Hp}{t:List Addr}{b:Addr}(h:b∈t):uu G H t b=H b:=by unfold uu;rw [if_pos h]
theorem i0{G H:Hp}{t:List Addr}{b:Addr}(h:b∉t):uu G H t b=G b:=by unfold uu;rw [if_neg h]
section
variable{K:PySem.W.Frag}{G:Hp}{L0 t:List Addr}{M0 E:Ms}{H:Hp}
theorem fB(r:Rl K G (L0++t) (M0++E) H):gK G (uu G H t):=fun b u e=>by
 by_cases hb:b∈t
 ·obtain ⟨_,_,_,_,g,_⟩:=r.at_mem (a:=b) (aax _ hb)
  rw [g] at e;cases e
 ·rw [i0 hb];exact e
theorem zU(r:Rl K G (L0++t) (M0++E) H)(hn:L0.length=M0.length){k:Nat}{a:Addr}{m:MO}(hk:M0.length≤k)(e:(L0++t)[k]? =some a)(em:E[k - M0.length]? =some m):uu G H t a=H a∧MOk K G (L0++t) H a m:=by
 have e2:(M0++E)[k]? =some m:=by rw [aam hk];exact em
 obtain ⟨_,q⟩:=r.ats k a m e e2
 rw [aam (by rw [hn];exact hk)] at e
 exact ⟨vB (aag e),q⟩
theorem Bh(r:Rl K G (L0++t) (M0++E) H)(hn:L0.length=M0.length){d d':Dt}(f:Frz M0.length E d d'):∀v,Den K G (L0++t) d v→Den K (uu G H t) L0 d' v:=by
 refine Frz.rec (motive_1:=fun d d' _=>∀v,Den K G (L0++t) d v→Den K (uu G H t) L0 d' v) (motive_2:=fun ds es _=>∀vs,bb K G (L0++t) ds vs→bb K (uu G H t) L0 es vs) ?_ ?_ ?_ ?_ ?_ ?_ ?_ ?_ f
 ·exact fun {d} u v h=>oz hn (fB r) d v u h
 ·exact fun {ds es} f ih v ⟨a,vs,e,h1,h2⟩=>⟨a,vs,e,fB r _ _ h1,ih vs h2⟩
 ·exact fun {ds es} f ih v ⟨a,vs,e,h1,h2⟩=>⟨a,vs,e,fB r _ _ h1,ih vs h2⟩
 ·exact fun {C ns ds es} f ih v ⟨a,dx,vs,e,h1,hl,h2⟩=>⟨a,dx,vs,e,fB r _ _ h1,hl.trans f.length,ih vs h2⟩
 ·intro k ds es hk em f ih v ⟨a,e,h1⟩
  obtain ⟨o,vs,e1,h2⟩:=zU r hn hk h1 em
  exact ⟨a,vs,e,o.trans e1,ih vs h2⟩
 ·intro k C ns ds es hk em f ih v ⟨a,e,h1⟩
  obtain ⟨o,dx,vs,e1,hl,h2⟩:=zU r hn hk h1 em
  exact ⟨a,dx,vs,e,o.trans e1,hl.trans f.length,ih vs h2⟩
 ·exact fun vs h=>h
 ·exact fun {d e ds es} f t ih1 ih2 vs ⟨v,r,e,h1,h2⟩=>⟨v,r,e,ih1 v h1,ih2 r h2⟩
end
def HK(n:Nat)(q:DQ):DQ:=fun d M=>∃M' E d',M=M'++E∧M'.length=n∧(∀m∈M',MO.under n m)∧Frz n E d d'∧q d' M'
theorem Fin.frz{K:PySem.W.Frag}{G0:Hp}{L0:List Addr}{M0:Ms}{H0:Hp}{q:DQ}{v:V}{H:Hp}(r0:Rl K G0 L0 M0 H0)(f:Fin K G0 L0 H0 (HK M0.length q) v H):Fin K G0 L0 H0 q v H:=by
 obtain ⟨d,G,L,M,ex,r,dn,M',E,d',rfl,hl,hu,fz,hq⟩:=f
 obtain ⟨t,rfl⟩:=ex.l
 have hn:L0.length=M'.length:=by rw [hl];exact r0.len
 have dis:∀b,b∈L0→b∉t:=fun b h1 h2=>(List.nodup_append.mp r.nd).2.2 b h1 b h2 rfl
 have sm:=fB r
 refine ⟨d',uu G H t,L0,M',⟨ex.g.trans sm, .refl _,fun b h1 h2=> ?_,ex.out,fun b h=> .inl h,ex.dom⟩,⟨fun b u e=> ?_,hn,(List.nodup_append.mp r.nd).1,fun k a m h1 h2=> ?_⟩,Bh r hn (hl▸fz) v dn,hq⟩
 ·have hb:b∉t:=fun z=>(ex.new b (aax _ z)).elim (fun y=>dis b y z) h2
  rw [i0 hb];exact ex.fr b h1 h2
 ·by_cases hb:b∈t
  ·rw [vB hb] at e;exact e
  ·rw [i0 hb] at e;exact r.sub b u e
 ·have k1:k < L0.length:=(aai.mp h1).1
  have e1:(L0++t)[k]? =some a:=by rw [aav k1];exact h1
  have e2:(M'++E)[k]? =some m:=by rw [aav (by rw [←hn];exact k1)];exact h2
  obtain ⟨g,q⟩:=r.ats k a m e1 e2
  exact ⟨by rw [i0 (dis a (aag h1))];exact g,vQ (n:=M'.length) hn sm (by rw [hl];exact hu m (aag h2)) q⟩
section
variable{X:Cx}{R:St→XK}{e:Expr}{t:DE}
theorem i9{st:Stmt}:JS X R st (fun _ _ _=>False):=fun _ _ _ _ _ _ ⟨_,_,_,_,_,_,_,h,_,_⟩=>h.elim
end
def zg(C:Addr)(m:Str)(sp:Sp)(dvs:List V)(R:St→XK)(ta:TE)(t:TA):TE:=fun σ H Q=>ta σ H fun x H1=>∃a dx fs,x= .ref a∧H1 a=some (.ins C dx fs)∧fs.lookup m=none∧
 t σ H1 fun vs H2=>sp (x::(vs++dvs)) H2 Q (R σ)
def BZ(C:Addr)(sp:Sp)(dvs:List V)(R:St→XK)(t:TA):TE:=fun σ H Q=>t σ H fun vs H1=>∀x dx,H1 x=none→H1 dx=none→dx≠x→
 sp (.ref x::(vs++dvs)) (upd (upd H1 dx (.own x)) x (.ins C dx [])) (fun v H2=>v= .non∧Q (.ref x) H2) (R σ)
section
variable{X:Cx}{CX:CXT}{k:Nat}{f C:Addr}{fd:FuncData}{ps:List Str}{sp:Sp}{dvs:List V}{ds:List Value}{R:St→XK}{x m:Str}{p pos apos:Pos}{e o:Expr}{es:List Expr}{ta:TE}{t:TA}
theorem ye{pl:Sem Bool}(he:PE X o ta)(c:Cls X.K C)(hm:Et X.K C m f)(F:bA X.prog X.w X.K X.mg X.base CX k f fd ps sp)(hr:eK k X.A)(hb:iS X.K fd ps ds)(hd:bN dvs ds)(hx:de CX X R)(ha:PA X (e::es) t)
  (hst:starEach (e::es) X.env=(false,eval e X.env)::starEach es X.env:=by rfl) (hpl:(backTo pos (starEach es X.env)).any (·.1)=false:=by rfl)
  (ht:eval (.Call (.Attribute o m apos) (e::es) [] pos) X.env=(do
   let ov←eval o X.env
   standAt apos.atName
   let (f,first)←holding [ov] (getMethod ov m pl)
   callWith pos f first (backTo pos (starEach (e::es) X.env)) (backToKw pos (keywordEach [] X.env))):=by rfl):
  PE X (.Call (.Attribute o m apos) (e::es) [] pos) (zg C m sp dvs R ta t):=by
 intro pins s σ H Q I h
 refine PySem.W.methodCall_KW (pl:=pl) (thn (he pins s σ H _ I h) fun u s1 ⟨x,H1,I1,rx,a,dx,fs,ex,ea,l,q⟩=> ?_) ht
 subst ex
 obtain rfl:u=Value.ref a:=rx
 refine kO I1 ea c hm l ?_
 refine PySem.W.callWith_K (first:=[.ref a]) (h₀:=X.base) I.ok.mod.kin hm.kp (thn (ha pos pins s1 σ H1 _ I1 q) fun us s2 ⟨vs,H2,I2,r,q2⟩=>⟨I2.kIn, ?_⟩) hst hpl
 exact pJ (us:= .ref a::us) (vs:= .ref a::vs) F hr hb hd hx I2 (.cons rfl r) q2
theorem vv{pl:Sem Bool}(he:PE X o ta)(c:Cls X.K C)(hm:Et X.K C m f)(F:bA X.prog X.w X.K X.mg X.base CX k f fd ps sp)(hr:eK k X.A)(hb:iS X.K fd ps ds)(hd:bN dvs ds)(hx:de CX X R)
  (ht:eval (.Call (.Attribute o m apos) [] [] pos) X.env=(do
   let ov←eval o X.env
   standAt apos.atName
   let (f,first)←holding [ov] (getMethod ov m pl)
   callWith pos f first (backTo pos (starEach [] X.env)) (backToKw pos (keywordEach [] X.env))):=by rfl):
  PE X (.Call (.Attribute o m apos) [] [] pos) (zg C m sp dvs R ta Gk):=by
 intro pins s σ H Q I h
 refine PySem.W.methodCall_KW (pl:=pl) (thn (he pins s σ H _ I h) fun u s1 ⟨x,H1,I1,rx,a,dx,fs,ex,ea,l,q⟩=> ?_) ht
 subst ex
 obtain rfl:u=Value.ref a:=rx
 refine kO I1 ea c hm l ?_
 exact PySem.W.callWith_K0 (first:=[.ref a]) I1.kIn hm.kp (pJ (us:=[.ref a]) (vs:=[.ref a]) F hr hb hd hx I1 (.cons rfl .nil) q)
theorem u6{pins:List (Addr×Obj)}{σ:St}{H:Hp}{s:Shared}{Q:VK}{us:List Value}{vs:List V}(M:Mk X.K C f)(F:bA X.prog X.w X.K X.mg X.base CX k f fd ps sp)(hr:eK (k+1) X.A)(hb:iS X.K fd ps ds)(hd:bN dvs ds)
  (hx:de CX X R) (I:Inv X pins σ H s) (r:bN vs us)
  (h:∀x dx,H x=none→H dx=none→dx≠x→sp (.ref x::(vs++dvs)) (upd (upd H dx (.own x)) x (.ins C dx [])) (fun v H2=>v= .non∧Q (.ref x) H2) (R σ)):
  wpAny (model X.prog X.w) X.A (call (.ref C) us) (EP X pins σ Q) X.xe s:=by
 have hq:=h (s.heap.objs.size+1) s.heap.objs.size (I.hok.fresh (Nat.le_succ _)) (I.hok.fresh (aak _)) (aaA (abn _))
 have I2:=Inv.made (C:=C) I
 have r2:bN (V.ref (s.heap.objs.size+1)::(vs++dvs)) (Value.ref (s.heap.objs.size+1)::(us++ds)):= .cons rfl (r.append hd)
 have hl:(Value.ref (s.heap.objs.size+1)::us++ds).length=ps.length:=by
  have e:=r2.length
  rw [F.len _ _ _ _ hq] at e
  exact e.symm
 refine wpAny_call (yv (f:=f) I.kIn M.makes M.init (beq_iff_eq.mp M.fn) (codeAny_mono (F.run _ X.stack _ _ ⟨Value.ref (s.heap.objs.size+1)::us,[]⟩ (Value.ref (s.heap.objs.size+1)::(us++ds)) _ _ (R σ) (hr.make C us [])
  (I2.env0.make C us []) (hb _ (Value.ref (s.heap.objs.size+1)::us) I2.kIn hl) r2 hq) fun r s' hq'=> ?_))
 cases r with
 | error e=>exact hx pins σ _ _ e s' I2 hq'
 | ok fl=>
  cases fl with
  | ret u=>
   obtain ⟨v,H',I3,rv,ev,q3⟩:=I2.after hq'
   subst ev
   exact ⟨rv,⟨V.ref (s.heap.objs.size+1),H',I3,rfl,q3⟩⟩
  | next=>exact False.elim hq'
  | brk=>exact False.elim hq'
  | cont=>exact False.elim hq'
theorem yf(M:Mk X.K C f)(F:bA X.prog X.w X.K X.mg X.base CX k f fd ps sp)(hr:eK (k+1) X.A)(hg:Gl X x)(hm:X.mg x=some (.ref C))(hb:iS X.K fd ps ds)(hd:bN dvs ds)(hx:de CX X R)
  (ha:PA X (e::es) t) (hdb:(x==("__debug__":Str))=false:=by decide) (he:starEach (e::es) X.env=(false,eval e X.env)::starEach es X.env:=by rfl) (hpl:(backTo pos (starEach es X.env)).any (·.1)=false:=by rfl):
  PE X (.Call (.Name x p) (e::es) [] pos) (BZ C sp dvs R t):=by
 intro pins s σ H Q I h
 refine wpAny_Call_Name_kw (mj I hg hm ?_ hdb)
 refine PySem.W.callWith_K (h₀:=X.base) I.ok.mod.kin M.kp (thn (ha pos pins s σ H _ I h) fun us s1 ⟨vs,H1,I1,r,q⟩=>⟨I1.kIn, ?_⟩) he hpl
 exact u6 M F hr hb hd hx I1 r q
end
def Gd(C:Addr)(M:Ms)(d:Dt)(ns:List Str)(ds:List Dt):Prop:=d= .obj C ns ds∨∃k,d= .loc k∧M[k]? =some (.ins C ns ds)
section
variable{K:PySem.W.Frag}{G:Hp}{L:List Addr}{M:Ms}{H:Hp}{C:Addr}{d:Dt}{v:V}{ns:List Str}{ds:List Dt}
theorem AW(r:Rl K G L M H)(n:Den K G L d v)(o:Gd C M d ns ds):∃a dx vs,v= .ref a∧H a=some (.ins C dx (ns.zip vs))∧ns.length=ds.length∧bb K G L ds vs:=by
 rcases o with rfl | ⟨k,rfl,hm⟩
 ·obtain ⟨a,dx,vs,e,h1,hl,h2⟩:=n
  exact ⟨a,dx,vs,e,r.sub _ _ h1,hl,h2⟩
 ·obtain ⟨a,e,h1⟩:=n
  obtain ⟨_,dx,vs,h2,hl,h3⟩:=r.ats k a _ h1 hm
  exact ⟨a,dx,vs,e,h2,hl,h3⟩
theorem qS{f:Str}:∀{ns:List Str} {ds:List Dt} {vs:List V} {d:Dt},bb K G L ds vs→(ns.zip ds).lookup f=some d→∃v,(ns.zip vs).lookup f=some v∧Den K G L d v
 | [],_,_,_,_,h=>by simp at h
 | _::_,[],_,_,_,h=>by simp at h
 | g::ns,d::ds,_,d',⟨v,r,rfl,h1,h2⟩,h=>by
  rw [aa2,aby] at h
  rw [aa2,aby]
  cases q:f==g with
  | true=>rw [q] at h;cases h;exact ⟨v,rfl,h1⟩
  | false=>rw [q] at h;exact qS h2 h
theorem k9{f:Str}:∀{ns:List Str} {ds:List Dt} {vs:List V},bb K G L ds vs→(ns.zip ds).lookup f=none→(ns.zip vs).lookup f=none
 | [],_,_,_,_=>by simp
 | _::_,[],_,h,_=>by
  have h:_=_:=h
  subst h;simp
 | g::ns,d::ds,_,⟨v,r,rfl,h1,h2⟩,h=>by
  rw [aa2,aby] at h
  rw [aa2,aby]
  cases q:f==g with
  | true=>rw [q] at h;cases h
  | false=>rw [q] at h;exact k9 h2 h
theorem rC{f:Str}{v:V}:∀{ns:List Str} {vs:List V},ns.length=vs.length→f∉ns→mS f v (ns.zip vs)=(ns++[f]).zip (vs++[v])
 | [],[],_,_=>rfl
 | g::ns,x::vs,hl,h=>by
  have hg:¬g=f:=fun z=>h (by rw [z];exact aae)
  show (if g=f then (g,v)::ns.zip vs else (g,x)::mS f v (ns.zip vs))=(g,x)::(ns++[f]).zip (vs++[v])
  rw [if_neg hg,rC (by simpa using hl) fun z=>h (List.mem_cons_of_mem _ z)]
 | [],_::_,hl,_=>by simp at hl
 | _::_,[],hl,_=>by simp at hl
end
def HN(C:Addr)(f:Str)(t:DE):DE:=fun ρ M q x=>t ρ M (fun d M1=>∃ns ds v,Gd C M1 d ns ds∧(ns.zip ds).lookup f=some v∧q v M1) x
def DN(C:Addr)(m:Str)(T:DF)(to:DE)(ta:DA):DE:=fun ρ M q x=>to ρ M (fun d M1=>(∃ns ds,Gd C M1 d ns ds∧(ns.zip ds).lookup m=none)∧ta ρ M1 (fun ds M2=>T (d::ds) M2 q (fun C fs M'=>x ρ C fs M')) x) x
def FP(C:Addr)(T:DF)(ta:DA):DE:=fun ρ M q x=>ta ρ M (fun ds M1=>T (.loc M1.length::ds) (M1++[.ins C [] []]) (fun d M2=>d= .non∧q (.loc M1.length) M2) (fun C fs M'=>x ρ C fs M')) x
def Ca(C:Addr)(f:Str)(to tv:DE):DS:=fun Dn ρ M=>tv ρ M (fun y M1=>to ρ M1 (fun d M2=>∃k ns ds,d= .loc k∧M2[k]? =some (.ins C ns ds)∧f∉ns∧ns.length < 1000∧Dn.nx ρ (M2.set k (.ins C (ns++[f]) (ds++[y])))) Dn.x) Dn.x
structure fj(P:Program)(w:World)(K:PySem.W.Frag)(mg:Str→Option Value)(base:Heap)(k:Nat)(C:Addr)(m:Str)(ps:List Str)(T:DF)(f:Addr)(fd:FuncData):Prop where
 ok:bA P w K mg base (CX1 P w) k f fd ps (spD K T)
 b:iS K fd ps []
 c:Cls K C
 m:Et K C m f
structure Gf(P:Program)(w:World)(K:PySem.W.Frag)(mg:Str→Option Value)(base:Heap)(k:Nat)(x:Str)(C:Addr)(ps:List Str)(T:DF)(f:Addr)(fd:FuncData):Prop where
 ok:bA P w K mg base (CX1 P w) k f fd ps (spD K T)
 b:iS K fd ps []
 k:Mk K C f
 m:mg x=some (.ref C)
section
variable{X:Cx}{R:St→XK}{C:Addr}{f m x:Str}{T:DF}{k k':Nat}{a:Addr}{fd:FuncData}{ps:List Str}{e o value:Expr}{es:List Expr}{pos pos' apos p:Pos}{to te tv:DE}{ta:DA}
theorem qu(c:Cls X.K C)(n:gh X.K C f)(he:JE X R e te)(hb:attributeBase e f X.env (eval e X.env)=eval e X.env:=by rfl):JE X R (.Attribute e f pos) (HN C f te):=
 .of (CH he hb) fun σ H G L ρ M q x rl en h hx=>by
  refine ⟨G,L,ρ,M,_,x,rl,en,h,hx,fun v H1 ⟨d1,G1,L1,M1,e1,r1,n1,ns,ds,y,ob,hl,h1⟩=> ?_⟩
  obtain ⟨p,dx,vs,rfl,hp,_,dn⟩:=AW r1 n1 ob
  obtain ⟨u,hu,du⟩:=qS dn hl
  exact ⟨p,C,dx,_,u,rfl,hp,c,n,hu,y,G1,L1,M1,e1,r1,du,h1⟩
theorem bZ{pl:Sem Bool}(D:fj X.prog X.w X.K X.mg X.base k C m ps T a fd)(hr:eK k' X.A)(hx:de (CX1 X.prog X.w) X R)(ho:JE X R o to)(ha:JA X R (e::es) ta)(hk:k≤k':=by decide)
  (hst:starEach (e::es) X.env=(false,eval e X.env)::starEach es X.env:=by rfl) (hpl:(backTo pos (starEach es X.env)).any (·.1)=false:=by rfl)
  (ht:eval (.Call (.Attribute o m apos) (e::es) [] pos) X.env=(do
   let ov←eval o X.env
   standAt apos.atName
   let (f,first)←holding [ov] (getMethod ov m pl)
   callWith pos f first (backTo pos (starEach (e::es) X.env)) (backToKw pos (keywordEach [] X.env))):=by rfl):
  JE X R (.Call (.Attribute o m apos) (e::es) [] pos) (DN C m T to ta):=
 .of (ye (pl:=pl) ho D.c D.m D.ok (hr.mono hk) D.b .nil hx ha hst hpl ht) fun σ H G L ρ M q x rl en h hx=>by
  refine ⟨G,L,ρ,M,_,x,rl,en,h,hx,fun v H1 ⟨d1,G1,L1,M1,e1,r1,n1,⟨ns,ds,ob,hl⟩,h1⟩=> ?_⟩
  obtain ⟨p,dx,vs,rfl,hp,_,dn⟩:=AW r1 n1 ob
  refine ⟨p,dx,_,rfl,hp,k9 dn hl,G1,L1,ρ,M1,_,x,r1,en.mono e1,h1,hx.on e1,fun us H2 ⟨ds2,G2,L2,M2,e2,r2,n2,h2⟩=> ?_⟩
  show spD X.K T (V.ref p::(us++[])) H2 _ _
  rw [aaT]
  have e12:=e1.trans e2
  exact ⟨G2,L2,d1::ds2,M2,q,_,r2,⟨_,_,rfl,Den.mono e2.g e2.l _ _ n1,n2⟩,h2,fun v H' f=>Fin.back e12 f,fun C fs M' G' L' H' od hq e' r' y=>hx σ ρ C fs M' G' L' H' od hq (e12.trans e') r' (en.mono (e12.trans e')) y⟩
theorem eY{pl:Sem Bool}(D:fj X.prog X.w X.K X.mg X.base k C m ps T a fd)(hr:eK k' X.A)(hx:de (CX1 X.prog X.w) X R)(ho:JE X R o to)(hk:k≤k':=by decide)
  (ht:eval (.Call (.Attribute o m apos) [] [] pos) X.env=(do
   let ov←eval o X.env
   standAt apos.atName
   let (f,first)←holding [ov] (getMethod ov m pl)
   callWith pos f first (backTo pos (starEach [] X.env)) (backToKw pos (keywordEach [] X.env))):=by rfl):
  JE X R (.Call (.Attribute o m apos) [] [] pos) (DN C m T to FX):=
 .of (vv (pl:=pl) ho D.c D.m D.ok (hr.mono hk) D.b .nil hx ht) fun σ H G L ρ M q x rl en h hx=>by
  refine ⟨G,L,ρ,M,_,x,rl,en,h,hx,fun v H1 ⟨d1,G1,L1,M1,e1,r1,n1,⟨ns,ds,ob,hl⟩,h1⟩=> ?_⟩
  obtain ⟨p,dx,vs,rfl,hp,_,dn⟩:=AW r1 n1 ob
  refine ⟨p,dx,_,rfl,hp,k9 dn hl, ?_⟩
  show spD X.K T (V.ref p::([]++[])) H1 _ _
  exact ⟨G1,L1,[d1],M1,q,_,r1,⟨_,_,rfl,n1,rfl⟩,h1,fun v H' f=>Fin.back e1 f,fun C fs M' G' L' H' od hq e' r' y=>hx σ ρ C fs M' G' L' H' od hq (e1.trans e') r' (en.mono (e1.trans e')) y⟩
theorem Di(D:Gf X.prog X.w X.K X.mg X.base k x C ps T a fd)(hr:eK k' X.A)(hx:de (CX1 X.prog X.w) X R)(ha:JA X R (e::es) ta)(hk:k+1≤k':=by decide)(hg:Gl X x:=by rfl)(hdb:(x==("__debug__":Str))=false:=by decide)
  (he:starEach (e::es) X.env=(false,eval e X.env)::starEach es X.env:=by rfl) (hpl:(backTo pos (starEach es X.env)).any (·.1)=false:=by rfl):JE X R (.Call (.Name x p) (e::es) [] pos) (FP C T ta):=
 .of (yf D.k D.ok (hr.mono hk) hg D.m D.b .nil hx ha hdb he hpl) fun σ H G L ρ M q x rl en h hx=>by
  refine ⟨G,L,ρ,M,_,x,rl,en,h,hx,fun vs H1 ⟨ds,G1,L1,M1,e1,r1,n1,h1⟩ y dx hy hdx hne=> ?_⟩
  show spD X.K T (V.ref y::(vs++[])) _ _ _
  rw [aaT]
  have ra:=r1.newG (o:= .own y) hdx
  have ea:=r1.exG (o:= .own y) hdx
  have hy2:upd H1 dx (HO.own y) y=none:=by rw [av (Ne.symm hne)];exact hy
  have rb:=ra.newM (p:=y) (o:= .ins C dx []) (m:= .ins C [] []) hy2 ⟨dx,[],aC,rfl,rfl⟩
  have eb:=ra.exM (p:=y) (o:= .ins C dx []) hy2
  have e2:=ea.trans eb
  have e12:=e1.trans e2
  refine ⟨_,_, .loc M1.length::ds,_,_,_,rb,⟨_,_,rfl,⟨y,rfl, ?_⟩,bb.mono e2.g e2.l _ _ n1⟩,h1,fun v H' ⟨d,G',L',M',e',r',dn,hd,hq⟩=> ?_,fun C fs M' G' L' H' od hq e' r' z=>hx σ ρ C fs M' G' L' H' od hq (e12.trans e') r' (en.mono (e12.trans e')) z⟩
  ·rw [←r1.len,List.getElem?_append_right (Nat.le_refl _)];simp
  ·subst hd
   refine ⟨dn, .loc M1.length,G',L',M',e12.trans e',r',⟨y,rfl,e'.l.get ?_⟩,hq⟩
   rw [←r1.len,List.getElem?_append_right (Nat.le_refl _)];simp
theorem v8(c:Cls X.K C)(n:gh X.K C f)(ho:JE X R o to)(hv:JE X R value tv)(hs:swapsWith value (some (.Attribute o f pos')) pos.line X.env=pure false:=by rfl):JS X R (.Assign [.Attribute o f pos'] value pos) (Ca C f to tv):=
 .of (Cv ho hv hs) fun σ H G L ρ M Dn rl en h hx=>by
  refine ⟨G,L,ρ,M,_,_,rl,en,h,hx,fun y H1 ⟨dy,G1,L1,M1,e1,r1,n1,h1⟩=> ?_⟩
  refine ⟨G1,L1,ρ,M1,_,_,r1,en.mono e1,h1,hx.on e1,fun u H2 ⟨du,G2,L2,M2,e2,r2,n2,k,ns,ds,ed,hm,hf,hz,h2⟩=> ?_⟩
  subst ed
  obtain ⟨p,rfl,hp⟩:=n2
  obtain ⟨_,dx,vs,hH,hl,dn⟩:=r2.ats k p _ hp hm
  have hlv:ns.length=vs.length:=hl.trans dn.length
  refine ⟨p,C,dx,_,rfl,hH,c,n,by rw [abl,←hlv,Nat.min_self];exact hz, ?_⟩
  rw [rC hlv hf]
  exact ⟨ρ,G2,L2,_,(e1.trans e2).trans (r2.exS hp),r2.setM (m:= .ins C (ns++[f]) (ds++[dy])) hp ⟨dx,_,aC,by rw [aap,aap,hl];rfl,dn.app ⟨_,_,rfl,Den.mono e2.g e2.l _ _ n1,rfl⟩⟩,(en.mono (e1.trans e2)).mono (r2.exS (o:= .own p) hp),h2⟩
end
def yM:List Dt→Ms→DQ→Prop
 | [d],M,q=>match rh M d with
  | some xs=>q (.loc M.length) (M++[.lst xs])
  | none=>False
 | _,_,_=>False
section
variable{K:PySem.W.Frag}
theorem Fb:CaD K (fun xs H Q=>∃p ys,xs=[V.ref p]∧(SqL K H p ys∨SqT K H p ys)∧∀l,H l=none→Q (.ref l) (upd H l (.lst ys))) yM:=by
 intro G0 L0 H0 G L M H vs ds q e r n h
 unfold yM at h
 split at h
 ·rename_i d
  obtain ⟨v,rfl,n1⟩:=b7 n
  split at h
  ·rename_i xs hs
   obtain ⟨a,us,rfl,hq,dn⟩:=ll r n1 hs
   exact ⟨a,us,rfl,hq,fun l hl=>ix e r hl dn h⟩
  ·exact h.elim
 ·exact h.elim
end
section
variable{X:Cx}{R:St→XK}{e o i value:Expr}{t:DA}{to ti tv:DE}{p pos apos cpos tpos:Pos}
theorem wj(hm:X.mg "list"=none)(ha:JA X R [e] t)(hg:Gl X "list":=by rfl)(he:starEach [e] X.env=(false,eval e X.env)::starEach [] X.env:=by rfl)(hpl:(backTo pos (starEach [] X.env)).any (·.1)=false:=by rfl):JE X R (.Call (.Name "list" p) [e] [] pos) (dFn yM t):=
 se oG Fb hm kX ha hg (by decide) (by decide) he hpl
def HP(to:DE)(t:DA):DE:=fun ρ M q x=>to ρ M (fun d M1=>(∃k xs,d= .loc k∧M1[k]? =some (.lst xs))∧t ρ M1 (fun ds M2=>∃k xs y,d= .loc k∧ds=[y]∧M2[k]? =some (.lst xs)∧xs.length < sizeLine∧q .non (M2.set k (.lst (xs++[y])))) x) x
theorem e7(ho:JE X R o to)(ha:JA X R [e] t)(hbase:attributeBase o "append" X.env (eval o X.env)=eval o X.env:=by rfl)
  (hfew:((backTo cpos (starEach [e] X.env)).all (fun x=> !x.1)&&(backToKw cpos (keywordEach [] X.env)).all (fun x=>x.1.isSome)
   &&decide (([e]:List Expr).length+([]:List Keyword).length+(if ([]:List Keyword).isEmpty then 0 else 1) < 30))=true:=by rfl)
  (hline:(apos.endLine==cpos.line)=true:=by rfl) (hs:starEach [e] X.env=(false,eval e X.env)::starEach [] X.env:=by rfl) (hplain:(backTo cpos (starEach [] X.env)).any (·.1)=false:=by rfl):
  JE X R (.Call (.Attribute o "append" apos) [e] [] cpos) (HP to t):=
 .of (EZ PySem.F.plainAttrs_list PySem.F.slot_list_append PySem.F.type_list_append (r:=ve) jR ho ha hbase hfew hline hs hplain) fun σ H G L ρ M q x rl n h hx=>by
  refine ⟨G,L,ρ,M,_,x,rl,n,h,hx,fun v H1 ⟨d1,G1,L1,M1,e1,r1,n1,⟨k,xs,ed,hm⟩,h1⟩=> ?_⟩
  subst ed
  obtain ⟨a,rfl,hk⟩:=n1
  obtain ⟨_,vs,hH,_⟩:=r1.ats k a _ hk hm
  refine ⟨.inl ⟨rfl,vs, .of hH⟩,G1,L1,ρ,M1,_,x,r1,n.mono e1,h1,hx.on e1,fun us H2 ⟨ds,G2,L2,M2,e2,r2,n2,k',xs',y,ek,ed,hm2,hz,h2⟩=> ?_⟩
  cases ek
  subst ed
  obtain ⟨u,rfl,n3⟩:=b7 n2
  have hk2:=e2.l.get hk
  obtain ⟨_,vs2,hH2,dn2⟩:=r2.ats k a _ hk2 hm2
  refine ⟨a,vs2,u,rfl,rfl,hH2,by rw [←dn2.length];exact hz, .non,G2,L2,_,(e1.trans e2).trans (r2.exS hk2),r2.setM (m:= .lst (xs'++[y])) hk2 ⟨_,aC,dn2.app ⟨_,_,rfl,n3,rfl⟩⟩,rfl,h2⟩
def kF(to ti tv:DE):DS:=fun Dn ρ M=>tv ρ M (fun y M1=>to ρ M1 (fun d M2=>ti ρ M2 (fun di M3=>∃k i xs j,d= .loc k∧di= .int i∧M3[k]? =some (.lst xs)∧ixN xs.length i=some j∧Dn.nx ρ (M3.set k (.lst (xs.set j y)))) Dn.x) Dn.x) Dn.x
theorem fU(ho:JE X R o to)(hi:JE X R i ti)(hv:JE X R value tv)(hs:swapsWithSole [.Subscript o i tpos] value pos.line X.env=pure false:=by rfl)(hw:swappedStores [.Subscript o i tpos] value X.env=pure none:=by rfl)
  (h1:(assignEach [.Subscript o i tpos] X.env).map (·.2)=[assign (.Subscript o i tpos) X.env]:=by rfl)
  (ha:∀v,assign (.Subscript o i tpos) X.env v=(do
   let ov←holding [v] (eval o X.env)
   let iv←holding [v,ov] (eval i X.env)
   standAt tpos
   holding [v,ov,iv] (setItem ov iv v)
   release [v,ov,iv] []):=by intro _;rfl):JS X R (.Assign [.Subscript o i tpos] value pos) (kF to ti tv):=
 .of (zu hv (Cw (t:=Ce) ho hi x3 ha) hs hw h1) fun σ H G L ρ M Dn rl n h hx=>by
  refine ⟨G,L,ρ,M,_,_,rl,n,h,hx,fun v H1 ⟨dv,G1,L1,M1,e1,r1,n1,h1⟩=> ?_⟩
  refine ⟨G1,L1,ρ,M1,_,_,r1,n.mono e1,h1,hx.on e1,fun ov H2 ⟨d,G2,L2,M2,e2,r2,n2,h2⟩=> ?_⟩
  refine ⟨G2,L2,ρ,M2,_,_,r2,(n.mono e1).mono e2,h2,(hx.on e1).on e2,fun iv H3 ⟨di,G3,L3,M3,e3,r3,n3,k,i,xs,j,ed,ei,hm,hj,h3⟩=> ?_⟩
  subst ed ei
  obtain ⟨a,rfl,hk⟩:=n2
  have n3:iv= .int i:=n3
  subst n3
  have hk3:=e3.l.get hk
  obtain ⟨_,vs,hH,dn⟩:=r3.ats k a _ hk3 hm
  have e23:=e2.trans e3
  have dv3:=Den.mono e23.g e23.l _ _ n1
  refine ⟨a,vs,i,j,rfl,rfl,hH,by rw [←dn.length];exact hj,ρ,G3,L3,_,((e1.trans e2).trans e3).trans (r3.exS hk3),r3.setM (m:= .lst (xs.set j dv)) hk3 ⟨_,aC, .of (vg dv3 j dn.pair)⟩,(((n.mono e1).mono e2).mono e3).mono (r3.exS (o:= .own a) hk3),h3⟩
end
abbrev DK:=En→Ms→(List Dt→(Ms→Prop)→Ms→Prop)→DX→Prop
structure YlK(K:PySem.W.Frag)(J:It)(xs:List Dt)(ok:Ms→Prop)(G0:Hp)(L0:List Addr):Prop where
 go:∀(i:Nat) G L M H (d:Dt),gK G0 G→Pre L0 L→Rl K G L M H→ok M→xs[i]? =some d→J.go i H∧∀v H',J.yld i H v H'→∃G',Ex G L H G' L H'∧Rl K G' L M H'∧Den K G' L d v
 stop:∀(i:Nat) G L M H,gK G0 G→Pre L0 L→Rl K G L M H→ok M→xs.length≤i→J.stop i H
inductive Ia(K:PySem.W.Frag)(G0:Hp)(L0:List Addr)(H0:Hp)(q:List Dt→(Ms→Prop)→Ms→Prop)(J:It)(H:Hp):Prop
 | mk (xs:List Dt) (ok:Ms→Prop) (G:Hp) (L:List Addr) (M:Ms) (e:Ex G0 L0 H0 G L H) (r:Rl K G L M H) (y:YlK K J xs ok G L) (h:q xs ok M)
inductive Ej(K:PySem.W.Frag)(R:St→XK)(t:DK)(σ:St)(H:Hp)(Q:It→Hp→Prop):Prop
 | mk (G:Hp) (L:List Addr) (ρ:En) (M:Ms) (q:List Dt→(Ms→Prop)→Ms→Prop) (x:DX) (r:Rl K G L M H) (n:EnD K G L ρ σ) (h:t ρ M q x) (hx:XOk K G L H R x) (hQ:∀J H1,Ia K G L H q J H1→Q J H1)
def JK(X:Cx)(R:St→XK)(tg iter:Expr)(t:DK):Prop:=PI X tg iter (Ej X.K R t)
structure Src(K:PySem.W.Frag)(a:Addr)(xs:List Dt)(ok:Ms→Prop)(G0:Hp)(L0:List Addr):Prop where
 at_:∀G L M H,gK G0 G→Pre L0 L→Rl K G L M H→ok M→∃vs,SqL K H a vs∧bb K G L xs vs
def oW(M:Ms):Dt→Option (List Dt×(Ms→Prop))
 | .lst xs=>some (xs,fun _=>True)
 | .scr ns=>some (ns.map .int,fun _=>True)
 | .loc k=>match M[k]? with
  | some (.lst xs)=>some (xs,fun M'=>M'[k]? =some (.lst xs))
  | _=>none
 | _=>none
theorem nc{K:PySem.W.Frag}{G:Hp}{L:List Addr}{M:Ms}{H:Hp}{d:Dt}{v:V}{xs:List Dt}{ok:Ms→Prop}(r:Rl K G L M H)(n:Den K G L d v)(h:oW M d=some (xs,ok)):∃a vs,v= .ref a∧SqL K H a vs∧Src K a xs ok G L∧ok M:=by
 cases d with
 | lst ds=>
  cases h
  obtain ⟨a,vs,rfl,e,m⟩:=n
  exact ⟨a,vs,rfl, .of (r.sub _ _ e),⟨fun G' L' M' H' g l r' _=>⟨vs, .of (r'.sub _ _ (g _ _ e)),bb.mono g l _ _ m⟩⟩,trivial⟩
 | scr ns=>
  cases h
  obtain ⟨a,rfl,e⟩:=n
  exact ⟨a,_,rfl,r.sub.seq e,⟨fun G' L' M' H' g l r' _=>⟨_,r'.sub.seq (g.seq e),fE⟩⟩,trivial⟩
 | loc k=>
  obtain ⟨a,rfl,e⟩:=n
  have h:(match M[k]? with | some (.lst xs)=>some (xs,fun M':Ms=>M'[k]? =some (.lst xs)) | _=>none)=some (xs,ok):=h
  split at h
  ·rename_i ys hm
   cases h
   obtain ⟨_,vs,e1,m1⟩:=r.ats k a _ e hm
   refine ⟨a,vs,rfl, .of e1,⟨fun G' L' M' H' g l r' hk=> ?_⟩,hm⟩
   obtain ⟨_,vs2,e2,m2⟩:=r'.ats k a _ (l.get e) hk
   exact ⟨vs2, .of e2,m2⟩
  ·cases h
 | _=>cases h
theorem xR{K:PySem.W.Frag}{G:Hp}{L:List Addr}{a:Addr}{xs:List Dt}{ok:Ms→Prop}(s:Src K a xs ok G L):YlK K (Itl K a) xs ok G L where
 go:=fun i G1 L1 M1 H1 d g l r k e=>by
  obtain ⟨vs,hs,n⟩:=s.at_ G1 L1 M1 H1 g l r k
  obtain ⟨v,e1,n1⟩:=n.get e
  exact ⟨⟨vs,v,hs,e1⟩,fun v' H' ⟨eH,y⟩=>by
   subst eH
   have e2:=y vs hs
   rw [e1] at e2;cases e2
   exact ⟨G1, .refl _ _ _,r,n1⟩⟩
 stop:=fun i G1 L1 M1 H1 g l r k e=>by
  obtain ⟨vs,hs,n⟩:=s.at_ G1 L1 M1 H1 g l r k
  exact ⟨vs,hs,by rw [←n.length];exact e⟩
def tZ(M:Ms):Dt→Option (List Dt×(Ms→Prop))
 | .loc k=>oW M (.loc k)
 | d=>(Fo M d).map fun xs=>(xs,fun _=>True)
def iP(t:DE):DK:=fun ρ M q x=>t ρ M (fun d M1=>match tZ M1 d with
 | some (xs,ok)=>q xs ok M1
 | none=>False) x
theorem cD{X:Cx}{R:St→XK}{tg e:Expr}{te:DE}(h:JE X R e te):JK X R tg e (iP te):=by
 intro pins s σ H Q I ⟨G,L,ρ,M,q,x,rl,n,ht,hx,hQ⟩
 refine thn (h pins s σ H (Fin X.K G L H _) I ⟨G,L,ρ,M,_,x,rl,n,ht,hx,fun _ _ f=>f⟩) fun u s1 ⟨v,H1,I1,rv,d,G1,L1,M1,e1,r1,n1,h1⟩=> ?_
 (try dsimp only at h1)
 cases hi:tZ M1 d with
 | none=>rw [hi] at h1;exact h1.elim
 | some p=>
  obtain ⟨xs,ok⟩:=p
  rw [hi] at h1
  have fin:∀J,YlK X.K J xs ok G1 L1→Q J H1:=fun J y=>hQ J H1 ⟨xs,ok,G1,L1,M1,e1,r1,y,h1⟩
  have up:∀{J},ok=(fun _=>True)→Yl X.K J xs G1 L1→YlK X.K J xs ok G1 L1:=fun eo y=>by
   subst eo
   exact ⟨fun i G L M H d g l r _ e=>y.go i G L M H d g l r e,fun i G L M H g l r _ e=>y.stop i G L M H g l r e⟩
  cases d with
  | loc k=>
   obtain ⟨a,vs,rfl,hs,sr,_⟩:=nc r1 n1 hi
   cases rv
   exact qx I1 hs (fin _ (xR sr))
  | lst ds=>
   cases hi
   obtain ⟨a,vs,rfl,e,m⟩:=n1
   cases rv
   exact qx I1 (vs:=vs) (.of (r1.sub _ _ e)) (fin _ (up rfl (uw (fun G' g=> .of (g _ _ e)) m)))
  | scr ns=>
   cases hi
   obtain ⟨a,rfl,e⟩:=n1
   cases rv
   exact qx I1 (r1.sub.seq e) (fin _ (up rfl (uw (fun G' g=>g.seq e) fE)))
  | tup ds=>
   cases hi
   obtain ⟨a,vs,rfl,e,m⟩:=n1
   cases rv
   exact zO I1 (vs:=vs) (.of (r1.sub _ _ e)) (fin _ (up rfl (y9 (fun G' g=> .of (g _ _ e)) m)))
  | kt ds=>
   cases hi
   obtain ⟨a,vs,rfl,e,m⟩:=n1
   cases rv
   exact zO I1 (r1.sub.sqT e) (fin _ (up rfl (y9 (fun G' g=>g.sqT e) m)))
  | str z=>
   cases hi
   cases n1
   obtain ⟨t,rfl⟩:=rv
   exact Dq I1 (fin _ (up rfl BR))
  | _=>cases hi
def yI(g:Dt→En→(En→Prop)→Prop)(tb:DS)(Dn:mQ)(ok:Ms→Prop):List Dt→En→Ms→Prop
 | [],ρ,M=>ok M∧Dn.nx ρ M
 | x::xs,ρ,M=>ok M∧g x ρ fun ρ'=>tb {Dn with nx:=yI g tb Dn ok xs,ct:=yI g tb Dn ok xs,bk:=Dn.nx} ρ' M
def x6(ti:DK)(g:Dt→En→(En→Prop)→Prop)(tb:DS):DS:=fun Dn ρ M=>ti ρ M (fun xs ok M1=>yI g tb Dn ok xs ρ M1) Dn.x
section
variable{X:Cx}{R:St→XK}{tg iter:Expr}{body:List Stmt}{ti:DK}{gg:TG}{g:Dt→En→(En→Prop)→Prop}{tb:DS}{pos:Pos}
theorem dW(hi:JK X R tg iter ti)(hg:PG X tg gg)(gd:GD X.K gg g)(hb:JSs X R body tb)(hp:PassesOwn (model X.prog X.w) X.A X.env X.xe:=by first | exact PassesOwn.never | exact PassesOwn.leaving)(hc:X.calm=true:=by rfl)(hs:∀x,foldedSetIterable iter X.env x=pure x:=by intro _;rfl):
  JS X R (.For tg iter body [] pos) (x6 ti g tb):= .of (zt hp hc hi hg hb hs) fun σ H G L ρ M Dn rl n h hx=>by
 refine ⟨G,L,ρ,M,_,_,rl,n,h,hx,fun J H1 ⟨xs,ok,G1,L1,M1,e1,r1,y,h1⟩=> ?_⟩
 refine ⟨fun i m σ' H'=>m+i=xs.length∧jh X.K G1 L1 H1 (fun ρ' M'=>yI g tb Dn ok (xs.drop i) ρ' M') σ' H',⟨xs.length,rfl,ρ,G1,L1,M1, .refl _ _ _,r1,n.mono e1,by rw [abU];exact h1⟩, ?_⟩
 rintro i m σ' H' ⟨hm,ρ',G',L',M',e',r',n',h'⟩
 by_cases hi:i < xs.length
 ·right
  have hd:xs[i]? =some xs[i]:=aaa hi
  rw [aaR hi] at h'
  obtain ⟨hok,h'⟩:=h'
  obtain ⟨go,yl⟩:=y.go i G' L' M' H' _ e'.g e'.l r' hok hd
  refine ⟨go,jh X.K G1 L1 H1 (fun ρ' M'=>yI g tb Dn ok (xs.drop (i+1)) ρ' M'),fun σ2 H2 f=>⟨m - 1,by omega,by omega,f⟩,fun v H2 hy=> ?_⟩
  obtain ⟨G2,e2,r2,n2⟩:=yl v H2 hy
  refine gd G2 L' M' H2 _ v ρ' σ' _ _ r2 n2 (n'.mono e2) h' fun ρ3 σ3 n3 h3=> ?_
  refine ⟨G2,L',ρ3,M',_,r2,n3,h3,hx.on (e1.trans (e'.trans e2)),⟨fun _ _ f=>jh.back (e'.trans e2) f,fun _ _ f=>Fin.back (e1.trans (e'.trans e2)) f,fun _ _ f=>jh.back (e1.trans (e'.trans e2)) f,fun _ _ f=>jh.back (e'.trans e2) f⟩⟩
 ·left
  rw [abu (by omega)] at h'
  exact ⟨y.stop i G' L' M' H' e'.g e'.l r' h'.1 (by omega),ρ',G',L',M',e1.trans e',r',n',h'.2⟩
end
def ug(te:DE)(cs:En)(ok:Ms→Prop):List Dt→List Dt→Ms→(List Dt→Ms→Prop)→Prop
 | [],acc,M,k=>ok M∧k acc M
 | x::xs,acc,M,k=>ok M∧te (some x::cs) M (fun d M1=>ug te cs ok xs (acc++[d]) M1 k) noX
def wY(ti:DK)(te:DE)(caps:List Nat):DE:=fun ρ M q x=>ti ρ M (fun xs ok M1=>xs.length≤sizeLine∧ug te (oF caps ρ) ok xs [] M1 (fun ys M2=>q (.lst ys) M2)) x
theorem sE{K:PySem.W.Frag}{J:It}{te:DE}{caps:List Nat}{ρ:En}{σ:St}{G1:Hp}{L1:List Addr}{M1:Ms}{H1:Hp}{xs:List Dt}{ok:Ms→Prop}{Dl:Addr}{Q:VK}{k:List Dt→Ms→Prop}(r1:Rl K G1 L1 M1 H1)(n:EnD K G1 L1 ρ σ)(y:YlK K J xs ok G1 L1)(hD:H1 Dl=none)(hz:xs.length≤sizeLine)
  (h:ug te (oF caps ρ) ok xs [] M1 k)
  (fin:∀G2 L2 M2 H2 ds vs,Ex G1 L1 H1 G2 L2 H2→Rl K G2 L2 M2 H2→G2 Dl=none→Dl∉L2→H2 Dl=some (.lst vs)→bb K G2 L2 ds vs→k ds M2→Q (.ref Dl) H2):
  y6 J (tU K (fun _=>E0) te) (hW caps σ) Q H1 Dl:=by
 refine ⟨fun i m ys H2=>m+i=xs.length∧H2 Dl=some (.lst ys)∧∃acc G2 L2 M2,Ex G1 L1 H1 G2 L2 H2∧Rl K G2 L2 M2 H2∧G2 Dl=none∧Dl∉L2∧bb K G2 L2 acc ys∧acc.length=i∧ug te (oF caps ρ) ok (xs.drop i) acc M2 k,⟨xs.length,rfl,aC,[],G1,L1,M1, ?_⟩, ?_⟩
 ·have gn:G1 Dl=none:=r1.sub.free hD
  refine ⟨⟨.refl _, .refl _,fun _ h _=>h,fun b u h1 _=>by rw [av (fun z=>by rw [z,hD] at h1;cases h1)];exact h1,fun _ h=> .inl h,fun b h=>by rw [av (fun z=>h (by rw [z];exact hD))];exact h⟩,⟨fun b u e=>by rw [av (fun z=>by rw [z,gn] at e;cases e)];exact r1.sub b u e,r1.len,r1.nd,fun i a m h1 h2=> ?_⟩,gn,r1.memN hD,rfl,rfl,by rw [abU];exact h⟩
  obtain ⟨q1,q2⟩:=r1.ats i a m h1 h2
  exact ⟨q1,q2.mono (.refl _) (.refl _) (av fun z=>q2.there (by rw [z];exact hD))⟩
 ·rintro i m ys H2 ⟨hm,hacc,acc,G2,L2,M2,e2,r2,g2,l2,n2,la,h2⟩
  refine ⟨hacc, ?_⟩
  by_cases hi:i < xs.length
  ·right
   have hd:xs[i]? =some xs[i]:=aaa hi
   rw [aaR hi] at h2
   obtain ⟨hok,h2⟩:=h2
   obtain ⟨go,yl⟩:=y.go i G2 L2 M2 H2 _ e2.g e2.l r2 hok hd
   refine ⟨go,fun v H3 hy=> ?_⟩
   obtain ⟨G3,e3,r3,n3⟩:=yl v H3 hy
   refine ⟨G3,L2,_,M2,_,noX,r3,zY ((n.mono e2).mono e3) caps n3,h2,ux,fun v4 H4 ⟨d4,G4,L4,M4,e4,r4,n4,h4⟩=> ?_⟩
   have h3:H3 Dl=some (.lst ys):=e3.out _ _ hacc l2
   have g3:G3 Dl=none:=e3.fr _ g2 (by rw [hacc];simp)
   have h4':H4 Dl=some (.lst ys):=e4.out _ _ h3 l2
   have g4:G4 Dl=none:=e4.fr _ g3 (by rw [h3];simp)
   have l4:Dl∉L4:=fun z=>(e4.new _ z).elim l2 fun q=>by rw [h3] at q;cases q
   have e24:=e3.trans e4
   have lenys:ys.length=i:=by rw [←n2.length];exact la
   have ne1:∀{b:Addr} {u:HO},H1 b=some u→b≠Dl:=fun e z=>by rw [z,hD] at e;cases e
   refine ⟨h4',by omega,m - 1,by omega,by omega,aC,acc++[d4],G4,L4,M4, ?_, ?_,g4,l4,(bb.mono e24.g e24.l _ _ n2).app ⟨_,_,rfl,n4,rfl⟩,by rw [aap,la];rfl,h4⟩
   ·have e14:=e2.trans e24
    exact ⟨e14.g,e14.l,e14.fr,fun b u h1 h2=>by rw [av (ne1 h1)];exact e14.out b u h1 h2,e14.new,fun b h=>by
     by_cases hb:b=Dl
     ·rw [hb,aC];simp
     ·rw [av hb];exact e14.dom b h⟩
   ·refine ⟨fun b u e=>by rw [av (fun z=>by rw [z,g4] at e;cases e)];exact r4.sub b u e,r4.len,r4.nd,fun i a m h1 h2=> ?_⟩
    obtain ⟨q1,q2⟩:=r4.ats i a m h1 h2
    exact ⟨q1,q2.mono (.refl _) (.refl _) (av fun z=>l4 (by rw [←z];exact aag h1))⟩
  ·left
   rw [abu (by omega)] at h2
   exact ⟨y.stop i G2 L2 M2 H2 e2.g e2.l r2 h2.1 (by omega),fin G2 L2 M2 H2 acc ys e2 r2 g2 l2 hacc n2 h2.2⟩
section
variable{X:Cx}{R:St→XK}{elt iter:Expr}{x:Str}{px:Pos}{scope:Scope}{pos:Pos}{ti:DK}{te:DE}{ys:List Str}{caps:List Nat}
theorem e6(S:cE X scope x ys caps)(hi:JK X R (.Name x px) iter ti)(he:∀C s H fp,JE (Cx.comp X (x::ys) scope C s H fp) (fun _=>E0) elt te)(hc:X.calm=true:=by rfl)(hs:∀x,foldedSetIterable iter X.env x=pure x:=by intro _;rfl):
  JE X R (.ListComp elt [⟨.Name x px,iter,[],0⟩] scope pos) (wY ti te caps):= .of (vx (wi:=Ej X.K R ti) (te:=tU X.K (fun _=>E0) te) S hc hi he hs) fun σ H G L ρ M q x rl n h hx=>by
 refine ⟨G,L,ρ,M,_,x,rl,n,h,hx,fun J H1 ⟨xs,ok,G1,L1,M1,e1,r1,y,hz,h1⟩ D hD=> ?_⟩
 exact sE r1 (n.mono e1) y hD hz h1 fun G2 L2 M2 H2 ds vs e2 r2 g2 l2 h2 n2 k=>Fin.back e1 (jO e2 r2 hD g2 l2 h2 n2 k)
theorem eW{i:Nat}{y:Str}{py spos:Pos}(hN:X.N.Nodup)(hiy:X.N[i]? =some y)(hy:Loc X.env.scope y)(S:cE X scope x ys caps)(hi:JK X R (.Name x px) iter ti)(he:∀C s H fp,JE (Cx.comp X (x::ys) scope C s H fp) (fun _=>E0) elt te)(hc:X.calm=true:=by rfl)
  (hsw:swapsWith (.ListComp elt [⟨.Name x px,iter,[],0⟩] scope pos) (some (.Name y py)) spos.line X.env=pure true:=by rfl) (hs:∀x,foldedSetIterable iter X.env x=pure x:=by intro _;rfl)
  (hf:X.fn y=true∨X.env.scope.names.lookup y=some .local:=by first | exact .inl rfl | exact .inr rfl | assumption):
  JS X R (.Assign [.Name y py] (.ListComp elt [⟨.Name x px,iter,[],0⟩] scope pos) spos) (Eg i (wY ti te caps)):= .of (kH (wi:=Ej X.K R ti) (te:=tU X.K (fun _=>E0) te) hN hiy hy S hc hi he hsw hs hf) fun σ H G L ρ M Dn rl n h hx=>by
 refine ⟨G,L,ρ,M,_,_,rl,n,h,hx,fun J H1 ⟨xs,ok,G1,L1,M1,e1,r1,y,hz,h1⟩ D hD=> ?_⟩
 refine sE r1 (n.mono e1) y hD hz h1 fun G2 L2 M2 H2 ds vs e2 r2 g2 l2 h2 n2 k=> ?_
 obtain ⟨d,G3,L3,M3,e3,r3,n3,h3⟩:=jO (q:=fun d M=>Dn.nx (ρ.set i (some d)) M) e2 r2 hD g2 l2 h2 n2 k
 exact ⟨_,G3,L3,M3,e1.trans e3,r3,((n.mono e1).mono e3).set i n3,h3⟩
end
theorem mW:∀{ns:List Int} {us:List Value},bN (ns.map V.int) us→∃ts:List (Int×Tok),us=ts.map (fun p=>Value.int p.1 p.2)∧ts.map (·.1)=ns
 | [],_,h=>by cases h;exact ⟨[],rfl,rfl⟩
 | n::ns,_,h=>by
  cases h with
  | cons r t=>
   obtain ⟨tk,rfl⟩:=r
   obtain ⟨ts,rfl,rfl⟩:=mW t
   exact ⟨(n,tk)::ts,rfl,rfl⟩
def Gu(K:PySem.W.Frag):List V→Hp→VK→Prop:=fun xs H Q=>∃(p:Addr) (ns:List Int),xs=[.ref p]∧SqL K H p (ns.map V.int)∧Q (.int ns.sum) H
theorem yT{X:Cx}(hc:X.calm=true):fJ X (.builtin "sum") (Gu X.K):=by
 intro pins s σ H xs us Q I r h
 obtain ⟨p,ns,rfl,hq,q⟩:=h
 obtain ⟨u,rfl,r1⟩:=pj r
 cases r1
 obtain ⟨its,rv,pl,hz⟩:=I.list hq
 obtain ⟨ts,rfl,rfl⟩:=mW rv
 have e:(ts.map fun p=>Value.int p.1 p.2).toArray=intItems ts.toArray:=by simp [intItems]
 have hl:=pl.isList
 rw [e] at hl
 refine sum_intListG (I.ok.hd hc) hl fun h' tk t' hk=> ?_
 refine ⟨.int (ts.map (·.1)).sum,H,I.kept hk,⟨t', ?_⟩,q⟩
 rw [preSum_eq,List.take_of_length_le (by simp)]
def FA:List Dt→Ms→DQ→Prop
 | [d],M,q=>∃ns:List Int,rh M d=some (ns.map .int)∧(∃xs ok,oW M d=some (xs,ok))∧q (.int ns.sum) M
 | _,_,_=>False
theorem kT{K:PySem.W.Frag}{G:Hp}{L:List Addr}:∀{ns:List Int} {vs:List V},bb K G L (ns.map Dt.int) vs→vs=ns.map V.int
 | [],_,h=>h
 | _::_,_,⟨v,r,e,h1,h2⟩=>by
  have h1:v=_:=h1
  rw [e,h1,kT h2];rfl
theorem i6{M:Ms}{d:Dt}{xs:List Dt}{ok:Ms→Prop}(h:oW M d=some (xs,ok)):rh M d=some xs:=by
 cases d with
 | lst ds=>cases h;rfl
 | scr ns=>cases h;rfl
 | loc k=>
  have h:(match M[k]? with | some (.lst xs)=>some (xs,fun M':Ms=>M'[k]? =some (.lst xs)) | _=>none)=some (xs,ok):=h
  show (match M[k]? with | some (.lst xs)=>some xs | _=>none)=some xs
  split at h
  ·rename_i ys hm;cases h;rfl
  ·cases h
 | _=>cases h
theorem Hn{K:PySem.W.Frag}:CaD K (Gu K) FA:=by
 intro G0 L0 H0 G L M H vs ds q e r n h
 unfold FA at h
 split at h
 ·rename_i d
  obtain ⟨v,rfl,n1⟩:=b7 n
  obtain ⟨ns,hs,⟨xs,ok,hl⟩,hq⟩:=h
  obtain ⟨a,us,rfl,sq,sr,hok⟩:=nc r n1 hl
  rw [i6 hl] at hs
  cases hs
  obtain ⟨ws,sq2,dn⟩:=sr.at_ G L M H (.refl _) (.refl _) r hok
  rw [kT dn] at sq2
  exact ⟨a,ns,rfl,sq2, .int ns.sum,G,L,M,e,r,rfl,hq⟩
 ·exact h.elim
theorem xj:bootBuiltins "sum"=some (.builtin "sum"):=by decide+kernel
theorem uj:bootBuiltins "enumerate"=some (.type "enumerate"):=by decide+kernel
section
variable{X:Cx}{R:St→XK}{e a b:Expr}{t:DA}{ta tb:DE}{p pos:Pos}
theorem Dh(hm:X.mg "sum"=none)(ha:JA X R [e] t)(hc:X.calm=true:=by rfl)(hg:Gl X "sum":=by rfl)(he:starEach [e] X.env=(false,eval e X.env)::starEach [] X.env:=by rfl)(hpl:(backTo pos (starEach [] X.env)).any (·.1)=false:=by rfl):JE X R (.Call (.Name "sum" p) [e] [] pos) (dFn FA t):=
 iq (yT hc) Hn hm xj ha hg (by decide) (by decide) he hpl
def GN:Dt→Dt→Ms→DQ→Prop:=fun d e M q=>∃u xs us,Bk d=some u∧rh M e=some xs∧iJ xs=some us∧q (.bl (inV u us)) M
theorem HH{K:PySem.W.Frag}:OpD K (rIn K false) GN:=by
 intro G0 L0 H0 G L M H v1 v2 d1 d2 q e r n1 n2 ⟨u,xs,us,h1,h2,h3,hq⟩
 obtain ⟨rfl,fu⟩:=so h1 n1
 obtain ⟨a,vs,rfl,sq,dn⟩:=ll r n2 h2
 obtain ⟨rfl,fs⟩:=eJ h3 dn
 exact ⟨a,vs,rfl,sq,fu,fs, .bl _,G,L,M,e,r,rfl,hq⟩
theorem zL(ja:JE X R a ta)(jb:JE X R b tb)(hm:behindInMarks .In b=false:=by rfl):JT X R (.Compare a [.In] [b] pos) (sR (dOp GN ta tb)):=g8 vC HH ja jb hm
end
theorem Inv.turnedNew{X:Cx}{pins:List (Addr×Obj)}{σ:St}{H:Hp}{s:Shared}{h':Heap}{its:List Addr}{T:Addr}{o:HO}{t':Nat}(I:Inv X pins σ H s)(k:∀b u,b∉its→s.heap.get? b=some u→h'.get? b=some u)(f:∀b∈its,uo X pins H b)(hT:s.heap.objs.size≤T)(new:cq X.prog X.w (upd H T o) h' T o):
  Inv X pins σ (upd H T o) {s with heap:=h',toks:=t'}:=by
 have hn:=I.hok.fresh hT
 have nin:∀b u,H b=some u→b∉its:=fun b u e z=>by rw [(f b z).1] at e;cases e
 refine I.call (ch:=its) (g':=s.gens) (d':=s.drawn) (t':=t') ⟨fun b u q _ _ hb=>k b u hb q,fun b u q _ _ hb=>⟨u.slots,k b u hb q⟩,fun b u q n _=> ?_,fun b u q hb=>⟨u,k b u hb q⟩,fun b xs q=> ?_,fun b u xs q=> ?_,fun b ps q=>⟨#[], ?_⟩⟩ (fun b u e=> ?_) I.bare fun b hb=> ?_
 ·rw [av (aaA (aao (Heap.lt_size q) hT))];exact n
 ·rw [av (bF q hn)];exact q
 ·rw [av (bF q hn)];exact q
 ·rw [av (bF q hn),q];simp
 ·by_cases hb:b=T
  ·subst hb;rw [aC] at e;cases e;exact new
  ·rw [av hb] at e
   refine (I.hok b u e).stay (fun c v hc q=>k c v ?_ q) (fun c q=>by rw [av (bF q hn)];exact q) fun c xs q=>by rw [av (bF q hn)];exact q
   rcases hc with z | z
   ·rw [z];exact nin b u e
   ·exact nin c _ z
 ·obtain ⟨f0,f1,f2,f3,f4,f5⟩:=f b hb
  exact ⟨f3,f1,f4,f5⟩
def Ite(K:PySem.W.Frag)(l:Addr):It:=
 ⟨fun i H=>∃xs x,SqL K H l xs∧xs[i]? =some x,fun i H v H'=>∃p x,H p=none∧v= .ref p∧H'=upd H p (.tup [.int i,x])∧∀xs,SqL K H l xs→xs[i]? =some x,fun i H=>∃xs,SqL K H l xs∧xs.length≤i⟩
theorem uH{P:Program}{w:World}{K:PySem.W.Frag}{elts:List Expr}{x1:Nat}{tp:Pos}(l it e:Addr)(hne:e≠it):d8 P w K (.Tuple elts x1 tp) (Ite K l) [e,it] e (fun i h=>(∃old,IsEnum h e it i old)∧h.IsListIter it l i) where
 mem:=by simp
 obj:=fun i h st b hb=>by
  obtain ⟨⟨old,he⟩,hi⟩:=st
  rcases aaJ.mp hb with rfl | hb
  ·exact ⟨_,he,fun v z=>by
    have z':Data.fields _=Data.cell v:=z
    cases z'⟩
  ·have e:b=it:=by simpa using hb
   subst e
   obtain ⟨o,e,c,d⟩:=hi
   exact ⟨o,e,fun v z=>by rw [d] at z;cases z⟩
 keep:=fun i h h' st k=>by
  obtain ⟨⟨old,he⟩,hi⟩:=st
  exact ⟨⟨old,k e (by simp) _ he⟩,hi.at fun o q=>k it (by simp) o q⟩
 item:=by
  intro X hP hw hK hc i pins s σ H E I hf st hg
  subst hP hw hK
  obtain ⟨⟨old,he⟩,hi⟩:=st
  obtain ⟨xs,x,hq,hx⟩:=hg
  obtain ⟨its,rv,p,hz⟩:=I.list hq
  obtain ⟨u,hu,ru⟩:=rv.get hx
  refine wpAny_pyNext_enum_item he hi p.isList (x:=u) (by simpa using hu) hne fun h' ho hi' hT hsz hk=> ?_
  refine ⟨_,rfl,wpAny_letOwnedTupleGo_enum (s:={s with heap:=h',toks:=s.toks+1}) ho fun h2 he2 sb=> ?_⟩
  have sb:Heap.SameBut e h' h2:=sb
  have elt:e < s.heap.objs.size:=Heap.lt_size he
  have ilt:it < s.heap.objs.size:=by obtain ⟨o,q,_⟩:=hi;exact Heap.lt_size q
  have neT:s.heap.objs.size≠e:=abX elt
  have hT2:h2.get? s.heap.objs.size=some {cls:= .type "tuple",data:= .seq #[.int i s.toks,u]}:=(sb.2 _ neT).trans hT
  have I2:Inv X pins σ (upd H s.heap.objs.size (.tup [.int i,x])) {s with heap:=h2,toks:=s.toks+1}:=by
   refine I.turnedNew (its:=[e,it]) (fun b o hb q=> ?_) hf (aak _) ?_
   ·have h1:b≠e:=fun z=>hb (by simp [z])
    have h3:b≠it:=fun z=>hb (by simp [z])
    exact (sb.2 b h1).trans (hk b o h1 h3 q)
   ·refine ⟨by simp [sizeLine_eq],[.int i s.toks,u], .cons ⟨_,rfl⟩ (.cons ru .nil), ?_⟩
    exact ⟨_,hT2,rfl,0,rfl⟩
  have iter:h2.IsListIter it l (i+1):=hi'.at fun o q=>(sb.2 it (Ne.symm hne)).trans q
  refine ⟨.ref s.heap.objs.size,_,I2,rfl,⟨s.heap.objs.size,x,I.hok.fresh (Nat.le_refl _),rfl,rfl,fun ys hy=>by rw [I.list_inj hy hq];exact hx⟩,⟨⟨u,by simpa using he2⟩,iter⟩,fun b hb=> ?_⟩
  have nb:b≠s.heap.objs.size:=by
   rcases aaJ.mp hb with rfl | hb
   ·exact aaA elt
   ·have:b=it:=by simpa using hb
    subst this;exact aaA ilt
  rw [av nb];exact (hf b hb).1
 done:=by
  intro X hP hw hK hc i pins s σ H E I hf st hg
  subst hP hw hK
  obtain ⟨⟨old,he⟩,hi⟩:=st
  obtain ⟨xs,hq,hx⟩:=hg
  obtain ⟨its,rv,p,hz⟩:=I.list hq
  have hl:=rv.length
  obtain ⟨f0,f1,f2,f3,f4,f5⟩:=hf it (by simp)
  refine wpAny_pyNext_enum_end (I.ok.hd hc) he hi p.isList (by simp;omega) fun h' ext=>⟨rfl,I.turned (t':=s.toks) (fun b o hb q=>ext b o hb q) f0 f1 f3 f4 f5⟩
 self:=fun _ _ _ _ _ st h=>by
  obtain ⟨⟨old,he⟩,_⟩:=st
  exact wpAny_pyIter_enum he h
def iQ:Nat→List Dt→List Dt
 | _,[]=>[]
 | n,x::xs=> .tup [.int n,x]::iQ (n+1) xs
theorem iK:∀(n:Nat) (xs:List Dt),(iQ n xs).length=xs.length
 | _,[]=>rfl
 | n,_::xs=>by unfold iQ;rw [List.length_cons,List.length_cons,iK]
theorem ow:∀{n i:Nat} {xs:List Dt} {d:Dt},(iQ n xs)[i]? =some d→∃x,xs[i]? =some x∧d= .tup [.int ((n+i:Nat):Int),x]
 | n,i,[],d,h=>by simp [iQ] at h
 | n,0,x::xs,d,h=>by
  unfold iQ at h
  simp at h
  exact ⟨x,rfl,by rw [←h];simp⟩
 | n,i+1,x::xs,d,h=>by
  unfold iQ at h
  obtain ⟨y,h1,h2⟩:=ow (n:=n+1) (i:=i) (xs:=xs) (d:=d) (by simpa using h)
  exact ⟨y,by simpa using h1,by rw [h2,show n+1+i=n+(i+1) by omega]⟩
theorem xS{K:PySem.W.Frag}{G:Hp}{L:List Addr}{a:Addr}{xs:List Dt}{ok:Ms→Prop}(s:Src K a xs ok G L):YlK K (Ite K a) (iQ 0 xs) ok G L where
 go:=fun i G1 L1 M1 H1 d g l r k e=>by
  obtain ⟨vs,hs,n⟩:=s.at_ G1 L1 M1 H1 g l r k
  obtain ⟨y,ey,rfl⟩:=ow e
  obtain ⟨v,e1,n1⟩:=n.get ey
  refine ⟨⟨vs,v,hs,e1⟩,fun v' H' ⟨p,x,hp,ev,eH,hx⟩=> ?_⟩
  subst ev eH
  have e2:=hx vs hs
  rw [e1] at e2;cases e2
  refine ⟨_,r.exG hp,r.newG hp,mG (ds:=[.int ((0+i:Nat):Int),y]) r hp ⟨_,_,rfl, ?_,_,_,rfl,n1,rfl⟩⟩
  show V.int i=V.int _
  rw [Nat.zero_add]
 stop:=fun i G1 L1 M1 H1 g l r k e=>by
  obtain ⟨vs,hs,n⟩:=s.at_ G1 L1 M1 H1 g l r k
  exact ⟨vs,hs,by rw [←n.length,←iK 0];exact e⟩
def Fu(t:DA):DK:=fun ρ M q x=>t ρ M (fun ds M1=>∃d xs ok,ds=[d]∧oW M1 d=some (xs,ok)∧q (iQ 0 xs) ok M1) x
theorem qr{X:Cx}{R:St→XK}{elts:List Expr}{x1:Nat}{tp:Pos}{a:Expr}{t:DA}{p pos:Pos}(hm:X.mg "enumerate"=none)(ha:JA X R [a] t)(hg:Gl X "enumerate":=by rfl)(hs:starEach [a] X.env=[(false,eval a X.env)]:=by rfl):JK X R (.Tuple elts x1 tp) (.Call (.Name "enumerate" p) [a] [] pos) (Fu t):=by
 intro pins s σ H Q I ⟨G,L,ρ,M,q,x,rl,n,ht,hx,hQ⟩
 refine Call_ (jV I hg hm uj (PyProof.Rows.callWith_type1 (thn (ha pos pins s σ H (Eu X.K G L H _) I ⟨G,L,ρ,M,_,x,rl,n,ht,hx,fun _ _ f=>f⟩) fun us s1 ⟨vs,H1,I1,rv,ds,G1,L1,M1,e1,r1,n1,d,xs,ok,ed,hl,h1⟩=> ?_) hs rfl))
 subst ed
 obtain ⟨v,rfl,n2⟩:=b7 n1
 obtain ⟨b,ws,rfl,sq,sr,_⟩:=nc r1 n2 hl
 obtain ⟨u,rfl,ru⟩:=bN.one rv
 cases ru
 obtain ⟨its,_,pl,_⟩:=I1.list sq
 refine call_enumerate_list pl.isList fun h' he hi hz hk=> ?_
 have I2:Inv X pins σ H1 {s1 with heap:=h'}:=I1.kept (t':=s1.toks) hk
 refine wpAny_pyIter_enum (s:={s1 with heap:=h'}) he ⟨s1.heap.objs.size+1,[s1.heap.objs.size+1,s1.heap.objs.size],_,_,H1,rfl,I2,uH b s1.heap.objs.size (s1.heap.objs.size+1) (abX (abn _)),⟨⟨_,he⟩,hi⟩,fun c hc=> ?_,hQ _ _ ⟨_,ok,G1,L1,M1,e1,r1,xS sr,h1⟩⟩
 have hc:s1.heap.objs.size≤c:=by
  rcases aaJ.mp hc with rfl | hc
  ·exact Nat.le_succ _
  ·have:c=s1.heap.objs.size:=by simpa using hc
   rw [this];exact aak _
 have f:=I1.fpOk (H':=H1) hc (I1.hok.fresh hc)
 exact f
def yz(M:Ms):Dt→Option Value
 | .loc k=>match M[k]? with
  | some (.lst _)=>some (.type "list")
  | _=>none
 | d=>C5 d
def Dz(K:PySem.W.Frag):List Dt→Ms→DQ→Prop:=fun ds M q=>∃d c t t' b,ds=[d,c]∧yz M d=some t∧GW c=some t'∧PySem.W.kitOne K t t'=some b∧q (.bl b) M
section
variable{K:PySem.W.Frag}
theorem sO{G:Hp}{L:List Addr}{M:Ms}{H:Hp}{d:Dt}{v:V}{t:Value}(r:Rl K G L M H)(n:Den K G L d v)(h:yz M d=some t):oX K H v t:=by
 by_cases hd:∃k,d= .loc k
 ·obtain ⟨k,rfl⟩:=hd
  obtain ⟨a,rfl,e⟩:=n
  have h:(match M[k]? with | some (.lst _)=>some (Value.type "list") | _=>none)=some t:=h
  split at h
  ·rename_i xs hm
   cases h
   obtain ⟨_,vs,e1,_⟩:=r.ats k a _ e hm
   exact .lst e1
  ·cases h
 ·refine uC r n ?_
  cases d with
  | loc k=>exact absurd ⟨k,rfl⟩ hd
  | _=>exact h
theorem Fp:CaD K (fun xs H Q=>∃x c t t' b,xs=[x,c]∧oX K H x t∧Eo c=some t'∧PySem.W.kitOne K t t'=some b∧Q (.bl b) H) (Dz K):=by
 intro G0 L0 H0 G L M H vs ds q e r n ⟨d,c,t,t',b,ed,h1,h2,hb,h⟩
 subst ed
 obtain ⟨v,u,rfl,n1,n2⟩:=fV n
 exact ⟨v,u,t,t',b,rfl,sO r n1 h1,Bt n2 h2,hb,dF e r h⟩
end
section
variable{X:Cx}{R:St→XK}{e e2:Expr}{t:DA}{p pos:Pos}
theorem zN(K:PySem.W.Frag)(hm:X.mg "isinstance"=none)(ha:JA X R [e,e2] t)(he:starEach [e,e2] X.env=(false,eval e X.env)::starEach [e2] X.env:=by rfl)(hpl:(backTo pos (starEach [e2] X.env)).any (·.1)=false:=by rfl)(hg:Gl X "isinstance":=by rfl)(hK:X.K=K:=by rfl):JE X R (.Call (.Name "isinstance" p) [e,e2] [] pos) (dFn (Dz K) t):=by
 subst hK
 exact iq qG Fp hm iR ha hg (by decide) (by decide) he hpl
theorem m7:∀{zs:List Str} {us:List Value},Paired (fun (z:Str) (u:Value)=>∃tk,u= .str z tk) zs us→bN (zs.map V.str) us
 | _,_, .nil=> .nil
 | _,_, .cons h t=> .cons h (m7 t)
theorem Dj{x:Str}{zs:List Str}(hm:∃a o its n,X.mg x=some (.ref a)∧X.K.lookup a=some o∧o.cls= .type "tuple"∧o.data= .seq its n∧its.size≤sizeLine∧Paired (fun (z:Str) (u:Value)=>∃tk,u= .str z tk) zs its.toList)(hg:Gl X x:=by rfl)(hd:(x==("__debug__":Str))=false:=by decide):JE X R (.Name x pos) (dC (.kt (zs.map .str))):=by
 obtain ⟨a,o,its,n,h1,h2,h3,h4,h5,h6⟩:=hm
 exact j_c (v:= .ref a) (vw hg h1 rfl hd) fun G L=>⟨a,zs.map V.str,rfl, .inr ⟨o,its,n,h2,h3,h4,h5,m7 h6⟩,oB⟩
end
theorem cZ{te:DE}{cs:En}{ok:Ms→Prop}{f:Dt→Dt}:∀{xs acc:List Dt} {M:Ms} {k:List Dt→Ms→Prop},ok M→(∀x∈xs,∀q:DQ,q (f x) M→te (some x::cs) M q noX)→k (acc++xs.map f) M→ug te cs ok xs acc M k
 | [],acc,M,k,ho,_,h=>⟨ho,by simpa using h⟩
 | x::xs,acc,M,k,ho,hf,h=>⟨ho,hf x List.mem_cons_self _ (cZ ho (fun y hy=>hf y (List.mem_cons_of_mem _ hy)) (by simpa using h))⟩
theorem cQ{g:Dt→En→(En→Prop)→Prop}{tb:DS}{Dn:mQ}{ok:Ms→Prop}(J:List Dt→En→Ms→Prop)(hok:∀xs ρ M,J xs ρ M→ok M)
  (step:∀x xs ρ M,J (x::xs) ρ M→(∀ρ M,J xs ρ M→yI g tb Dn ok xs ρ M)→g x ρ fun ρ'=>tb {Dn with nx:=yI g tb Dn ok xs,ct:=yI g tb Dn ok xs,bk:=Dn.nx} ρ' M)
  (fin:∀ρ M,J [] ρ M→Dn.nx ρ M):∀(xs:List Dt) (ρ:En) (M:Ms),J xs ρ M→yI g tb Dn ok xs ρ M
 | [],ρ,M,h=>⟨hok _ _ _ h,fin _ _ h⟩
 | x::xs,ρ,M,h=>⟨hok _ _ _ h,step x xs ρ M h fun ρ' M' h'=>cQ J hok step fin xs ρ' M' h'⟩
section
variable{K:PySem.W.Frag}{G:Hp}{L:List Addr}
mutual
theorem DL:∀(d:Dt) (v:V),Den K G L d v→d.under L.length
 | .non,_,_=>trivial
 | .bl _,_,_=>trivial
 | .int _,_,_=>trivial
 | .str _,_,_=>trivial
 | .tup ds,_,⟨a,vs,e,h1,h2⟩=>eA ds vs h2
 | .lst ds,_,⟨a,vs,e,h1,h2⟩=>eA ds vs h2
 | .obj C ns ds,_,⟨a,dx,vs,e,h1,hl,h2⟩=>eA ds vs h2
 | .loc k,_,⟨a,e,h1⟩=>(aai.mp h1).1
 | .ref _,_,_=>trivial
 | .ty _,_,_=>trivial
 | .scr _,_,_=>trivial
 | .kt ds,_,⟨a,vs,e,h1,h2⟩=>eA ds vs h2
 | .exc _ _ ds,_,⟨a,od,vs,e,h1,h2,h3,h4⟩=>eA ds vs h4
 | .exn _ _ _ _ ds,_,⟨vs,e,h2,h3,h4⟩=>eA ds vs h4
theorem eA:∀(ds:List Dt) (vs:List V),bb K G L ds vs→Dt.underL L.length ds
 | [],_,_=>trivial
 | d::ds,_,⟨v,r,e,h1,h2⟩=>⟨DL d v h1,eA ds r h2⟩
end
theorem Rl.un{M:Ms}{H:Hp}(r:Rl K G L M H):∀m∈M,MO.under M.length m:=fun m hm=>by
 obtain ⟨k,hk,e⟩:=aa7 hm
 have em:M[k]? =some m:=by rw [aaa hk,e]
 have el:L[k]? =some (L[k]'(by rw [r.len];exact hk)):=aaa _
 obtain ⟨_,q⟩:=r.ats k _ m el em
 rw [←r.len]
 cases m with
 | lst ds=>obtain ⟨vs,_,h⟩:=q;exact eA _ _ h
 | ins C ns ds=>obtain ⟨dx,vs,_,_,h⟩:=q;exact eA _ _ h
 | dct ks ds=>obtain ⟨vs,_,_,h⟩:=q;exact eA _ _ h
end
def frzU(M0:Ms)(q:DQ):DQ:=fun d M=>∃E d',M=M0++E∧Frz M0.length E d d'∧q d' M0
theorem Fin.frzU{K:PySem.W.Frag}{G0:Hp}{L0:List Addr}{M0:Ms}{H0:Hp}{q:DQ}{v:V}{H:Hp}(r0:Rl K G0 L0 M0 H0)(f:Fin K G0 L0 H0 (frzU M0 q) v H):Fin K G0 L0 H0 q v H:=by
 obtain ⟨d,G,L,M,ex,r,dn,E,d',e,fz,hq⟩:=f
 exact Fin.frz r0 ⟨d,G,L,M,ex,r,dn,M0,E,d',e,rfl,r0.un,fz,hq⟩
def dFz(t:DE):DE:=fun ρ M q x=>t ρ M (frzU M q) x
theorem eh{X:Cx}{R:St→XK}{e:Expr}{t:DE}(h:JE X R e t):JE X R e (dFz t):= .of h fun σ H G L ρ M q x rl n ht hx=>⟨G,L,ρ,M,_,x,rl,n,ht,hx,fun v H1 f=>Fin.frzU rl f⟩
theorem wH{M0:Ms}{q:DQ}{d:Dt}(hu:d.under M0.length)(h:q d M0):frzU M0 q d M0:=⟨[],d,by simp, .old hu,h⟩
theorem kR{M0 E:Ms}{q:DQ}{d d':Dt}(f:Frz M0.length E d d')(h:q d' M0):frzU M0 q d (M0++E):=⟨E,d',rfl,f,h⟩
def fc(f:Expr→Option Dt):List Expr→Option (List Dt)
 | []=>some []
 | e::es=>match f e,fc f es with
  | some d,some ds=>some (d::ds)
  | _,_=>none
def fG:Nat→Expr→Option Dt
 | 0,e=>match e with
  | .Constant (.int i) _ _=>some (.int i)
  | .Constant (.str x) _ _=>some (.str x)
  | _=>none
 | n+1,e=>match e with
  | .Constant (.int i) _ _=>some (.int i)
  | .Constant (.str x) _ _=>some (.str x)
  | .Tuple es _ _=>if es.length≤100 then (fc (fG n) es).map .tup else none
  | .List es _=>if es.length≤100 then (fc (fG n) es).map .lst else none
  | _=>none
theorem sU{n:Nat}{e:Expr}{d:Dt}{es:List Expr}{env:Env}(h:fG n e=some d):starEach (e::es) env=(false,eval e env)::starEach es env:=by
 cases n <;> (unfold fG at h;split at h <;> first | rfl | cases h)
theorem gJ{f:Expr→Option Dt}:∀{es:List Expr} {ds:List Dt},fc f es=some ds→ds.length=es.length
 | [],ds,h=>by cases h;rfl
 | e::es,ds,h=>by
  unfold fc at h
  split at h
  ·rename_i d ds' h1 h2
   cases h
   rw [aas,aas,gJ h2]
  ·cases h
section
variable{X:Cx}{R:St→XK}
theorem mx{n:Nat}(ih:∀(e:Expr) (d:Dt),fG n e=some d→JE X R e (dC d)):∀(es:List Expr) (ds:List Dt),fc (fG n) es=some ds→JA X R es (fun _ M q _=>q ds M)
 | [],ds,h=>by cases h;exact af
 | e::es,ds,h=>by
  unfold fc at h
  split at h
  ·rename_i d ds' h1 h2
   cases h
   exact aa (ih e d h1) (mx ih es ds' h2) (hs:=sU h1)
  ·cases h
theorem uO{n:Nat}(h:n≤100):n≤sizeLine:=aaz h (by decide)
theorem JE.imp{e:Expr}{t t':DE}(h:JE X R e t)(hi:∀ρ M q x,t' ρ M q x→t ρ M q x):JE X R e t':= .of h fun σ H G L ρ M q x rl n ht hx=>⟨G,L,ρ,M,q,x,rl,n,hi _ _ _ _ ht,hx,fun _ _ f=>f⟩
theorem eZ:∀(n:Nat) {e:Expr} {d:Dt},fG n e=some d→JE X R e (dC d)
 | 0,e,d,h=>by
  unfold fG at h
  split at h
  ·cases h;exact aw
  ·cases h;exact g9
  ·cases h
 | n +1,e,d,h=>by
  unfold fG at h
  split at h
  ·cases h;exact aw
  ·cases h;exact g9
  ·split at h
   ·rename_i es _ _ hl
    cases hc:fc (fG n) es with
    | none=>rw [hc] at h;cases h
    | some ds=>
     rw [hc] at h
     cases h
     exact (cJ (mx (fun e d=>eZ n) es ds hc)).imp fun ρ M q x hq=>⟨uO (by rw [gJ hc];exact hl),hq⟩
   ·cases h
  ·split at h
   ·rename_i es _ hl
    cases hc:fc (fG n) es with
    | none=>rw [hc] at h;cases h
    | some ds=>
     rw [hc] at h
     cases h
     exact (qt (mx (fun e d=>eZ n) es ds hc)).imp fun ρ M q x hq=>⟨uO (by rw [gJ hc];exact hl),hq⟩
   ·cases h
  ·cases h
end
theorem xi:bootBuiltins "zip"=some (.type "zip"):=by decide+kernel
theorem Inv.turnedL{X:Cx}{pins:List (Addr×Obj)}{σ:St}{H:Hp}{s:Shared}{h':Heap}{its:List Addr}{t':Nat}(I:Inv X pins σ H s)(k:∀b u,b∉its→s.heap.get? b=some u→h'.get? b=some u)(f:∀b∈its,uo X pins H b):
  Inv X pins σ H {s with heap:=h',toks:=t'}:=by
 have nin:∀b u,H b=some u→b∉its:=fun b u e z=>by rw [(f b z).1] at e;cases e
 refine I.call (ch:=its) (g':=s.gens) (d':=s.drawn) (t':=t') ⟨fun b u q _ _ hb=>k b u hb q,fun b u q _ _ hb=>⟨u.slots,k b u hb q⟩,fun b u q n _=>n,fun b u q hb=>⟨u,k b u hb q⟩,fun b xs q=>q,fun b u xs q=>q,fun b ps q=>⟨#[],by rw [q];simp⟩⟩ (fun b u e=> ?_) I.bare fun b hb=> ?_
 ·refine (I.hok b u e).stay (fun c v hc q=>k c v ?_ q) (fun c q=>q) fun c xs q=>q
  rcases hc with z | z
  ·rw [z];exact nin b u e
  ·exact nin c _ z
 ·obtain ⟨f0,f1,f2,f3,f4,f5⟩:=f b hb
  exact ⟨f3,f1,f4,f5⟩
def Itz(K:PySem.W.Frag)(l1 l2:Addr):It:=
 ⟨fun i H=>∃xs ys x y,SqL K H l1 xs∧SqL K H l2 ys∧xs[i]? =some x∧ys[i]? =some y,
  fun i H v H'=>∃p x y,H p=none∧v= .ref p∧H'=upd H p (.tup [x,y])∧(∀xs,SqL K H l1 xs→xs[i]? =some x)∧∀ys,SqL K H l2 ys→ys[i]? =some y,
  fun i H=>∃xs ys,SqL K H l1 xs∧SqL K H l2 ys∧(xs.length≤i∨ys.length≤i)⟩
theorem xT {P : Program} {w : World} {K : PySem.W.Frag} {elts : List Expr} {x1 : Nat} {tp : Pos} {l1 l2 i1 i2 TI TO z : Addr} (D : ZipApart z TI TO i1 i2 l1 l2) : d8 P w K (.Tuple elts x1 tp) (Itz K l1 l2) [z, TI, TO, i1, i2] z (fun i h => (∃ a b, IsZip h z TI TO .none ∧ IsPair h TI (.ref i1) (.ref i2) ∧ IsPair h TO a b) ∧ h.IsListIter i1 l1 i ∧ h.IsListIter i2 l2 i) where
  mem := by simp
  obj := fun i h st b hb => by
    obtain ⟨⟨a, c, hz, hTI, hTO⟩, h1, h2⟩ := st
    simp only [List.mem_cons, List.not_mem_nil, or_false] at hb
    rcases hb with rfl | rfl | rfl | rfl | rfl
    · exact ⟨_, hz, fun v z => by
        have z' : Data.fields _ = Data.cell v := z
        cases z'⟩
    · exact ⟨_, hTI, fun v z => by
        have z' : Data.seq _ = Data.cell v := z
        cases z'⟩
    · exact ⟨_, hTO, fun v z => by
        have z' : Data.seq _ = Data.cell v := z
        cases z'⟩
    · obtain ⟨o, e, c, d⟩ := h1
      exact ⟨o, e, fun v z => by rw [d] at z; cases z⟩
    · obtain ⟨o, e, c, d⟩ := h2
      exact ⟨o, e, fun v z => by rw [d] at z; cases z⟩
  keep := fun i h h' st k => by
    obtain ⟨⟨a, c, hz, hTI, hTO⟩, h1, h2⟩ := st
    exact ⟨⟨a, c, k z (by simp) _ hz, k TI (by simp) _ hTI, k TO (by simp) _ hTO⟩, h1.at fun o q => k i1 (by simp) o q, h2.at fun o q => k i2 (by simp) o q⟩
  item := by
    intro X hP hw hK hc i pins s σ H E I hf st hg
    subst hP hw hK
    obtain ⟨⟨a, c, hz, hTI, hTO⟩, h1, h2⟩ := st
    obtain ⟨xs, ys, x, y, hq1, hq2, hx, hy⟩ := hg
    obtain ⟨its1, rv1, p1, _⟩ := I.list hq1
    obtain ⟨u1, hu1, ru1⟩ := rv1.get hx
    obtain ⟨its2, rv2, p2, _⟩ := I.list hq2
    obtain ⟨u2, hu2, ru2⟩ := rv2.get hy
    refine wpAny_pyNext_zip_item D hz hTI hTO h1 h2 p1.isList p2.isList (x := u1) (y := u2) (by simpa using hu1) (by simpa using hu2) fun h' hz' hTO' h1' h2' hT hsz hk => ?_
    refine ⟨_, rfl, wpAny_letOwnedTupleGo_zip (s := { s with heap := h' }) hz' fun h3 hz3 sb => ?_⟩
    have sb : Heap.SameBut z h' h3 := sb
    have zlt : z < s.heap.objs.size := Heap.lt_size hz
    have neT : s.heap.objs.size ≠ z := abX zlt
    have hT3 : h3.get? s.heap.objs.size = some { cls := .type "tuple", data := .seq #[u1, u2] } := (sb.2 _ neT).trans hT
    have lt : ∀ b ∈ [z, TI, TO, i1, i2], b < s.heap.objs.size := fun b hb => by
      simp only [List.mem_cons, List.not_mem_nil, or_false] at hb
      rcases hb with rfl | rfl | rfl | rfl | rfl
      · exact zlt
      · exact Heap.lt_size hTI
      · exact Heap.lt_size hTO
      · obtain ⟨o, q, _⟩ := h1; exact Heap.lt_size q
      · obtain ⟨o, q, _⟩ := h2; exact Heap.lt_size q
    have I2 : Inv X pins σ (upd H s.heap.objs.size (.tup [x, y])) { s with heap := h3, toks := s.toks } := by
      refine I.turnedNew (its := [z, TI, TO, i1, i2]) (fun b o hb q => ?_) hf (aak _) ?_
      · simp only [List.mem_cons, List.not_mem_nil, or_false, not_or] at hb
        obtain ⟨b1, b2, b3, b4, b5⟩ := hb
        exact (sb.2 b b1).trans (hk b o b1 b3 b4 b5 q)
      · refine ⟨by simp [sizeLine_eq], [u1, u2], .cons ru1 (.cons ru2 .nil), ?_⟩
        exact ⟨_, hT3, rfl, 0, rfl⟩
    refine ⟨.ref s.heap.objs.size, _, I2, rfl, ⟨s.heap.objs.size, x, y, I.hok.fresh (aak _), rfl, rfl, fun zs hzs => by rw [I.list_inj hzs hq1]; exact hx, fun zs hzs => by rw [I.list_inj hzs hq2]; exact hy⟩, ⟨⟨u1, u2, hz3, (sb.2 _ D.TIz).trans (hk _ _ D.TIz D.TITO D.TIi1 D.TIi2 hTI), (sb.2 _ D.TOz).trans hTO'⟩, h1'.at fun o q => (sb.2 i1 D.i1z).trans q, h2'.at fun o q => (sb.2 i2 D.i2z).trans q⟩, fun b hb => ?_⟩
    rw [av (aaA (lt b hb))]; exact (hf b hb).1
  done := by
    intro X hP hw hK hc i pins s σ H E I hf st hg
    subst hP hw hK
    obtain ⟨⟨a, c, hz, hTI, hTO⟩, h1, h2⟩ := st
    obtain ⟨xs, ys, hq1, hq2, hx⟩ := hg
    obtain ⟨its1, rv1, p1, _⟩ := I.list hq1
    obtain ⟨its2, rv2, p2, _⟩ := I.list hq2
    have hl1 := rv1.length
    have hl2 := rv2.length
    refine wpAny_pyNext_zip_end (I.ok.hd hc) D hz hTI hTO h1 h2 p1.isList p2.isList (by rcases hx with hx | hx; · left; simp; omega
                                                                                        · right; simp; omega) fun h' ext => ⟨rfl, I.turnedL (t' := s.toks) (its := [z, TI, TO, i1, i2]) (fun b o hb q => ?_) hf⟩
    simp only [List.mem_cons, List.not_mem_nil, or_false, not_or] at hb
    obtain ⟨b1, b2, b3, b4, b5⟩ := hb
    exact ext b o b1 b3 b4 b5 q
  self := fun _ _ _ _ _ st h => by
    obtain ⟨⟨a, c, hz, _, _⟩, _⟩ := st
    exact wpAny_pyIter_zip hz h
def ur(xs ys:List Dt):List Dt:=(xs.zip ys).map fun p=> .tup [p.1,p.2]
theorem xQ{xs ys:List Dt}{i:Nat}{d:Dt}(h:(ur xs ys)[i]? =some d):∃x y,xs[i]? =some x∧ys[i]? =some y∧d= .tup [x,y]:=by
 unfold ur at h
 rw [aaf] at h
 cases e:(xs.zip ys)[i]? with
 | none=>rw [e] at h;cases h
 | some p=>
  rw [e] at h
  cases h
  obtain ⟨h1,h2⟩:=List.getElem?_zip_eq_some.mp e
  exact ⟨p.1,p.2,h1,h2,rfl⟩
theorem oZ(xs ys:List Dt):(ur xs ys).length=min xs.length ys.length:=by
 unfold ur;rw [List.length_map,List.length_zip]
theorem Aj{K:PySem.W.Frag}{G:Hp}{L:List Addr}{a b:Addr}{xs ys:List Dt}{ok ok':Ms→Prop}(s:Src K a xs ok G L)(s':Src K b ys ok' G L):YlK K (Itz K a b) (ur xs ys) (fun M=>ok M∧ok' M) G L where
 go:=fun i G1 L1 M1 H1 d g l r k e=>by
  obtain ⟨vs,hs,n⟩:=s.at_ G1 L1 M1 H1 g l r k.1
  obtain ⟨vs',hs',n'⟩:=s'.at_ G1 L1 M1 H1 g l r k.2
  obtain ⟨x,y,ex,ey,rfl⟩:=xQ e
  obtain ⟨v,e1,n1⟩:=n.get ex
  obtain ⟨v',e1',n1'⟩:=n'.get ey
  refine ⟨⟨vs,vs',v,v',hs,hs',e1,e1'⟩,fun w H' ⟨p,x2,y2,hp,ev,eH,hx,hy⟩=> ?_⟩
  subst ev eH
  have e2:=hx vs hs
  rw [e1] at e2;cases e2
  have e3:=hy vs' hs'
  rw [e1'] at e3;cases e3
  exact ⟨_,r.exG hp,r.newG hp,mG (ds:=[x,y]) r hp ⟨_,_,rfl,n1,_,_,rfl,n1',rfl⟩⟩
 stop:=fun i G1 L1 M1 H1 g l r k e=>by
  obtain ⟨vs,hs,n⟩:=s.at_ G1 L1 M1 H1 g l r k.1
  obtain ⟨vs',hs',n'⟩:=s'.at_ G1 L1 M1 H1 g l r k.2
  refine ⟨vs,vs',hs,hs', ?_⟩
  rw [←n.length,←n'.length]
  rw [oZ] at e
  omega
def HI(t:DA):DK:=fun ρ M q x=>t ρ M (fun ds M1=>∃d d' xs ys ok ok',ds=[d,d']∧oW M1 d=some (xs,ok)∧oW M1 d'=some (ys,ok')∧q (ur xs ys) (fun M=>ok M∧ok' M) M1) x
theorem wb{X:Cx}{R:St→XK}{elts:List Expr}{x1:Nat}{tp:Pos}{a a':Expr}{t:DA}{p pos:Pos}(hm:X.mg "zip"=none)(ha:JA X R [a,a'] t)(hg:Gl X "zip":=by rfl)(hs:starEach [a,a'] X.env=(false,eval a X.env)::starEach [a'] X.env:=by rfl)(hpl:(backTo pos (starEach [a'] X.env)).any (·.1)=false:=by rfl):JK X R (.Tuple elts x1 tp) (.Call (.Name "zip" p) [a,a'] [] pos) (HI t):=by
 intro pins s σ H Q I ⟨G,L,ρ,M,q,x,rl,n,ht,hx,hQ⟩
 refine Call_ (jV I hg hm xi (PyProof.Rows.callWith_type1 (thn (ha pos pins s σ H (Eu X.K G L H _) I ⟨G,L,ρ,M,_,x,rl,n,ht,hx,fun _ _ f=>f⟩) fun us s1 ⟨vs,H1,I1,rv,ds,G1,L1,M1,e1,r1,n1,d,d',xs,ys,ok,ok',ed,hl,hl',h1⟩=> ?_) hs hpl))
 subst ed
 obtain ⟨v,v',rfl,n2,n2'⟩:=fV n1
 obtain ⟨b,ws,rfl,sq,sr,_⟩:=nc r1 n2 hl
 obtain ⟨b',ws',rfl,sq',sr',_⟩:=nc r1 n2' hl'
 cases rv with
 | cons ru rv=>
  cases rv with
  | cons ru' rv=>
   cases rv
   cases ru
   cases ru'
   obtain ⟨its,_,pl,_⟩:=I1.list sq
   obtain ⟨its',_,pl',_⟩:=I1.list sq'
   have lt1:b < s1.heap.objs.size:=by obtain ⟨o,q,_⟩:=pl.isList;exact Heap.lt_size q
   have lt2:b' < s1.heap.objs.size:=by obtain ⟨o,q,_⟩:=pl'.isList;exact Heap.lt_size q
   refine call_zip_2 pl.isList pl'.isList fun h' hz hTI hTO hi hi' hsz hk=> ?_
   have I2:Inv X pins σ H1 {s1 with heap:=h'}:=I1.kept (t':=s1.toks) hk
   have D:ZipApart (s1.heap.objs.size+4) (s1.heap.objs.size+2) (s1.heap.objs.size+3) s1.heap.objs.size (s1.heap.objs.size+1) b b':=by
    have ne:∀i j:Nat,i≠j→s1.heap.objs.size+i≠s1.heap.objs.size+j:=fun i j h z=>h (Nat.add_left_cancel z)
    have n1:∀i:Nat,b≠s1.heap.objs.size+i:=fun i=>aaA (aao lt1 (abz _ _))
    have n2:∀i:Nat,b'≠s1.heap.objs.size+i:=fun i=>aaA (aao lt2 (abz _ _))
    exact ⟨ne 2 4 (by decide),ne 3 4 (by decide),ne 0 4 (by decide),ne 1 4 (by decide),ne 2 3 (by decide),ne 2 0 (by decide),ne 2 1 (by decide),ne 3 0 (by decide),ne 3 1 (by decide),ne 0 1 (by decide),n1 4,n1 3,n1 0,n1 1,n2 4,n2 3,n2 0,n2 1⟩
   refine wpAny_pyIter_zip (s:={s1 with heap:=h'}) hz ⟨s1.heap.objs.size+4,[s1.heap.objs.size+4,s1.heap.objs.size+2,s1.heap.objs.size+3,s1.heap.objs.size,s1.heap.objs.size+1],_,_,H1,rfl,I2,xT D,⟨⟨_,_,hz,hTI,hTO⟩,hi,hi'⟩,fun c hc=> ?_,hQ _ _ ⟨_,_,G1,L1,M1,e1,r1,Aj sr sr',h1⟩⟩
   have hc:s1.heap.objs.size≤c:=by
    simp only [List.mem_cons,List.not_mem_nil,or_false] at hc
    rcases hc with rfl | rfl | rfl | rfl | rfl
    ·exact abz _ _
    ·exact abz _ _
    ·exact abz _ _
    ·exact aak _
    ·exact abz _ _
   have f:=I1.fpOk (H':=H1) hc (I1.hok.fresh hc)
   exact f
structure cM(X:Cx)(scope:Scope)(xs ys:List Str)(caps:List Nat):Prop where
 kind:scope.kind= .function
 nocell:∀p∈scope.names,p.2≠ .cell
 names:∀p∈scope.names,p.2= .local→scope.names.lookup p.1=some .local
 own:∀x∈xs,scope.names.lookup x=some .local
 free:∀p∈scope.names,p.2= .free→X.env.scope.names.lookup p.1=some .cell
 nd:(xs++ys).Nodup
 cap:∀q∈ys.zip caps,X.N[q.2]? =some q.1∧X.env.scope.names.lookup q.1=some .cell∧scope.names.lookup q.1=some .free
 len:ys.length=caps.length
theorem cM.has{X:Cx}{scope:Scope}{xs ys:List Str}{caps:List Nat}(S:cM X scope xs ys caps)(ok:X.Ok):∀p∈scope.names,p.2= .free→(X.env.cells.lookup p.1).isSome=true:=fun p hp hf=>by
 obtain ⟨c,e⟩:=ok.has p.1 (.inl (S.free p hp hf))
 rw [e];rfl
def BI(n:Nat)(gg:TG):Prop:=∀v (os cs:St) H (Q:St→Hp→Prop),os.length=n→gg v (os++cs) H Q→gg v (os++cs) H fun σ' H'=>(∃os':St,os'.length=n∧σ'=os'++cs)∧Q σ' H'
theorem vZ{K:PySem.W.Frag}{n i j:Nat}(h:i < n)(h':j < n):BI n (Dv K 2 (mD (iu i) (mD (iu j) Dw))):=
 fun v os cs H Q hl ⟨a,xs,e,s,l,v1,r,e1,v2,r2,e2,e3,q⟩=>⟨a,xs,e,s,l,v1,r,e1,v2,r2,e2,e3,⟨(os.set i (some v1)).set j (some v2),by simp [hl],by
  rw [List.set_append_left _ _ (by omega),List.set_append_left _ _ (by rw [abt];omega)]⟩,q⟩
section
variable{X:Cx}{elt iter tg c:Expr}{xs:List Str}{scope:Scope}{pos:Pos}{wi:TI}{gg:TG}{tc:TT}{te:TE}{ys:List Str}{caps:List Nat}
theorem rJ{i:Nat}{x:Str}{px:Pos}(S:cM X scope xs ys caps)(h:xs[i]? =some x)(C:Addr)(s:Shared)(H:Hp)(fp:List Addr):PG (Cx.comp X (xs++ys) scope C s H fp) (.Name x px) (iu i):=by
 have hm:x∈xs:=aag h
 have hi:(xs++ys)[i]? =some x:=by rw [aav (aai.mp h).1];exact h
 exact aJ S.nd hi (.inl (lookup_relabel_local (S.own x hm))) (.inr (lookup_relabel_local (S.own x hm)))
theorem AI{x y:Str}{px py:Pos}{k:Nat}(hc:X.calm=true)(S:cM X scope [x,y] ys caps)(C:Addr)(s:Shared)(H:Hp)(fp:List Addr):PG (Cx.comp X ([x,y]++ys) scope C s H fp) (.Tuple [.Name x px, .Name y py] k pos) (Dv X.K 2 (mD (iu 0) (mD (iu 1) Dw))):=
 jN (X:=Cx.comp X ([x,y]++ys) scope C s H fp) hc (bL (rJ S (i:=0) rfl C s H fp) (bL (rJ S (i:=1) rfl C s H fp) gB))
end
theorem By{K:PySem.W.Frag}{G:Hp}{L:List Addr}{ρ:En}{σ os:St}{n:Nat}(h:EnD K G L ρ σ)(caps:List Nat)(hl:os.length=n):EnD K G L (List.replicate n none++oF caps ρ) (os++hW caps σ):=by
 have lc:(oF caps ρ).length=(hW caps σ).length:=by unfold oF hW;simp
 refine ⟨by rw [aap,aap,aaK,hl,lc],fun i d' e=> ?_⟩
 by_cases hi:i < n
 ·rw [aav (by rw [aaK];exact hi),abq,if_pos hi] at e
  cases e
 ·rw [aam (by rw [aaK];omega),aaK] at e
  rw [aam (by omega),hl]
  unfold oF at e
  unfold hW
  rw [aaf] at e⊢
  cases q:caps[i - n]? with
  | none=>rw [q] at e;cases e
  | some j=>
   rw [q] at e
   have e:(ρ[j]?).join=some d':=aaw e
   have e:ρ[j]? =some (some d'):=by
    cases z:ρ[j]? with
    | none=>rw [z] at e;cases e
    | some o=>rw [z] at e;exact congrArg some e
   obtain ⟨v,hv,dn⟩:=h.ats j d' e
   exact ⟨v,by show some ((σ[j]?).join)=_;rw [hv];rfl,dn⟩
theorem w8(xs:List V)(k:Nat):xN xs (some (k:Int)) none=xs.drop k:=by
 unfold xN
 rw [HT.lD,HT.rq]
 by_cases h:k≤xs.length
 ·rw [ab0 h,abf (by rw [abx];omega)]
 ·rw [Nat.min_eq_right (by omega),List.drop_eq_nil_of_le (Nat.le_refl _),List.drop_eq_nil_of_le (by omega)];simp
section
variable{κ:Type} [DecidableEq κ]
def mZ(kvs:List (κ×V))(k:κ):Option V:=(kvs.find? fun kv=>decide (kv.1=k)).map (·.2)
def kG(kvs:List (κ×V))(k:κ)(v:V):List (κ×V):=
 if (kvs.any fun kv=>decide (kv.1=k))=true then kvs.map (fun kv=>if kv.1=k then (kv.1,v) else kv) else kvs++[(k,v)]
theorem dj{p:κ×V}{r:List (κ×V)}{k:κ}(e:p.1=k):mZ (p::r) k=some p.2:=by simp [mZ,List.find?_cons,e]
theorem dq{p:κ×V}{r:List (κ×V)}{k:κ}(e:¬p.1=k):mZ (p::r) k=mZ r k:=by simp [mZ,List.find?_cons,e]
theorem iU(k:κ):∀kvs:List (κ×V),(kvs.any fun kv=>decide (kv.1=k))=(mZ kvs k).isSome
 | []=>rfl
 | p::r=>by
  rw [abG]
  by_cases e:p.1=k
  ·simp only [dj e,decide_eq_true e,Bool.true_or,Option.isSome_some]
  ·rw [dq e,decide_eq_false e,Bool.false_or];exact iU k r
theorem mY(k j:κ)(y:V):∀kvs:List (κ×V),mZ kvs k=none→mZ (kvs++[(k,y)]) j=if j=k then some y else mZ kvs j
 | [],_=>by
  by_cases e:k=j
  ·rw [if_pos e.symm];exact dj (p:=(k,y)) e
  ·rw [if_neg (fun z=>e z.symm)];exact dq (p:=(k,y)) e
 | p::r,hn=>by
  rw [List.cons_append]
  have hk:¬p.1=k:=fun z=>by rw [dj z] at hn;cases hn
  rw [dq hk] at hn
  have ih:=mY k j y r hn
  by_cases e:p.1=j
  ·rw [dj e,dj e,if_neg (fun z=>hk (e.trans z))]
  ·rw [dq e,dq e,ih]
theorem gD(kvs:List (κ×V))(k:κ)(v:V):(kG kvs k v).length≤kvs.length+1:=by
 unfold kG
 split
 ·rw [aac];omega
 ·rw [aap,aas,List.length_nil];omega
theorem x9{kvs:List (κ×V)}{k:κ}(v:V)(h:mZ kvs k=none):kG kvs k v=kvs++[(k,v)]:=by
 unfold kG
 rw [iU,h]
 exact if_neg (by decide)
theorem oY.isSome_eq{o:Option V}{u:Option Value}(r:oY o u):o.isSome=u.isSome:=by
 cases o with
 | none=>cases u with
  | none=>rfl
  | some _=>exact (show False from r).elim
 | some _=>cases u with
  | none=>exact (show False from r).elim
  | some _=>rfl
theorem KV.val{kvs:List (κ×V)}{vs:List (κ×Value)}(r:KV kvs vs)(k:κ):oY (mZ kvs k) (valueAt vs k):=by
 unfold KV at r
 induction r with
 | nil=>exact True.intro
 | @cons p q ps qs h t ih=>
  obtain ⟨h1,h2⟩:=h
  by_cases e:p.1=k
  ·have e':q.1=k:=h1.symm.trans e
   have b:valueAt (q::qs) k=some q.2:=by simp [valueAt,List.find?_cons,e']
   rw [dj e,b];exact h2
  ·have e':¬q.1=k:=fun z=>e (h1.trans z)
   have b:valueAt (q::qs) k=valueAt qs k:=by simp [valueAt,List.find?_cons,e']
   rw [dq e,b];exact ih
theorem KV.any{kvs:List (κ×V)}{vs:List (κ×Value)}(r:KV kvs vs)(k:κ):(kvs.any fun kv=>decide (kv.1=k))=vs.any fun kv=>decide (kv.1=k):=by
 unfold KV at r
 induction r with
 | nil=>rfl
 | cons h t ih=>rw [abG,abG,ih,h.1]
theorem KV.repl{kvs:List (κ×V)}{vs:List (κ×Value)}(r:KV kvs vs)(k:κ){y:V}{u:Value}(ry:bX y u):
  KV (kvs.map fun kv=>if kv.1=k then (kv.1,y) else kv) (vs.map fun kv=>if kv.1=k then (kv.1,u) else kv):=by
 unfold KV at r⊢
 induction r with
 | nil=>exact .nil
 | @cons p q ps qs h t ih=>
  rw [aaN,aaN]
  refine .cons ?_ ih
  obtain ⟨h1,h2⟩:=h
  by_cases e:p.1=k
  ·rw [if_pos e,if_pos (h1.symm.trans e)];exact ⟨h1,ry⟩
  ·rw [if_neg e,if_neg (fun z=>e (h1.trans z))];exact ⟨h1,h2⟩
theorem KV.put{kvs:List (κ×V)}{vs:List (κ×Value)}(r:KV kvs vs)(k:κ){y:V}{u:Value}(ry:bX y u):KV (kG kvs k y) (stored vs k u):=by
 unfold kG stored
 rw [r.any k]
 by_cases e:(vs.any fun kv=>decide (kv.1=k))=true
 ·rw [if_pos e,if_pos e];exact r.repl k ry
 ·rw [if_neg e,if_neg e];exact Paired.snoc r ⟨rfl,ry⟩
theorem KV.length{kvs:List (κ×V)}{vs:List (κ×Value)}(r:KV kvs vs):kvs.length=vs.length:=Paired.length r
end
theorem tX{P:Program}{w:World}{k:Key}{u:Value}(r:bX (kV k) u):(b9 P w).is k u=true:=by
 cases k with
 | inl i=>obtain ⟨t,e⟩:=(show∃t,u=Value.int i t from r);subst e;exact qh P w i t
 | inr x=>obtain ⟨t,e⟩:=(show∃t,u=Value.str x t from r);subst e;exact qg P w x t
theorem oj{P:Program}{w:World}:∀{ks:List Key} {us:List Value},bN (ks.map kV) us→ItemsAre (b9 P w) ks us
 | [],_,r=>by rw [List.map_nil] at r;cases r;exact .nil
 | k::ks,_,r=>by
  rw [aaN] at r
  cases r with
  | cons h t=>exact .cons (tX h) (oj t)
abbrev KT(H:Hp):List (List Key×V)→List (List Key×Addr×Value)→Prop:=Paired fun p q=>p.1=q.1∧H q.2.1=some (.tup (p.1.map kV))∧bX p.2 q.2.2
theorem KT.val{H:Hp}{kvs:List (List Key×V)}{xs:List (List Key×Addr×Value)}(r:KT H kvs xs)(k:List Key):oY (mZ kvs k) ((atKey xs k).map (·.2)):=by
 induction r with
 | nil=>exact True.intro
 | @cons p q ps qs h t ih=>
  obtain ⟨h1,_,h2⟩:=h
  by_cases e:p.1=k
  ·have e':q.1=k:=h1.symm.trans e
   have b:atKey (q::qs) k=some q.2:=by simp [atKey,List.find?_cons,e']
   rw [dj e,b];exact h2
  ·have e':¬q.1=k:=fun z=>e (h1.trans z)
   have b:atKey (q::qs) k=atKey qs k:=by simp [atKey,List.find?_cons,e']
   rw [dq e,b];exact ih
theorem KT.repl{H:Hp}{kvs:List (List Key×V)}{xs:List (List Key×Addr×Value)}(r:KT H kvs xs)(k:List Key){y:V}{u:Value}(ry:bX y u):
  KT H (kvs.map fun kv=>if kv.1=k then (kv.1,y) else kv) (xs.map (putAt k u)):=by
 induction r with
 | nil=>exact .nil
 | @cons p q ps qs h t ih=>
  rw [aaN,aaN]
  refine .cons ?_ ih
  obtain ⟨h1,h2,h3⟩:=h
  unfold putAt
  by_cases e:p.1=k
  ·rw [if_pos e,if_pos (h1.symm.trans e)];exact ⟨h1,h2,ry⟩
  ·rw [if_neg e,if_neg (fun z=>e (h1.trans z))];exact ⟨h1,h2,h3⟩
theorem KT.put{H:Hp}{kvs:List (List Key×V)}{xs:List (List Key×Addr×Value)}(r:KT H kvs xs)(k:List Key){b:Addr}{y:V}{u:Value}(hb:H b=some (.tup (k.map kV)))(ry:bX y u):
  KT H (kG kvs k y) (storedH xs k b u):=by
 have e:(kvs.any fun kv=>decide (kv.1=k))=(atKey xs k).isSome:=by
  rw [iU,(r.val k).isSome_eq,Option.isSome_map]
 unfold kG storedH
 rw [e]
 by_cases q:(atKey xs k).isSome=true
 ·rw [if_pos q,if_pos q];exact r.repl k ry
 ·rw [if_neg q,if_neg q];exact Paired.snoc r ⟨rfl,hb,ry⟩
theorem KT.keeps{H H':Hp}{kvs:List (List Key×V)}{xs:List (List Key×Addr×Value)}(r:KT H kvs xs)(ht:∀b ys,H b=some (.tup ys)→H' b=some (.tup ys)):KT H' kvs xs:=
 Paired.mapP r fun _ _ z=>⟨z.1,ht _ _ z.2.1,z.2.2⟩
section
variable{P:Program}{w:World}{H:Hp}{h:Heap}{a:Addr}
theorem Cd{u:HO}(ok:HOk P w H h)(e:Rd H a u):cq P w H h a u:=e.ok ok
theorem ue{kvs:List (Key×V)}(ok:HOk P w H h)(e:Rd H a (.dK kvs)):kvs.length≤sizeLine∧(a==sysModules)=false∧∃vs,KV kvs vs∧h.DictOf (b9 P w) a vs:=
 show cq P w H h a (.dK kvs) from Cd ok e
theorem DJ{kvs:List (Key×V)}(ok:HOk P w H h)(e:H a=some (.dK kvs)):kvs.length≤sizeLine∧(a==sysModules)=false∧∃vs,KV kvs vs∧h.DictOf (b9 P w) a vs:=ue ok (.inl e)
theorem n9{ks:List Key}(ok:HOk P w H h)(e:H a=some (.tup (ks.map kV))):(tupleKind (b9 P w)).is h ks a:=by
 obtain ⟨_,its,r,o,h1,h2,n,h3⟩:=(show cq P w H h a (.tup (ks.map kV)) from ok a _ e)
 exact ⟨o,its.toArray,n,h1,h2,h3,by simpa using oj r⟩
theorem wN{kvs:List (List Key×V)}(ok:HOk P w H h)(e:Rd H a (.dT kvs)):kvs.length≤sizeLine∧(a==sysModules)=false∧
  ∃xs,KT H kvs xs∧h.DictOfH (tupleKind (b9 P w)) a xs:=by
 obtain ⟨z,y,xs,r,o,es,ep,h1,h2,h3,h4,h5⟩:=(show cq P w H h a (.dT kvs) from Cd ok e)
 refine ⟨z,y,xs,r,o,es,ep,h1,h2,h3,h4,fun x hx=> ?_,h5⟩
 have all:∀{l:List (List Key×V)} {m:List (List Key×Addr×Value)},KT H l m→∀x∈m,(tupleKind (b9 P w)).is h x.1 x.2.1:=by
  intro l m q
  induction q with
  | nil=>intro x hx;exact nomatch hx
  | @cons p q ps qs hq t ih=>
   intro x hx
   rcases aaJ.mp hx with e | hx
   ·subst e
    exact n9 ok (by rw [←hq.1];exact hq.2.1)
   ·exact ih x hx
 exact all r x hx
theorem FK{kvs:List (List Key×V)}(ok:HOk P w H h)(e:H a=some (.dT kvs)):kvs.length≤sizeLine∧(a==sysModules)=false∧
  ∃xs,KT H kvs xs∧h.DictOfH (tupleKind (b9 P w)) a xs:=wN ok (.inl e)
end
def y4(H:Hp)(a:Addr)(y:V)(r:Option V):Prop:=
 (∃kvs k,Rd H a (.dK kvs)∧y=kV k∧r=mZ kvs k)∨∃kvs k b,Rd H a (.dT kvs)∧y= .ref b∧H b=some (.tup (k.map kV))∧r=mZ kvs k
def Ee(H:Hp)(a:Addr)(y v:V)(H':Hp):Prop:=
 (∃kvs k,H a=some (.dK kvs)∧y=kV k∧kvs.length < sizeLine∧H'=upd H a (.dK (kG kvs k v)))∨
 ∃kvs k b,H a=some (.dT kvs)∧y= .ref b∧H b=some (.tup (k.map kV))∧kvs.length < sizeLine∧H'=upd H a (.dT (kG kvs k v))
theorem Ee.k{H:Hp}{a:Addr}{kvs:List (Key×V)}{k:Key}{v:V}(e:H a=some (.dK kvs))(hl:kvs.length < sizeLine):Ee H a (kV k) v (upd H a (.dK (kG kvs k v))):= .inl ⟨kvs,k,e,rfl,hl,rfl⟩
section
variable{X:Cx}{pins:List (Addr×Obj)}{σ:St}{H:Hp}{s:Shared}{a:Addr}{y v:V}{u r:Value}{o:Option V}{A:Around}{E:Value→Shared→Prop}
theorem Inv.big(I:Inv X pins σ H s):sysModules < s.heap.objs.size:=by
 have h:mainGlobals < s.heap.objs.size:=(I.mod.glob.keeps I.bk).lt
 exact Nat.lt_trans (by decide) h
theorem wW{Q:Value→Shared→Prop}(hu:A.units+1 < cLine)(I:Inv X pins σ H s)(g:y4 H a y (some v))(ry:bX y u)(h:∀w' s',Inv X pins σ H s'→bX v w'→Q w' s'):
  wpAny (model X.prog X.w) A (getItem (.ref a) u) Q E s:=by
 rcases g with ⟨kvs,k,e,ey,l⟩ | ⟨kvs,k,b,e,ey,eb,l⟩
 ·subst ey
  obtain ⟨z,hd,vs,rel,dd⟩:=ue I.hok e
  obtain ⟨w',hw,rw'⟩:=oY.some_of (v:=v) (o:=valueAt vs k) (by rw [l];exact rel.val k)
  exact wpAny_getItem_of (tX ry) dd.mapOf hw (h w' _ (I.tok _) rw')
 ·subst ey
  cases (show u=Value.ref b from ry)
  obtain ⟨z,hd,xs,rel,dd⟩:=wN I.hok e
  obtain ⟨w',hw,rw'⟩:=oY.some_of (v:=v) (o:=(atKey xs k).map (·.2)) (by rw [l];exact rel.val k)
  obtain ⟨p,hp,hp2⟩:=Option.map_eq_some_iff.mp hw
  refine wpAny_getItem_heap (tupleKind_room_in1 hu) (n9 I.hok eb) dd hp ?_
  rw [hp2]
  exact h w' _ (I.tok _) rw'
theorem HM{Q:Value→Shared→Prop}(hu:A.units+1 < cLine)(I:Inv X pins σ H s)(g:y4 H a y o)(ry:bX y u)(h:∀s',Inv X pins σ H s'→Q (.bool o.isSome) s'):
  wpAny (model X.prog X.w) A (compareOp .In u (.ref a)) Q E s:=by
 rcases g with ⟨kvs,k,e,ey,l⟩ | ⟨kvs,k,b,e,ey,eb,l⟩
 ·subst ey
  obtain ⟨z,hd,vs,rel,dd⟩:=ue I.hok e
  refine wpAny_in_of (tX ry) hd dd.mapOf ?_
  rw [←(rel.val k).isSome_eq,←l]
  exact h _ (I.tok _)
 ·subst ey
  cases (show u=Value.ref b from ry)
  obtain ⟨z,hd,xs,rel,dd⟩:=wN I.hok e
  refine wpAny_in_heap (tupleKind_room_in1 hu) (n9 I.hok eb) hd dd ?_
  have q:=(rel.val k).isSome_eq
  rw [Option.isSome_map] at q
  rw [←q,←l]
  exact h _ (I.tok _)
theorem Bs{Q:Value→Shared→Prop}(hu:A.units+1 < cLine)(I:Inv X pins σ H s)(g:y4 H a y o)(ry:bX y u)(h:∀s',Inv X pins σ H s'→Q (.bool (!o.isSome)) s'):
  wpAny (model X.prog X.w) A (compareOp .NotIn u (.ref a)) Q E s:=by
 rcases g with ⟨kvs,k,e,ey,l⟩ | ⟨kvs,k,b,e,ey,eb,l⟩
 ·subst ey
  obtain ⟨z,hd,vs,rel,dd⟩:=ue I.hok e
  refine wpAny_notIn_of (tX ry) hd dd.mapOf ?_
  rw [←(rel.val k).isSome_eq,←l]
  exact h _ (I.tok _)
 ·subst ey
  cases (show u=Value.ref b from ry)
  obtain ⟨z,hd,xs,rel,dd⟩:=wN I.hok e
  refine wpAny_notIn_heap (tupleKind_room_in1 hu) (n9 I.hok eb) hd dd ?_
  have q:=(rel.val k).isSome_eq
  rw [Option.isSome_map] at q
  rw [←q,←l]
  exact h _ (I.tok _)
theorem qD{h':Heap}{t':Nat}{ob:HO}(I:Inv X pins σ H s)(mu:Mut (H a))(hs:Heap.SameBut a s.heap h')(he:∃q,h'.get? a=some q)(new:cq X.prog X.w (upd H a ob) h' a ob):
  Inv X pins σ (upd H a ob) {s with heap:=h',toks:=t'}:=
 I.write (x:=a) (e:=a) mu (.inl rfl) (fun b q hb z=>(hs.2 b hb).trans z) he new
theorem wO{P:Program}{w:World}{H':Hp}{h':Heap}{kvs:List (Key×V)}{vs:List (Key×Value)}(z:kvs.length≤sizeLine)(hd:(a==sysModules)=false)(rel:KV kvs vs)(dd:h'.DictOf (b9 P w) a vs):
  cq P w H' h' a (.dK kvs):=⟨z,hd,vs,rel,dd⟩
theorem wV{H':Hp}{Q:Unit→Shared→Prop}(hu:A.units+1 < cLine)(I:Inv X pins σ H s)(g:Ee H a y v H')(ry:bX y u)(rv:bX v r)(h:∀s',Inv X pins σ H' s'→Q () s'):
  wpAny (model X.prog X.w) A (setItem (.ref a) u r) Q E s:=by
 rcases g with ⟨kvs,k,e,ey,l,eH⟩ | ⟨kvs,k,b,e,ey,eb,l,eH⟩
 ·subst ey eH
  obtain ⟨z,hd,vs,rel,dd⟩:=DJ I.hok e
  have hz:vs.length≤sizeLine:=by rw [←rel.length];exact z
  have hl:(kG kvs k v).length≤sizeLine:=by have:=gD kvs k v;omega
  refine wpAny_setItem_pairs (hsz:=hz) (tX ry) dd fun h' dd' hs=>h _ ?_
  have he:∃q,h'.get? a=some q:=let ⟨q,_,_,hq,_⟩:=dd';⟨q,hq⟩
  exact qD I (by rw [e];exact True.intro) hs he (wO hl hd (rel.put k rv) dd')
 ·subst ey eH
  cases (show u=Value.ref b from ry)
  obtain ⟨z,hd,xs,rel,dd⟩:=FK I.hok e
  have hz:xs.length≤sizeLine:=by rw [←Paired.length rel];exact z
  have hl:(kG kvs k v).length≤sizeLine:=by have:=gD kvs k v;omega
  refine wpAny_setItem_heap (hsz:=hz) (tupleKind_room_in1 hu) (n9 I.hok eb) dd fun h' dd' hs=>h _ ?_
  obtain ⟨q,es,ep,hq,h2,h3,h4,_,h5⟩:=dd'
  refine qD I (by rw [e];exact True.intro) hs ⟨q,hq⟩ ⟨hl,hd,_,(rel.put k eb rv).keeps fun c ys ec=> ?_,q,es,ep,hq,h2,h3,h4,h5⟩
  rw [av (E7 ec e (fun z=>nomatch z))]
  exact ec
end
def Ge(i:Expr):Prop:=∀ov iv,subscripted i false ov iv=operate [ov,iv] (getItem ov iv)
theorem Ao{prog:Program}{w:World}{A:Around}{E:Value→Shared→Prop}{s:Shared}{env:Env}{value slice:Expr}{pos:Pos}{T id:String}{Q:Value→Shared→Prop}
  (hl:typeLookup (.type T) "__getitem__"=pure (some (.builtin id))) (hs:Ge slice)
  (h:wpAny (model prog w) A (eval value env) (fun o s₁=>wpAny (model prog w) A (eval slice env) (fun i s₂=>s₂.TypeIs o T∧wpAny (model prog w) A (getItem o i) Q E s₂) E s₁) E s):
  wpAny (model prog w) A (eval (.Subscript value slice pos) env) Q E s:=by
 refine Subscript_ (wpAny_mono h (fun o s₁ h₁=>wpAny_mono h₁ (fun i s₂ h₂=> ?_) fun _ _ x=>x) fun _ _ x=>x)
 obtain ⟨hT,h₂⟩:=h₂
 unfold subscriptTail
 refine wpAny_bind ?_
 rw [getitemInPython_of_ne hT.not_modules]
 refine wpAny_bind (wpAny_specialOf hT hl ?_)
 have fin:wpAny (model prog w) A (subscripted slice false o i) (fun r s₃=>wpAny (model prog w) A (letTemporaryGo value o r >>= fun _=>pure r) Q E s₃) E s₂:=by
  rw [hs o i]
  exact wpAny_operating (wpAny_mono h₂ (fun r s₃ h₃=>wpAny_bind (wpAny_letTemporaryGo (wpAny_pure h₃))) fun _ _ x=>x)
 first
  | exact wpAny_pure (wpAny_bind fin)
  | exact wpAny_bind (wpAny_pure (wpAny_bind fin))
  | exact wpAny_bind fin
theorem qC{X:Cx}{pins:List (Addr×Obj)}{σ:St}{H:Hp}{s:Shared}{a:Addr}{y:V}{o:Option V}(I:Inv X pins σ H s)(g:y4 H a y o):s.TypeIs (.ref a) "dict":=by
 rcases g with ⟨kvs,k,e,_,_⟩ | ⟨kvs,k,b,e,_,_,_⟩
 ·obtain ⟨_,_,vs,_,dd⟩:=ue I.hok e
  exact dd.typeIs
 ·obtain ⟨_,_,xs,_,dd⟩:=wN I.hok e
  exact dd.typeIs
def EF(td ty:TE):TE:=fun σ H Q=>td σ H fun x H1=>ty σ H1 fun y H2=>∃a v,x= .ref a∧y4 H2 a y (some v)∧Q v H2
def EN(td ty tv:TE):TS:=fun D σ H=>tv σ H fun v H1=>td σ H1 fun x H2=>ty σ H2 fun y H3=>∃a H4,x= .ref a∧Ee H3 a y v H4∧D.nx σ H4
section
variable{X:Cx}{o i e value:Expr}{pos pos' tpos:Pos}{td ty tv:TE}
theorem AK(hu:X.A.units+1 < cLine)(ho:PE X o td)(hi:PE X i ty)(hs:Ge i):PE X (.Subscript o i pos) (EF td ty):=by
 intro pins s σ H Q I h
 refine Ao PySem.F.slot_dict_getitem.lookup hs (thn (ho pins s σ H _ I h) fun u s1 ⟨x,H1,I1,rx,q1⟩=>thn (hi pins s1 σ H1 _ I1 q1) fun iv s2 ⟨y,H2,I2,ry,a,v,ex,g,q2⟩=> ?_)
 subst ex
 obtain rfl:u=Value.ref a:=rx
 exact ⟨qC I2 g,wW hu I2 g ry fun w' s3 I3 rw'=>⟨v,H2,I3,rw',q2⟩⟩
theorem AF(hu:X.A.units+1 < cLine)(ho:PE X o td)(hi:PE X i ty)(hv:PE X value tv)(hs:swapsWith value (some (.Subscript o i pos')) pos.line X.env=pure false):
  PS X (.Assign [.Subscript o i pos'] value pos) (EN td ty tv):=by
 intro pins s σ H D I h
 refine wpAny_Assign_Subscript (thn (hv pins s σ H _ I h) fun r s1 ⟨v,H1,I1,rv,q1⟩=>thn (ho pins s1 σ H1 _ I1 q1) fun u s2 ⟨x,H2,I2,rx,q2⟩=>thn (hi pins s2 σ H2 _ I2 q2) fun iv s3 ⟨y,H3,I3,ry,a,H4,ex,g,q3⟩=> ?_) hs
 subst ex
 obtain rfl:u=Value.ref a:=rx
 exact wV hu I3 g ry rv fun s4 I4=>⟨σ,H4,I4,q3⟩
end
theorem sC{P:Program}{w:World}{H:Hp}(h:Heap)(hb:sysModules < h.objs.size):cq P w H (h.push {cls:= .type "dict",data:= .dict #[]}) h.objs.size (.dK []):=
 ⟨abM _,beq_eq_false_iff_ne.mpr (Ne.symm (aaA hb)),[], .nil,Heap.DictOf.new h⟩
def B1:TE:=fun _ H Q=>∀p,H p=none→Q (.ref p) (upd H p (.dK []))
section
variable{X:Cx}{pos:Pos}
theorem yh:PE X (.Dict [] [] pos) B1:=fun pins s σ H Q I h=>
 wpAny_Dict_empty ⟨.ref s.heap.objs.size,_,I.laid (a:=s.heap.objs.size) (o:= .dK []) (t':=s.toks) (fun _ _ q=>Heap.get?_push_of_some _ q) (aak _) (sC s.heap I.big),rfl,h _ (I.hok.fresh (aak _))⟩
end
def uI:List (TE×TE)→St→Hp→(List (V×V)→Hp→Prop)→Prop
 | [],_,H,Q=>Q [] H
 | (tk,tv)::r,σ,H,Q=>tk σ H fun x H1=>tv σ H1 fun y H2=>uI r σ H2 fun ps H3=>Q ((x,y)::ps) H3
abbrev VV:List (V×V)→List (Value×Value)→Prop:=Paired fun p q=>bX p.1 q.1∧bX p.2 q.2
def PPs(X:Cx)(pos:Pos)(keys:List (Option Expr))(values:List Expr)(trs:List (TE×TE)):Prop:=
 ∀(pins:List (Addr×Obj)) (s:Shared) (σ:St) (H:Hp) (Q:List (V×V)→Hp→Prop),Inv X pins σ H s→uI trs σ H Q→
  wpAny (model X.prog X.w) X.A (evalPairs (pairTrees keys values X.env pos)) (fun vs s'=>∃ps H',Inv X pins σ H' s'∧VV ps vs∧Q ps H') X.xe s
theorem AG{X:Cx}{pos:Pos}:PPs X pos [] [] []:=fun pins s σ H Q I h=>pairTrees_nil_walk ⟨[],H,I, .nil,h⟩
theorem rE{X:Cx}{pos:Pos}{k v:Expr}{ks:List (Option Expr)}{vs:List Expr}{tk tv:TE}{trs:List (TE×TE)}(hk:PE X k tk)(hv:PE X v tv)(hr:PPs X pos ks vs trs):
  PPs X pos (some k::ks) (v::vs) ((tk,tv)::trs):=fun pins s σ H Q I h=>
 pairTrees_cons_walk (thn (hk pins s σ H _ I h) fun u s1 ⟨x,H1,I1,rx,q1⟩=>thn (hv pins s1 σ H1 _ I1 q1) fun w2 s2 ⟨y,H2,I2,ry,q2⟩=>
  thn (hr pins s2 σ H2 _ I2 q2) fun ws s3 ⟨ps,H3,I3,rel,q3⟩=>⟨(x,y)::ps,H3,I3, .cons ⟨rx,ry⟩ rel,q3⟩)
def jS(kvs more:List (Key×V)):List (Key×V):=more.foldl (fun acc kv=>kG acc kv.1 kv.2) kvs
theorem KV.merge:∀{more:List (Key×V)} {rs:List (Key×Value)} {kvs:List (Key×V)} {vs:List (Key×Value)},KV more rs→KV kvs vs→KV (jS kvs more) (merged vs rs):=by
 intro more rs kvs vs r
 unfold KV at r
 induction r generalizing kvs vs with
 | nil=>intro q;exact q
 | @cons p q ps qs h t ih=>
  intro r0
  have e:KV (kG kvs p.1 p.2) (stored vs q.1 q.2):=by
   have:=r0.put p.1 h.2
   rw [←h.1];exact this
  exact ih e
theorem g7:∀(more kvs:List (Key×V)),(jS kvs more).length≤kvs.length+more.length
 | [],kvs=>by show kvs.length≤kvs.length+0;omega
 | p::r,kvs=>by
  have h1:=g7 r (kG kvs p.1 p.2)
  have h2:=gD kvs p.1 p.2
  show (jS (kG kvs p.1 p.2) r).length≤_
  rw [aas];omega
theorem kW{P:Program}{w:World}:∀{kvs:List (Key×V)} {ws:List (Value×Value)},VV (kvs.map fun kv=>(kV kv.1,kv.2)) ws→∃rs,Carries (b9 P w) ws rs∧KV kvs rs
 | [],_,r=>by rw [List.map_nil] at r;cases r;exact ⟨[],True.intro, .nil⟩
 | p::kvs,_,r=>by
  rw [aaN] at r
  cases r with
  | @cons a b as bs h t=>
   obtain ⟨rs,c,q⟩:=kW (P:=P) (w:=w) t
   obtain ⟨b1,b2⟩:=b
   exact ⟨(p.1,b2)::rs,⟨tX h.1,rfl,c⟩, .cons ⟨rfl,h.2⟩ q⟩
def EE(trs:List (TE×TE)):TE:=fun σ H Q=>∀p,H p=none→uI trs σ (upd H p (.dK [])) fun ps H2=>H2 p=some (.dK [])∧∃kvs:List (Key×V),ps=kvs.map (fun kv=>(kV kv.1,kv.2))∧kvs.length≤15∧Q (.ref p) (upd H2 p (.dK (jS [] kvs)))
theorem AJ{X:Cx}{pos:Pos}{keys:List (Option Expr)}{values:List Expr}{trs:List (TE×TE)}(h:PPs X pos keys values trs)(hall:keys.all (·.isSome)=true)(hl:keys.length=values.length)(h0:keys≠[])
  (h15:keys.length≤15):PE X (.Dict keys values pos) (EE trs):=by
 intro pins s σ H Q I q
 have hn:=I.hok.fresh (aak s.heap.objs.size)
 have I1:=I.laid (a:=s.heap.objs.size) (o:= .dK []) (h':=s.heap.push {cls:= .type "dict",data:= .dict #[]}) (t':=s.toks) (fun _ _ q=>Heap.get?_push_of_some _ q) (aak _) (sC s.heap I.big)
 refine wpAny_Dict_walk (knd:=b9 X.prog X.w) hall hl h0 h15 (thn (h pins _ σ _ _ I1 (q _ hn)) fun ws s2 ⟨ps,H2,I2,rel,e,kvs,ep,lk,q2⟩=> ?_)
 subst ep
 obtain ⟨rs,c,rk⟩:=kW (P:=X.prog) (w:=X.w) rel
 obtain ⟨z,hd,vs0,r0,dd⟩:=DJ I2.hok e
 cases r0
 refine ⟨rs,c,dd,fun h' dd' hs=>⟨.ref s.heap.objs.size,_, ?_,rfl,q2⟩⟩
 have hz:(jS [] kvs).length≤sizeLine:=by
  have h1:=g7 kvs []
  rw [List.length_nil] at h1
  rw [sizeLine_eq];omega
 have he:∃q,h'.get? s.heap.objs.size=some q:=let ⟨q,_,_,hq,_⟩:=dd';⟨q,hq⟩
 exact qD I2 (by rw [e];exact True.intro) hs he (wO hz hd (rk.merge .nil) dd')
section
variable{X:Cx}{pins:List (Addr×Obj)}{σ:St}{H:Hp}{s:Shared}{a:Addr}{kvs:List (Key×V)}{A:Around}{E:Value→Shared→Prop}
theorem yR{Q:Value→Shared→Prop}(I:Inv X pins σ H s)(e:Rd H a (.dK kvs))(h:∀p s',H p=none→Inv X pins σ (upd H p (.dK kvs)) s'→Q (.ref p) s'):wpAny (model X.prog X.w) A (call (.type "dict") [.ref a]) Q E s:=by
 obtain ⟨z,hd,vs,rel,dd⟩:=ue I.hok e
 refine kt_call_dict hd dd (by rw [←rel.length];exact z) fun h' dd' hs=> ?_
 refine h _ _ (I.hok.fresh (aak _)) (I.laid (a:=s.heap.objs.size) (o:= .dK kvs) (t':=s.toks) (fun b q hq=> ?_) (aak _) (wO z (beq_eq_false_iff_ne.mpr (Ne.symm (aaA I.big))) rel dd'))
 exact (hs.2 b (aaA (Heap.lt_size hq))).trans (Heap.get?_push_of_some _ hq)
end
end L2
namespace Att
open PySem PySem.W PySem.Calls PyProof.Rows
end Att
namespace L2
open PySem PySem.Spec PyProof.Rows
end L2
/- THE LAST THEOREM (shape;LID,My.* are yours):
  My.Adr:a structure of the addresses that your layer names (classes,functions);My.Txt K t:a structure (Prop) of the equations uu K;
  My.txt_mk:{K} {implicit addresses ..} (e1:nsIn K mainGlobals "law"=some (some (.ref f))) (e2:K.lookup f=some ⟨oc,od, .func (fnOf "law" "law" params body scope dV kV doc pm an cdv ct),sl⟩) (e3:codeIn K cdv "law"=true) .. :∃t,My.Txt K t
set_option maxRecDepth 100000 in
set_option maxHeartbeats 0 in
theorem PySem.Challenge.cw_LID_holds : PySem.Challenge.rw_LID.Holds := by
 w_on;o_law;k_head;(case hw=>w_witness2)
 k_fill
 refine L2.pf (l:=PySem.Challenge.rw_LID) (n:=63) (k:=40) (x:="script") (CX:=fun w=> ..) (sp:=fun _=>My.sp_law) rfl (by decide) rfl ⟨rfl,by decide,by decide⟩ (fun w h Y=>PySem.W.kIn_of Y) ?F ?S ?C
 case F=>
  intro w mg fa h KX G hmg
  have T:∃t,My.Txt (L2.KOf KX) t:=by
   dsimp only [L2.KOf] -- K must stand as «<heap const> w.params» for k_is
   refine' My.txt_mk ?e1 ?e2 ?e3 ..
   (case e1=>PySem.W.k_is) -- in the order:a name->its address->its object->its parts
   (case e2=>PySem.W.k_is)
   ..
  obtain ⟨t,T⟩:=T
  have e0:=hmg.symm.trans (PySem.W.mg_of KX G T.law)
  cases e0 -- fa is the law's own address
  exact ⟨_,fun s u=> .of_eq rfl,fun base kb nb=>My.law_fn T kb nb⟩ -- if «.of_eq rfl» comes too early:refine' ⟨_, ?b,fun base kb nb=>My.law_fn T kb nb⟩;exact fun s u=> .of_eq rfl
 case S=>exact fun w H a ns hl hO hS=> ..
 case C=>exact ..
(the tactic k_is has no namespace:write k_is) -/
namespace L2
open PySem PySem.Spec PyProof.Rows
def Dc:Dt→Option Key
 | .int i=>some (.inl i)
 | .str z=>some (.inr z)
 | _=>none
def dh(ks:List Key)(ds:List Dt)(k:Key):Option Dt:=((ks.zip ds).find? fun p=>decide (p.1=k)).map (·.2)
theorem mr{K:PySem.W.Frag}{G:Hp}{L:List Addr}{d:Dt}{v:V}{k:Key}(h:Dc d=some k)(n:Den K G L d v):v=kV k:=by
 cases d with
 | int i=>cases h;exact n
 | str z=>cases h;exact n
 | _=>cases h
theorem oC{K:PySem.W.Frag}{G:Hp}{L:List Addr}{k:Key}:∀{ks:List Key} {ds:List Dt} {vs:List V} {d:Dt},bb K G L ds vs→dh ks ds k=some d→∃v,mZ (ks.zip vs) k=some v∧Den K G L d v
 | [],_,_,_,_,h=>by cases h
 | _::_,[],_,_,_,h=>by cases h
 | c::ks,d0::ds,_,d,⟨v0,vs,e,n0,n⟩,h=>by
  subst e
  rw [aa2]
  by_cases hc:c=k
  ·have h':dh (c::ks) (d0::ds) k=some d0:=by unfold dh;rw [List.zip_cons_cons,List.find?_cons_of_pos (by simpa using hc)];rfl
   rw [h'] at h;cases h
   exact ⟨v0,dj hc,n0⟩
  ·have h':dh (c::ks) (d0::ds) k=dh ks ds k:=by unfold dh;rw [List.zip_cons_cons,List.find?_cons_of_neg (by simpa using hc)]
   rw [h'] at h
   obtain ⟨v,h1,h2⟩:=oC n h
   exact ⟨v,by rw [dq hc];exact h1,h2⟩
def uf(to ti:DE):DE:=fun ρ M q x=>to ρ M (fun d M1=>ti ρ M1 (fun di M2=>∃k ks ds key v,d= .loc k∧M2[k]? =some (.dct ks ds)∧Dc di=some key∧dh ks ds key=some v∧q v M2) x) x
theorem nV:∀(more acc:List (Key×V)),(∀p∈more,mZ acc p.1=none)→(more.map (·.1)).Nodup→jS acc more=acc++more
 | [],acc,_,_=>by show acc=acc++[];rw [aaT]
 | p::more,acc,h,nd=>by
  show jS (kG acc p.1 p.2) more=_
  rw [x9 p.2 (h p aae),nV more _ (fun q hq=> ?_) (List.nodup_cons.mp nd).2]
  ·simp
  ·have e:=mY p.1 q.1 p.2 acc (h p aae)
   rw [show (acc++[(p.1,p.2)])=acc++[(p.1,p.2)] from rfl,e,if_neg]
   ·exact h q (aad _ hq)
   ·intro z
    exact (List.nodup_cons.mp nd).1 (aal.mpr ⟨q,hq,z⟩)
def tCs(z:Str):TE:=fun _ H Q=>Q (.str z) H
theorem pcs{X:Cx}{z:Str}{k:Nat}{pos:Pos}:PE X (.Constant (.str z) k pos) (tCs z):=zy
section
variable{X:Cx}{R:St→XK}{o i e:Expr}{to ti te:DE}{pos p:Pos}{k':Nat}
theorem d7(hr:eK k' X.A)(ho:JE X R o to)(hi:JE X R i ti)(hs:Ge i:=by intro _ _;rfl):JE X R (.Subscript o i pos) (uf to ti):=
 .of (AK (wA hr) ho hi hs) fun σ H G L ρ M q x rl n h hx=>by
  refine ⟨G,L,ρ,M,_,x,rl,n,h,hx,fun v H1 ⟨d1,G1,L1,M1,e1,r1,n1,h1⟩=> ?_⟩
  refine ⟨G1,L1,ρ,M1,_,x,r1,n.mono e1,h1,hx.on e1,fun v2 H2 ⟨d2,G2,L2,M2,e2,r2,n2,k,ks,ds,key,y,ed,hm,hk,hg,h2⟩=> ?_⟩
  subst ed
  obtain ⟨a,rfl,hk1⟩:=n1
  have hk2:=e2.l.get hk1
  obtain ⟨_,vs,hH,hl,dn⟩:=r2.ats k a _ hk2 hm
  obtain ⟨u,hu,du⟩:=oC dn hg
  refine ⟨a,u,rfl, .inl ⟨_,key, .inl hH,mr hk n2,hu.symm⟩,ba (e1.trans e2) r2 du h2⟩
end
def Ei(M:Ms):Dt→Option (List Dt)
 | .lst xs=>some xs
 | .scr ns=>some (ns.map .int)
 | .loc k=>match M[k]? with
  | some (.lst xs)=>some xs
  | _=>none
 | _=>none
theorem qj{K:PySem.W.Frag}{G:Hp}{L:List Addr}{M:Ms}{H:Hp}{d:Dt}{v:V}{xs:List Dt}(r:Rl K G L M H)(n:Den K G L d v)(h:Ei M d=some xs):∃a vs,v= .ref a∧SqL K H a vs∧bb K G L xs vs:=by
 cases d with
 | lst ds=>cases h;obtain ⟨a,vs,rfl,e,m⟩:=n;exact ⟨a,vs,rfl, .of (r.sub _ _ e),m⟩
 | scr ns=>cases h;obtain ⟨a,rfl,e⟩:=n;exact ⟨a,_,rfl,r.sub.seq e,fE⟩
 | loc k=>
  obtain ⟨a,rfl,e⟩:=n
  have h:(match M[k]? with | some (.lst xs)=>some xs | _=>none)=some xs:=h
  split at h
  ·rename_i ys hm
   cases h
   obtain ⟨_,vs,e1,m1⟩:=r.ats k a _ e hm
   exact ⟨a,vs,rfl, .of e1,m1⟩
  ·cases h
 | _=>cases h
section
variable{X:Cx}{R:St→XK}{a b e l u:Expr}{ta tb te tl tu:DE}{t:DA}{pos p p2:Pos}{k':Nat}
theorem w4(xs:List V)(k:Nat):xN xs none (some (k:Int))=xs.take k:=by
 unfold xN
 rw [HT.lD,HT.rq,abU,Nat.sub_zero]
 by_cases h:k≤xs.length
 ·rw [ab0 h]
 ·rw [Nat.min_eq_right (by omega),abf (aak _),abf (by omega)]
def GS(te tl:DE):DE:=fun ρ M q x=>te ρ M (fun d M1=>tl ρ M1 (fun di M2=>∃ds n,Ei M2 d=some ds∧di= .int (n:Nat)∧q (.loc M2.length) (M2++[.lst (ds.drop n)])) x) x
theorem jY(he:JE X R e te)(hl:JE X R l tl):JE X R (.Subscript e (.Slice (some l) none none p2) pos) (GS te tl):=
 .of (lN pq he (lM hl) vk) fun σ H G L ρ M q x rl n h hx=>by
  refine ⟨G,L,ρ,M,_,x,rl,n,h,hx,fun v H1 ⟨d1,G1,L1,M1,e1,r1,n1,h1⟩=> ?_⟩
  refine ⟨G1,L1,ρ,M1,_,x,r1,n.mono e1,h1,hx.on e1,fun v2 H2 ⟨d2,G2,L2,M2,e2,r2,n2,ds,k,ed,ei,h2⟩=> ?_⟩
  subst ei
  obtain ⟨a,vs,rfl,sq,m⟩:=qj r2 (Den.mono e2.g e2.l _ _ n1) ed
  have n2:v2= .int k:=n2
  subst n2
  refine ⟨k,rfl,a,vs,rfl,sq,fun p hp=> ?_⟩
  rw [w8]
  exact ix (e1.trans e2) r2 hp (bb.of (lL k m.pair)) h2
end
open PySem PySem.SeqAt
def A3(M:Ms):Dt→Option (List Dt)
 | .lst xs=>some xs
 | .loc k=>match M[k]? with
  | some (.lst xs)=>some xs
  | _=>none
 | _=>none
theorem qi{K:PySem.W.Frag}{G:Hp}{L:List Addr}{M:Ms}{H:Hp}{d:Dt}{v:V}{xs:List Dt}(r:Rl K G L M H)(n:Den K G L d v)(h:A3 M d=some xs):∃a vs,v= .ref a∧H a=some (.lst vs)∧bb K G L xs vs:=by
 cases d with
 | lst ds=>cases h;obtain ⟨a,vs,rfl,e,m⟩:=n;exact ⟨a,vs,rfl,r.sub _ _ e,m⟩
 | loc k=>
  obtain ⟨a,rfl,e⟩:=n
  have h:(match M[k]? with | some (.lst xs)=>some xs | _=>none)=some xs:=h
  split at h
  ·rename_i ys hm
   cases h
   obtain ⟨_,vs,e1,m1⟩:=r.ats k a _ e hm
   exact ⟨a,vs,rfl,e1,m1⟩
  ·cases h
 | _=>cases h
def DC:Dt→Dt→Ms→DQ→Prop:=fun d e M q=>∃xs ys,A3 M d=some xs∧A3 M e=some ys∧xs.length+ys.length≤sizeLine∧q (.lst (xs++ys)) M
theorem FU{K:PySem.W.Frag}:OpD K ES DC:=by
 intro G0 L0 H0 G L M H v1 v2 d1 d2 q e r n1 n2 ⟨xs,ys,h1,h2,hz,hq⟩
 obtain ⟨p1,w1,rfl,e1,m1⟩:=qi r n1 h1
 obtain ⟨p2,w2,rfl,e2,m2⟩:=qi r n2 h2
 refine ⟨p1,p2,w1,w2,rfl,rfl,e1,e2,by rw [←m1.length,←m2.length];exact hz,fun p hp=> ?_⟩
 exact iw e r hp (mH r hp (m1.app m2)) hq
section
variable{X:Cx}{R:St→XK}{a b:Expr}{ta tb:DE}{pos:Pos}
theorem jZ(ja:JE X R a ta)(jb:JE X R b tb):JE X R (.BinOp a .Add b pos) (dOp DC ta tb):=yB zD FU ja jb
end
section
variable{X:Cx}{R:St→XK}{e l:Expr}{te tl:DE}{pos p2:Pos}
def DM(te tl:DE):DE:=fun ρ M q x=>te ρ M (fun d M1=>tl ρ M1 (fun di M2=>∃ds n,Ei M2 d=some ds∧di= .int (n:Nat)∧q (.loc M2.length) (M2++[.lst (ds.take n)])) x) x
theorem we(he:JE X R e te)(hl:JE X R l tl):JE X R (.Subscript e (.Slice none (some l) none p2) pos) (DM te tl):=
 .of (lN pq he vk (lM hl)) fun σ H G L ρ M q x rl n h hx=>by
  refine ⟨G,L,ρ,M,_,x,rl,n,h,hx,fun v H1 ⟨d1,G1,L1,M1,e1,r1,n1,h1⟩=> ?_⟩
  refine ⟨G1,L1,ρ,M1,_,x,r1,n.mono e1,h1,hx.on e1,fun v2 H2 ⟨d2,G2,L2,M2,e2,r2,n2,ds,k,ed,ei,h2⟩=> ?_⟩
  subst ei
  obtain ⟨a,vs,rfl,sq,m⟩:=qj r2 (Den.mono e2.g e2.l _ _ n1) ed
  have n2:v2= .int k:=n2
  subst n2
  refine ⟨k,rfl,a,vs,rfl,sq,fun p hp=> ?_⟩
  rw [w4]
  exact ix (e1.trans e2) r2 hp (bb.of (lK k m.pair)) h2
end
theorem ku(elt target iter:Expr)(scope:Scope)(pos:Pos)(it acc:Value)(env:Env):
  compTurn (.ListComp elt [⟨target,iter,[],0⟩] scope pos) 0 it acc env=(standAt iter.pos >>= fun _=>pyNext it >>= fun r=>match r with
   | none=>pure (.done .next)
   | some v=>letOwnedTupleGo target it v >>= fun _=>assign target env v >>= fun _=>
    (eval elt env >>= fun x=>call (.builtin "list.append") [acc,x] >>= fun _=>pure ()) >>= fun _=>again (.compLoop (.ListComp elt [⟨target,iter,[],0⟩] scope pos) 0 it acc env)):=by
 unfold compTurn
 dsimp only [List.getElem?_cons_zero,List.getElem?_cons_succ,List.getElem?_nil]
 simp only [List.forIn_cons,List.forIn_nil,bind_assoc,pure_bind,if_true]
 rfl
def xK(J:It)(n:Nat)(gg:TG)(te:TE)(cs:St)(Q:VK)(H1:Hp)(D:Addr):Prop:=
 ∃W:Nat→Nat→List V→Hp→Prop,(∃m,W 0 m [] (upd H1 D (.lst [])))∧∀i m ys H2,W i m ys H2→H2 D=some (.lst ys)∧
  ((J.stop i H2∧Q (.ref D) H2)∨(J.go i H2∧∀x H3,J.yld i H2 x H3→∀os:St,os.length=n→gg x (os++cs) H3 fun σ' H3'=>te σ' H3' fun y H5=>H5 D=some (.lst ys)∧ys.length < sizeLine∧∃m',m' < m∧W (i+1) m' (ys++[y]) (upd H5 D (.lst (ys++[y])))))
def B2(wi:TI)(n:Nat)(gg:TG)(te:TE)(caps:List Nat):TE:=fun σ H Q=>wi σ H fun J H1=>∀D,H1 D=none→xK J n gg te (hW caps σ) Q H1 D
section
variable{X:Cx}{elt iter tg:Expr}{xs:List Str}{scope:Scope}{pos:Pos}{wi:TI}{gg:TG}{te:TE}{ys:List Str}{caps:List Nat}
theorem xb(S:cM X scope xs ys caps)(hc:X.calm=true)(hg:∀C s H fp,PG (Cx.comp X (xs++ys) scope C s H fp) tg gg)(hk:BI xs.length gg)(he:∀C s H fp,PE (Cx.comp X (xs++ys) scope C s H fp) elt te)
  {pins:List (Addr×Obj)} {σ:St} {H2:Hp} {s2:Shared} {it:Addr} {fp:List Addr} {tn:Nat→Heap→Prop} {J:It} {Q:V→Hp→Prop} {PQ:Value→Addr→Result→Shared→Prop} (I:Inv X pins σ H2 s2) (T:d8 X.prog X.w X.K tg J fp it tn) (t0:tn 0 s2.heap) (f2:∀b∈fp,uo X pins H2 b)
  (h:∀D,H2 D=none→xK J xs.length gg te (hW caps σ) Q H2 D)
  (hPQ:∀D C s' H',Inv X pins σ H' s'→Q (.ref D) H'→(∃m,s'.heap.Ns C m)→H' C=none→X.s₀.heap.objs.size≤C→C≠X.env.locals→(∀z c,X.env.cells.lookup z=some c→c≠C)→(∀p∈X.pn++pins,p.1≠C)→PQ (.ref D) C (.ok .next) s'):
  wpAny (model X.prog X.w) X.A (newList []) (fun acc s3=>wpAny (model X.prog X.w) X.A (newFunctionEnv scope X.env.globals (mT X.env scope.names []) [] X.env.qual none .none (some X.env)) (fun cenv s4=>
   codeAny (model X.prog X.w) X.A (.compStart (.ListComp elt [⟨tg,iter,[],0⟩] scope pos) 0 (.ref it) acc {cenv with scope:=relabel scope X.env}) (PQ acc cenv.locals) s4) X.xe s3) X.xe s2:=by
 have hD:H2 s2.heap.objs.size=none:=I.fresh
 obtain ⟨W,⟨m0,w0⟩,step⟩:=h _ hD
 refine wpAny_newObj_type ?_
 have I3:Inv X pins σ (upd H2 s2.heap.objs.size (.lst [])) {s2 with heap:=s2.heap.push {cls:= .type "list",data:= .seq ([]:List Value).toArray}}:=Inv.lnew (t':=s2.toks) I (ys:=[]) (its:=[]) .nil (abM _)
 generalize hH3:upd H2 s2.heap.objs.size (.lst [])=H3 at I3 w0
 generalize hs3:({s2 with heap:=s2.heap.push {cls:= .type "list",data:= .seq ([]:List Value).toArray}}:Shared)=s3 at I3
 have hfp3:∀b∈fp,H3 b=none:=fun b hb=>by
  obtain ⟨o,e,_⟩:=T.obj _ _ t0 b hb
  rw [←hH3,av (aaA (Heap.lt_size e))]
  exact (f2 b hb).1
 have t3:tn 0 s3.heap:=T.keep _ _ _ t0 fun b hb o e=>by rw [←hs3];exact Heap.get?_push_of_some _ e
 refine wpAny_newFunctionEnv S.nocell (fun y hy=>nomatch hy) (fun h4 ns4 sb4=> ?_) S.kind
 have hC:H3 s3.heap.objs.size=none:=I3.fresh
 have kp:∀b o,s3.heap.get? b=some o→h4.get? b=some o:=fun b o e=>
  (sb4.2 b (aaA (Heap.lt_size e))).trans (Heap.get?_push_of_some _ e)
 generalize hs4:({s3 with heap:=h4,toks:=s3.toks+([]:List (Str×Value)).length}:Shared)=s4
 have e4:s4.heap=h4:=by rw [←hs4]
 have cne:∀z c,X.env.cells.lookup z=some c→c≠s3.heap.objs.size:=fun z c e q=>by
  obtain ⟨v,w⟩:=I3.cell z c e
  exact aaZ _ (q▸w.lt)
 have cl_in:∀z c,(mT X.env scope.names []).lookup z=some c→X.env.cells.lookup z=some c:=fun z c e=>j8 scope.names [] (S.has I.ok) (fun q=>nomatch q) e
 have Lne:s3.heap.objs.size≠X.env.locals:=abX I3.lt
 have ok:(Cx.comp X (xs++ys) scope s3.heap.objs.size s3 H3 fp).Ok:=by
  refine ⟨I3.ok.mod,S.kind,I3.ok.glob,I3.ok.blt,aak _,fun z z' c e1 e2=>I3.ok.inj z z' c (cl_in z c e1) (cl_in z' c e2),fun z hz=> ?_,fun z c hz=>(by cases hz),I3.ok.hd,I3.ok.frames, .inl rfl,fun b hb=>⟨?_,fun z c e=> ?_⟩,I3.bs, ?_,fun b o e hb=> ?_,fun b hb hf=> ?_,I3.stack,I3.stkFree⟩
  ·have:=hJ (env:=X.env) scope.names [] (.inl (vb S.nocell hz))
   exact aa9.mp this
  ·obtain ⟨o,e,_⟩:=T.obj _ _ t3 b hb
   exact aaA (Heap.lt_size e)
  ·exact (f2 b hb).2.2.2.2.1 z c (cl_in z c e)
  ·exact aaz I3.ok.bsz I3.sz
  ·obtain ⟨_,_,_,hy,_⟩:=f2 b hb
   have e0:=(I3.ok.bs b o e).1
   rcases hy with hy | hy
   ·exact I3.ok.noex b o e hy
   ·exact absurd (aao (Heap.lt_size e0) hy) (aaZ _)
  ·obtain ⟨_,hl,hfs,_⟩:=f2 b hb
   exact (aaJ.mp (I3.stkSub b hf)).elim hl hfs
 have hlen:((List.replicate xs.length (none:Option V))++hW caps σ).length=(xs++ys).length:=by
  rw [aap,aap,aaK,S.len]
  unfold hW
  rw [aac]
 have I4:Inv X pins σ H3 s4:=by
  rw [←hs4]
  exact I3.kept kp
 have Ic:Inv (Cx.comp X (xs++ys) scope s3.heap.objs.size s3 H3 fp) [] ((List.replicate xs.length (none:Option V))++hW caps σ) H3 s4:=by
  refine ⟨ok,by rw [←hs4];rfl,I4.bare,Un.kept (by rw [e4];exact kp),⟨_,by rw [e4];exact ns4,fun i z v e1 e2 e3=> ?_⟩,fun z c e=>I4.cell z c (cl_in z c e),hC,fun z c e=>I4.freeC z c (cl_in z c e),(fun p hp=>nomatch hp),I4.hok,hlen⟩
  have e1:(xs++ys)[i]? =some z:=e1
  by_cases hi:i < xs.length
  ·rw [aav (by rw [aaK];exact hi),abq,if_pos hi] at e2
   cases e2
  ·obtain ⟨j,rfl⟩:∃j,i=xs.length+j:=⟨i - xs.length,by omega⟩
   have e1:ys[j]? =some z:=by
    rw [aam (by omega),Nat.add_sub_cancel_left] at e1
    exact e1
   have e2:(hW caps σ)[j]? =some (some v):=by
    rw [aam (by rw [aaK];omega),aaK,Nat.add_sub_cancel_left] at e2
    exact e2
   unfold hW at e2
   rw [aaf] at e2
   cases hi:caps[j]? with
   | none=>rw [hi] at e2;cases e2
   | some i=>
    rw [hi] at e2
    have e2:(σ[i]?).join=some v:=aaw e2
    have e2:σ[i]? =some (some v):=by
     cases q:σ[i]? with
     | none=>rw [q] at e2;cases e2
     | some o=>rw [q] at e2;exact congrArg some e2
    obtain ⟨c1,c2,c3⟩:=S.cap (z,i) (uv e1 hi)
    have c4:=lH (env:=X.env) I.ok.kind c2 c3
    have c3:(z,NameKind.free)∈scope.names:=PySem.mem_of_lookup c3
    obtain ⟨m,hn,hl⟩:=I4.loc
    obtain ⟨u,r,lk⟩:=hl i z v c1 e2 (.inr (.inl c2))
    refine ⟨u,r, .inr ⟨.inl c4, ?_⟩⟩
    rcases lk with ⟨k,_⟩ | ⟨_,c,hc',z'⟩
    ·exact absurd ((show X.env.scope.names.lookup z=some .local from k).symm.trans c2) (by decide)
    ·obtain ⟨d,hd⟩:=aa9.mp (hJ (env:=X.env) scope.names [] (.inl c3))
     have:=cl_in z d hd
     rw [hc'] at this
     cases this
     exact ⟨c,hd,z'⟩
 have loop:codeAny (model X.prog X.w) X.A (.compLoop (.ListComp elt [⟨tg,iter,[],0⟩] scope pos) 0 (.ref it) (.ref s2.heap.objs.size) (compEnvC scope (mT X.env scope.names []) s3.heap.objs.size X.env)) (PQ (.ref s2.heap.objs.size) s3.heap.objs.size) s4:=by
  have fpC:∀{H':Hp},(∀b∈fp,H' b=none)→∀b∈fp,uo (Cx.comp X (xs++ys) scope s3.heap.objs.size s3 H3 fp) [] H' b:=fun hn b hb=>
   ⟨hn b hb,(ok.exf b hb).1,ok.exfs b hb, .inl hb,(ok.exf b hb).2,(fun p hp=>nomatch hp)⟩
  refine codeAny_loop rfl (fun n s'=>∃(i:Nat) (zs:List V) (os:St) (H':Hp),os.length=xs.length∧Inv (Cx.comp X (xs++ys) scope s3.heap.objs.size s3 H3 fp) [] (os++hW caps σ) H' s'∧tn i s'.heap∧(∀b∈fp,H' b=none)∧W i n zs H') (fun n s5 z=> ?_) m0 ⟨0,[],List.replicate xs.length none,H3,by rw [aaK],Ic,T.keep _ _ _ t3 (fun b hb o e=>by rw [e4];exact kp b o e),hfp3,w0⟩
  obtain ⟨i,zs,os,H5,l5,I5,t5,fr5,w5⟩:=z
  show wpAny _ _ ((compTurn _ 0 (.ref it) _ _).onRaise _) _ _ s5
  refine wpAny_noted ?_
  rw [ku]
  refine wpAny_bind (wpAny_standAt (wpAny_bind ?_))
  obtain ⟨hacc,stop | go⟩:=step i n zs H5 w5
  ·obtain ⟨stop,q⟩:=stop
   refine thn (T.done (Cx.comp X (xs++ys) scope s3.heap.objs.size s3 H3 fp) rfl rfl rfl hc i [] s5 _ H5 _ I5 (fpC fr5) t5 stop) fun r s6 ⟨hr,I6⟩=> ?_
   subst hr
   refine wpAny_pure (hPQ _ _ s6 H5 ?_ q ?_ I6.free ?_ Lne cne fun p hp z=> ?_)
   ·refine I3.call' I6.os I6.base I6.hok I6.bare fun b hb=> ?_
    obtain ⟨_,g1,_,g3,g4,g5⟩:=f2 b hb
    exact ⟨g3,g1,g4,g5⟩
   ·obtain ⟨m,hn,_⟩:=I6.loc
    exact ⟨m,hn⟩
   ·exact I3.sz
   ·exact aaA (Heap.lt_size (I3.pin p hp).1) z
  ·obtain ⟨go,turn⟩:=go
   refine thn (T.item (Cx.comp X (xs++ys) scope s3.heap.objs.size s3 H3 fp) rfl rfl rfl hc i [] s5 _ H5 _ I5 (fpC fr5) t5 go) fun r s6 ⟨u,hr,h6⟩=> ?_
   subst hr
   refine wpAny_bind (thn h6 fun _ s7 ⟨y,H7,I7,r7,y7,t7,fr7⟩=> ?_)
   have I7':=I7.pinned (fpC fr7) (T.obj _ _ t7)
   refine wpAny_bind (wpAny_mono (hg _ _ _ _ _ s7 _ H7 y u _ I7' r7 (hk y os _ H7 _ l5 (turn y _ y7 os l5))) (fun _ s8 z8=> ?_) fun _ _ f=>f.elim)
   obtain ⟨σ8,H8,I8,⟨os8,l8,e8⟩,q8⟩:=z8
   subst e8
   refine wpAny_bind (wpAny_bind (wpAny_mono (he _ _ _ _ _ s8 _ _ _ I8 q8) (fun u10 s10 z10=> ?_) fun _ _ f=>f.elim))
   obtain ⟨v10,H10,I10,r10,a10,l10,m10,hm10,w10⟩:=z10
   refine wpAny_bind (wpAny_mono (jR (X:=Cx.comp X (xs++ys) scope s3.heap.objs.size s3 H3 fp) _ s10 _ H10 (.ref s2.heap.objs.size) [v10] _ [u10] (fun _ H'=>H'=upd H10 s2.heap.objs.size (.lst (zs++[v10]))) I10 rfl (.cons r10 .nil) ⟨_,zs,v10,rfl,rfl,a10,l10,rfl⟩) (fun _ s11 z11=> ?_) fun _ _ f=>f.elim)
   obtain ⟨_,H11,I11,_,e11⟩:=z11
   subst e11
   refine wpAny_pure (wpAny_pure ⟨rfl,m10,hm10,i+1,zs++[v10],os8,_,l8,I11.unpinned,T.keep _ _ _ t7 fun b hb o e=>(I11.pin (b,o) (aax _ (aax _ (dH hb e)))).1,fun b hb=> ?_,w10⟩)
   obtain ⟨o,e,_⟩:=T.obj _ _ t7 b hb
   exact (I11.pin (b,o) (aax _ (aax _ (dH hb e)))).2.1
 exact codeAny_compStart_list loop (T.self X.A 0 _ _ _ (T.keep _ _ _ t3 (fun b hb o e=>by rw [e4];exact kp b o e)) loop)
theorem yi(S:cM X scope xs ys caps)(hc:X.calm=true)(hi:PI X tg iter wi)(hg:∀C s H fp,PG (Cx.comp X (xs++ys) scope C s H fp) tg gg)(hk:BI xs.length gg)(he:∀C s H fp,PE (Cx.comp X (xs++ys) scope C s H fp) elt te)(hs:∀x,foldedSetIterable iter X.env x=pure x:=by intro _;rfl):
  PE X (.ListComp elt [⟨tg,iter,[],0⟩] scope pos) (B2 wi xs.length gg te caps):=by
 intro pins s σ H Q I h
 rw [eval_ListComp]
 refine wpAny_comprehension_free (use:=none) rfl hs (iC (S.has I.ok)) S.kind S.names (thn (hi pins s σ H _ I h) fun v s1 h1=>thn h1 fun itv s2 h2=> ?_)
 obtain ⟨it,fp,tn,J,H2,rfl,I2,T,t0,f2,q⟩:=h2
 refine xb S hc hg hk he (Q:=Q) I2 T t0 f2 q fun D C s' H' I' q' n' hC hz hL hcc hp=> ?_
 obtain ⟨m,n'⟩:=n'
 exact ⟨m,n',fun h' sb=>⟨.ref D,H',I'.turned (it:=C) (t':=s'.toks) (fun b o hb e=>(sb.2 b hb).trans e) hC hL (.inr hz) hcc hp,rfl,q'⟩⟩
end
def xf(g:Dt→En→(En→Prop)→Prop)(te:DE)(ρ0:En)(ok:Ms→Prop):List Dt→List Dt→Ms→(List Dt→Ms→Prop)→Prop
 | [],acc,M,k=>ok M∧k acc M
 | x::xs,acc,M,k=>ok M∧g x ρ0 fun ρ'=>te ρ' M (fun d M2=>xf g te ρ0 ok xs (acc++[d]) M2 k) noX
def DO(n:Nat)(ti:DK)(g:Dt→En→(En→Prop)→Prop)(te:DE)(caps:List Nat):DE:=fun ρ M q x=>ti ρ M (fun xs ok M1=>xs.length≤sizeLine∧xf g te (List.replicate n none++oF caps ρ) ok xs [] M1 (fun ys M2=>q (.lst ys) M2)) x
theorem yS{K:PySem.W.Frag}{J:It}{gg:TG}{g:Dt→En→(En→Prop)→Prop}{te:DE}{caps:List Nat}{nn:Nat}{ρ:En}{σ:St}{G1:Hp}{L1:List Addr}{M1:Ms}{H1:Hp}{xs:List Dt}{ok:Ms→Prop}{Dl:Addr}{Q:VK}{k:List Dt→Ms→Prop}(gd:GD K gg g)(r1:Rl K G1 L1 M1 H1)(n:EnD K G1 L1 ρ σ)(y:YlK K J xs ok G1 L1)(hD:H1 Dl=none)(hz:xs.length≤sizeLine)
  (h:xf g te (List.replicate nn none++oF caps ρ) ok xs [] M1 k)
  (fin:∀G2 L2 M2 H2 ds vs,Ex G1 L1 H1 G2 L2 H2→Rl K G2 L2 M2 H2→G2 Dl=none→Dl∉L2→H2 Dl=some (.lst vs)→bb K G2 L2 ds vs→k ds M2→Q (.ref Dl) H2):
  xK J nn gg (tU K (fun _=>E0) te) (hW caps σ) Q H1 Dl:=by
 refine ⟨fun i m ys H2=>m+i=xs.length∧H2 Dl=some (.lst ys)∧∃acc G2 L2 M2,Ex G1 L1 H1 G2 L2 H2∧Rl K G2 L2 M2 H2∧G2 Dl=none∧Dl∉L2∧bb K G2 L2 acc ys∧acc.length≤i∧xf g te (List.replicate nn none++oF caps ρ) ok (xs.drop i) acc M2 k,⟨xs.length,rfl,aC,[],G1,L1,M1, ?_⟩, ?_⟩
 ·have gn:G1 Dl=none:=r1.sub.free hD
  refine ⟨⟨.refl _, .refl _,fun _ h _=>h,fun b u h1 _=>by rw [av (fun z=>by rw [z,hD] at h1;cases h1)];exact h1,fun _ h=> .inl h,fun b h=>by rw [av (fun z=>h (by rw [z];exact hD))];exact h⟩,⟨fun b u e=>by rw [av (fun z=>by rw [z,gn] at e;cases e)];exact r1.sub b u e,r1.len,r1.nd,fun i a m h1 h2=> ?_⟩,gn,r1.memN hD,rfl,aak _,by rw [abU];exact h⟩
  obtain ⟨q1,q2⟩:=r1.ats i a m h1 h2
  exact ⟨q1,q2.mono (.refl _) (.refl _) (av fun z=>q2.there (by rw [z];exact hD))⟩
 ·rintro i m ys H2 ⟨hm,hacc,acc,G2,L2,M2,e2,r2,g2,l2,n2,la,h2⟩
  refine ⟨hacc, ?_⟩
  have ne1:∀{b:Addr} {u:HO},H1 b=some u→b≠Dl:=fun e z=>by rw [z,hD] at e;cases e
  by_cases hi:i < xs.length
  ·right
   have hd:xs[i]? =some xs[i]:=aaa hi
   rw [aaR hi] at h2
   obtain ⟨hok,h2⟩:=h2
   obtain ⟨go,yl⟩:=y.go i G2 L2 M2 H2 _ e2.g e2.l r2 hok hd
   refine ⟨go,fun v H3 hy os hos=> ?_⟩
   obtain ⟨G3,e3,r3,n3⟩:=yl v H3 hy
   have h3:H3 Dl=some (.lst ys):=e3.out _ _ hacc l2
   have g3:G3 Dl=none:=e3.fr _ g2 (by rw [hacc];simp)
   refine gd G3 L2 M2 H3 _ v _ _ _ _ r3 n3 (By ((n.mono e2).mono e3) caps hos) h2 fun ρ' σ' n' h'=> ?_
   refine ⟨G3,L2,ρ',M2,_,noX,r3,n',h',ux,fun v5 H5 ⟨d5,G5,L5,M5,e5,r5,n5,h5⟩=> ?_⟩
   have h5':H5 Dl=some (.lst ys):=e5.out _ _ h3 l2
   have g5:G5 Dl=none:=e5.fr _ g3 (by rw [h3];simp)
   have l5:Dl∉L5:=fun z=>(e5.new _ z).elim l2 fun q=>by rw [h3] at q;cases q
   have e35:=e3.trans e5
   have lenys:ys.length=acc.length:=by rw [←n2.length]
   refine ⟨h5',by omega,m - 1,by omega,by omega,aC,acc++[d5],G5,L5,M5, ?_, ?_,g5,l5,(bb.mono e35.g e35.l _ _ n2).app ⟨_,_,rfl,n5,rfl⟩,by rw [aap];show acc.length+1≤i+1;omega,h5⟩
   ·have e15:=e2.trans e35
    exact ⟨e15.g,e15.l,e15.fr,fun b u h1 h2=>by rw [av (ne1 h1)];exact e15.out b u h1 h2,e15.new,fun b h=>by
     by_cases hb:b=Dl
     ·rw [hb,aC];simp
     ·rw [av hb];exact e15.dom b h⟩
   ·refine ⟨fun b u e=>by rw [av (fun z=>by rw [z,g5] at e;cases e)];exact r5.sub b u e,r5.len,r5.nd,fun i a m h1 h2=> ?_⟩
    obtain ⟨q1,q2⟩:=r5.ats i a m h1 h2
    exact ⟨q1,q2.mono (.refl _) (.refl _) (av fun z=>l5 (by rw [←z];exact aag h1))⟩
  ·left
   rw [abu (by omega)] at h2
   exact ⟨y.stop i G2 L2 M2 H2 e2.g e2.l r2 h2.1 (by omega),fin G2 L2 M2 H2 acc ys e2 r2 g2 l2 hacc n2 h2.2⟩
section
variable{X:Cx}{R:St→XK}{elt iter:Expr}{x y:Str}{px py tp:Pos}{scope:Scope}{pos:Pos}{ti:DK}{te:DE}{ys:List Str}{caps:List Nat}{kk:Nat}
theorem A9(S:cM X scope [x,y] ys caps)(hi:JK X R (.Tuple [.Name x px, .Name y py] kk tp) iter ti)(he:∀C s H fp,JE (Cx.comp X (x::y::ys) scope C s H fp) (fun _=>E0) elt te)(hc:X.calm=true:=by rfl)(hs:∀x,foldedSetIterable iter X.env x=pure x:=by intro _;rfl):
  JE X R (.ListComp elt [⟨.Tuple [.Name x px, .Name y py] kk tp,iter,[],0⟩] scope pos) (DO 2 ti (g2 0 1) te caps):= .of (yi (wi:=Ej X.K R ti) (te:=tU X.K (fun _=>E0) te) S hc hi (AI hc S) (vZ (Nat.zero_lt_succ 1) (abn 1)) he hs) fun σ H G L ρ M q x rl n h hx=>by
 refine ⟨G,L,ρ,M,_,x,rl,n,h,hx,fun J H1 ⟨xs,ok,G1,L1,M1,e1,r1,y,hz,h1⟩ D hD=> ?_⟩
 exact yS kQ r1 (n.mono e1) y hD hz h1 fun G2 L2 M2 H2 ds vs e2 r2 g2 l2 h2 n2 k=>Fin.back e1 (jO e2 r2 hD g2 l2 h2 n2 k)
end
theorem oE{g:Dt→En→(En→Prop)→Prop}{te:DE}{ρ0:En}{ok:Ms→Prop}{M:Ms}{k:List Dt→Ms→Prop}(ho:ok M)(f:Dt→Dt):∀(xs acc:List Dt),(∀x∈xs,∀q:DQ,q (f x) M→g x ρ0 fun ρ'=>te ρ' M q noX)→k (acc++xs.map f) M→xf g te ρ0 ok xs acc M k
 | [],acc,_,h=>⟨ho,by simpa using h⟩
 | x::xs,acc,ht,h=>⟨ho,ht x List.mem_cons_self _ (oE ho f xs _ (fun y hy=>ht y (List.mem_cons_of_mem _ hy)) (by simpa using h))⟩
theorem xa(xs:List V)(a b:Nat):xN xs (some (a:Int)) (some (b:Int))=(xs.drop a).take (b - a):=by
 unfold xN
 rw [HT.lD,HT.lD]
 by_cases ha:a≤xs.length
 ·rw [ab0 ha]
  by_cases hb:b≤xs.length
  ·rw [ab0 hb]
  ·rw [Nat.min_eq_right (by omega),abf (by rw [abx];omega),abf (by rw [abx];omega)]
 ·have h1:min a xs.length=xs.length:=Nat.min_eq_right (by omega)
  rw [h1,List.drop_of_length_le (aak xs.length),List.drop_of_length_le (show xs.length≤a by omega)]
  simp
section
variable{X:Cx}{R:St→XK}{e l u a b:Expr}{te tl tu ta tb:DE}{pos p2:Pos}
def FO(te tl tu:DE):DE:=fun ρ M q x=>te ρ M (fun d M1=>tl ρ M1 (fun di M2=>∃n:Nat,di= .int n∧tu ρ M2 (fun du M3=>∃ds m,Ei M3 d=some ds∧du= .int (m:Nat)∧q (.loc M3.length) (M3++[.lst ((ds.drop n).take (m - n))])) x) x) x
theorem wg(he:JE X R e te)(hl:JE X R l tl)(hu:JE X R u tu):JE X R (.Subscript e (.Slice (some l) (some u) none p2) pos) (FO te tl tu):=
 .of (lN pq he (lM hl) (lM hu)) fun σ H G L ρ M q x rl n h hx=>by
  refine ⟨G,L,ρ,M,_,x,rl,n,h,hx,fun v H1 ⟨d1,G1,L1,M1,e1,r1,n1,h1⟩=> ?_⟩
  refine ⟨G1,L1,ρ,M1,_,x,r1,n.mono e1,h1,hx.on e1,fun v2 H2 ⟨d2,G2,L2,M2,e2,r2,n2,k,ek,h2⟩=> ?_⟩
  subst ek
  have n2:v2= .int k:=n2
  subst n2
  refine ⟨k,rfl,G2,L2,ρ,M2,_,x,r2,(n.mono e1).mono e2,h2,(hx.on e1).on e2,fun v3 H3 ⟨d3,G3,L3,M3,e3,r3,n3,ds,m,ed,em,h3⟩=> ?_⟩
  subst em
  have e23:=e2.trans e3
  obtain ⟨a,vs,rfl,sq,dn⟩:=qj r3 (Den.mono e23.g e23.l _ _ n1) ed
  have n3:v3= .int m:=n3
  subst n3
  refine ⟨m,rfl,a,vs,rfl,sq,fun p hp=> ?_⟩
  rw [xa]
  exact ix (e1.trans e23) r3 hp (bb.of (lK (m - k) (lL k dn.pair))) h3
def Dx:Dt→Dt→Ms→DQ→Prop:=fun d e M q=>∃xs k,A3 M d=some xs∧e= .int k∧ -(2 ^ 63)≤k∧k < 2 ^ 63∧xs.length * k.toNat≤sizeLine∧q (.loc M.length) (M++[.lst (List.replicate k.toNat xs).flatten])
theorem EO{K:PySem.W.Frag}:OpD K ER Dx:=by
 intro G0 L0 H0 G L M H v1 v2 d1 d2 q e r n1 n2 ⟨xs,k,h1,h2,a,b,hz,hq⟩
 obtain ⟨p1,w1,rfl,e1,m1⟩:=qi r n1 h1
 subst h2
 have n2:v2= .int k:=n2
 subst n2
 refine ⟨p1,k,w1,rfl,rfl,e1,a,b,by rw [←m1.length];exact hz,fun p hp=> ?_⟩
 exact ix e r hp (bb.of (pQ m1.pair k.toNat)) hq
theorem r8(ja:JE X R a ta)(jb:JE X R b tb):JE X R (.BinOp a .Mult b pos) (dOp Dx ta tb):=yB zA EO ja jb
end
def inK(ks:List Key)(k:Key):Bool:=ks.any fun c=>decide (c=k)
theorem iT{k:Key}:∀{ks:List Key} {vs:List V},ks.length=vs.length→(mZ (ks.zip vs) k).isSome=inK ks k
 | [],[],_=>rfl
 | c::ks,v::vs,h=>by
  have h:ks.length=vs.length:=by simpa using h
  rw [aa2]
  by_cases e:c=k
  ·rw [dj e];subst e;simp [inK]
  ·rw [dq e,iT h]
   unfold inK
   rw [abG,decide_eq_false e,Bool.false_or]
section
variable{X:Cx}{R:St→XK}{o i e a b:Expr}{to ti te ta tb:DE}{pos p:Pos}{k':Nat}
theorem wk:JE X R (.Dict [] [] pos) (fun _ M q _=>q (.loc M.length) (M++[.dct [] []])):=
 .of yh fun σ H G L ρ M q x rl n h hx=>by
  intro p hp
  exact ⟨.loc M.length,G,L++[p],_,rl.exM hp,rl.newM (m:= .dct [] []) hp ⟨[],aC,rfl,rfl⟩,⟨p,rfl,by rw [←rl.len,List.getElem?_append_right (Nat.le_refl _)];simp⟩,h⟩
def FH:Dt→Dt→Ms→DQ→Prop:=fun di d M q=>∃k ks ds key,d= .loc k∧M[k]? =some (.dct ks ds)∧Dc di=some key∧q (.bl (inK ks key)) M
theorem zC(hu:X.A.units+1 < cLine):OpR X (compareOp .In) (fun y x H Q=>∃a o,x=V.ref a∧y4 H a y o∧Q (.bl o.isSome) H):=by
 intro pins s σ H x y u v Q I rx ry ⟨a,o,ex,g,q⟩
 subst ex
 obtain rfl:v=Value.ref a:=ry
 exact HM hu I g rx fun s3 I3=>⟨.bl o.isSome,H,I3,rfl,q⟩
theorem GQ{K:PySem.W.Frag}:OpD K (fun y x H Q=>∃a o,x=V.ref a∧y4 H a y o∧Q (.bl o.isSome) H) FH:=by
 intro G0 L0 H0 G L M H v1 v2 d1 d2 q e r n1 n2 ⟨k,ks,ds,key,ed,hm,hk,h⟩
 subst ed
 obtain ⟨a,rfl,hk1⟩:=n2
 obtain ⟨_,vs,hH,hl,dn⟩:=r.ats k a _ hk1 hm
 refine ⟨a,_,rfl, .inl ⟨_,key, .inl hH,mr hk n1,rfl⟩, ?_⟩
 have hl2:ks.length=vs.length:=hl.trans dn.length
 rw [iT hl2]
 exact dF e r h
theorem Fi(hr:eK k' X.A)(ja:JE X R a ta)(jb:JE X R b tb)(hm:behindInMarks .In b=false:=by rfl):JE X R (.Compare a [.In] [b] pos) (dOp FH ta tb):=tY (zC (wA hr)) GQ ja jb hm
theorem Df(hr:eK k' X.A)(ja:JE X R a ta)(jb:JE X R b tb)(hm:behindInMarks .In b=false:=by rfl):JT X R (.Compare a [.In] [b] pos) (sR (dOp FH ta tb)):=g8 (zC (wA hr)) GQ ja jb hm
end
def pO(ks:List Key)(k:Key):List Key:=if inK ks k=true then ks else ks++[k]
def kh{α:Type}(k:Key)(v:α):List Key→List α→List α
 | c::ks,x::xs=>(if c=k then v else x)::kh k v ks xs
 | _,_=>[]
def lJ{α:Type}(ks:List Key)(k:Key)(xs:List α)(v:α):List α:=if inK ks k=true then kh k v ks xs else xs++[v]
theorem nz{α:Type}{k:Key}{v:α}:∀{ks:List Key} {xs:List α},ks.length=xs.length→(kh k v ks xs).length=ks.length
 | [],[],_=>rfl
 | _::ks,_::xs,h=>by
  have h:ks.length=xs.length:=by simpa using h
  show (kh k v ks xs).length+1=ks.length+1
  rw [nz h]
theorem ny{k:Key}{v:V}:∀{ks:List Key} {vs:List V},ks.length=vs.length→(ks.zip vs).map (fun kv=>if kv.1=k then (kv.1,v) else kv)=ks.zip (kh k v ks vs)
 | [],[],_=>rfl
 | c::ks,x::vs,h=>by
  have h:ks.length=vs.length:=by simpa using h
  rw [aa2,aaN,ny h]
  show _=(c,if c=k then v else x)::ks.zip (kh k v ks vs)
  congr 1
  show (if c=k then (c,v) else (c,x))=_
  split <;> rfl
theorem nA{K:PySem.W.Frag}{G:Hp}{L:List Addr}{k:Key}{d:Dt}{v:V}(n:Den K G L d v):∀{ks:List Key} {ds:List Dt} {vs:List V},bb K G L ds vs→ks.length=ds.length→bb K G L (kh k d ks ds) (kh k v ks vs)
 | [],[],_,h,_=>by cases h;rfl
 | c::ks,x::ds,_,⟨y,vs,e,n0,ns⟩,hl=>by
  subst e
  have hl:ks.length=ds.length:=by simpa using hl
  refine ⟨_,_,rfl, ?_,nA n ns hl⟩
  show Den K G L (if c=k then d else x) (if c=k then v else y)
  split
  ·exact n
  ·exact n0
theorem Cj{k:Key}{v:V}{ks:List Key}{vs:List V}(h:ks.length=vs.length):kG (ks.zip vs) k v=(pO ks k).zip (lJ ks k vs v):=by
 unfold kG pO lJ
 rw [iU,iT h]
 split
 ·exact ny h
 ·rw [List.zip_append h];rfl
def uY(to ti tv:DE):DS:=fun Dn ρ M=>tv ρ M (fun y M1=>to ρ M1 (fun d M2=>ti ρ M2 (fun di M3=>∃k ks ds key,d= .loc k∧M3[k]? =some (.dct ks ds)∧Dc di=some key∧ks.length < 1000∧Dn.nx ρ (M3.set k (.dct (pO ks key) (lJ ks key ds y)))) Dn.x) Dn.x) Dn.x
section
variable{X:Cx}{R:St→XK}{o i value:Expr}{to ti tv:DE}{pos pos':Pos}{k':Nat}
theorem wa(hr:eK k' X.A)(ho:JE X R o to)(hi:JE X R i ti)(hv:JE X R value tv)(hs:swapsWith value (some (.Subscript o i pos')) pos.line X.env=pure false:=by rfl):JS X R (.Assign [.Subscript o i pos'] value pos) (uY to ti tv):=
 .of (AF (wA hr) ho hi hv hs) fun σ H G L ρ M Dn rl n h hx=>by
  refine ⟨G,L,ρ,M,_,_,rl,n,h,hx,fun v H1 ⟨dv,G1,L1,M1,e1,r1,n1,h1⟩=> ?_⟩
  refine ⟨G1,L1,ρ,M1,_,_,r1,n.mono e1,h1,hx.on e1,fun ov H2 ⟨d,G2,L2,M2,e2,r2,n2,h2⟩=> ?_⟩
  refine ⟨G2,L2,ρ,M2,_,_,r2,(n.mono e1).mono e2,h2,(hx.on e1).on e2,fun iv H3 ⟨di,G3,L3,M3,e3,r3,n3,k,ks,ds,key,ed,hm,hk,hlen,h3⟩=> ?_⟩
  subst ed
  obtain ⟨a,rfl,hka⟩:=n2
  have hk3:=e3.l.get hka
  obtain ⟨_,vs,hH,hl,dn⟩:=r3.ats k a _ hk3 hm
  have e23:=e2.trans e3
  have dv3:=Den.mono e23.g e23.l _ _ n1
  have hl2:ks.length=vs.length:=hl.trans dn.length
  obtain rfl:iv=kV key:=mr hk n3
  have z:(ks.zip vs).length < sizeLine:=by
   rw [abl]
   exact aaO (Nat.min_le_left _ _) (Nat.lt_trans hlen (by decide))
  refine ⟨a,_,rfl,Ee.k hH z,ρ,G3,L3,_,((e1.trans e2).trans e3).trans (r3.exS hk3),r3.setM (m:= .dct (pO ks key) (lJ ks key ds dv)) hk3 ⟨lJ ks key vs v,by rw [aC,Cj hl2], ?_, ?_⟩,(((n.mono e1).mono e2).mono e3).mono (r3.exS (o:= .own a) hk3),h3⟩
  ·unfold pO lJ
   split
   ·rw [nz hl]
   ·rw [aap,aap,hl];rfl
  ·unfold lJ
   split
   ·exact nA dv3 dn hl
   ·exact dn.app ⟨_,_,rfl,dv3,rfl⟩
end
section
variable{X:Cx}{R:St→XK}{o i e f a b v1 v2:Expr}{to ti te ta tb tx t1 t2:DE}{t:DA}{pos p apos cpos:Pos}{k':Nat}
def wL:Dt→Dt→Ms→DQ→Prop:=fun di d M q=>∃k ks ds key,d= .loc k∧M[k]? =some (.dct ks ds)∧Dc di=some key∧q (.bl (!inK ks key)) M
theorem vD(hu:X.A.units+1 < cLine):OpR X (compareOp .NotIn) (fun y x H Q=>∃a o,x=V.ref a∧y4 H a y o∧Q (.bl (!o.isSome)) H):=by
 intro pins s σ H x y u v Q I rx ry ⟨a,o,ex,g,q⟩
 subst ex
 obtain rfl:v=Value.ref a:=ry
 exact Bs hu I g rx fun s3 I3=>⟨.bl (!o.isSome),H,I3,rfl,q⟩
theorem Br{K:PySem.W.Frag}:OpD K (fun y x H Q=>∃a o,x=V.ref a∧y4 H a y o∧Q (.bl (!o.isSome)) H) wL:=by
 intro G0 L0 H0 G L M H v1 v2 d1 d2 q e r n1 n2 ⟨k,ks,ds,key,ed,hm,hk,h⟩
 subst ed
 obtain ⟨a,rfl,hk1⟩:=n2
 obtain ⟨_,vs,hH,hl,dn⟩:=r.ats k a _ hk1 hm
 refine ⟨a,_,rfl, .inl ⟨_,key, .inl hH,mr hk n1,rfl⟩, ?_⟩
 have hl2:ks.length=vs.length:=hl.trans dn.length
 rw [iT hl2]
 exact dF e r h
theorem v7(hr:eK k' X.A)(ja:JE X R a ta)(jb:JE X R b tb)(hm:behindInMarks .NotIn b=false:=by rfl):JT X R (.Compare a [.NotIn] [b] pos) (sR (dOp wL ta tb)):=g8 (vD (wA hr)) Br ja jb hm
theorem oJ:fJ X (.type "dict") (fun xs H Q=>∃a kvs,xs=[V.ref a]∧Rd H a (.dK kvs)∧∀p,H p=none→Q (.ref p) (upd H p (.dK kvs))):=by
 intro pins s σ H xs us Q I r ⟨a,kvs,ex,e,q⟩
 subst ex
 cases r with
 | cons r1 r2=>
  cases r2
  cases r1
  exact yR I e fun p s' hp I'=>⟨.ref p,_,I',rfl,q p hp⟩
def Bl:List Dt→Ms→DQ→Prop
 | [d],M,q=>∃k ks ds,d= .loc k∧M[k]? =some (.dct ks ds)∧q (.loc M.length) (M++[.dct ks ds])
 | _,_,_=>False
theorem FN{K:PySem.W.Frag}:CaD K (fun xs H Q=>∃a kvs,xs=[V.ref a]∧Rd H a (.dK kvs)∧∀p,H p=none→Q (.ref p) (upd H p (.dK kvs))) Bl:=by
 intro G0 L0 H0 G L M H vs ds q e r n h
 unfold Bl at h
 split at h
 ·rename_i d
  obtain ⟨v,rfl,n1⟩:=b7 n
  obtain ⟨k,ks,ds,ed,hm,h⟩:=h
  subst ed
  obtain ⟨a,rfl,hk⟩:=n1
  obtain ⟨_,vs,hH,hl,dn⟩:=r.ats k a _ hk hm
  refine ⟨a,_,rfl, .inl hH,fun p hp=> ?_⟩
  exact ⟨.loc M.length,G,L++[p],_,e.trans (r.exM hp),r.newM (m:= .dct ks ds) hp ⟨vs,aC,hl,bb.mono (.refl _) ⟨[p],rfl⟩ _ _ dn⟩,⟨p,rfl,by rw [←r.len,List.getElem?_append_right (Nat.le_refl _)];simp⟩,h⟩
 ·exact h.elim
theorem uk:bootBuiltins "dict"=some (.type "dict"):=by decide+kernel
theorem sd(hm:X.mg "dict"=none)(ha:JA X R [e] t)(hg:Gl X "dict":=by rfl)(he:starEach [e] X.env=(false,eval e X.env)::starEach [] X.env:=by rfl)(hpl:(backTo pos (starEach [] X.env)).any (·.1)=false:=by rfl):JE X R (.Call (.Name "dict" p) [e] [] pos) (dFn Bl t):=
 se oJ FN hm uk ha hg (by decide) (by decide) he hpl
end
section
variable{X:Cx}{R:St→XK}{o e f v1 v2:Expr}{to te tx t1 t2:DE}{pos apos cpos:Pos}
theorem AQ{K:PySem.W.Frag}{G1:Hp}{L1:List Addr}{H1 G:Hp}{L:List Addr}{M:Ms}{H:Hp}{p:Addr}{ks:List Key}{ds:List Dt}{vs:List V}{q:DQ}(e:Ex G1 L1 H1 G L H)(r:Rl K G L M H)(hp1:H1 p=none)(hg:G p=none)(hl:p∉L)(h:H p=some (.dK (ks.zip vs)))(hk:ks.length=ds.length)(n:bb K G L ds vs)(k:q (.loc M.length) (M++[.dct ks ds])):Fin K G1 L1 H1 q (.ref p) H:=by
 refine ⟨.loc M.length,G,L++[p],M++[.dct ks ds],⟨e.g,e.l.trans ⟨[p],rfl⟩,e.fr,e.out,fun b hb=> ?_,e.dom⟩,⟨r.sub,by rw [List.length_append,List.length_append,r.len];rfl,List.nodup_append.mpr ⟨r.nd,by simp,fun a ha b hb=> ?_⟩,fun k a m h1 h2=> ?_⟩,⟨p,rfl,by rw [←r.len,List.getElem?_append_right (Nat.le_refl _)];simp⟩,k⟩
 ·rcases aaL.mp hb with z | z
  ·exact e.new b z
  ·have e:b=p:=by simpa using z
   right;rw [e];exact hp1
 ·have e:b=p:=by simpa using hb
  rw [e];exact fun z=>hl (z▸ha)
 ·by_cases hk':k < L.length
  ·rw [aav hk'] at h1
   rw [aav (by rw [←r.len];exact hk')] at h2
   obtain ⟨q1,q2⟩:=r.ats k a m h1 h2
   exact ⟨q1,q2.mono (.refl _) ⟨[p],rfl⟩ rfl⟩
  ·have e:k=L.length:=by
    have:=(aai.mp h1).1
    rw [aap] at this
    simp at this
    omega
   rw [e,aam (aak _)] at h1
   rw [e,r.len,aam (aak _)] at h2
   simp at h1 h2
   subst h1 h2
   exact ⟨hg,vs,h,hk,bb.mono (.refl _) ⟨[p],rfl⟩ _ _ n⟩
theorem qv{z1 z2:Str}{c1 c2:Nat}{p1 p2:Pos}(hv1:JE X R v1 t1)(hv2:JE X R v2 t2)(hne:z1≠z2:=by decide):
  JE X R (.Dict [some (.Constant (.str z1) c1 p1),some (.Constant (.str z2) c2 p2)] [v1,v2] pos) (fun ρ M q x=>t1 ρ M (fun d1 M1=>t2 ρ M1 (fun d2 M2=>q (.loc M2.length) (M2++[.dct [Sum.inr z1,Sum.inr z2] [d1,d2]])) x) x):=
 .of (AJ (rE pcs hv1 (rE pcs hv2 AG)) rfl rfl (by simp) (by show 2≤15;decide)) fun σ H G L ρ M q x rl n h hx=>by
  intro p hp
  have gn:G p=none:=rl.sub.free hp
  have ln:p∉L:=rl.memN hp
  have e0:Ex G L H G L (upd H p (.dK [])):=⟨.refl _, .refl _,fun _ h _=>h,fun b u h1 _=>by rw [av (fun z=>by rw [z,hp] at h1;cases h1)];exact h1,fun _ h=> .inl h,fun b h=>by rw [av (fun z=>h (by rw [z];exact hp))];exact h⟩
  have r0:Rl X.K G L M (upd H p (.dK [])):=⟨fun b u e=>by rw [av (fun z=>by rw [z,gn] at e;cases e)];exact rl.sub b u e,rl.len,rl.nd,fun i a m h1 h2=>by
   obtain ⟨q1,q2⟩:=rl.ats i a m h1 h2
   exact ⟨q1,q2.mono (.refl _) (.refl _) (av fun z=>q2.there (by rw [z];exact hp))⟩⟩
  refine ⟨G,L,ρ,M,_,x,r0,n,h,hx.on e0,fun u1 H1 ⟨d1,G1,L1,M1,e1,r1,n1,h1⟩=> ?_⟩
  have hp1:H1 p=some (.dK []):=e1.out _ _ aC ln
  have g1:G1 p=none:=e1.fr _ gn (by rw [aC];simp)
  have l1:p∉L1:=fun z=>(e1.new _ z).elim ln fun q=>by rw [aC] at q;cases q
  refine ⟨G1,L1,ρ,M1,_,x,r1,n.mono (e0.trans e1),h1,hx.on (e0.trans e1),fun u2 H2 ⟨d2,G2,L2,M2,e2,r2,n2,h2⟩=> ?_⟩
  have hp2:H2 p=some (.dK []):=e2.out _ _ hp1 l1
  have g2:G2 p=none:=e2.fr _ g1 (by rw [hp1];simp)
  have l2:p∉L2:=fun z=>(e2.new _ z).elim l1 fun q=>by rw [hp1] at q;cases q
  refine ⟨hp2,[(Sum.inr z1,u1),(Sum.inr z2,u2)],rfl,by show 2≤15;decide, ?_⟩
  rw [nV _ [] (fun _ _=>rfl) (by simp [hne]),List.nil_append]
  have e02:=(e0.trans e1).trans e2
  have gne:∀{b:Addr} {w:HO},G2 b=some w→b≠p:=fun e z=>by rw [z,g2] at e;cases e
  refine AQ (G:=G2) (L:=L2) (M:=M2) (ks:=[Sum.inr z1,Sum.inr z2]) (ds:=[d1,d2]) (vs:=[u1,u2]) ⟨e02.g,e02.l,e02.fr,fun b w h1 h2=> ?_,e02.new,fun b h=> ?_⟩ ⟨fun b w e=> ?_,r2.len,r2.nd,fun i a m h1 h2=> ?_⟩ hp g2 l2 aC rfl ⟨_,_,rfl,Den.mono e2.g e2.l _ _ n1,_,_,rfl,n2,rfl⟩ h2
  ·rw [av (fun z=>by rw [z,hp] at h1;cases h1)];exact e02.out b w h1 h2
  ·by_cases hb:b=p
   ·rw [hb,aC];simp
   ·rw [av hb];exact e02.dom b h
  ·rw [av (gne e)];exact r2.sub b w e
  ·obtain ⟨q1,q2⟩:=r2.ats i a m h1 h2
   exact ⟨q1,q2.mono (.refl _) (.refl _) (av fun z=>l2 (by rw [←z];exact aag h1))⟩
end
end L2
namespace Fr0
def g(a b:Int):Int:=(Int.gcd a b:Nat)
theorem wG{a b:Int}(h:b≠0):0 < g a b:=by
 have:=Int.gcd_pos_of_ne_zero_right a h
 unfold g;omega
theorem zR{a:Int}(h:0≤a):g a 0=a:=by
 unfold g;rw [Int.gcd_zero_right];omega
theorem zS{a b:Int}(hb:0 < b):g b (a.fmod b)=g a b:=by
 unfold g
 rw [abv a (aah hb),Int.gcd_comm a b]
 congr 1
 refine Int.gcd_right_eq_iff.mpr fun c hc=> ?_
 rw [Int.emod_def]
 constructor
 ·intro h
  have:=Int.dvd_add h (Int.dvd_mul_of_dvd_left (c:=a / b) hc)
  rwa [Int.sub_add_cancel] at this
 ·intro h
  exact Int.dvd_sub h (Int.dvd_mul_of_dvd_left (c:=a / b) hc)
theorem Du(a b:Int):g (if a < 0 then -a else a) (if b < 0 then -b else b)=g a b:=by
 unfold g
 split <;> split <;> simp
def dv(t b:Int):Int:=if b < 0 then -(g t b) else g t b
def bK(t b:Int):Int×Int:=(t.fdiv (dv t b),b.fdiv (dv t b))
theorem yP{t b:Int}(h:b≠0):dv t b≠0:=by
 have:=wG (a:=t) h
 unfold dv;split <;> omega
theorem sy{k p:Int}(h:k≠0):(k * p).fdiv k=p:=by
 rw [aaE];exact Int.mul_fdiv_cancel p h
theorem yO{t b:Int}(h:b≠0):∃p q:Int,t=dv t b * p∧b=dv t b * q∧0 < q∧Int.gcd p q=1:=by
 have hg:=wG (a:=t) h
 have h0:0 < Int.gcd t b:=Int.gcd_pos_of_ne_zero_right t h
 obtain ⟨p,hp⟩:=Int.gcd_dvd_left t b
 obtain ⟨q,hq⟩:=Int.gcd_dvd_right t b
 have hc:Int.gcd p q=1:=by
  have e:=Int.gcd_ediv_gcd_ediv_gcd h0
  have n0:(Int.gcd t b:Int)≠0:=by omega
  have e1:t / (Int.gcd t b:Int)=p:=by
   conv=>lhs;arg 1;rw [hp]
   exact aba p n0
  have e2:b / (Int.gcd t b:Int)=q:=by
   conv=>lhs;arg 1;rw [hq]
   exact aba q n0
  rwa [e1,e2] at e
 have hp':t=g t b * p:=hp
 have hq':b=g t b * q:=hq
 by_cases hb:b < 0
 ·have hd:dv t b= -(g t b):=by unfold dv;rw [if_pos hb]
  refine ⟨-p, -q, ?_, ?_, ?_, ?_⟩
  ·rw [hd,Int.neg_mul_neg];exact hp'
  ·rw [hd,Int.neg_mul_neg];exact hq'
  ·have:g t b * q < 0:=by rw [←hq'];exact hb
   by_cases q0:0≤q
   ·exact absurd (aaM (aah hg) q0) (by omega)
   ·omega
  ·simpa using hc
 ·have hd:dv t b=g t b:=by unfold dv;rw [if_neg hb]
  refine ⟨p,q,by rw [hd];exact hp',by rw [hd];exact hq', ?_,hc⟩
  have:0 < g t b * q:=by rw [←hq'];omega
  exact Int.pos_of_mul_pos_right this hg
theorem eI {t b : Int} (h : b ≠ 0) : ∃ p q : Int, bK t b = (p, q) ∧ 0 < q ∧ Int.gcd p q = 1 ∧ t = dv t b * p ∧ b = dv t b * q := by
  obtain ⟨p, q, hp, hq, h0, hc⟩ := yO (t := t) h
  have n0 := yP (t := t) h
  refine ⟨p, q, ?_, h0, hc, hp, hq⟩
  unfold bK
  have e1 : t.fdiv (dv t b) = p := by conv => lhs; arg 1; rw [hp]
                                      exact sy n0
  have e2 : b.fdiv (dv t b) = q := by conv => lhs; arg 1; rw [hq]
                                      exact sy n0
  rw [e1, e2]
theorem bT{t b:Int}(h:b≠0):t * (bK t b).2=b * (bK t b).1:=by
 obtain ⟨p,q,e,_,_,hp,hq⟩:=eI (t:=t) h
 rw [e]
 show t * q=b * p
 calc t * q=dv t b * p * q:=by rw [←hp]
  _=dv t b * q * p:=by rw [Int.mul_assoc,aaE p q,←Int.mul_assoc]
  _=b * p:=by rw [←hq]
theorem b6{t b:Int}(h:b≠0):0 < (bK t b).2:=by
 obtain ⟨p,q,e,h0,_⟩:=eI (t:=t) h
 rw [e];exact h0
theorem sk{t b:Int}(h:b≠0):Int.gcd (bK t b).1 (bK t b).2=1:=by
 obtain ⟨p,q,e,_,hc,_⟩:=eI (t:=t) h
 rw [e];exact hc
theorem j7{k m n:Int}(h:k∣m * n)(hc:Int.gcd k m=1):k∣n:=by
 have:=(Int.dvd_gcd_mul_iff_dvd_mul (k:=k) (n:=m) (m:=n)).mpr h
 rw [hc] at this
 simpa using this
theorem tT{p q p' q':Int}(hq:0 < q)(hq':0 < q')(h:Int.gcd p q=1)(h':Int.gcd p' q'=1)(e:p * q'=p' * q):p=p'∧q=q':=by
 have d1:q∣q':=by
  have:q∣p * q':=⟨p',by rw [e,aaE]⟩
  exact j7 this (by rw [Int.gcd_comm];exact h)
 have d2:q'∣q:=by
  have:q'∣p' * q:=⟨p,by rw [←e,aaE]⟩
  exact j7 this (by rw [Int.gcd_comm];exact h')
 have eq:q=q':=Int.le_antisymm (abQ hq' d1) (abQ hq d2)
 subst eq
 exact ⟨Int.eq_of_mul_eq_mul_right (by omega) e,rfl⟩
theorem qB{t b p q:Int}(h:b≠0)(hq:0 < q)(hc:Int.gcd p q=1)(e:t * q=b * p):bK t b=(p,q):=by
 have h1:=bT (t:=t) h
 have h2:=b6 (t:=t) h
 have h3:=sk (t:=t) h
 have h4:(bK t b).1 * q=p * (bK t b).2:=by
  have:b * ((bK t b).1 * q)=b * (p * (bK t b).2):=by
   rw [←Int.mul_assoc,←h1,Int.mul_right_comm,e,Int.mul_assoc]
  exact aaG h this
 have:=tT h2 hq h3 hc h4
 exact Prod.ext this.1 this.2
theorem wI{p q:Int}(hq:0 < q)(hc:Int.gcd p q=1):bK p q=(p,q):=qB (by omega) hq hc (aaE _ _)
theorem oy{t b:Int}(h:b≠0):(dv t b).natAbs≤b.natAbs:=by
 have e:(dv t b).natAbs=Int.gcd t b:=by unfold dv g;split <;> omega
 rw [e]
 exact Int.gcd_le_natAbs_right t h
theorem mE {t b : Int} (h : b ≠ 0) : (bK t b).1.natAbs ≤ t.natAbs := by
  obtain ⟨p, q, e, _, _, hp, _⟩ := eI (t := t) h
  have n0 := yP (t := t) h
  rw [e]
  show p.natAbs ≤ t.natAbs
  have : t.natAbs = (dv t b).natAbs * p.natAbs := by conv => lhs; rw [hp]
                                                     exact aaW _ _
  rw [this]
  exact Nat.le_mul_of_pos_left _ (by omega)
theorem hI {t b : Int} (h : b ≠ 0) : (bK t b).2.natAbs ≤ b.natAbs := by
  obtain ⟨p, q, e, _, _, _, hq⟩ := eI (t := t) h
  have n0 := yP (t := t) h
  rw [e]
  show q.natAbs ≤ b.natAbs
  have : b.natAbs = (dv t b).natAbs * q.natAbs := by conv => lhs; rw [hq]
                                                     exact aaW _ _
  rw [this]
  exact Nat.le_mul_of_pos_left _ (by omega)
theorem Bi{t b:Int}(h:0 < b):bK t b=(t.fdiv (g t b),b.fdiv (g t b)):=by
 unfold bK dv
 rw [if_neg (by omega)]
end Fr0
namespace Tx
open PySem PySem.NumText
end Tx
namespace Bz
abbrev Row:=Nat→Int
abbrev Fn:=List Nat→Int
def Lx(x:Row):Fn→Fn
 | _,[]=>0
 | F,c::cs=>x c * F cs - Lx x (fun t=>F (c::t)) cs
theorem xJ(x:Row):∀(cs:List Nat) (F G:Fn),Lx x (fun t=>F t+G t) cs=Lx x F cs+Lx x G cs
 | [],F,G=>by simp [Lx]
 | c::cs,F,G=>by
  have:=xJ x cs (fun t=>F (c::t)) (fun t=>G (c::t))
  simp only [Lx]
  rw [this];grind
theorem kc(x:Row)(k:Int):∀(cs:List Nat) (F:Fn),Lx x (fun t=>k * F t) cs=k * Lx x F cs
 | [],F=>by simp [Lx]
 | c::cs,F=>by
  have:=kc x k cs (fun t=>F (c::t))
  simp only [Lx]
  rw [this];grind
theorem Ah(x:Row)(cs:List Nat)(F G:Fn):Lx x (fun t=>F t - G t) cs=Lx x F cs - Lx x G cs:=by
 have h1:=xJ x cs F (fun t=>(-1) * G t)
 have h2:=kc x (-1) cs G
 have e:(fun t=>F t - G t)=fun t=>F t+(-1) * G t:=by funext t;grind
 rw [e,h1,h2];grind
theorem xI(x:Row):∀(cs:List Nat),Lx x (fun _=>0) cs=0
 | []=>rfl
 | c::cs=>by simp only [Lx];rw [xI x cs];simp
theorem qR(x y:Row):∀(cs:List Nat) (F:Fn),Lx x (Lx y F) cs= - Lx y (Lx x F) cs
 | [],F=>rfl
 | c::cs,F=>by
  have ih:=qR x y cs (fun t=>F (c::t))
  have e1:(fun t=>Lx y F (c::t))=fun t=>y c * F t - Lx y (fun u=>F (c::u)) t:=rfl
  have e2:(fun t=>Lx x F (c::t))=fun t=>x c * F t - Lx x (fun u=>F (c::u)) t:=rfl
  show x c * Lx y F cs - Lx x (fun t=>Lx y F (c::t)) cs= -(y c * Lx x F cs - Lx y (fun t=>Lx x F (c::t)) cs)
  rw [e1,e2,Ah,Ah,kc,kc,ih]
  grind
theorem BH(x:Row)(cs:List Nat)(F:Fn):Lx x (Lx x F) cs=0:=by
 have:=qR x x cs F
 omega
theorem qQ(x:Row)(d:Nat):∀(cs:List Nat) (F:Fn),Lx x F (cs++[d])=Lx x (fun t=>F (t++[d])) cs+(-1) ^ cs.length * (x d * F cs)
 | [],F=>by simp [Lx]
 | c::cs,F=>by
  have:=qQ x d cs (fun t=>F (c::t))
  show x c * F (cs++[d]) - Lx x (fun t=>F (c::t)) (cs++[d])=_
  rw [this]
  show _=(x c * F (cs++[d]) - Lx x (fun t=>F (c::(t++[d]))) cs)+(-1) ^ (cs.length+1) * (x d * F (c::cs))
  have e:(fun t=>F (c::(t++[d])))=fun t=>(fun u=>F (c::u)) (t++[d]):=rfl
  rw [e,aaP]
  grind
theorem sM(x:Row){F G:Fn}{n:Nat}:∀(cs:List Nat),(∀t,t.length+1=cs.length→F t=G t)→Lx x F cs=Lx x G cs:=by
 intro cs
 induction cs generalizing F G with
 | nil=>intro _;rfl
 | cons c cs ih=>
  intro h
  simp only [Lx]
  rw [h cs (by simp),ih (F:=fun t=>F (c::t)) (G:=fun t=>G (c::t)) fun t ht=>h (c::t) (by simp;omega)]
def ay(f:Nat→Int):Nat→Int
 | 0=>0
 | n+1=>ay f n+f n
theorem eL(f g:Nat→Int):∀n,ay (fun i=>f i+g i) n=ay f n+ay g n
 | 0=>rfl
 | n+1=>by simp only [ay];rw [eL f g n];omega
theorem az(k:Int)(f:Nat→Int):∀n,ay (fun i=>k * f i) n=k * ay f n
 | 0=>by simp [ay]
 | n+1=>by simp only [ay];rw [az k f n,Int.mul_add]
theorem ao{f g:Nat→Int}:∀{n:Nat},(∀i,i < n→f i=g i)→ay f n=ay g n
 | 0,_=>rfl
 | n+1,h=>by simp only [ay];rw [ao fun i hi=>h i (by omega),h n (by omega)]
theorem fk{f:Nat→Int}{n:Nat}(h:∀i,i < n→f i=0):ay f n=0:=by
 rw [ao h]
 clear h
 induction n with
 | zero=>rfl
 | succ n ih=>simp only [ay];rw [ih];rfl
theorem fL{f:Nat→Int}{n j:Nat}(hj:j < n)(h:∀i,i < n→i≠j→f i=0):ay f n=f j:=by
 induction n with
 | zero=>omega
 | succ n ih=>
  simp only [ay]
  by_cases e:j=n
  ·subst e
   rw [fk fun i hi=>h i (by omega) (by omega)];omega
  ·rw [ih (by omega) fun i hi hne=>h i (by omega) hne,h n (by omega) (by omega)];omega
theorem hZ(f:Nat→Int):∀n,ay f (n+1)=f 0+ay (fun i=>f (i+1)) n
 | 0=>by simp [ay]
 | n+1=>by
  have:=hZ f n
  rw [show ay f (n+1+1)=ay f (n+1)+f (n+1) from rfl,this]
  simp only [ay];omega
theorem cy(f:Nat→Nat→Int)(m:Nat):∀n,ay (fun i=>ay (f i) m) n=ay (fun j=>ay (fun i=>f i j) n) m
 | 0=>by
  rw [show ay (fun i=>ay (f i) m) 0=0 from rfl]
  exact (fk fun _ _=>rfl).symm
 | n+1=>by
  rw [show ay (fun i=>ay (f i) m) (n+1)=ay (fun i=>ay (f i) m) n+ay (f n) m from rfl,cy f m n,←eL]
  rfl
theorem sL(x:Row):∀(cs:List Nat) (F:Fn),Lx x F cs=ay (fun p=>(-1) ^ p * (x (cs.getD p 0) * F (cs.eraseIdx p))) cs.length
 | [],F=>rfl
 | c::cs,F=>by
  have ih:=sL x cs (fun t=>F (c::t))
  show x c * F cs - Lx x (fun t=>F (c::t)) cs=_
  rw [aas,hZ,ih]
  have e:ay (fun p=>(-1) ^ (p+1) * (x ((c::cs).getD (p+1) 0) * F ((c::cs).eraseIdx (p+1)))) cs.length= -1 * ay (fun p=>(-1) ^ p * (x (cs.getD p 0) * F (c::cs.eraseIdx p))) cs.length:=by
   rw [←az]
   refine ao fun p _=> ?_
   simp only [List.getD_cons_succ,List.eraseIdx_cons_succ]
   rw [Int.pow_succ];grind
  rw [e]
  simp only [List.getD_cons_zero,List.eraseIdx_cons_zero,Int.pow_zero]
  omega
def F0:Fn:=fun cs=>if cs=[] then 1 else 0
def D:List Row→Fn
 | []=>F0
 | x::xs=>Lx x (D xs)
theorem kf(y:Row):∀(xs ys:List Row) (cs:List Nat),D (xs++y::ys) cs=(-1) ^ xs.length * D (y::(xs++ys)) cs
 | [],ys,cs=>by simp
 | x::xs,ys,cs=>by
  show Lx x (D (xs++y::ys)) cs=_
  have e:D (xs++y::ys)=fun t=>(-1) ^ xs.length * D (y::(xs++ys)) t:=by funext t;exact kf y xs ys t
  rw [e,kc]
  show (-1) ^ xs.length * Lx x (Lx y (D (xs++ys))) cs=(-1) ^ (xs.length+1) * Lx y (Lx x (D (xs++ys))) cs
  rw [qR x y,Int.pow_succ];grind
theorem Gi(y:Row)(xs ys zs:List Row)(cs:List Nat):D (xs++y::(ys++y::zs)) cs=0:=by
 rw [kf]
 have e:D (y::(xs++(ys++y::zs))) cs=Lx y (fun t=>D (xs++(ys++y::zs)) t) cs:=rfl
 have e2:(fun t=>D (xs++(ys++y::zs)) t)=fun t=>(-1) ^ (xs++ys).length * Lx y (D (xs++ys++zs)) t:=by
  funext t
  rw [←List.append_assoc,kf];rfl
 rw [e,e2,kc,BH];simp
def adj(rows:List Row)(cols:List Nat)(p k:Nat):Int:=(-1) ^ (p+k) * D (rows.eraseIdx k) (cols.eraseIdx p)
def zr:Row:=fun _=>0
theorem C1(n:Nat):((-1:Int) ^ n) * (-1) ^ n=1:=by
 induction n with
 | zero=>rfl
 | succ n ih=>rw [Int.pow_succ];grind
theorem xZ{α:Type}:∀{l:List α} {k:Nat} (h:k < l.length),l=l.take k++l[k]::l.drop (k+1):=by
 intro l k h
 rw [List.getElem_cons_drop,List.take_append_drop]
theorem vR{α:Type}{l:List α}{i k:Nat}(hi:i < l.length)(hne:i≠k):l[i]∈l.eraseIdx k:=by
 rw [List.mem_eraseIdx_iff_getElem]
 exact ⟨i,hi,hne,rfl⟩
theorem PA{rows:List Row}{cols:List Nat}{i k:Nat}(hl:cols.length=rows.length)(hi:i < rows.length)(hk:k < rows.length):ay (fun p=>rows.getD i zr (cols.getD p 0) * adj rows cols p k) rows.length=if i=k then D rows cols else 0:=by
 have gi:rows.getD i zr=rows[i]:=by rw [aab,aaa hi];rfl
 have e:ay (fun p=>rows.getD i zr (cols.getD p 0) * adj rows cols p k) rows.length=(-1) ^ k * D (rows.getD i zr::rows.eraseIdx k) cols:=by
  show _=(-1) ^ k * Lx (rows.getD i zr) (D (rows.eraseIdx k)) cols
  rw [sL,←az,hl]
  refine ao fun p _=> ?_
  unfold adj
  rw [Int.pow_add];grind
 rw [e,gi]
 by_cases h:i=k
 ·subst h
  rw [if_pos rfl]
  have s:=xZ hi
  have f:=kf rows[i] (rows.take i) (rows.drop (i+1)) cols
  rw [←s,abH,ab0 (by omega)] at f
  rw [f,List.eraseIdx_eq_take_drop_succ]
 ·rw [if_neg h]
  obtain ⟨ys,zs,e2⟩:=List.append_of_mem (vR hi h)
  rw [e2]
  have:=Gi rows[i] [] ys zs cols
  rw [show D (rows[i]::(ys++rows[i]::zs)) cols=0 from this];simp
theorem qP(x:Row)(g:Nat→Int)(F:Nat→Fn)(cs:List Nat):∀n,Lx x (fun t=>ay (fun k=>g k * F k t) n) cs=ay (fun k=>g k * Lx x (F k) cs) n
 | 0=>xI x cs
 | n+1=>by
  have:=xJ x cs (fun t=>ay (fun k=>g k * F k t) n) (fun t=>g n * F n t)
  show Lx x (fun t=>ay (fun k=>g k * F k t) n+g n * F n t) cs=_
  rw [this,qP x g F cs n,kc];rfl
theorem Ed(c:Nat):∀(rows:List Row) (t:List Nat),D rows (t++[c])=ay (fun k=>(-1) ^ (t.length+k) * (rows.getD k zr c * D (rows.eraseIdx k) t)) rows.length
 | [],t=>by
  show F0 (t++[c])=0
  unfold F0;simp
 | x::xs,t=>by
  show Lx x (D xs) (t++[c])=_
  rw [qQ,aas,hZ]
  have e:Lx x (fun u=>D xs (u++[c])) t=ay (fun k=>(-1) ^ (t.length+(k+1)) * ((x::xs).getD (k+1) zr c * D ((x::xs).eraseIdx (k+1)) t)) xs.length:=by
   have e1:Lx x (fun u=>D xs (u++[c])) t=Lx x (fun u=>ay (fun k=>((-1) ^ (t.length+(k+1)) * xs.getD k zr c) * D (xs.eraseIdx k) u) xs.length) t:=by
    refine sM x (n:=0) t fun u hu=> ?_
    rw [Ed c xs u]
    refine ao fun k _=> ?_
    rw [←hu,show u.length+1+(k+1)=u.length+k+1+1 by omega,Int.pow_succ,Int.pow_succ];grind
   rw [e1,qP x (fun k=>(-1) ^ (t.length+(k+1)) * xs.getD k zr c) (fun k=>D (xs.eraseIdx k))]
   refine ao fun k _=> ?_
   simp only [List.getD_cons_succ,List.eraseIdx_cons_succ]
   show _=(-1) ^ (t.length+(k+1)) * (xs.getD k zr c * Lx x (D (xs.eraseIdx k)) t)
   grind
  rw [e]
  simp only [List.getD_cons_zero,List.eraseIdx_cons_zero,Nat.add_zero]
  omega
theorem y3{rows:List Row}{cols:List Nat}{y:Row}{c:Nat}(hl:cols.length=rows.length):D (rows++[y]) (cols++[c])=y c * D rows cols - ay (fun p=>y (cols.getD p 0) * ay (fun k=>adj rows cols p k * rows.getD k zr c) rows.length) rows.length:=by
 rw [kf,aaT]
 show (-1) ^ rows.length * Lx y (D rows) (cols++[c])=_
 rw [qQ]
 have e1:Lx y (fun t=>D rows (t++[c])) cols= - ((-1) ^ rows.length * ay (fun p=>y (cols.getD p 0) * ay (fun k=>adj rows cols p k * rows.getD k zr c) rows.length) rows.length):=by
  have e2:Lx y (fun t=>D rows (t++[c])) cols=Lx y (fun t=>ay (fun k=>(-((-1) ^ (rows.length+k) * rows.getD k zr c)) * D (rows.eraseIdx k) t) rows.length) cols:=by
   refine sM y (n:=0) cols fun t ht=> ?_
   rw [Ed c rows t]
   refine ao fun k _=> ?_
   rw [←hl,←ht,show t.length+1+k=t.length+k+1 by omega,Int.pow_succ];grind
  rw [e2,qP y (fun k=> -((-1) ^ (rows.length+k) * rows.getD k zr c)) (fun k=>D (rows.eraseIdx k))]
  have e3:ay (fun k=> -((-1) ^ (rows.length+k) * rows.getD k zr c) * Lx y (D (rows.eraseIdx k)) cols) rows.length=ay (fun k=>ay (fun p=> -((-1) ^ rows.length) * (y (cols.getD p 0) * (adj rows cols p k * rows.getD k zr c))) rows.length) rows.length:=by
   refine ao fun k _=> ?_
   rw [sL,←az,hl]
   refine ao fun p _=> ?_
   unfold adj
   rw [Int.pow_add,Int.pow_add];grind
  rw [e3,cy]
  have e4:ay (fun p=>ay (fun k=> -((-1) ^ rows.length) * (y (cols.getD p 0) * (adj rows cols p k * rows.getD k zr c))) rows.length) rows.length=ay (fun p=> -((-1) ^ rows.length) * (y (cols.getD p 0) * ay (fun k=>adj rows cols p k * rows.getD k zr c) rows.length)) rows.length:=by
   refine ao fun p _=> ?_
   rw [az,az]
  rw [e4,az];grind
 rw [e1,hl]
 have s:=C1 rows.length
 generalize ((-1:Int) ^ rows.length)=z at *
 generalize ay _ rows.length=q
 grind
theorem zp{rows:List Row}{cols:List Nat}{v:Nat→Int}{e:Int}{i k:Nat}(hl:cols.length=rows.length)(hi:i < rows.length)(hk:k < rows.length)
  (h:∀p,p < rows.length→ay (fun j=>v j * rows.getD j zr (cols.getD p 0)) rows.length=if i=p then e else 0):v k * D rows cols=e * adj rows cols i k:=by
 have a:ay (fun p=>ay (fun j=>v j * rows.getD j zr (cols.getD p 0)) rows.length * adj rows cols p k) rows.length=e * adj rows cols i k:=by
  rw [fL hi fun p hp hne=>by rw [h p hp,if_neg (Ne.symm hne)];simp]
  rw [h i hi,if_pos rfl]
 have b:ay (fun p=>ay (fun j=>v j * rows.getD j zr (cols.getD p 0)) rows.length * adj rows cols p k) rows.length=ay (fun j=>v j * ay (fun p=>rows.getD j zr (cols.getD p 0) * adj rows cols p k) rows.length) rows.length:=by
  have e1:ay (fun p=>ay (fun j=>v j * rows.getD j zr (cols.getD p 0)) rows.length * adj rows cols p k) rows.length=ay (fun p=>ay (fun j=>v j * (rows.getD j zr (cols.getD p 0) * adj rows cols p k)) rows.length) rows.length:=by
   refine ao fun p _=> ?_
   rw [aaE,←az]
   refine ao fun j _=> ?_
   grind
  rw [e1,cy]
  refine ao fun j _=> ?_
  rw [←az]
 rw [←a,b,fL hk fun j hj hne=>by rw [PA hl hj hk,if_neg hne];simp]
 rw [PA hl hk hk,if_pos rfl]
def ind(a k:Nat):Int:=if a=k then 1 else 0
def rv(A:Nat→Row)(n:Nat)(w:Row)(x:Nat):Int:=ay (fun k=>w k * A k x) n
theorem j2{f:Nat→Int}{a n:Nat}(h:a < n):ay (fun k=>ind a k * f k) n=f a:=by
 rw [fL h fun i _ hne=>by unfold ind;rw [if_neg (Ne.symm hne)];simp]
 unfold ind;rw [if_pos rfl];simp
theorem rz{A:Nat→Row}{n:Nat}{w u v:Row}{a b:Int}(h:∀k,w k=a * u k - b * v k)(x:Nat):rv A n w x=a * rv A n u x - b * rv A n v x:=by
 unfold rv
 have e:ay (fun k=>w k * A k x) n=ay (fun k=>a * (u k * A k x)+(-b) * (v k * A k x)) n:=ao fun k _=>by rw [h k];grind
 rw [e,eL,az,az];grind
theorem zm{A:Nat→Row}{n r:Nat}{w:Row}{g:Nat→Int}{u:Nat→Row}(h:∀k,w k=ay (fun j=>g j * u j k) r)(x:Nat):rv A n w x=ay (fun j=>g j * rv A n (u j) x) r:=by
 unfold rv
 have e:ay (fun k=>w k * A k x) n=ay (fun k=>ay (fun j=>g j * (u j k * A k x)) r) n:=ao fun k _=>by
  rw [h k,aaE,←az]
  exact ao fun j _=>by grind
 rw [e,cy]
 exact ao fun j _=>az _ _ _
theorem u3{A:Nat→Row}{n a:Nat}(h:a < n)(x:Nat):rv A n (ind a) x=A a x:=by
 unfold rv;exact j2 (f:=fun k=>A k x) h
structure St(A:Nat→Row)(n:Nat)(ρ cols:List Nat)(q:Nat→Nat)(d:Int)(W:Nat→Row):Prop where
 lc:cols.length=ρ.length
 rn:ρ.length≤n
 qlt:∀i,i < n→q i < n
 ρlt:∀j,j < ρ.length→ρ.getD j 0 < n
 det:D (ρ.map A) cols=d
 wp:∀i,i < ρ.length→∀k,W i k=ay (fun j=>adj (ρ.map A) cols i j * ind (ρ.getD j 0) k) ρ.length
 wn:∀i,ρ.length≤i→i < n→∀k,W i k=d * ind (q i) k - ay (fun p=>A (q i) (cols.getD p 0) * W p k) ρ.length
 one:∀i p,i < ρ.length→p < ρ.length→rv A n (W i) (cols.getD p 0)=if i=p then d else 0
section
variable{A:Nat→Row}{n:Nat}{ρ cols:List Nat}{q:Nat→Nat}{d:Int}{W:Nat→Row}
theorem ma{j:Nat}(h:j < ρ.length):(ρ.map A).getD j zr=A (ρ.getD j 0):=by
 rw [aab,aaf,aaa h,aab,aaa h];rfl
theorem St.rvp(s:St A n ρ cols q d W){i:Nat}(hi:i < ρ.length)(x:Nat):rv A n (W i) x=ay (fun j=>adj (ρ.map A) cols i j * A (ρ.getD j 0) x) ρ.length:=by
 rw [zm (u:=fun j=>ind (ρ.getD j 0)) (s.wp i hi)]
 exact ao fun j hj=>by rw [u3 (s.ρlt j hj)]
theorem St.rvn(s:St A n ρ cols q d W){i:Nat}(h1:ρ.length≤i)(hi:i < n)(x:Nat):rv A n (W i) x=d * A (q i) x - ay (fun p=>A (q i) (cols.getD p 0) * rv A n (W p) x) ρ.length:=by
 have h:∀k,W i k=d * ind (q i) k - 1 * ay (fun p=>A (q i) (cols.getD p 0) * W p k) ρ.length:=fun k=>by rw [s.wn i h1 hi k];omega
 rw [rz h x,u3 (s.qlt i hi),zm (w:=fun k=>ay (fun p=>A (q i) (cols.getD p 0) * W p k) ρ.length) (u:=W) (fun k=>rfl)]
 omega
theorem St.zero(s:St A n ρ cols q d W){i p:Nat}(h1:ρ.length≤i)(hi:i < n)(hp:p < ρ.length):rv A n (W i) (cols.getD p 0)=0:=by
 rw [s.rvn h1 hi]
 have e:ay (fun p'=>A (q i) (cols.getD p' 0) * rv A n (W p') (cols.getD p 0)) ρ.length=A (q i) (cols.getD p 0) * d:=by
  rw [fL hp fun p' hp' hne=>by rw [s.one p' p hp' hp,if_neg hne];simp]
  rw [s.one p p hp hp,if_pos rfl]
 rw [e];grind
theorem St.head(s:St A n ρ cols q d W)(hr:ρ.length < n)(c:Nat):D ((ρ++[q ρ.length]).map A) (cols++[c])=rv A n (W ρ.length) c:=by
 rw [aaX,s.rvn (aak _) hr]
 show D (ρ.map A++[A (q ρ.length)]) (cols++[c])=_
 rw [y3 (by rw [aac];exact s.lc),s.det,aac,aaE]
 congr 1
 refine ao fun p hp=> ?_
 rw [s.rvp hp]
 congr 1
 exact ao fun k hk=>by rw [ma hk]
theorem jg{a j:Nat}{l:List Nat}(h:j < l.length):(l++[a]).getD j 0=l.getD j 0:=by
 rw [aab,aav h,←aab]
theorem jf{a:Nat}{l:List Nat}:(l++[a]).getD l.length 0=a:=by simp
theorem mix(f:Nat→Int)(s:St A n ρ cols q d W)(a L:Int)(g:Nat→Int):
  ay (fun j=>(if j < ρ.length then a * g j+L * ay (fun p=>A (q ρ.length) (cols.getD p 0) * adj (ρ.map A) cols p j) ρ.length else -(L * d)) * f ((ρ++[q ρ.length]).getD j 0)) (ρ.length+1)
  =a * ay (fun j=>g j * f (ρ.getD j 0)) ρ.length - L * (d * f (q ρ.length) - ay (fun p=>A (q ρ.length) (cols.getD p 0) * ay (fun j=>adj (ρ.map A) cols p j * f (ρ.getD j 0)) ρ.length) ρ.length):=by
 rw [show∀F:Nat→Int,ay F (ρ.length+1)=ay F ρ.length+F ρ.length from fun _=>rfl,jf,if_neg (aaZ _)]
 have e:ay (fun j=>(if j < ρ.length then a * g j+L * ay (fun p=>A (q ρ.length) (cols.getD p 0) * adj (ρ.map A) cols p j) ρ.length else -(L * d)) * f ((ρ++[q ρ.length]).getD j 0)) ρ.length
   =ay (fun j=>a * (g j * f (ρ.getD j 0))+L * ay (fun p=>A (q ρ.length) (cols.getD p 0) * (adj (ρ.map A) cols p j * f (ρ.getD j 0))) ρ.length) ρ.length:=by
  refine ao fun j hj=> ?_
  rw [if_pos hj,jg hj]
  have e2:ay (fun p=>A (q ρ.length) (cols.getD p 0) * (adj (ρ.map A) cols p j * f (ρ.getD j 0))) ρ.length=f (ρ.getD j 0) * ay (fun p=>A (q ρ.length) (cols.getD p 0) * adj (ρ.map A) cols p j) ρ.length:=by
   rw [←az]
   exact ao fun p _=>by grind
  rw [e2];grind
 rw [e,eL,az,az,cy (fun j p=>A (q ρ.length) (cols.getD p 0) * (adj (ρ.map A) cols p j * f (ρ.getD j 0)))]
 have e3:ay (fun p=>ay (fun j=>A (q ρ.length) (cols.getD p 0) * (adj (ρ.map A) cols p j * f (ρ.getD j 0))) ρ.length) ρ.length=ay (fun p=>A (q ρ.length) (cols.getD p 0) * ay (fun j=>adj (ρ.map A) cols p j * f (ρ.getD j 0)) ρ.length) ρ.length:=
  ao fun p _=>az _ _ _
 rw [e3];grind
theorem St.step(s:St A n ρ cols q d W)(hr:ρ.length < n)(c:Nat)(d0:d≠0)(h0:rv A n (W ρ.length) c≠0):
  ∃W':Nat→Row,St A n (ρ++[q ρ.length]) (cols++[c]) q (rv A n (W ρ.length) c) W'∧(∀k,W' ρ.length k=W ρ.length k)∧
   ∀i,i < n→i≠ρ.length→∀k,d * W' i k=rv A n (W ρ.length) c * W i k - rv A n (W i) c * W ρ.length k:=by
 have hd:=s.head hr c
 generalize hE:rv A n (W ρ.length) c=E at *
 have lr:((ρ++[q ρ.length]).map A).length=ρ.length+1:=by simp
 have lc':(cols++[c]).length=((ρ++[q ρ.length]).map A).length:=by rw [lr];simp [s.lc]
 have cg:∀p,p < ρ.length→(cols++[c]).getD p 0=cols.getD p 0:=fun p hp=>jg (by rw [s.lc];exact hp)
 have cl:(cols++[c]).getD ρ.length 0=c:=by rw [←s.lc];exact jf
 have rg:∀j,j < ρ.length+1→((ρ++[q ρ.length]).map A).getD j zr=A ((ρ++[q ρ.length]).getD j 0):=fun j hj=>ma (by simp;omega)
 have head:∀j,j < ρ.length+1→(if j < ρ.length then (0:Int) * 0+(-1) * ay (fun p=>A (q ρ.length) (cols.getD p 0) * adj (ρ.map A) cols p j) ρ.length else -((-1) * d))=adj ((ρ++[q ρ.length]).map A) (cols++[c]) ρ.length j:=fun j hj=>by
  have:=zp (rows:=(ρ++[q ρ.length]).map A) (cols:=cols++[c]) (v:=fun j=>if j < ρ.length then (0:Int) * 0+(-1) * ay (fun p=>A (q ρ.length) (cols.getD p 0) * adj (ρ.map A) cols p j) ρ.length else -((-1) * d)) (e:=E) (i:=ρ.length) (k:=j) lc' (by rw [lr];omega) (by rw [lr];exact hj) (fun p hp=>by
   rw [lr] at hp⊢
   have e1:=mix (fun a=>A a ((cols++[c]).getD p 0)) s 0 (-1) (fun _=>0)
   have e2:ay (fun j=>(if j < ρ.length then (0:Int) * 0+(-1) * ay (fun p=>A (q ρ.length) (cols.getD p 0) * adj (ρ.map A) cols p j) ρ.length else -((-1) * d)) * ((ρ++[q ρ.length]).map A).getD j zr ((cols++[c]).getD p 0)) (ρ.length+1)=_:=(ao fun j hj=>by rw [rg j hj]).trans e1
   rw [e2]
   have e3:d * A (q ρ.length) ((cols++[c]).getD p 0) - ay (fun p'=>A (q ρ.length) (cols.getD p' 0) * ay (fun j=>adj (ρ.map A) cols p' j * A (ρ.getD j 0) ((cols++[c]).getD p 0)) ρ.length) ρ.length=rv A n (W ρ.length) ((cols++[c]).getD p 0):=by
    rw [s.rvn (aak _) hr]
    congr 1
    exact ao fun p' hp'=>by rw [s.rvp hp']
   rw [e3]
   by_cases hpr:p < ρ.length
   ·rw [cg p hpr,s.zero (Nat.le_refl _) hr hpr,if_neg (by omega)];simp
   ·have:p=ρ.length:=by omega
    subst this
    rw [cl,hE,if_pos rfl];omega)
  rw [hd] at this
  refine aaG h0 ?_
  rw [←this];grind
 have hk:∀k,W ρ.length k=ay (fun j=>adj ((ρ++[q ρ.length]).map A) (cols++[c]) ρ.length j * ind ((ρ++[q ρ.length]).getD j 0) k) (ρ.length+1):=fun k=>by
  have e1:=mix (fun a=>ind a k) s 0 (-1) (fun _=>0)
  have e2:ay (fun j=>adj ((ρ++[q ρ.length]).map A) (cols++[c]) ρ.length j * ind ((ρ++[q ρ.length]).getD j 0) k) (ρ.length+1)=_:=(ao fun j hj=>by rw [←head j hj]).trans e1
  rw [e2,s.wn _ (aak _) hr k]
  have e3:ay (fun p=>A (q ρ.length) (cols.getD p 0) * W p k) ρ.length=ay (fun p=>A (q ρ.length) (cols.getD p 0) * ay (fun j=>adj (ρ.map A) cols p j * ind (ρ.getD j 0) k) ρ.length) ρ.length:=ao fun p hp=>by rw [s.wp p hp k]
  rw [e3];omega
 have above:∀i,i < ρ.length→∀j,j < ρ.length+1→(if j < ρ.length then E * adj (ρ.map A) cols i j+rv A n (W i) c * ay (fun p=>A (q ρ.length) (cols.getD p 0) * adj (ρ.map A) cols p j) ρ.length else -(rv A n (W i) c * d))=d * adj ((ρ++[q ρ.length]).map A) (cols++[c]) i j:=fun i hi j hj=>by
  have:=zp (rows:=(ρ++[q ρ.length]).map A) (cols:=cols++[c]) (v:=fun j=>if j < ρ.length then E * adj (ρ.map A) cols i j+rv A n (W i) c * ay (fun p=>A (q ρ.length) (cols.getD p 0) * adj (ρ.map A) cols p j) ρ.length else -(rv A n (W i) c * d)) (e:=d * E) (i:=i) (k:=j) lc' (by rw [lr];omega) (by rw [lr];exact hj) (fun p hp=>by
   rw [lr] at hp⊢
   have e1:=mix (fun a=>A a ((cols++[c]).getD p 0)) s E (rv A n (W i) c) (fun j=>adj (ρ.map A) cols i j)
   have e2:ay (fun j=>(if j < ρ.length then E * adj (ρ.map A) cols i j+rv A n (W i) c * ay (fun p=>A (q ρ.length) (cols.getD p 0) * adj (ρ.map A) cols p j) ρ.length else -(rv A n (W i) c * d)) * ((ρ++[q ρ.length]).map A).getD j zr ((cols++[c]).getD p 0)) (ρ.length+1)=_:=(ao fun j hj=>by rw [rg j hj]).trans e1
   rw [e2]
   have e3:d * A (q ρ.length) ((cols++[c]).getD p 0) - ay (fun p'=>A (q ρ.length) (cols.getD p' 0) * ay (fun j=>adj (ρ.map A) cols p' j * A (ρ.getD j 0) ((cols++[c]).getD p 0)) ρ.length) ρ.length=rv A n (W ρ.length) ((cols++[c]).getD p 0):=by
    rw [s.rvn (aak _) hr]
    congr 1
    exact ao fun p' hp'=>by rw [s.rvp hp']
   rw [e3,←s.rvp hi]
   by_cases hpr:p < ρ.length
   ·rw [cg p hpr,s.zero (aak _) hr hpr,s.one i p hi hpr]
    split <;> grind
   ·have:p=ρ.length:=by omega
    subst this
    rw [cl,hE,if_neg (by omega)];grind)
  rw [hd] at this
  refine aaG h0 ?_
  rw [Int.mul_comm,this];grind
 have abk:∀i,i < ρ.length→∀k,d * ay (fun j=>adj ((ρ++[q ρ.length]).map A) (cols++[c]) i j * ind ((ρ++[q ρ.length]).getD j 0) k) (ρ.length+1)=E * W i k - rv A n (W i) c * W ρ.length k:=fun i hi k=>by
  have e1:=mix (fun a=>ind a k) s E (rv A n (W i) c) (fun j=>adj (ρ.map A) cols i j)
  have e2:d * ay (fun j=>adj ((ρ++[q ρ.length]).map A) (cols++[c]) i j * ind ((ρ++[q ρ.length]).getD j 0) k) (ρ.length+1)=_:=((az _ _ _).symm.trans (ao fun j hj=>by rw [above i hi j hj];grind)).trans e1
  rw [e2,s.wn _ (aak _) hr k,s.wp i hi k]
  have e3:ay (fun p=>A (q ρ.length) (cols.getD p 0) * W p k) ρ.length=ay (fun p=>A (q ρ.length) (cols.getD p 0) * ay (fun j=>adj (ρ.map A) cols p j * ind (ρ.getD j 0) k) ρ.length) ρ.length:=ao fun p hp=>by rw [s.wp p hp k]
  rw [e3]
 let V:Nat→Row:=fun i k=>if i=ρ.length then W ρ.length k else ay (fun j=>adj ((ρ++[q ρ.length]).map A) (cols++[c]) i j * ind ((ρ++[q ρ.length]).getD j 0) k) (ρ.length+1)
 let W':Nat→Row:=fun i k=>if i < ρ.length+1 then V i k else E * ind (q i) k - ay (fun p=>A (q i) ((cols++[c]).getD p 0) * V p k) (ρ.length+1)
 have Wr:∀k,W' ρ.length k=W ρ.length k:=fun k=>by
  show (if ρ.length < ρ.length+1 then (if ρ.length=ρ.length then W ρ.length k else _) else _)=_
  rw [if_pos (abn _),if_pos rfl]
 have Wi:∀i,i < ρ.length→∀k,W' i k=ay (fun j=>adj ((ρ++[q ρ.length]).map A) (cols++[c]) i j * ind ((ρ++[q ρ.length]).getD j 0) k) (ρ.length+1):=fun i hi k=>by
  show (if i < ρ.length+1 then (if i=ρ.length then _ else _) else _)=_
  rw [if_pos (by omega),if_neg (by omega)]
 have WV:∀p,p < ρ.length+1→∀k,W' p k=V p k:=fun p hp k=>by
  show (if p < ρ.length+1 then V p k else _)=_
  rw [if_pos hp]
 have Wn:∀i,ρ.length+1≤i→∀k,W' i k=E * ind (q i) k - ay (fun p=>A (q i) ((cols++[c]).getD p 0) * W' p k) (ρ.length+1):=fun i hi k=>by
  show (if i < ρ.length+1 then V i k else _)=_
  rw [if_neg (by omega)]
  congr 1
  exact ao fun p hp=>by rw [WV p hp]
 have H:∀i,i < n→i≠ρ.length→∀k,d * W' i k=E * W i k - rv A n (W i) c * W ρ.length k:=fun i hi hne k=>by
  by_cases hir:i < ρ.length
  ·rw [Wi i hir k];exact abk i hir k
  ·rw [Wn i (by omega) k,s.wn i (by omega) hi k,s.rvn (by omega) hi c]
   rw [show∀F:Nat→Int,ay F (ρ.length+1)=ay F ρ.length+F ρ.length from fun _=>rfl,cl,Wr]
   have e1:d * ay (fun p=>A (q i) ((cols++[c]).getD p 0) * W' p k) ρ.length=ay (fun p=>E * (A (q i) (cols.getD p 0) * W p k)+(-(W ρ.length k)) * (A (q i) (cols.getD p 0) * rv A n (W p) c)) ρ.length:=by
    rw [←az]
    refine ao fun p hp=> ?_
    have:=abk p hp k
    rw [cg p hp,Wi p hp k]
    grind
   rw [eL,az,az] at e1
   grind
 refine ⟨W',⟨by simp [s.lc],by simp;omega,s.qlt,fun j hj=> ?_,hd,fun i hi k=> ?_,fun i h1 hi k=> ?_,fun i p hi hp=> ?_⟩,Wr,H⟩
 ·by_cases hjr:j < ρ.length
  ·rw [jg hjr];exact s.ρlt j hjr
  ·have:j=ρ.length:=by simp at hj;omega
   rw [this,jf];exact s.qlt _ hr
 ·rw [show (ρ++[q ρ.length]).length=ρ.length+1 by simp] at hi⊢
  by_cases hir:i < ρ.length
  ·exact Wi i hir k
  ·have:i=ρ.length:=by omega
   subst this
   rw [Wr k];exact hk k
 ·rw [show (ρ++[q ρ.length]).length=ρ.length+1 by simp] at h1⊢
  exact Wn i h1 k
 ·rw [show (ρ++[q ρ.length]).length=ρ.length+1 by simp] at hi hp
  have hrr:∀x,rv A n (W' ρ.length) x=rv A n (W ρ.length) x:=fun x=>by
   unfold rv;exact ao fun k _=>by rw [Wr k]
  by_cases hir:i < ρ.length
  ·have lin:d * rv A n (W' i) ((cols++[c]).getD p 0)=E * rv A n (W i) ((cols++[c]).getD p 0) - rv A n (W i) c * rv A n (W ρ.length) ((cols++[c]).getD p 0):=by
    have:=rz (A:=A) (n:=n) (w:=fun k=>d * W' i k) (u:=W i) (v:=W ρ.length) (a:=E) (b:=rv A n (W i) c) (fun k=>H i (by omega) (by omega) k) ((cols++[c]).getD p 0)
    rw [←this]
    unfold rv
    rw [←az]
    exact ao fun k _=>by grind
   refine aaG d0 ?_
   rw [lin]
   by_cases hpr:p < ρ.length
   ·rw [cg p hpr,s.zero (aak _) hr hpr,s.one i p hir hpr]
    split <;> grind
   ·have:p=ρ.length:=by omega
    subst this
    rw [cl,hE,if_neg (by omega)];grind
  ·have:i=ρ.length:=by omega
   subst this
   rw [hrr]
   by_cases hpr:p < ρ.length
   ·rw [cg p hpr,s.zero (aak _) hr hpr,if_neg (by omega)]
   ·have:p=ρ.length:=by omega
    subst this
    rw [cl,hE,if_pos rfl]
end
theorem St.start{A:Nat→Row}{n:Nat}:St A n [] [] id 1 (fun i=>ind i) where
 lc:=rfl
 rn:=abM _
 qlt:=fun _ h=>h
 ρlt:=fun _ h=>absurd h (abb _)
 det:=rfl
 wp:=fun _ h=>absurd h (abb _)
 wn:=fun i _ _ k=>by
  show ind i k=1 * ind i k - 0
  omega
 one:=fun _ _ h=>absurd h (abb _)
theorem St.perm{A:Nat→Row}{n:Nat}{ρ cols:List Nat}{q:Nat→Nat}{d:Int}{W:Nat→Row}(s:St A n ρ cols q d W){π:Nat→Nat}(h1:∀i,i < ρ.length→π i=i)(h2:∀i,ρ.length≤i→i < n→ρ.length≤π i∧π i < n):St A n ρ cols (fun i=>q (π i)) d (fun i=>W (π i)) where
 lc:=s.lc
 rn:=s.rn
 qlt:=fun i hi=>s.qlt _ (by
  by_cases h:i < ρ.length
  ·rw [h1 i h];exact hi
  ·exact (h2 i (by omega) hi).2)
 ρlt:=s.ρlt
 det:=s.det
 wp:=fun i hi k=>by
  show W (π i) k=_
  rw [h1 i hi];exact s.wp i hi k
 wn:=fun i hi hn k=>by
  obtain ⟨a,b⟩:=h2 i hi hn
  have:=s.wn (π i) a b k
  rw [this]
  congr 1
  exact ao fun p hp=>by rw [h1 p hp]
 one:=fun i p hi hp=>by
  show rv A n (W (π i)) _=_
  rw [h1 i hi];exact s.one i p hi hp
def Ab(x B:Int):Prop:= -B≤x∧x≤B
theorem Ab.mul{x y B C:Int}(h:Ab x B)(h':Ab y C):Ab (x * y) (B * C):=by
 obtain ⟨a,b⟩:=h
 obtain ⟨c,d⟩:=h'
 have B0:0≤B:=by omega
 have C0:0≤C:=by omega
 have hb:x.natAbs≤B.natAbs:=by omega
 have hc:y.natAbs≤C.natAbs:=by omega
 have hm:=Nat.mul_le_mul hb hc
 rw [←aaW,←aaW] at hm
 have p:=aaM B0 C0
 exact ⟨by omega,by omega⟩
theorem Ab.add{x y B C:Int}(h:Ab x B)(h':Ab y C):Ab (x+y) (B+C):=⟨by have:=h.1;have:=h'.1;omega,by have:=h.2;have:=h'.2;omega⟩
theorem Ab.sub{x y B C:Int}(h:Ab x B)(h':Ab y C):Ab (x - y) (B+C):=⟨by have:=h.1;have:=h'.2;omega,by have:=h.2;have:=h'.1;omega⟩
theorem Ab.mono{x B C:Int}(h:Ab x B)(h':B≤C):Ab x C:=⟨by have:=h.1;omega,by have:=h.2;omega⟩
theorem Ab.sum{f:Nat→Int}{B:Int}:∀{n:Nat},(∀i,i < n→Ab (f i) B)→Ab (ay f n) (n * B)
 | 0,_=>⟨by simp [ay],by simp [ay]⟩
 | n+1,h=>by
  have i:=Ab.sum (n:=n) fun i hi=>h i (by omega)
  have:=Ab.add i (h n (by omega))
  have e:(n:Int) * B+B=((n+1:Nat):Int) * B:=by rw [show ((n+1:Nat):Int)=(n:Int)+1 from rfl,Int.add_mul,Int.one_mul]
  rw [e] at this;exact this
theorem Ab.pow{k:Nat}{x B:Int}(h:Ab x B):Ab ((-1) ^ k * x) B:=by
 rcases (by induction k with
  | zero=>exact .inl rfl
  | succ k ih=>rw [Int.pow_succ];rcases ih with e | e <;> rw [e] <;> simp:((-1:Int) ^ k=1∨(-1:Int) ^ k= -1)) with e | e
 ·rw [e,Int.one_mul];exact h
 ·rw [e]
  obtain ⟨a,b⟩:=h
  exact ⟨by omega,by omega⟩
theorem Ab.det{B:Int}(B0:1≤B):∀(rows:List Row) (cols:List Nat),(∀x∈rows,∀c∈cols,Ab (x c) B)→cols.length≤12→Ab (D rows cols) ((12 * B) ^ rows.length)
 | [],cols,_,_=>by
  show Ab (F0 cols) ((12 * B) ^ 0)
  rw [aa3]
  unfold F0
  split
  ·exact ⟨by decide,by decide⟩
  ·exact ⟨by decide,by decide⟩
 | x::rows,cols,h,hl=>by
  show Ab (Lx x (D rows) cols) _
  rw [sL,aas,aaP]
  have P0:(0:Int)≤(12 * B) ^ rows.length:=abj (by omega)
  have each:∀p,p < cols.length→Ab ((-1) ^ p * (x (cols.getD p 0) * D rows (cols.eraseIdx p))) (B * (12 * B) ^ rows.length):=fun p hp=>by
   refine Ab.pow (Ab.mul ?_ (Ab.det B0 rows (cols.eraseIdx p) (fun y hy c hc=>h y (aad _ hy) c (abZ hc)) ?_))
   ·rw [aab,aaa hp]
    exact h x aae _ (aay hp)
   ·rw [List.length_eraseIdx];split <;> omega
  refine (Ab.sum each).mono ?_
  have Q0:0≤B * (12 * B) ^ rows.length:=aaM (by omega) P0
  have:=aaj (show (cols.length:Int)≤12 by omega) Q0
  refine aa4 this ?_
  have e:12 * (B * (12 * B) ^ rows.length)=(12 * B) ^ rows.length * (12 * B):=by grind
  omega
section
variable{A:Nat→Row}{n:Nat}{ρ cols:List Nat}{q:Nat→Nat}{d:Int}{W:Nat→Row}
structure Bd(A:Nat→Row)(n m:Nat)(B:Int):Prop where
 b1:1≤B
 ab:∀k x,k < n→x < m→Ab (A k x) B
def top(B:Int)(r:Nat):Int:=(12 * B) ^ (r+3)
theorem rG{B:Int}{a b:Nat}(h:1≤B)(hab:a≤b):(12 * B) ^ a≤(12 * B) ^ b:=by
 obtain ⟨c,rfl⟩:=Nat.exists_eq_add_of_le hab
 rw [Int.pow_add]
 have p:(1:Int)≤(12 * B) ^ c:=by
  have:0 < (12 * B) ^ c:=abA (by omega)
  omega
 have q:(0:Int)≤(12 * B) ^ a:=abj (by omega)
 have:=aar p q
 omega
theorem St.abs(s:St A n ρ cols q d W){m:Nat}{B:Int}(b:Bd A n m B)(hc:∀c∈cols,c < m)(hr:ρ.length≤12):
  (∀i k,i < n→Ab (W i k) (top B ρ.length))∧(∀i x,i < n→x < m→Ab (rv A n (W i) x) (top B ρ.length))∧Ab d (top B ρ.length):=by
 have B0:=b.b1
 have mem:∀j,j < ρ.length→ρ.getD j 0∈ρ:=fun j hj=>by
  rw [aab,aaa hj];exact aay hj
 have ρn:∀a∈ρ,a < n:=fun a ha=>by
  obtain ⟨j,hj,e⟩:=aa7 ha
  have:=s.ρlt j hj
  rw [aab,aaa hj] at this
  rw [←e];exact this
 have ent:∀x∈ρ.map A,∀c∈cols,Ab (x c) B:=fun x hx c hc'=>by
  obtain ⟨a,ha,rfl⟩:=aal.mp hx
  exact b.ab a c (ρn a ha) (hc c hc')
 have cl:cols.length≤12:=by rw [s.lc];exact hr
 have hd:Ab d ((12 * B) ^ ρ.length):=by
  have:=Ab.det B0 (ρ.map A) cols ent cl
  rw [s.det,aac] at this;exact this
 have had:∀p k,Ab (adj (ρ.map A) cols p k) ((12 * B) ^ ρ.length):=fun p k=>by
  unfold adj
  refine Ab.pow ((Ab.det B0 _ _ (fun x hx c hc'=>ent x (abZ hx) c (abZ hc')) ?_).mono (rG B0 ?_))
  ·rw [List.length_eraseIdx];split <;> omega
  ·rw [List.length_eraseIdx,aac];split <;> omega
 have i1:∀a k,Ab (ind a k) 1:=fun a k=>by unfold ind;split <;> exact ⟨by decide,by decide⟩
 have P0:(0:Int)≤(12 * B) ^ ρ.length:=abj (by omega)
 have le12:∀{C:Int},0≤C→(ρ.length:Int) * C≤12 * C:=fun h=>aaj (by omega) h
 have c1:12 * (12 * B) ^ ρ.length≤(12 * B) ^ (ρ.length+1):=by
  rw [aaP]
  have:=aar (show (12:Int)≤12 * B by omega) P0
  omega
 have wp:∀i k,i < ρ.length→Ab (W i k) ((12 * B) ^ (ρ.length+1)):=fun i k hi=>by
  rw [s.wp i hi k]
  refine (Ab.sum (B:=(12 * B) ^ ρ.length) fun j hj=> ?_).mono (aa4 (le12 P0) c1)
  have:=Ab.mul (had i j) (i1 (ρ.getD j 0) k)
  rw [Int.mul_one] at this;exact this
 have rp:∀i x,i < ρ.length→x < m→Ab (rv A n (W i) x) ((12 * B) ^ (ρ.length+1)):=fun i x hi hx=>by
  rw [s.rvp hi]
  have Q0:0≤(12 * B) ^ ρ.length * B:=aaM P0 (by omega)
  refine (Ab.sum (B:=(12 * B) ^ ρ.length * B) fun j hj=>Ab.mul (had i j) (b.ab _ x (s.ρlt j hj) hx)).mono (aa4 (le12 Q0) ?_)
  rw [aaP]
  have:12 * ((12 * B) ^ ρ.length * B)=(12 * B) ^ ρ.length * (12 * B):=by grind
  omega
 have S0:(0:Int)≤(12 * B) ^ (ρ.length+1):=abj (by omega)
 have T0:(0:Int)≤(12 * B) ^ (ρ.length+2):=abj (by omega)
 have c2:12 * (B * (12 * B) ^ (ρ.length+1))=(12 * B) ^ (ρ.length+2):=by
  rw [show ρ.length+2=ρ.length+1+1 from rfl,Int.pow_succ];grind
 have c3:(12 * B) ^ (ρ.length+2)+(12 * B) ^ (ρ.length+2)≤top B ρ.length:=by
  unfold top
  have e:(12 * B) ^ (ρ.length+3)=(12 * B) ^ (ρ.length+2) * (12 * B):=aaP _ _
  rw [e]
  have:=aar (show (2:Int)≤12 * B by omega) T0
  omega
 have c4:(12 * B) ^ (ρ.length+1)≤(12 * B) ^ (ρ.length+2):=rG B0 (by omega)
 have c5:(12 * B) ^ ρ.length≤(12 * B) ^ (ρ.length+2):=rG B0 (by omega)
 have c6:(12 * B) ^ ρ.length * B≤(12 * B) ^ (ρ.length+2):=by
  refine aa4 ?_ c4
  rw [aaP]
  exact aar (by omega) P0
 have U0:0≤B * (12 * B) ^ (ρ.length+1):=aaM (by omega) S0
 have colm:∀p,p < ρ.length→cols.getD p 0 < m:=fun p hp=>by
  have hp':p < cols.length:=by rw [s.lc];exact hp
  rw [aab,aaa hp']
  exact hc _ (aay hp')
 refine ⟨fun i k hi=> ?_,fun i x hi hx=> ?_,hd.mono (by omega)⟩
 ·by_cases hir:i < ρ.length
  ·exact (wp i k hir).mono (by omega)
  ·rw [s.wn i (by omega) hi k]
   have a1:=Ab.mul hd (i1 (q i) k)
   rw [Int.mul_one] at a1
   refine (Ab.sub a1 (Ab.sum (B:=B * (12 * B) ^ (ρ.length+1)) fun p hp=>Ab.mul (b.ab (q i) _ (s.qlt i hi) (colm p hp)) (wp p k hp))).mono ?_
   have:=le12 U0
   omega
 ·by_cases hir:i < ρ.length
  ·exact (rp i x hir hx).mono (by omega)
  ·rw [s.rvn (by omega) hi]
   refine (Ab.sub (Ab.mul hd (b.ab (q i) x (s.qlt i hi) hx)) (Ab.sum (B:=B * (12 * B) ^ (ρ.length+1)) fun p hp=>Ab.mul (b.ab (q i) _ (s.qlt i hi) (colm p hp)) (rp p x hp hx))).mono ?_
   have:=le12 U0
   omega
end
def dJ(n i:Nat):List Int:=(List.range n).map (ind i)
def iF(ls:List (List Int))(f k:Nat):List (List Int):=ls.take f++[ls.getD k []]++(ls.drop f).take (k - f)++ls.drop (k+1)
def da(l h:List Int)(c:Nat)(d:Int):List Int:=(l.zip h).map fun p=>(h.getD c 0 * p.1 - l.getD c 0 * p.2).fdiv d
def aT(A:Nat→Row)(n m:Nat)(w:Row):List Int:=(List.range m).map (fun x=>rv A n w x)++(List.range n).map w
def aH(A:Nat→Row)(n m:Nat)(W:Nat→Row):List (List Int):=(List.range n).map fun i=>aT A n m (W i)
def arr(rows:List (List Int)):Nat→Row:=fun k x=>(rows.getD k []).getD x 0
theorem dw{A:Nat→Row}{n m:Nat}{w:Row}:(aT A n m w).length=m+n:=by unfold aT;simp
theorem fD{A:Nat→Row}{n m x:Nat}{w:Row}(h:x < m):(aT A n m w).getD x 0=rv A n w x:=by
 unfold aT
 rw [List.getD_eq_getElem?_getD,List.getElem?_append_left (by simpa using h),List.getElem?_map,List.getElem?_range h];rfl
theorem g6{A:Nat→Row}{n m i:Nat}{W:Nat→Row}(h:i < n):(aH A n m W).getD i []=aT A n m (W i):=by
 unfold aH
 rw [aab,aaf,aaB h];rfl
theorem cC{A:Nat→Row}{n m:Nat}{W:Nat→Row}:(aH A n m W).length=n:=by unfold aH;simp
theorem tV{A:Nat→Row}{n m:Nat}{w u:Row}(h:∀k,w k=u k):aT A n m w=aT A n m u:=by
 have:w=u:=funext h
 rw [this]
theorem ql{rows:List (List Int)}{m:Nat}(hl:∀r∈rows,r.length=m):(List.range rows.length).map (fun i=>rows.getD i []++dJ rows.length i)=aH (arr rows) rows.length m (fun i=>ind i):=by
 unfold aH
 apply aa8
 intro i hi
 have hi:=abB.mp hi
 unfold aT dJ
 congr 1
 have g:rows.getD i []=rows[i]:=by rw [aab,aaa hi];rfl
 have ml:=hl rows[i] (aay hi)
 apply abd
 ·rw [g,ml];simp
 ·intro x h1 h2
  simp only [List.getElem_map,List.getElem_range]
  rw [u3 hi]
  unfold arr
  rw [aab (l:=rows.getD i []),aaa h1];rfl
def rot(r k i:Nat):Nat:=if i < r then i else if i=r then k else if i≤k then i - 1 else i
theorem qm{A:Nat→Row}{n m r k:Nat}{W:Nat→Row}(hr:r≤k)(hk:k < n):iF (aH A n m W) r k=aH A n m (fun i=>W (rot r k i)):=by
 unfold iF
 rw [g6 hk]
 unfold aH
 apply List.ext_getElem?
 intro i
 rw [aaf]
 simp only [List.append_assoc]
 by_cases h1:i < r
 ·rw [List.getElem?_append_left (by simp;omega),List.getElem?_take_of_lt h1,List.getElem?_map]
  rw [aaB (by omega)]
  have:rot r k i=i:=by unfold rot;rw [if_pos h1]
  simp [this]
 ·rw [List.getElem?_append_right (by simp;omega)]
  have lt:((List.map (fun i=>aT A n m (W i)) (List.range n)).take r).length=r:=by simp;omega
  rw [lt]
  by_cases h2:i=r
  ·subst h2
   rw [Nat.sub_self,List.getElem?_append_left (by simp)]
   rw [aaB (by omega)]
   have:rot i k i=k:=by unfold rot;rw [if_neg (Nat.lt_irrefl _),if_pos rfl]
   simp [this]
  ·rw [List.getElem?_append_right (by simp;omega)]
   show (_++_)[i - r - 1]? =_
   have l2:((List.map (fun i=>aT A n m (W i)) (List.range n)).drop r |>.take (k - r)).length=k - r:=by simp;omega
   by_cases h3:i≤k
   ·rw [aav (by rw [l2];omega),abY (by omega),List.getElem?_drop,aaf,aaB (by omega),aaB (by omega)]
    have:rot r k i=i - 1:=by unfold rot;rw [if_neg h1,if_neg h2,if_pos h3]
    simp only [Option.map_some,this]
    rw [show r+(i - r - 1)=i - 1 by omega]
   ·rw [aam (by rw [l2];omega),l2,List.getElem?_drop,aaf]
    rw [show k+1+(i - r - 1 - (k - r))=i by omega]
    by_cases h4:i < n
    ·rw [aaB h4]
     have:rot r k i=i:=by unfold rot;rw [if_neg h1,if_neg h2,if_neg h3]
     simp [this]
    ·rw [List.getElem?_eq_none (by simpa using h4)]
     rfl
theorem kS{a b d:Int}(h:d≠0)(e:d * b=a):a.fdiv d=b:=by
 rw [←e];exact Int.mul_fdiv_cancel_left b h
theorem kI{A:Nat→Row}{n m c:Nat}{w u v:Row}{d:Int}(hc:c < m)(d0:d≠0)(h:∀k,d * v k=rv A n u c * w k - rv A n w c * u k):da (aT A n m w) (aT A n m u) c d=aT A n m v:=by
 have hr:∀x,d * rv A n v x=rv A n u c * rv A n w x - rv A n w c * rv A n u x:=fun x=>by
  have:=rz (A:=A) (n:=n) (w:=fun k=>d * v k) (u:=w) (v:=u) (a:=rv A n u c) (b:=rv A n w c) h x
  rw [←this]
  unfold rv
  rw [←az]
  exact ao fun k _=>by grind
 unfold da
 rw [fD hc,fD hc]
 unfold aT
 rw [List.zip_append (by simp),List.map_append]
 congr 1
 ·apply abd
  ·simp
  ·intro x h1 h2
   simp only [List.getElem_map,List.getElem_zip,List.getElem_range]
   exact kS d0 (hr x)
 ·apply abd
  ·simp
  ·intro x h1 h2
   simp only [List.getElem_map,List.getElem_zip,List.getElem_range]
   exact kS d0 (h x)
structure d8(A:Nat→Row)(n:Nat)(col:Nat)(ρ cols:List Nat)(q:Nat→Nat)(d:Int)(W:Nat→Row):Prop where
 st:St A n ρ cols q d W
 d0:d≠0
 cl:∀c∈cols,c < col
 piv:∀i,i < ρ.length→q i=ρ.getD i 0
 sur:∀k,k < n→∃i,i < n∧q i=k
 zero:∀i,ρ.length≤i→i < n→∀x,x < col→rv A n (W i) x=0
 all:cols=List.range col∨∃x,x < col∧x∉cols
theorem d8.start{A:Nat→Row}{n:Nat}:d8 A n 0 [] [] id 1 (fun i=>ind i) where
 st:=St.start
 d0:=by decide
 cl:=fun _ h=>nomatch h
 piv:=fun _ h=>absurd h (abb _)
 sur:=fun k h=>⟨k,h,rfl⟩
 zero:=fun _ _ _ _ h=>absurd h (abb _)
 all:= .inl rfl
section
variable{A:Nat→Row}{n col:Nat}{ρ cols:List Nat}{q:Nat→Nat}{d:Int}{W:Nat→Row}
theorem d8.skip(t:d8 A n col ρ cols q d W)(h:∀i,ρ.length≤i→i < n→rv A n (W i) col=0):d8 A n (col+1) ρ cols q d W where
 st:=t.st
 d0:=t.d0
 cl:=fun c hc=>Nat.lt_succ_of_lt (t.cl c hc)
 piv:=t.piv
 sur:=t.sur
 zero:=fun i h1 h2 x hx=>by
  by_cases e:x=col
  ·rw [e];exact h i h1 h2
  ·exact t.zero i h1 h2 x (by omega)
 all:= .inr ⟨col,abn _,fun z=>absurd (t.cl col z) (aaZ _)⟩
theorem d8.move(t:d8 A n col ρ cols q d W){k:Nat}(h1:ρ.length≤k)(h2:k < n):d8 A n col ρ cols (fun i=>q (rot ρ.length k i)) d (fun i=>W (rot ρ.length k i)) where
 st:=t.st.perm (fun i hi=>by unfold rot;rw [if_pos hi]) fun i a b=>by unfold rot;split <;> (try split) <;> (try split) <;> omega
 d0:=t.d0
 cl:=t.cl
 piv:=fun i hi=>by
  show q (rot ρ.length k i)=_
  rw [show rot ρ.length k i=i by unfold rot;rw [if_pos hi]];exact t.piv i hi
 sur:=fun j hj=>by
  obtain ⟨i,hi,e⟩:=t.sur j hj
  by_cases a:i < ρ.length
  ·exact ⟨i,hi,by show q (rot ρ.length k i)=j;rw [show rot ρ.length k i=i by unfold rot;rw [if_pos a]];exact e⟩
  ·by_cases b:i=k
   ·exact ⟨ρ.length,by omega,by show q (rot ρ.length k ρ.length)=j;rw [show rot ρ.length k ρ.length=k by unfold rot;rw [if_neg (Nat.lt_irrefl _),if_pos rfl],←b];exact e⟩
   ·by_cases c:i < k
    ·exact ⟨i+1,by omega,by show q (rot ρ.length k (i+1))=j;rw [show rot ρ.length k (i+1)=i by unfold rot;rw [if_neg (by omega),if_neg (by omega),if_pos (by omega)];omega];exact e⟩
    ·exact ⟨i,hi,by show q (rot ρ.length k i)=j;rw [show rot ρ.length k i=i by unfold rot;rw [if_neg a,if_neg (by omega),if_neg (by omega)]];exact e⟩
 zero:=fun i a b x hx=>by
  have:ρ.length≤rot ρ.length k i∧rot ρ.length k i < n:=by unfold rot;split <;> (try split) <;> (try split) <;> omega
  exact t.zero _ this.1 this.2 x hx
 all:=t.all
theorem d8.step{m:Nat}(t:d8 A n col ρ cols q d W)(hr:ρ.length < n)(hm:col < m)(h0:rv A n (W ρ.length) col≠0):
  ∃W',d8 A n (col+1) (ρ++[q ρ.length]) (cols++[col]) q (rv A n (W ρ.length) col) W'∧
   ((aH A n m W).take ρ.length).map (fun l=>da l (aT A n m (W ρ.length)) col d)++[aT A n m (W ρ.length)]++((aH A n m W).drop (ρ.length+1)).map (fun l=>da l (aT A n m (W ρ.length)) col d)=aH A n m W':=by
 obtain ⟨W',s',e1,e2⟩:=t.st.step hr col t.d0 h0
 refine ⟨W',⟨s',h0,fun c hc=> ?_,fun i hi=> ?_,t.sur,fun i a b x hx=> ?_, ?_⟩, ?_⟩
 ·rcases aaL.mp hc with z | z
  ·exact Nat.lt_succ_of_lt (t.cl c z)
  ·have:c=col:=by simpa using z
   omega
 ·by_cases hir:i < ρ.length
  ·rw [jg hir];exact t.piv i hir
  ·have:i=ρ.length:=by simp at hi;omega
   rw [this,jf]
 ·rw [show (ρ++[q ρ.length]).length=ρ.length+1 by simp] at a
  have lin:d * rv A n (W' i) x=rv A n (W ρ.length) col * rv A n (W i) x - rv A n (W i) col * rv A n (W ρ.length) x:=by
   have:=rz (A:=A) (n:=n) (w:=fun k=>d * W' i k) (u:=W i) (v:=W ρ.length) (fun k=>e2 i b (by omega) k) x
   rw [←this]
   unfold rv
   rw [←az]
   exact ao fun k _=>by grind
  refine aaG t.d0 ?_
  rw [lin]
  by_cases e:x=col
  ·subst e;grind
  ·rw [t.zero i (by omega) b x (by omega),t.zero ρ.length (Nat.le_refl _) hr x (by omega)];simp
 ·rcases t.all with z | ⟨x,a,b⟩
  ·left;rw [z,List.range_succ]
  ·refine .inr ⟨x,by omega,fun z=> ?_⟩
   rcases aaL.mp z with z | z
   ·exact b z
   ·have:x=col:=by simpa using z
    omega
 ·unfold aH
  rw [←List.map_take,←List.map_drop,aaC,aaC]
  apply List.ext_getElem?
  intro i
  simp only [List.append_assoc]
  have lt:(List.map ((fun l=>da l (aT A n m (W ρ.length)) col d) ∘ fun i=>aT A n m (W i)) ((List.range n).take ρ.length)).length=ρ.length:=by simp;omega
  by_cases h1:i < ρ.length
  ·rw [aav (by rw [lt];exact h1),aaf,aaf,abY h1,aaB (by omega)]
   show some (da (aT A n m (W i)) (aT A n m (W ρ.length)) col d)=some _
   rw [kI hm t.d0 (e2 i (by omega) (by omega))]
  ·rw [aam (by rw [lt];omega),lt,aaf]
   by_cases h2:i=ρ.length
   ·subst h2
    rw [Nat.sub_self,aaB hr]
    show some (aT A n m (W ρ.length))=some (aT A n m (W' ρ.length))
    rw [tV e1]
   ·rw [List.getElem?_append_right (by simp;omega)]
    show (List.map _ ((List.range n).drop (ρ.length+1)))[i - ρ.length - 1]? =_
    rw [aaf,List.getElem?_drop,show ρ.length+1+(i - ρ.length - 1)=i by omega]
    by_cases h4:i < n
    ·rw [aaB h4]
     show some (da (aT A n m (W i)) (aT A n m (W ρ.length)) col d)=some _
     rw [kI hm t.d0 (e2 i h4 h2)]
    ·rw [List.getElem?_eq_none (by simpa using h4)]
     rfl
end
section
variable{A:Nat→Row}{n col:Nat}{ρ cols:List Nat}{q:Nat→Nat}{d:Int}{W:Nat→Row}
theorem d8.back(t:d8 A n col ρ cols q d W){k y:Nat}(hk:k < n)(hy:y < col):d * A k y=ay (fun p=>A k (cols.getD p 0) * rv A n (W p) y) ρ.length:=by
 obtain ⟨i,hi,e⟩:=t.sur k hk
 have s:=t.st
 by_cases hir:i < ρ.length
 ·have ek:k=ρ.getD i 0:=by rw [←e];exact t.piv i hir
  have lr:(ρ.map A).length=ρ.length:=aac _
  have e1:ay (fun p=>A k (cols.getD p 0) * rv A n (W p) y) ρ.length=ay (fun p=>ay (fun j=>(A k (cols.getD p 0) * adj (ρ.map A) cols p j) * A (ρ.getD j 0) y) ρ.length) ρ.length:=ao fun p hp=>by
   rw [s.rvp hp,←az]
   exact ao fun j _=>by grind
  have e2:ay (fun p=>ay (fun j=>(A k (cols.getD p 0) * adj (ρ.map A) cols p j) * A (ρ.getD j 0) y) ρ.length) ρ.length=ay (fun j=>A (ρ.getD j 0) y * ay (fun p=>(ρ.map A).getD i zr (cols.getD p 0) * adj (ρ.map A) cols p j) ρ.length) ρ.length:=by
   rw [cy]
   refine ao fun j _=> ?_
   rw [←az]
   refine ao fun p _=> ?_
   rw [ma hir,←ek];grind
  rw [e1,e2]
  have pa:∀j,j < ρ.length→ay (fun p=>(ρ.map A).getD i zr (cols.getD p 0) * adj (ρ.map A) cols p j) ρ.length=if i=j then d else 0:=fun j hj=>by
   have:=PA (rows:=ρ.map A) (cols:=cols) (i:=i) (k:=j) (by rw [lr];exact s.lc) (by rw [lr];exact hir) (by rw [lr];exact hj)
   rw [lr,s.det] at this;exact this
  rw [fL hir fun j hj hne=>by rw [pa j hj,if_neg (Ne.symm hne)];simp]
  rw [pa i hir,if_pos rfl,ek];grind
 ·have:=s.rvn (by omega) hi y
  rw [t.zero i (by omega) hi y hy,e] at this
  omega
theorem d8.kernel(t:d8 A n col ρ cols q d W){x:Nat}(hx:x < col)(hf:x∉cols):∃z:Row,z x= -d∧∀k,k < n→ay (fun y=>A k y * z y) col=0:=by
 have s:=t.st
 have cm:∀i,i < ρ.length→cols.getD i 0∈cols:=fun i hi=>by
  have hi':i < cols.length:=by rw [s.lc];exact hi
  rw [aab,aaa hi'];exact aay hi'
 refine ⟨fun y=>ay (fun i=>rv A n (W i) x * ind (cols.getD i 0) y) ρ.length - d * ind x y, ?_,fun k hk=> ?_⟩
 ·have e1:ay (fun i=>rv A n (W i) x * ind (cols.getD i 0) x) ρ.length=0:=fk fun i hi=>by
   unfold ind
   rw [if_neg fun z=>hf (by rw [←z];exact cm i hi)];simp
  show ay (fun i=>rv A n (W i) x * ind (cols.getD i 0) x) ρ.length - d * ind x x= -d
  rw [e1];unfold ind;rw [if_pos rfl];omega
 ·have gen:∀f:Row,ay (fun y=>f y * (ay (fun i=>rv A n (W i) x * ind (cols.getD i 0) y) ρ.length - d * ind x y)) col=ay (fun i=>rv A n (W i) x * f (cols.getD i 0)) ρ.length - d * f x:=fun f=>by
   have e1:ay (fun y=>f y * (ay (fun i=>rv A n (W i) x * ind (cols.getD i 0) y) ρ.length - d * ind x y)) col=ay (fun y=>ay (fun i=>rv A n (W i) x * (ind (cols.getD i 0) y * f y)) ρ.length+(-d) * (ind x y * f y)) col:=ao fun y _=>by
    have:ay (fun i=>rv A n (W i) x * (ind (cols.getD i 0) y * f y)) ρ.length=f y * ay (fun i=>rv A n (W i) x * ind (cols.getD i 0) y) ρ.length:=by
     rw [←az]
     exact ao fun i _=>by grind
    rw [this];grind
   rw [e1,eL,az,j2 (f:=f) hx,cy]
   have e2:ay (fun i=>ay (fun y=>rv A n (W i) x * (ind (cols.getD i 0) y * f y)) col) ρ.length=ay (fun i=>rv A n (W i) x * f (cols.getD i 0)) ρ.length:=ao fun i hi=>by
    rw [az,j2 (f:=f) (t.cl _ (cm i hi))]
   rw [e2];grind
  refine aaG t.d0 ?_
  rw [Int.mul_zero,gen (A k),Int.mul_sub]
  have b1:=t.back hk hx
  have e3:ay (fun i=>rv A n (W i) x * A k (cols.getD i 0)) ρ.length=d * A k x:=by
   rw [b1]
   exact ao fun i _=>aaE _ _
  rw [e3];grind
def Sol(A:Nat→Row)(n u:Nat)(z:Row)(N:Int):Prop:=∀k,k < n→ay (fun x=>A k x * z x) u=N * A k u
theorem Sol.line{u:Nat}{z:Row}{N:Int}(h:Sol A n u z N)(w:Row):ay (fun x=>rv A n w x * z x) u=N * rv A n w u:=by
 unfold rv
 have e1:ay (fun x=>ay (fun k=>w k * A k x) n * z x) u=ay (fun x=>ay (fun k=>w k * (A k x * z x)) n) u:=ao fun x _=>by
  rw [aaE,←az]
  exact ao fun k _=>by grind
 rw [e1,cy,←az]
 refine ao fun k hk=> ?_
 rw [az,h k hk];grind
theorem d8.rest(t:d8 A n col ρ cols q d W){z:Row}{N:Int}(hs:Sol A n col z N)(hN:N≠0){i:Nat}(h1:ρ.length≤i)(hi:i < n):rv A n (W i) col=0:=by
 have:=hs.line (W i)
 rw [fk fun x hx=>by rw [t.zero i h1 hi x hx];simp] at this
 rcases Int.mul_eq_zero.mp this.symm with e | e
 ·exact absurd e hN
 ·exact e
theorem d8.told(t:d8 A n col ρ cols q d W)(hc:cols=List.range col){z:Row}{N:Int}(hs:Sol A n col z N){i:Nat}(hi:i < col):d * z i=N * rv A n (W i) col:=by
 have s:=t.st
 have hl:ρ.length=col:=by rw [←s.lc,hc,abi]
 have g:∀p,p < col→cols.getD p 0=p:=fun p hp=>by rw [hc,aab,aaB hp];rfl
 rw [←hs.line (W i)]
 rw [fL hi fun x hx hne=>by
  have:=s.one i x (by rw [hl];exact hi) (by rw [hl];exact hx)
  rw [g x hx,if_neg (Ne.symm hne)] at this
  rw [this];simp]
 have:=s.one i i (by rw [hl];exact hi) (by rw [hl];exact hi)
 rw [g i hi,if_pos rfl] at this
 rw [this]
end
theorem d8.exists{A:Nat→Row}{n:Nat}:∀col:Nat,∃ρ cols q d W,d8 A n col ρ cols q d W
 | 0=>⟨_,_,_,_,_,d8.start⟩
 | col+1=>by
  obtain ⟨ρ,cols,q,d,W,t⟩:=d8.exists (A:=A) (n:=n) col
  by_cases h:∃k,ρ.length≤k∧k < n∧rv A n (W k) col≠0
  ·obtain ⟨k,h1,h2,h3⟩:=h
   have t':=t.move h1 h2
   have e:rot ρ.length k ρ.length=k:=by unfold rot;rw [if_neg (Nat.lt_irrefl _),if_pos rfl]
   obtain ⟨W',t2,_⟩:=t'.step (m:=col+1) (by omega) (by omega) (by show rv A n (W (rot ρ.length k ρ.length)) col≠0;rw [e];exact h3)
   exact ⟨_,_,_,_,_,t2⟩
  ·refine ⟨_,_,_,_,_,t.skip fun i h1 h2=> ?_⟩
   by_cases e:rv A n (W i) col=0
   ·exact e
   ·exact absurd ⟨i,h1,h2,e⟩ h
section
variable{A:Nat→Row}{n col:Nat}{ρ cols:List Nat}{q:Nat→Nat}{d:Int}{W:Nat→Row}
def kvk(A:Nat→Row)(n:Nat)(W:Nat→Row)(cols:List Nat)(s k:Nat):Row:=fun y=>ay (fun i=>rv A n (W i) s * ind (cols.getD i 0) y) k
theorem d8.kernelE(t:d8 A n col ρ cols q d W){x:Nat}(hx:x < col):∀k,k < n→ay (fun y=>A k y * (kvk A n W cols x cols.length y - d * ind x y)) col=0:=fun k hk=>by
 have s:=t.st
 have cm:∀i,i < ρ.length→cols.getD i 0∈cols:=fun i hi=>by
  have hi':i < cols.length:=by rw [s.lc];exact hi
  rw [aab,aaa hi'];exact aay hi'
 unfold kvk
 rw [s.lc]
 have gen:∀f:Row,ay (fun y=>f y * (ay (fun i=>rv A n (W i) x * ind (cols.getD i 0) y) ρ.length - d * ind x y)) col=ay (fun i=>rv A n (W i) x * f (cols.getD i 0)) ρ.length - d * f x:=fun f=>by
  have e1:ay (fun y=>f y * (ay (fun i=>rv A n (W i) x * ind (cols.getD i 0) y) ρ.length - d * ind x y)) col=ay (fun y=>ay (fun i=>rv A n (W i) x * (ind (cols.getD i 0) y * f y)) ρ.length+(-d) * (ind x y * f y)) col:=ao fun y _=>by
   have:ay (fun i=>rv A n (W i) x * (ind (cols.getD i 0) y * f y)) ρ.length=f y * ay (fun i=>rv A n (W i) x * ind (cols.getD i 0) y) ρ.length:=by
    rw [←az]
    exact ao fun i _=>by grind
   rw [this];grind
  rw [e1,eL,az,j2 (f:=f) hx,cy]
  have e2:ay (fun i=>ay (fun y=>rv A n (W i) x * (ind (cols.getD i 0) y * f y)) col) ρ.length=ay (fun i=>rv A n (W i) x * f (cols.getD i 0)) ρ.length:=ao fun i hi=>by
   rw [az,j2 (f:=f) (t.cl _ (cm i hi))]
  rw [e2];grind
 refine aaG t.d0 ?_
 rw [Int.mul_zero,gen (A k),Int.mul_sub]
 have b1:=t.back hk hx
 have e3:ay (fun i=>rv A n (W i) x * A k (cols.getD i 0)) ρ.length=d * A k x:=by
  rw [b1]
  exact ao fun i _=>aaE _ _
 rw [e3];grind
theorem d8.kvSol(t:d8 A n col ρ cols q d W)(h:∀i,ρ.length≤i→i < n→rv A n (W i) col=0):Sol A n col (kvk A n W cols col cols.length) d:=fun k hk=>by
 have:=(t.skip h).kernelE (x:=col) (by omega) k hk
 have e:ay (fun y=>A k y * (kvk A n W cols col cols.length y - d * ind col y)) (col+1)=ay (fun y=>A k y * (kvk A n W cols col cols.length y - d * ind col y)) col+A k col * (kvk A n W cols col cols.length col - d * ind col col):=rfl
 have e1:ay (fun y=>A k y * (kvk A n W cols col cols.length y - d * ind col y)) col=ay (fun y=>A k y * kvk A n W cols col cols.length y) col:=ao fun y hy=>by
  have:ind col y=0:=by unfold ind;rw [if_neg (by omega)]
  rw [this];grind
 have e2:kvk A n W cols col cols.length col=0:=fk fun i hi=>by
  have hm:cols.getD i 0∈cols:=by rw [aab,aaa hi];exact aay hi
  have:ind (cols.getD i 0) col=0:=by unfold ind;rw [if_neg (by have:=t.cl _ hm;omega)]
  rw [this,Int.mul_zero]
 have e3:ind col col=1:=by unfold ind;rw [if_pos rfl]
 rw [e,e1,e2,e3] at this
 have:A k col * (0 - d * 1)= -(d * A k col):=by grind
 omega
theorem St.absd(s:St A n ρ cols q d W){m:Nat}{B:Int}(b:Bd A n m B)(hc:∀c∈cols,c < m)(hr:ρ.length≤12):Ab d ((12 * B) ^ ρ.length):=by
 have ρn:∀a∈ρ,a < n:=fun a ha=>by
  obtain ⟨j,hj,e⟩:=aa7 ha
  have:=s.ρlt j hj
  rw [aab,aaa hj] at this
  rw [←e];exact this
 have:=Ab.det b.b1 (ρ.map A) cols (fun x hx c hc'=>by
  obtain ⟨a,ha,rfl⟩:=aal.mp hx
  exact b.ab a c (ρn a ha) (hc c hc')) (by rw [s.lc];exact hr)
 rw [s.det,aac] at this;exact this
end
end Bz
seal L2.JE L2.JT L2.JW L2.JA L2.JS L2.JSs L2.JI L2.JK
local macro_rules | `(tactic| walk_at "vc")=>`(tactic| dsimp only [L2.gN,L2.Gs,L2.GL,L2.dFz,L2.Gp,L2.B9,L2.sIf,L2.Gq,L2.Eg,L2.Cb,L2.zl,L2.DP,L2.dFn,L2.dOp,L2.dUn,L2.wX,L2.dC,L2.FX,L2.D0,L2.GR,L2.GU,L2.sR,L2.orT,L2.GF,L2.GV,L2.dOr,L2.dIf,L2.kB,List.map_cons,List.map_nil,List.length_cons,List.length_nil,List.cons_append,List.nil_append,List.replicate,List.getElem?_cons_zero,List.getElem?_cons_succ,List.set_cons_zero,List.set_cons_succ,Nat.reduceSub,Nat.reduceAdd,Nat.zero_add])
namespace Pg
open PySem L2
def top(i:Nat):Stmt:=PySem.Challenge.pw_chanceduel_k66_whole_means_and_worths.main.body.getD i (.Pass ⟨0,0,0,0⟩)
def cls(i j:Nat):Stmt:=match top i with
 | .ClassDef _ _ _ b _ _ _ _ _ _ _=>b.getD j (.Pass ⟨0,0,0,0⟩)
 | _=> .Pass ⟨0,0,0,0⟩
abbrev d9:Stmt:=top 10
abbrev jF:Stmt:=top 11
abbrev Aw:Stmt:=top 12
abbrev uW:Stmt:=top 13
abbrev uV:Stmt:=top 14
abbrev uU:Stmt:=top 15
abbrev lF:Stmt:=top 20
abbrev jH:Stmt:=top 21
abbrev eU:Stmt:=top 22
abbrev bP:Stmt:=top 23
abbrev eF:Stmt:=top 24
abbrev gS:Stmt:=top 25
abbrev ik:Stmt:=top 26
abbrev ij:Stmt:=top 30
abbrev ly:Stmt:=top 31
abbrev jE:Stmt:=top 32
abbrev uX:Stmt:=top 33
abbrev fq:Stmt:=top 36
abbrev eT:Stmt:=top 37
abbrev gw:Stmt:=top 38
abbrev cT:Stmt:=top 39
abbrev eV:Stmt:=top 40
abbrev h8:Stmt:=top 41
abbrev jI:Stmt:=top 43
abbrev lE:Stmt:=top 45
abbrev lG:Stmt:=top 46
abbrev ju:Stmt:=top 47
abbrev ft:Stmt:=top 48
abbrev pG:Stmt:=top 49
abbrev jw:Stmt:=top 50
abbrev fo:Stmt:=top 51
abbrev js:Stmt:=top 52
abbrev h9:Stmt:=top 54
abbrev dR:Stmt:=top 55
abbrev fv:Stmt:=top 56
abbrev jx:Stmt:=top 57
abbrev pI:Stmt:=top 59
abbrev ia:Stmt:=top 60
abbrev lA:Stmt:=top 61
abbrev ic:Stmt:=top 62
abbrev jA:Stmt:=top 63
abbrev pH:Stmt:=top 64
abbrev dQ:Stmt:=top 65
abbrev lz:Stmt:=top 66
abbrev jC:Stmt:=top 67
abbrev jy:Stmt:=top 68
abbrev lB:Stmt:=top 69
abbrev jD:Stmt:=top 70
abbrev jz:Stmt:=top 71
abbrev jB:Stmt:=top 72
abbrev lC:Stmt:=top 73
abbrev EM:Stmt:=top 74
abbrev eE:Stmt:=cls 34 0
abbrev ie:Stmt:=cls 34 1
abbrev gy:Stmt:=cls 34 2
abbrev ig:Stmt:=cls 34 3
abbrev gz:Stmt:=cls 34 4
abbrev jG:Stmt:=cls 34 5
abbrev gx:Stmt:=cls 34 7
abbrev bY:Stmt:=cls 34 8
abbrev eD:Stmt:=cls 34 9
open PySem L2 Fr0 Tx
abbrev VB:List Value:=[.type "ValueError", .type "Exception", .type "BaseException", .type "object"]
structure Ev(K:PySem.W.Frag)(mg:Str→Option Value)(Co CF CN:Addr):Prop where
 n_len:mg "len"=none
 n_abs:mg "abs"=none
 n_isinstance:mg "isinstance"=none
 n_int:mg "int"=none
 n_bool:mg "bool"=none
 n_str:mg "str"=none
 n_tuple:mg "tuple"=none
 n_list:mg "list"=none
 n_range:mg "range"=none
 n_enumerate:mg "enumerate"=none
 n_any:mg "any"=none
 n_all:mg "all"=none
 n_sum:mg "sum"=none
 n_zip:mg "zip"=none
 n_dict:mg "dict"=none
 ib:PySem.W.kitOne K (.type "int") (.type "bool")=some false
 kis:PySem.W.kitOne K (.type "int") (.type "str")=some false
 kts:PySem.W.kitOne K (.type "tuple") (.type "str")=some false
 kti:PySem.W.kitOne K (.type "tuple") (.type "int")=some false
 kls:PySem.W.kitOne K (.type "list") (.type "str")=some false
 kli:PySem.W.kitOne K (.type "list") (.type "int")=some false
 ktl:PySem.W.kitOne K (.type "tuple") (.type "list")=some false
 klt:PySem.W.kitOne K (.type "list") (.type "tuple")=some false
 mNoFloor:mg "NoFloor"=some (.ref CF)
 eNoFloor:iM K CF VB "ValueError.__new__"
 mNoNumber:mg "NoNumber"=some (.ref CN)
 eNoNumber:iM K CN VB "ValueError.__new__"
 clsFloor:Cls K Co
 na_kept_rows:gh K Co "kept_rows"
 na_kept_share:gh K Co "kept_share"
 mHANDS:∃a o its n,mg "HANDS"=some (.ref a)∧K.lookup a=some o∧o.cls= .type "tuple"∧o.data= .seq its n∧its.size≤sizeLine∧Paired (fun (z:Str) (u:Value)=>∃tk,u= .str z tk) ["one","other"] its.toList
 mMOST_DOORS:∃tk,mg "MOST_DOORS"=some (.int 6 tk)
 mMOST_BOTTOM:∃tk,mg "MOST_BOTTOM"=some (.int 1000000 tk)
 mMOST_PLACES:∃tk,mg "MOST_PLACES"=some (.int 12 tk)
 mMOST_SHARE_BOTTOM:∃tk,mg "MOST_SHARE_BOTTOM"=some (.int 1000 tk)
theorem zJ{K:PySem.W.Frag}{T:String}:PySem.W.kitOne K (.type T) (.type T)=some true:=by
 unfold PySem.W.kitOne
 rw [if_pos (beq_self_eq_true _)]
section
variable{P:Program}{w:World}{K:PySem.W.Frag}{mg:Str→Option Value}{base:Heap}{Co CF CN:Addr}
def Ea:DF:=fun ds M q _=>match ds with
 | [.int a, .int b]=>q (.int (g a b)) M
 | _=>False
theorem br:ar ["one","other","great","small","rest"] ["one","other"] (ag d9):=⟨rfl,rfl,rfl,by decide+kernel,rfl,by decide+kernel,by decide+kernel⟩
theorem iO{f:Addr}{fd:FuncData}(F:Fun K "common_divisor" "common_divisor" d9 f fd)(E:Ev K mg Co CF CN):bA P w K mg base (CX1 P w) 1 f fd ["one","other"] (spD K Ea):=by
 refine F.okD br (fun ds M q x h=> ?_) (fun cdv A outer s H E' hr=>⟨_,(ae (aq (i:=2) br.nd rfl (Or.inl rfl) (qw E.n_abs (aa (jv 0) af (hs:=ak))))
   (ae (aq (i:=3) br.nd rfl (Or.inl rfl) (qw E.n_abs (aa (jv 1) af (hs:=ak))))
   (ae (rZ (mv hr (jv 3) aw) (ae (aq (i:=4) br.nd rfl (Or.inl rfl) (cY (jv 2) (jv 3)))
   (ae (aq (i:=2) br.nd rfl (Or.inl rfl) (jv 3))
   (ah (aq (i:=3) br.nd rfl (Or.inl rfl) (jv 4))))))
   (ah (au (jv 2)))))),fun ds M q x h=> ?_⟩)
 ·unfold Ea at h;split at h; · rfl
  ·exact h.elim
 ·unfold Ea at h
  split at h
  ·rename_i a b
   refine ⟨fun m ρ M'=>M'=M∧∃(x y:Int) (r:Option Dt),ρ=[some (.int a),some (.int b),some (.int x),some (.int y),r]∧0≤x∧0≤y∧g x y=g a b∧m=y.toNat,⟨_,rfl,_,_,_,rfl,by split <;> omega,by split <;> omega,Du a b,rfl⟩, ?_⟩
   rintro m ρ M' ⟨rfl,x,y,r,rfl,hx,hy,e,rfl⟩
   refine ⟨fun hb=> ?_,fun hb=> ?_⟩
   ·have hy0:y≠0:=by simpa using hb
    refine ⟨_,fun ρ' M2 h2=>h2, ?_⟩
    refine ⟨by omega,(x % y).toNat, ?_,rfl,y,x % y,_,rfl,hy,aaV _ hy0, ?_,rfl⟩
    ·have:=aaQ x (show 0 < y by omega)
     have:=aaV x hy0
     omega
    ·rw [←abv x hy,zS (by omega)];exact e
   ·have hy0:y=0:=by simpa using hb
    subst hy0
    rw [zR hx] at e
    subst e
    exact h
  ·exact h.elim
theorem xo{i j:Int}(h:Big j)(l:i.natAbs≤j.natAbs):Big i:=aaO l h
def qM(CN:Addr):DF:=fun ds M q x=>match ds with
 | [.int t, .int b]=>Big b∧(b=0→x CN [] M)∧(b≠0→q (.tup [.int (bK t b).1, .int (bK t b).2]) M)
 | _=>False
theorem h7:ar ["top","bottom","divisor"] ["top","bottom"] (ag jF):=⟨rfl,rfl,rfl,by decide+kernel,rfl,by decide+kernel,by decide+kernel⟩
theorem qb{f:Addr}{fd:FuncData}(F:Fun K "fraction" "fraction" jF f fd)(E:Ev K mg Co CF CN){fCommonDivisor:Addr}{dCommonDivisor:FuncData}(c_CommonDivisor:bx P w K mg base 1 "common_divisor" ["one","other"] Ea fCommonDivisor dCommonDivisor):bA P w K mg base (CX1 P w) 2 f fd ["top","bottom"] (spD K (qM CN)):=by
 refine F.okD h7 (fun ds M q x h=> ?_) (fun cdv A outer s H E' hr=>⟨_,(ae (bc (eg hr (jv 1) aw) (ah (mw pN abS E.eNoNumber E.mNoNumber (aa g9 af (hs:=bB)))) aA)
   (ae (aq (i:=2) h7.nd rfl (Or.inl rfl) (aV c_CommonDivisor hr aj (aa (jv 0) (aa (jv 1) af (hs:=ak)) (hs:=ak))))
   (ae (iH (bc (qp (jv 1) aw) (ah (aq (i:=2) h7.nd rfl (Or.inl rfl) (Fg (jv 2)))) aA))
   (ah (au (cJ (aa (wq (jv 0) (jv 2)) (aa (wq (jv 1) (jv 2)) af (hs:=bO)) (hs:=bO)))))))),fun ds M q x h=> ?_⟩)
 ·unfold qM at h;split at h; · rfl
  ·exact h.elim
 ·unfold qM at h
  split at h
  ·rename_i t b
   obtain ⟨hB,h0,h1⟩:=h
   refine ⟨fun hb=> ?_,fun hb=> ?_⟩
   ·exact ⟨by decide,h0 (by simpa using hb)⟩
   ·have hb0:b≠0:=by simpa using hb
    refine ⟨fun ρ M'=>M'=M∧ρ=[some (.int t),some (.int b),some (.int (dv t b))],⟨fun hn=> ?_,fun hn=> ?_⟩, ?_⟩
    ·have hn':b < 0:=by simpa using hn
     exact ⟨rfl,by unfold dv;rw [if_pos hn'];rfl⟩
    ·have hn':¬b < 0:=by simpa using hn
     exact ⟨rfl,by unfold dv;rw [if_neg hn'];rfl⟩
    ·rintro ρ M' ⟨rfl,rfl⟩
     have hd:=yP (t:=t) hb0
     have hbd:Big (dv t b):=xo hB (oy hb0)
     exact ⟨⟨hd,hbd⟩,⟨hd,hbd⟩,(by show 2≤sizeLine;decide),h1 hb0⟩
  ·exact h.elim
abbrev Fr:=Int×Int
def frD(p:Fr):Dt:= .tup [.int p.1, .int p.2]
def aX(p:Fr):Bool:=decide ((if p.1 < 0 then -p.1 else p.1)≤10 ^ 30)&&decide (p.2≤1000000)
def mM:DF:=fun ds M q _=>∃p,ds=[frD p]∧q (.bl (aX p)) M
theorem uT:ar ["pay"] ["pay"] (ag lF):=⟨rfl,rfl,rfl,by decide+kernel,rfl,by decide+kernel,by decide+kernel⟩
theorem tM{f:Addr}{fd:FuncData}(F:Fun K "fits_pay" "fits_pay" lF f fd)(E:Ev K mg Co CF CN):bA P w K mg base (CX1 P w) 1 f fd ["pay"] (spD K mM):=by
 refine F.okD uT (fun ds M q x h=> ?_) (fun cdv A outer s H E' hr=>⟨_,(ah (au (gf (zM (qw E.n_abs (aa (aD (jv 0) aw) af (hs:=aS))) (oh aw aw)) (iI (zM (aD (jv 0) aw) (oi E.mMOST_BOTTOM)))))),fun ds M q x h=> ?_⟩)
 ·obtain ⟨p,rfl,_⟩:=h;rfl
 ·obtain ⟨p,rfl,h⟩:=h
  refine ⟨⟨by decide,by decide,by decide⟩,fun h1=> ?_,fun h1=> ?_⟩
  ·have e:aX p=decide (p.2≤1000000):=by unfold aX;rw [show decide ((if p.1 < 0 then -p.1 else p.1)≤10 ^ 30)=true from h1];rfl
   rw [e] at h;exact h
  ·have e:aX p=false:=by unfold aX;rw [show decide ((if p.1 < 0 then -p.1 else p.1)≤10 ^ 30)=false from h1];rfl
   rw [e] at h;exact h
theorem mf{M:Ms}{d:Dt}{xs:List Dt}{ok:Ms→Prop}(h:oW M d=some (xs,ok)):ok M:=by
 cases d with
 | lst ds=>cases h;trivial
 | scr ns=>cases h;trivial
 | loc k=>
  have h:(match M[k]? with | some (.lst xs)=>some (xs,fun M':Ms=>M'[k]? =some (.lst xs)) | _=>none)=some (xs,ok):=h
  split at h
  ·rename_i ys hm;cases h;exact hm
  ·cases h
 | _=>cases h
theorem sf{M:Ms}{d:Dt}{xs:List Dt}{ok:Ms→Prop}(h:oW M d=some (xs,ok)):tZ M d=some (xs,ok):=by
 cases d with
 | lst ds=>cases h;rfl
 | scr ns=>cases h;rfl
 | loc k=>exact h
 | _=>cases h
theorem dX{i:Nat}{ρ:En}{M:Ms}{d:Dt}{xs:List Dt}{ok:Ms→Prop}{q:List Dt→(Ms→Prop)→Ms→Prop}{x:DX}(hv:ρ[i]? =some (some d))(hl:oW M d=some (xs,ok))(h:q xs ok M):iP (wX i) ρ M q x:=by
 unfold iP wX
 rw [hv]
 show (match tZ M d with | some (xs,ok)=>q xs ok M | none=>False)
 rw [sf hl]
 exact h
theorem bg{n:Int}{k:Nat}(h:n.natAbs < 2 ^ k)(hk:k≤8000:=by decide):Big n:=aao h (abp (by decide) hk)
def aR(t:Int)(p:Fr)(size:Int):Bool:=decide (0≤t)&&(decide (t < size)&&aX p)
def oS:DF:=fun ds M q _=>∃t p r size,ds=[.tup (.int t::frD p::r), .int size]∧q (.bl (aR t p size)) M
theorem tD:ar ["door","size"] ["door","size"] (ag jH):=⟨rfl,rfl,rfl,by decide+kernel,rfl,by decide+kernel,by decide+kernel⟩
theorem qd{f:Addr}{fd:FuncData}(F:Fun K "fits_door" "fits_door" jH f fd)(E:Ev K mg Co CF CN){fFitsPay:Addr}{dFitsPay:FuncData}(c_FitsPay:bx P w K mg base 1 "fits_pay" ["pay"] mM fFitsPay dFitsPay):bA P w K mg base (CX1 P w) 2 f fd ["door","size"] (spD K oS):=by
 refine F.okD tD (fun ds M q x h=> ?_) (fun cdv A outer s H E' hr=>⟨_,(ah (au (gf (zM aw (aD (jv 0) aw)) (gf (BK (aD (jv 0) aw) (jv 1)) (iI (aV c_FitsPay hr aj (aa (aD (jv 0) aw) af (hs:=aS)))))))),fun ds M q x h=> ?_⟩)
 ·obtain ⟨t,p,r,size,rfl,_⟩:=h;rfl
 ·obtain ⟨t,p,r,size,rfl,h⟩:=h
  walk_at "vc"
  refine ax rfl dG ?_
  refine ⟨fun h1=> ?_,fun h1=> ?_⟩
  ·refine ax rfl dG ⟨fun h2=> ?_,fun h2=> ?_⟩
   ·refine ax rfl (aI (j:=1) rfl) ⟨p,rfl, ?_⟩
    have e:aR t p size=aX p:=by unfold aR;rw [h1,h2];rfl
    rw [←e];exact h
   ·have e:aR t p size=false:=by unfold aR;rw [h1,h2];rfl
    rw [←e];exact h
  ·have e:aR t p size=false:=by unfold aR;rw [h1];rfl
   rw [←e];exact h
abbrev DrG:=Int×Fr×List Fr
def drG(d:DrG):Dt:= .tup (.int d.1::frD d.2.1::d.2.2.map frD)
def aK(ds:List DrG)(size:Int):Bool:=decide (1≤ds.length)&&decide (ds.length≤6)&&ds.all fun d=>aR d.1 d.2.1 size
def kZ:DF:=fun as M q _=>∃d size ds ok,as=[d, .int size]∧oW M d=some (ds.map drG,ok)∧ds.length≤100∧q (.bl (aK ds size)) M
theorem pE:ar ["doors","size"] ["doors","size"] (ag eF):=⟨rfl,rfl,rfl,by decide+kernel,rfl,by decide+kernel,by decide+kernel⟩
theorem nO{f:Addr}{fd:FuncData}(F:Fun K "fits_doors" "fits_doors" eF f fd)(E:Ev K mg Co CF CN){fFitsDoor:Addr}{dFitsDoor:FuncData}(c_FitsDoor:bx P w K mg base 2 "fits_door" ["door","size"] oS fFitsDoor dFitsDoor):bA P w K mg base (CX1 P w) 3 f fd ["doors","size"] (spD K kZ):=by
 refine F.okD pE (fun ds M q x h=> ?_) (fun cdv A outer s H E' hr=>⟨_,(ae (bc (JW.jt (oa (qp (dE E.n_len (aa (jv 0) af (hs:=ak))) aw) (iG (Dd (dE E.n_len (aa (jv 0) af (hs:=ak))) (oi E.mMOST_DOORS))))) (ah (au jbl)) aA)
   (ah (au (Fm E.n_all (aa (e6 (ys:=["size"]) (caps:=[1]) ⟨rfl,by decide+kernel,by decide+kernel,rfl,(by show∀p:Str×NameKind,p∈_→p.2=NameKind.free→List.lookup p.1 (ag eF).names=some .cell;decide+kernel),by decide+kernel,(by show∀q:Str×Nat,q∈_→(["doors","size"]:List Str)[q.2]? =some q.1∧List.lookup q.1 (ag eF).names=some .cell∧_;decide+kernel),rfl⟩ (cD (jv 0)) (fun C s H fp=>(aV c_FitsDoor hr (dU (P:=P) (w:=w)) (aa (jv 0) (aa (jv 1) af (hs:=ak)) (hs:=ak))))) af))))),fun ds M q x h=> ?_⟩)
 ·obtain ⟨d,size,ds,ok,rfl,_⟩:=h;rfl
 ·obtain ⟨d,size,ds,ok,rfl,hl,hz,h⟩:=h
  have hs:=i6 hl
  walk_at "vc"
  refine aL hs ⟨fun h1=> ?_,fun h1=> ?_⟩
  ·refine ⟨fun _=> ?_,fun z=>(nomatch z)⟩
   have e:aK ds size=false:=by
    have:(ds.length:Int) < 1:=by simpa using h1
    unfold aK
    rw [decide_eq_false (by omega)];rfl
   rw [←e];exact h
  ·have h1:¬(ds.length:Int) < 1:=by simpa using h1
   refine aL hs ⟨fun h2=> ?_,fun h2=> ?_⟩
   ·have e:aK ds size=false:=by
     have:6 < (ds.length:Int):=by simpa using h2
     unfold aK
     rw [decide_eq_false (p:=ds.length≤6) (by omega),Bool.and_false];rfl
    rw [←e];exact h
   ·have h2:¬6 < (ds.length:Int):=by simpa using h2
    refine dX rfl hl ⟨by rw [aac];exact aaz hz (by decide), ?_⟩
    refine cZ (f:=fun d=> .bl (match d with | .tup (.int t:: .tup [.int a, .int b]::_)=>aR t (a,b) size | _=>false)) (mf hl) (fun x hx q hq=> ?_) ?_
    ·obtain ⟨y,_,rfl⟩:=aal.mp hx
     exact ⟨y.1,y.2.1,y.2.2.map frD,size,rfl,hq⟩
    ·refine ⟨ds.map fun d=>aR d.1 d.2.1 size, ?_, ?_⟩
     ·rw [aaC,aaI,aaC];rfl
     ·have e:aK ds size=(ds.map fun d=>aR d.1 d.2.1 size).all id:=by
       unfold aK
       rw [decide_eq_true (show 1≤ds.length by omega),decide_eq_true (show ds.length≤6 by omega),List.all_map];rfl
      rw [←e];exact h
def dI(cs:List Fr):Int:=cs.foldl (fun b c=>b * c.2 / g b c.2) 1
theorem i8{b c:Int}(hb:0 < b)(hc:0 < c):0 < b * c / g b c∧b * c / g b c≤b * c∧0 < g b c∧g b c≤c:=by
 have hg:0 < g b c:=wG (by omega)
 have hbc:0 < b * c:=aaq hb hc
 have hd:g b c∣c:=Int.gcd_dvd_right ..
 have hle:g b c≤c:=abQ hc hd
 have h1:c≤b * c:=by
  have:=aaj (show 1≤b by omega) (show 0≤c by omega)
  simpa using this
 refine ⟨Int.ediv_pos_of_pos_of_dvd hbc (by omega) (Int.dvd_mul_of_dvd_right hd), ?_,hg,hle⟩
 exact Int.ediv_le_self _ (by omega)
def Ok3(cs:List Fr):Prop:=cs.length≤12∧∀c∈cs,0 < c.2∧c.2 < 2 ^ 200∧c.1.natAbs < 2 ^ 200
def OkB(cs:List Fr):Prop:=cs.length≤13∧∀c∈cs,0 < c.2∧c.2 < 2 ^ 200
theorem jW:∀(cs:List Fr) (b:Int) (k:Nat),0 < b→b≤2 ^ (200 * k)→(∀c∈cs,0 < c.2∧c.2 < 2 ^ 200)→0 < cs.foldl (fun b c=>b * c.2 / g b c.2) b∧cs.foldl (fun b c=>b * c.2 / g b c.2) b≤2 ^ (200 * (k+cs.length))
 | [],b,k,h0,h1,_=>⟨h0,h1⟩
 | c::cs,b,k,h0,h1,hc=>by
  obtain ⟨c0,c1⟩:=hc c aae
  obtain ⟨s0,s1,_⟩:=i8 h0 c0
  have hlt:b * c.2 / g b c.2≤2 ^ (200 * (k+1)):=by
   refine aa4 s1 ?_
   rw [show 200 * (k+1)=200 * k+200 by omega,Int.pow_add]
   exact abr h1 (aah c1) (aah c0) (aah (abA (by decide)))
  have:=jW cs _ (k+1) s0 hlt fun d hd=>hc d (aad _ hd)
  rw [abD,aas,show k+(cs.length+1)=k+1+cs.length by omega]
  exact this
theorem GX{n:Int}{k:Nat}(h0:0≤n)(h:n≤2 ^ k)(hk:k < 8000):Big n:=by
 refine bg (k:=k+1) ?_ hk
 have:(n.natAbs:Int) < ((2 ^ (k+1):Nat):Int):=by
  rw [abc h0,abN,aaP]
  have:(0:Int) < 2 ^ k:=abA (by decide)
  show n < 2 ^ k * 2
  omega
 exact abO.mp this
theorem dD:∀(cs:List Fr) (b:Int),0 < b→(∀c∈cs,0 < c.2)→0 < cs.foldl (fun b c=>b * c.2 / g b c.2) b
 | [],_,h0,_=>h0
 | c::cs,b,h0,hc=>dD cs _ (i8 h0 (hc c aae)).1 fun d hd=>hc d (aad _ hd)
theorem BP{n:Int}{k:Nat}(h0:0≤n)(h:n < 2 ^ k)(hk:k≤8000):Big n:=by
 refine bg (k:=k) ?_ hk
 have:(n.natAbs:Int) < ((2 ^ k:Nat):Int):=by rw [abc h0,abN];exact h
 exact abO.mp this
def fe:DF:=fun ds M q _=>∃cs:List Fr,ds=[.lst (cs.map frD)]∧OkB cs∧q (.int (dI cs)) M
theorem cP:ar ["chances","bottom","chance"] ["chances"] (ag eU):=⟨rfl,rfl,rfl,by decide+kernel,rfl,by decide+kernel,by decide+kernel⟩
theorem jQ{f:Addr}{fd:FuncData}(F:Fun K "common_bottom" "common_bottom" eU f fd)(E:Ev K mg Co CF CN){fCommonDivisor:Addr}{dCommonDivisor:FuncData}(c_CommonDivisor:bx P w K mg base 1 "common_divisor" ["one","other"] Ea fCommonDivisor dCommonDivisor):bA P w K mg base (CX1 P w) 2 f fd ["chances"] (spD K fe):=by
 refine F.okD cP (fun ds M q x h=> ?_) (fun cdv A outer s H E' hr=>⟨_,(ae (aq (i:=1) cP.nd rfl (Or.inl rfl) aw)
   (ae (dW (cD (jv 0)) (aJ (i:=2) cP.nd rfl (Or.inl rfl)) bJ (ah (aq (i:=1) cP.nd rfl (Or.inl rfl) (fi (bW (jv 1) (aD (jv 2) aw)) (aV c_CommonDivisor hr aj (aa (jv 1) (aa (aD (jv 2) aw) af (hs:=aS)) (hs:=ak)))))))
   (ah (au (jv 1))))),fun ds M q x h=> ?_⟩)
 ·obtain ⟨cs,rfl,_⟩:=h;rfl
 ·obtain ⟨cs,rfl,⟨hz,hc⟩,h⟩:=h
  walk_at "vc"
  refine dX (i:=0) rfl rfl ?_
  refine cQ (fun xs ρ M'=>M'=M∧∃don rest r,cs=don++rest∧xs=rest.map frD∧ρ=[some (.lst (cs.map frD)),some (.int (dI don)),r]) (fun _ _ _ _=>trivial) (fun x xs ρ M' hj nxt=> ?_) (fun ρ M' hj=> ?_) _ _ _ ⟨rfl,[],cs,none,rfl,rfl,rfl⟩
  ·obtain ⟨rfl,don,rest,r,e,ex,rfl⟩:=hj
   cases rest with
   | nil=>cases ex
   | cons c rest=>
    cases ex
    have hd:∀d∈don,0 < d.2∧d.2 < 2 ^ 200:=fun d hd=>by
     obtain ⟨a,b⟩:=hc d (by rw [e];exact abT _ hd)
     exact ⟨a,b⟩
    obtain ⟨c0,c1⟩:=hc c (by rw [e];exact aax _ aae)
    obtain ⟨b0,b1⟩:=jW don 1 0 (by decide) (by decide) hd
    have hl:don.length≤13:=by
     have:=congrArg List.length e
     rw [aap] at this
     omega
    obtain ⟨s0,s1,g0,g1⟩:=i8 b0 c0
    refine ⟨⟨GX (aah b0) b1 (by omega),BP (aah c0) c1 (by decide)⟩,⟨g0,BP (aah g0) (aan g1 c1) (by decide)⟩, ?_⟩
    refine nxt _ _ ⟨rfl,don++[c],rest,some (frD c),by rw [e];simp,rfl, ?_⟩
    have e2:dI (don++[c])=dI don * c.2 / g (dI don) c.2:=by unfold dI;rw [List.foldl_append];rfl
    rw [e2];rfl
  ·obtain ⟨rfl,don,rest,r,e,ex,rfl⟩:=hj
   cases rest with
   | nil=>rw [aaT] at e;subst e;exact h
   | cons c rest=>cases ex
def aE(cs:List Fr):Bool:= !(cs.any fun c=>decide (c.1≤0))&&(decide ((cs.map fun c=>c.1 * (dI cs / c.2)).sum=dI cs)&&decide (dI cs≤1000000))
def iL:DF:=fun ds M q _=>∃cs:List Fr,ds=[.lst (cs.map frD)]∧Ok3 cs∧q (.bl (aE cs)) M
theorem eR:ar ["chances","bottom","whole"] ["chances"] (ag bP):=⟨rfl,rfl,rfl,by decide+kernel,rfl,by decide+kernel,by decide+kernel⟩
theorem kj{f:Addr}{fd:FuncData}(F:Fun K "fits_chances" "fits_chances" bP f fd)(E:Ev K mg Co CF CN){fCommonBottom:Addr}{dCommonBottom:FuncData}(c_CommonBottom:bx P w K mg base 2 "common_bottom" ["chances"] fe fCommonBottom dCommonBottom):bA P w K mg base (CX1 P w) 3 f fd ["chances"] (spD K iL):=by
 refine F.okD eR (fun ds M q x h=> ?_) (fun cdv A outer s H E' hr=>⟨_,(ae (bc (eG (Fj E.n_any (aa (e6 (ys:=[]) (caps:=[]) ⟨rfl,by decide+kernel,by decide+kernel,rfl,(by show∀p:Str×NameKind,p∈_→p.2=NameKind.free→List.lookup p.1 (ag bP).names=some .cell;decide+kernel),by decide+kernel,(by show∀q:Str×Nat,q∈_→(["chances","bottom","whole"]:List Str)[q.2]? =some q.1∧List.lookup q.1 (ag bP).names=some .cell∧_;decide+kernel),rfl⟩ (cD (jv 0)) (fun C s H fp=>(zM (aD (jv 0) aw) aw))) af))) (ah (au jbl)) aA)
   (ae (aq (i:=1) eR.nd rfl (Or.inr rfl) (aV c_CommonBottom hr aj (aa (jv 0) af (hs:=ak))))
   (ae (aq (i:=2) eR.nd rfl (Or.inl rfl) (Dh E.n_sum (aa (e6 (ys:=["bottom"]) (caps:=[1]) ⟨rfl,by decide+kernel,by decide+kernel,rfl,(by show∀p:Str×NameKind,p∈_→p.2=NameKind.free→List.lookup p.1 (ag bP).names=some .cell;decide+kernel),by decide+kernel,(by show∀q:Str×Nat,q∈_→(["chances","bottom","whole"]:List Str)[q.2]? =some q.1∧List.lookup q.1 (ag bP).names=some .cell∧_;decide+kernel),rfl⟩ (cD (jv 0)) (fun C s H fp=>(bW (aD (jv 0) aw) (fi (jv 1) (aD (jv 0) aw))))) af)))
   (ah (au (gf (GK hr (jv 2) (jv 1)) (iI (zM (jv 1) (oi E.mMOST_BOTTOM))))))))),fun ds M q x h=> ?_⟩)
 ·obtain ⟨cs,rfl,_⟩:=h;rfl
 ·obtain ⟨cs,rfl,ok3,h⟩:=h
  obtain ⟨hz,hc⟩:=id ok3
  have hz2:(cs.map frD).length≤sizeLine:=by rw [aac];exact aaz hz (by decide)
  obtain ⟨b0,b1⟩:=jW cs 1 0 (by decide) (by decide) fun c h=>⟨(hc c h).1,(hc c h).2.1⟩
  walk_at "vc"
  refine dX (i:=0) rfl rfl ⟨hz2, ?_⟩
  refine cZ (f:=fun d=> .bl (match d with | .tup [.int a, .int b]=>decide (a≤0) | _=>false)) trivial (fun x hx q hq=> ?_) ?_
  ·obtain ⟨y,_,rfl⟩:=aal.mp hx
   exact hq
  ·refine ⟨cs.map fun c=>decide (c.1≤0),by rw [aaC,aaI,aaC];rfl,fun _ z=>(nomatch z),fun _ z=>(nomatch z), ?_⟩
   have ea:(cs.map fun c=>decide (c.1≤0)).any id=cs.any fun c=>decide (c.1≤0):=by rw [List.any_map];rfl
   rw [ea]
   refine ⟨fun h1=> ?_,fun h1=> ?_⟩
   ·have e:aE cs=false:=by unfold aE;rw [h1];rfl
    rw [←e];exact h
   ·refine ⟨cs,rfl,⟨by omega,fun c h=>⟨(hc c h).1,(hc c h).2.1⟩⟩, ?_⟩
    walk_at "vc"
    refine dX (i:=0) rfl rfl ⟨hz2, ?_⟩
    refine cZ (f:=fun d=> .int (match d with | .tup [.int a, .int b]=>a * (dI cs / b) | _=>0)) trivial (fun x hx q hq=> ?_) ?_
    ·obtain ⟨y,hy,rfl⟩:=aal.mp hx
     obtain ⟨y0,y1,y2⟩:=hc y hy
     refine ⟨⟨y0,BP (aah y0) y1 (by decide)⟩,⟨bg y2, ?_⟩,hq⟩
     refine GX (k:=200 * (0+cs.length)) (Int.ediv_nonneg (aah b0) (aah y0)) (aa4 (Int.ediv_le_self _ (aah b0)) b1) (by omega)
    ·refine ⟨cs.map fun c=>c.1 * (dI cs / c.2),by rw [aaC,aaI,aaC];rfl,⟨_,_,rfl⟩, ?_⟩
     refine ⟨fun h2=> ?_,fun h2=> ?_⟩
     ·have e:aE cs=decide (dI cs≤1000000):=by unfold aE;rw [h1,h2];rfl
      rw [e] at h;exact h
     ·have e:aE cs=false:=by unfold aE;rw [h1,h2];rfl
      rw [←e];exact h
inductive Rw where
 | fin (p:Fr)
 | doors (k:Str) (ds:List DrG)
def ai(d:DrG):Fr:=d.2.2.headD (0,1)
def fZ:Rw→Prop
 | .fin p=>0 < p.2
 | .doors k ds=>k≠"end"∧ds.length≤12∧(k="chance"→(∀d∈ds,d.2.2=[ai d])∧Ok3 (ds.map ai))∧∀d∈ds,d.2.2.length≤1∧0 < d.2.1.2
def j9(M:Ms)(d:Dt):Rw→Prop
 | .fin p=>d= .tup [.str "end",frD p]
 | .doors k ds=>∃e ok,d= .tup [.str k,e]∧oW M e=some (ds.map drG,ok)
def cj:Rw→Dt
 | .fin p=> .tup [.str "end",frD p]
 | .doors k ds=> .tup [.str k, .lst (ds.map drG)]
theorem Az(M:Ms)(r:Rw):j9 M (cj r) r:=by
 cases r with
 | fin p=>rfl
 | doors k ds=>exact ⟨_,_,rfl,rfl⟩
theorem ot{n:Nat}(p:Fr):(frD p).under n:=⟨trivial,trivial,trivial⟩
theorem mF{n:Nat}:∀(ps:List Fr),Dt.underL n (ps.map frD)
 | []=>trivial
 | p::ps=>⟨ot p,mF ps⟩
theorem DH{n:Nat}(d:DrG):(drG d).under n:=⟨trivial,ot _,mF _⟩
theorem fb{n:Nat}:∀(ds:List DrG),Dt.underL n (ds.map drG)
 | []=>trivial
 | d::ds=>⟨DH d,fb ds⟩
theorem Ay{n:Nat}(r:Rw):(cj r).under n:=by
 cases r with
 | fin p=>exact ⟨trivial,ot p,trivial⟩
 | doors k ds=>exact ⟨trivial,fb ds,trivial⟩
theorem iY{n:Nat}:∀(rs:List Rw),Dt.underL n (rs.map cj)
 | []=>trivial
 | r::rs=>⟨Ay r,iY rs⟩
def aB(k:Str):Bool:=k=="one" || k=="other"
def e9(r:Rw)(size:Int):Bool:=match r with
 | .fin p=>aX p
 | .doors k ds=>if aB k then aK ds size else if k="chance" then aK ds size&&aE (ds.map ai) else false
theorem sj{i:Nat}{j:Int}{ρ:En}{M:Ms}{d:Dt}{ds xs:List Dt}{ok:Ms→Prop}{q:List Dt→(Ms→Prop)→Ms→Prop}{x:DX}(hv:ρ[i]? =some (some (.tup ds)))(hj:atI ds j=some d)(hl:oW M d=some (xs,ok))(h:q xs ok M):iP (dOp fIx (wX i) (dC (.int j))) ρ M q x:=by
 unfold iP dOp wX
 rw [hv]
 show fIx (.tup ds) (.int j) M (fun d M1=>match tZ M1 d with | some (xs,ok)=>q xs ok M1 | none=>False)
 refine ax rfl hj ?_
 show (match tZ M d with | some (xs,ok)=>q xs ok M | none=>False)
 rw [sf hl]
 exact h
theorem sg{k:Str}:inV (.str k) [.str "one", .str "other"]=aB k:=by
 show ((("one":Str)==k) || ((("other":Str)==k) || false))=(k=="one" || k=="other")
 rw [Bool.or_false,BEq.comm (a:=("one":Str)),BEq.comm (a:=("other":Str))]
def sI:DF:=fun as M q _=>∃d r size,as=[d, .int size]∧j9 M d r∧fZ r∧q (.bl (e9 r size)) M
theorem nu:ar ["row","size","kind"] ["row","size"] (ag gS):=⟨rfl,rfl,rfl,by decide+kernel,rfl,by decide+kernel,by decide+kernel⟩
theorem tL {f:Addr} {fd:FuncData} (F:Fun K "fits_row" "fits_row" gS f fd) (E:Ev K mg Co CF CN) {fFitsPay:Addr} {dFitsPay:FuncData} (c_FitsPay:bx P w K mg base 1 "fits_pay" ["pay"] mM fFitsPay dFitsPay) {fFitsDoors:Addr} {dFitsDoors:FuncData} (c_FitsDoors:bx P w K mg base 3 "fits_doors" ["doors","size"] kZ fFitsDoors dFitsDoors) {fFitsChances:Addr} {dFitsChances:FuncData} (c_FitsChances:bx P w K mg base 3 "fits_chances" ["chances"] iL fFitsChances dFitsChances):bA P w K mg base (CX1 P w) 4 f fd ["row","size"] (spD K sI):=by
 refine F.okD nu (fun ds M q x h=> ?_) (fun cdv A outer s H E' hr=>⟨_,(ae (aq (i:=2) nu.nd rfl (Or.inl rfl) (aD (jv 0) aw))
   (ae (bc (eg hr (jv 2) g9) (ah (au (aV c_FitsPay hr aj (aa (aD (jv 0) aw) af (hs:=aS))))) aA)
   (ae (bc (zL (jv 2) (Dj E.mHANDS)) (ah (au (aV c_FitsDoors hr aj (aa (aD (jv 0) aw) (aa (jv 1) af (hs:=ak)) (hs:=aS))))) aA)
   (ae (bc (eg hr (jv 2) g9) (ah (au (gf (aV c_FitsDoors hr aj (aa (aD (jv 0) aw) (aa (jv 1) af (hs:=ak)) (hs:=aS))) (iI (aV c_FitsChances hr aj (aa (e6 (ys:=[]) (caps:=[]) ⟨rfl,by decide+kernel,by decide+kernel,rfl,(by show∀p:Str×NameKind,p∈_→p.2=NameKind.free→List.lookup p.1 (ag gS).names=some .cell;decide+kernel),by decide+kernel,(by show∀q:Str×Nat,q∈_→(["row","size","kind"]:List Str)[q.2]? =some q.1∧List.lookup q.1 (ag gS).names=some .cell∧_;decide+kernel),rfl⟩ (cD (aD (jv 0) aw)) (fun C s H fp=>(aD (jv 0) aw))) af)))))) aA)
   (ah (au jbl)))))),fun ds M q x h=> ?_⟩)
 ·obtain ⟨d,r,size,rfl,_⟩:=h;rfl
 ·obtain ⟨d,r,size,rfl,ra,ro,h⟩:=h
  cases r with
  | fin p=>
   have ra:d= .tup [.str "end",frD p]:=ra
   subst ra
   exact ⟨fun _=>⟨p,rfl,h⟩,fun z=>(nomatch z)⟩
  | doors k ds=>
   obtain ⟨e,ok,rfl,hl⟩:=ra
   obtain ⟨hk,hz,hch,_⟩:=ro
   refine ⟨fun z=>absurd (of_decide_eq_true z) hk,fun _=> ?_⟩
   refine ⟨.str k,[.str "one", .str "other"],[.str "one", .str "other"],rfl,rfl,rfl, ?_⟩
   rw [sg]
   refine ⟨fun h1=> ?_,fun h1=> ?_⟩
   ·refine ⟨e,size,ds,ok,rfl,hl,by omega, ?_⟩
    have e1:e9 (.doors k ds) size=aK ds size:=by
     show (if aB k then _ else _)=_
     rw [if_pos h1]
    rw [←e1];exact h
   ·have e1:e9 (.doors k ds) size=if k="chance" then aK ds size&&aE (ds.map ai) else false:=by
     show (if aB k then _ else _)=_
     rw [if_neg (by rw [h1];decide)]
    rw [e1] at h
    refine ⟨fun h2=> ?_,fun h2=> ?_⟩
    ·have h2:k="chance":=of_decide_eq_true h2
     rw [if_pos h2] at h
     obtain ⟨hone,ok3⟩:=hch h2
     refine ⟨e,size,ds,ok,rfl,hl,by omega,fun h3=> ?_,fun h3=> ?_⟩
     ·rw [h3,Bool.true_and] at h
      show iP _ _ _ _ _
      refine sj (i:=0) (j:=1) (ds:=[.str k,e]) rfl (aI (j:=1) rfl) hl ⟨by rw [aac];exact aaz hz (by decide), ?_⟩
      refine cZ (f:=fun d=>match d with | .tup [_,_,c]=>c | _=> .non) (mf hl) (fun x hx q hq=> ?_) ?_
      ·obtain ⟨y,hy,rfl⟩:=aal.mp hx
       have ey:drG y= .tup [.int y.1,frD y.2.1,frD (ai y)]:=by unfold drG;rw [hone y hy];rfl
       rw [ey] at hq⊢
       exact hq
      ·refine ⟨ds.map ai, ?_,ok3,h⟩
       rw [aaI,aaC,aaC]
       have:∀y∈ds,((fun d=>match d with | Dt.tup [_,_,c]=>c | _=>Dt.non) ∘ drG) y=(frD ∘ ai) y:=fun y hy=>by
        have ey:drG y= .tup [.int y.1,frD y.2.1,frD (ai y)]:=by unfold drG;rw [hone y hy];rfl
        show (match drG y with | Dt.tup [_,_,c]=>c | _=>Dt.non)=frD (ai y)
        rw [ey]
       rw [aa8 this]
     ·rw [h3,Bool.false_and] at h
      exact h
    ·have h2:k≠"chance":=of_decide_eq_false h2
     rw [if_neg h2] at h
     exact h
def k7:DF:=fun as M q _=>∃d r,as=[d]∧j9 M d r∧fZ r∧match r with
 | .fin p=>q (.tup [.str "end",frD p]) M
 | .doors k ds=>q (.tup [.str k, .loc M.length]) (M++[.lst (ds.map drG)])
theorem pF:ar ["row"] ["row"] (ag ik):=⟨rfl,rfl,rfl,by decide+kernel,rfl,by decide+kernel,by decide+kernel⟩
theorem nP{f:Addr}{fd:FuncData}(F:Fun K "copied_row" "copied_row" ik f fd)(E:Ev K mg Co CF CN):bA P w K mg base (CX1 P w) 1 f fd ["row"] (spD K k7):=by
 refine F.okD pF (fun ds M q x h=> ?_) (fun cdv A outer s H E' hr=>⟨_,(ae (bc (eg hr (aD (jv 0) aw) g9) (ah (au (cJ (aa (aD (jv 0) aw) (aa (aD (jv 0) aw) af (hs:=aS)) (hs:=aS))))) aA)
   (ah (au (cJ (aa (aD (jv 0) aw) (aa (wj E.n_list (aa (aD (jv 0) aw) af (hs:=aS))) af (hs:=aU)) (hs:=aS)))))),fun ds M q x h=> ?_⟩)
 ·obtain ⟨d,r,rfl,_⟩:=h;rfl
 ·obtain ⟨d,r,rfl,ra,ro,h⟩:=h
  cases r with
  | fin p=>
   have ra:d= .tup [.str "end",frD p]:=ra
   subst ra
   exact ⟨fun _=>⟨by show 2≤sizeLine;decide,h⟩,fun z=>(nomatch z)⟩
  | doors k ds=>
   obtain ⟨e,ok,rfl,hl⟩:=ra
   refine ⟨fun z=>absurd (of_decide_eq_true z) ro.1,fun _=> ?_⟩
   show (match rh M e with | some xs=>_ | none=>False)
   rw [i6 hl]
   exact ⟨by show 2≤sizeLine;decide,h⟩
def aW(p:Fr):Bool:=decide (0≤p.1)&&(decide (p.1 < p.2)&&decide (p.2≤1000))
def kY:DF:=fun as M q _=>∃p,as=[frD p]∧q (.bl (aW p)) M
theorem pD:ar ["share"] ["share"] (ag ij):=⟨rfl,rfl,rfl,by decide+kernel,rfl,by decide+kernel,by decide+kernel⟩
theorem nN{f:Addr}{fd:FuncData}(F:Fun K "fits_share" "fits_share" ij f fd)(E:Ev K mg Co CF CN):bA P w K mg base (CX1 P w) 1 f fd ["share"] (spD K kY):=by
 refine F.okD pD (fun ds M q x h=> ?_) (fun cdv A outer s H E' hr=>⟨_,(ah (au (gf (zM aw (aD (jv 0) aw)) (gf (BK (aD (jv 0) aw) (aD (jv 0) aw)) (iI (zM (aD (jv 0) aw) (oi E.mMOST_SHARE_BOTTOM))))))),fun ds M q x h=> ?_⟩)
 ·obtain ⟨p,rfl,_⟩:=h;rfl
 ·obtain ⟨p,rfl,h⟩:=h
  unfold aW at h
  refine ⟨fun h1=>⟨fun h2=> ?_,fun h2=> ?_⟩,fun h1=> ?_⟩
  ·rw [show decide (0≤p.1)=true from h1,show decide (p.1 < p.2)=true from h2] at h;exact h
  ·rw [show decide (0≤p.1)=true from h1,show decide (p.1 < p.2)=false from h2] at h;exact h
  ·rw [show decide (0≤p.1)=false from h1] at h;exact h
theorem A7{b c S:Int}(hb:b∣S)(hc:c∣S)(hb0:0 < b)(hc0:0 < c):b * c / g b c∣S∧b∣b * c / g b c∧c∣b * c / g b c:=by
 have e:b * c / g b c=(Int.lcm b c:Nat):=by
  have h:=Int.gcd_mul_lcm b c
  have hg:0 < g b c:=wG (by omega)
  have h2:((Int.gcd b c:Nat):Int) * ((Int.lcm b c:Nat):Int)=b * c:=by
   rw [←Int.natCast_mul,h,Int.natCast_mul,abc (aah hb0),abc (aah hc0)]
  rw [←h2]
  exact Int.mul_ediv_cancel_left _ (by unfold g at hg;omega)
 rw [e]
 exact ⟨Int.coe_lcm_dvd hb hc,Int.dvd_lcm_left ..,Int.dvd_lcm_right ..⟩
theorem fT:∀(cs:List Fr) (b S:Int),0 < b→b∣S→(∀c∈cs,0 < c.2∧c.2∣S)→cs.foldl (fun b c=>b * c.2 / g b c.2) b∣S∧b∣cs.foldl (fun b c=>b * c.2 / g b c.2) b∧∀c∈cs,c.2∣cs.foldl (fun b c=>b * c.2 / g b c.2) b
 | [],b,S,_,h,_=>⟨h,Int.dvd_refl b,fun c hc=>nomatch hc⟩
 | c::cs,b,S,h0,h,hc=>by
  obtain ⟨c0,cS⟩:=hc c aae
  obtain ⟨d1,d2,d3⟩:=A7 h cS h0 c0
  obtain ⟨i1,i2,i3⟩:=fT cs _ S (i8 h0 c0).1 d1 fun x hx=>hc x (aad _ hx)
  rw [abD]
  refine ⟨i1,Int.dvd_trans d2 i2,fun x hx=> ?_⟩
  rcases aaJ.mp hx with rfl | hx
  ·exact Int.dvd_trans d3 i2
  ·exact i3 x hx
theorem jn(m:Int)(f:Int→Int):∀(ws:List Int),(ws.map fun w=>m * f w).sum=m * (ws.map f).sum
 | []=>by simp
 | w::ws=>by simp only [List.map_cons,List.sum_cons];rw [jn m f ws,Int.mul_add]
theorem yH{t b:Int}(h:0 < b):(bK t b).2∣b:=by
 obtain ⟨p,q,e,_,_,_,eb⟩:=eI (t:=t) (show b≠0 by omega)
 rw [e]
 exact ⟨dv t b,by show b=q * dv t b;rw [aaE];exact eb⟩
theorem qA{t b:Int}(ht:0 < t)(h:0 < b):0 < (bK t b).1:=by
 have hc:=bT (t:=t) (show b≠0 by omega)
 have hp:=b6 (t:=t) (show b≠0 by omega)
 have h1:0 < t * (bK t b).2:=aaq ht hp
 rw [hc] at h1
 exact Int.pos_of_mul_pos_right h1 h |> fun z=>z
theorem ui{ws:List Int}{S:Int}(hS:ws.sum=S)(hw:∀w∈ws,0 < w)(hn:ws≠[])(hS1:S≤1000000)(hz:ws.length≤12):aE (ws.map fun w=>bK w S)=true∧Ok3 (ws.map fun w=>bK w S):=by
 have pos:∀{l:List Int},(∀w∈l,0 < w)→0≤l.sum∧(l≠[]→0 < l.sum)∧∀w∈l,w≤l.sum:=by
  intro l
  induction l with
  | nil=>exact fun _=>⟨by simp,fun z=>absurd rfl z,fun w hw=>nomatch hw⟩
  | cons a l ih=>
   intro h
   obtain ⟨i1,i2,i3⟩:=ih fun w hw=>h w (aad _ hw)
   have:=h a aae
   rw [List.sum_cons]
   refine ⟨by omega,fun _=>by omega,fun w hw=> ?_⟩
   rcases aaJ.mp hw with rfl | hw
   ·omega
   ·have:=i3 w hw;omega
 obtain ⟨_,p2,p3⟩:=pos hw
 have S0:0 < S:=by rw [←hS];exact p2 hn
 have Sne:S≠0:=by omega
 have hd:∀c∈ws.map (fun w=>bK w S),0 < c.2∧c.2∣S:=fun c hc=>by
  obtain ⟨w,_,rfl⟩:=aal.mp hc
  exact ⟨b6 Sne,yH S0⟩
 obtain ⟨⟨m,hm⟩,_,hB⟩:=fT (ws.map fun w=>bK w S) 1 S (by decide) (Int.one_dvd _) hd
 have B0:0 < dI (ws.map fun w=>bK w S):=by
  refine (dD (ws.map fun w=>bK w S) 1 (by decide) fun c hc=>(hd c hc).1)
 generalize hBd:dI (ws.map fun w=>bK w S)=B at *
 have hm:S=B * m:=by rw [←hBd];exact hm
 have m0:0 < m:=by
  rcases Int.lt_trichotomy m 0 with h | h | h
  ·have:=abC B0 h;omega
  ·rw [h,Int.mul_zero] at hm;omega
  ·exact h
 have key:((ws.map fun w=>bK w S).map fun c=>c.1 * (B / c.2)).sum=B:=by
  have e1:∀w∈ws,m * ((bK w S).1 * (B / (bK w S).2))=w:=fun w hw=>by
   have hb:(bK w S).2∣B:=by
    rw [←hBd]
    exact hB _ (aal.mpr ⟨w,hw,rfl⟩)
   obtain ⟨k,hk⟩:=hb
   have q0:=b6 (t:=w) Sne
   have e2:B / (bK w S).2=k:=by rw [hk];exact aba _ (by omega)
   have hc:=bT (t:=w) Sne
   rw [e2]
   have hS':S=(bK w S).2 * k * m:=by rw [←hk];exact hm
   generalize (bK w S).1=x at *
   generalize (bK w S).2=y at *
   have e4:S * x=y * (m * (x * k)):=by
    rw [hS']
    simp only [Int.mul_assoc,Int.mul_comm,Int.mul_left_comm]
   have e3:y * (m * (x * k))=y * w:=by rw [←e4,←hc,aaE]
   exact aaG (by omega) e3
  have e5:m * ((ws.map fun w=>bK w S).map fun c=>c.1 * (B / c.2)).sum=m * B:=by
   rw [aaC]
   show m * (ws.map fun w=>(bK w S).1 * (B / (bK w S).2)).sum=m * B
   rw [←jn,aa8 e1,List.map_id',hS,hm,aaE]
  exact aaG (by omega) e5
 refine ⟨?_,⟨by rw [aac];exact hz,fun c hc=> ?_⟩⟩
 ·unfold aE
  rw [hBd,key]
  have ha:((ws.map fun w=>bK w S).any fun c=>decide (c.1≤0))=false:=by
   rw [List.any_eq_false]
   intro c hc
   obtain ⟨w,hw',rfl⟩:=aal.mp hc
   have:=qA (hw w hw') S0
   simpa using this
  have hle:B≤S:=by
   have:=aar (show 1≤m by omega) (aah B0)
   rw [Int.mul_one,←hm] at this
   exact this
  rw [ha,decide_eq_true rfl,decide_eq_true (show B≤1000000 by omega)];rfl
 ·obtain ⟨w,hw',rfl⟩:=aal.mp hc
  have q0:=b6 (t:=w) Sne
  have l1:=mE (t:=w) Sne
  have l2:=hI (t:=w) Sne
  have:=p3 w hw'
  have w0:=hw w hw'
  have big:(1000000:Int) < 2 ^ 200:=by decide
  have bigN:1000000 < 2 ^ 200:=by decide
  exact ⟨q0,by omega,by omega⟩
theorem cL{α:Type}{te:DE}{cs:En}{ok:Ms→Prop}{F:Dt→α→Prop}{f:α→Dt}{M:Ms}{k:List Dt→Ms→Prop}(ho:ok M)(ht:∀x a,F x a→∀q:DQ,q (f a) M→te (some x::cs) M q noX):∀{xs:List Dt} {as:List α} {acc:List Dt},Paired F xs as→k (acc++as.map f) M→ug te cs ok xs acc M k
 | _,_,acc, .nil,h=>⟨ho,by simpa using h⟩
 | _,_,acc, .cons r t,h=>⟨ho,ht _ _ r _ (cL ho ht t (by simpa using h))⟩
theorem rW{M:Ms}{k:Nat}{C C':Addr}{ns ns':List Str}{xs xs':List Dt}{e:Dt}{ys:List Dt}{ok:Ms→Prop}(hk:M[k]? =some (.ins C ns xs))(h:oW M e=some (ys,ok)):oW (M.set k (.ins C' ns' xs')) e=some (ys,ok):=by
 cases e with
 | lst ds=>exact h
 | scr ns=>exact h
 | loc j=>
  have h:(match M[j]? with | some (.lst xs)=>some (xs,fun M':Ms=>M'[j]? =some (.lst xs)) | _=>none)=some (ys,ok):=h
  have ne:k≠j:=fun z=>by
   subst z
   rw [hk] at h
   cases h
  show (match (M.set k (.ins C' ns' xs'))[j]? with | some (.lst xs)=>some (xs,fun M':Ms=>M'[j]? =some (.lst xs)) | _=>none)=some (ys,ok)
  rw [abo ne]
  exact h
 | _=>cases h
theorem va{M:Ms}{k:Nat}{C C':Addr}{ns ns':List Str}{xs xs':List Dt}{d:Dt}{r:Rw}(hk:M[k]? =some (.ins C ns xs))(h:j9 M d r):j9 (M.set k (.ins C' ns' xs')) d r:=by
 cases r with
 | fin p=>exact h
 | doors k' ds=>
  obtain ⟨e,ok,h1,h2⟩:=h
  exact ⟨e,ok,h1,rW hk h2⟩
def aP(C:Addr)(share:Fr)(rows:List Rw):Dt:= .obj C ["kept_share","kept_rows"] [frD share, .lst (rows.map cj)]
def D9(Co:Addr):DF:=fun as M q _=>∃k d share ds rows ok,as=[.loc k,frD share,d]∧M[k]? =some (.ins Co [] [])∧oW M d=some (ds,ok)∧Paired (j9 M) ds rows∧aW share=true∧1≤rows.length∧rows.length≤12∧
 (∀r∈rows,fZ r∧e9 r rows.length=true)∧q .non (M.set k (.ins Co ["kept_share","kept_rows"] [frD share, .lst (rows.map cj)]))
theorem gu:ar ["self","share","rows","place","row"] ["self","share","rows"] (ag eE):=⟨rfl,rfl,rfl,by decide+kernel,rfl,by decide+kernel,by decide+kernel⟩
theorem nM{f:Addr}{fd:FuncData}(F:Fun K "__init__" "Floor.__init__" eE f fd)(E:Ev K mg Co CF CN){fFitsShare:Addr}{dFitsShare:FuncData}(c_FitsShare:bx P w K mg base 1 "fits_share" ["share"] kY fFitsShare dFitsShare){fFitsRow:Addr}{dFitsRow:FuncData}(c_FitsRow:bx P w K mg base 4 "fits_row" ["row","size"] sI fFitsRow dFitsRow){fCopiedRow:Addr}{dCopiedRow:FuncData}(c_CopiedRow:bx P w K mg base 1 "copied_row" ["row"] k7 fCopiedRow dCopiedRow):bA P w K mg base (CX1 P w) 5 f fd ["self","share","rows"] (spD K (D9 Co)):=by
 refine F.okD gu (fun ds M q x h=> ?_) (fun cdv A outer s H E' hr=>⟨_,(ae (bc (kK (eG (aV c_FitsShare hr aj (aa (jv 1) af (hs:=ak))))) (ah (mw pN abS E.eNoFloor E.mNoFloor (aa g9 af (hs:=bB)))) aA)
   (ae (bc (JW.jt (oa (qp (dE E.n_len (aa (jv 2) af (hs:=ak))) aw) (iG (Dd (dE E.n_len (aa (jv 2) af (hs:=ak))) (oi E.mMOST_PLACES))))) (ah (mw pN abS E.eNoFloor E.mNoFloor (aa g9 af (hs:=bB)))) aA)
   (ae (dW (qr E.n_enumerate (aa (jv 2) af (hs:=ak))) (jN rfl (bL (aJ (i:=3) gu.nd rfl (Or.inl rfl)) (bL (aJ (i:=4) gu.nd rfl (Or.inl rfl)) gB))) kQ (ah (bc (kK (eG (aV c_FitsRow hr aj (aa (jv 4) (aa (dE E.n_len (aa (jv 2) af (hs:=ak))) af (hs:=aU)) (hs:=ak))))) (ah i9) aA)))
   (ae (v8 E.clsFloor E.na_kept_share (jv 0) (jv 1))
   (ah (v8 E.clsFloor E.na_kept_rows (jv 0) (e6 (ys:=[]) (caps:=[]) ⟨rfl,by decide+kernel,by decide+kernel,rfl,(by show∀p:Str×NameKind,p∈_→p.2=NameKind.free→List.lookup p.1 (ag eE).names=some .cell;decide+kernel),by decide+kernel,(by show∀q:Str×Nat,q∈_→(["self","share","rows","place","row"]:List Str)[q.2]? =some q.1∧List.lookup q.1 (ag eE).names=some .cell∧_;decide+kernel),rfl⟩ (cD (jv 2)) (fun C s H fp=>(eh (aV c_CopiedRow hr (dU (P:=P) (w:=w)) (aa (jv 0) af (hs:=ak)))))))))))),fun ds M q x h=> ?_⟩)
 ·obtain ⟨k,d,share,ds,rows,ok,rfl,_⟩:=h;rfl
 ·obtain ⟨k,d,share,ds,rows,ok,rfl,hk,hl,hp,hs,h1,h12,hr2,h⟩:=h
  have hlen:ds.length=rows.length:=Paired.length hp
  walk_at "vc"
  refine ⟨share,rfl,fun z=> ?_,fun _=> ?_⟩
  ·rw [hs] at z;exact nomatch z
  have hsq:=i6 hl
  refine aL hsq ⟨fun z=> ?_,fun _=> ?_⟩
  ·have:(ds.length:Int) < 1:=by simpa using z
   omega
  refine aL hsq ⟨fun z=> ?_,fun _=> ?_⟩
  ·have:12 < (ds.length:Int):=by simpa using z
   omega
  refine ⟨d,ds,ok,rfl,hl, ?_⟩
  refine cQ (fun xs ρ M'=>M'=M∧∃n ds' rows' a b,xs=iQ n ds'∧Paired (j9 M) ds' rows'∧(∀r∈rows',r∈rows)∧ρ=[some (.loc k),some (frD share),some d,a,b]) (fun xs ρ M' hj=>by obtain ⟨rfl,_⟩:=hj;exact mf hl) (fun x xs ρ M' hj nxt=> ?_) (fun ρ M' hj=> ?_) _ _ _ ⟨rfl,0,ds,rows,none,none,rfl,hp,fun _ h=>h,rfl⟩
  ·obtain ⟨rfl,n,ds',rows',a,b,ex,hp',hin,rfl⟩:=hj
   cases hp' with
   | nil=>cases ex
   | cons ra t=>
    rename_i d1 r1 ds1 rows1
    cases ex
    refine aL hsq ⟨d1,r1,ds.length,rfl,ra,(hr2 r1 (hin r1 aae)).1,fun z=> ?_,fun _=> ?_⟩
    ·rw [hlen,(hr2 r1 (hin r1 aae)).2] at z;exact nomatch z
    ·exact nxt _ _ ⟨rfl,n+1,ds1,rows1,_,_,rfl,t,fun r hr=>hin r (aad _ hr),rfl⟩
  ·obtain ⟨rfl,n,ds',rows',a,b,ex,hp',hin,rfl⟩:=hj
   have hkl:k < M'.length:=(aai.mp hk).1
   refine ⟨k,[],[],rfl,hk,(fun z=>(nomatch z)),by decide, ?_⟩
   have hl1:=rW (C':=Co) (ns':=["kept_share"]) (xs':=[frD share]) hk hl
   dsimp only [Ca,List.nil_append]
   show iP _ _ _ _ _
   refine dX (i:=2) rfl hl1 ⟨by rw [hlen];exact aaz h12 (by decide), ?_⟩
   have hp2:Paired (fun x a=>j9 (M'.set k (.ins Co ["kept_share"] [frD share])) x a∧fZ a) ds rows:=by
    have:∀{xs:List Dt} {rs:List Rw},Paired (j9 M') xs rs→(∀r∈rs,fZ r)→Paired (fun x a=>j9 (M'.set k (.ins Co ["kept_share"] [frD share])) x a∧fZ a) xs rs:=by
     intro xs rs hp
     induction hp with
     | nil=>exact fun _=> .nil
     | cons r t ih=>exact fun h=> .cons ⟨va hk r,h _ aae⟩ (ih fun y hy=>h y (aad _ hy))
    exact this hp fun r hr=>(hr2 r hr).1
   refine cL (f:=cj) (mf hl1) (fun x a ha q' hq=> ?ht) hp2 ?fin
   case ht=>
    obtain ⟨ha,ho⟩:=ha
    refine ⟨x,a,rfl,ha,ho, ?_⟩
    cases a with
    | fin p=>exact wH ⟨trivial,ot p,trivial⟩ hq
    | doors k2 ds2=>exact kR (.tup (.cons (.old trivial) (.cons (.newL (Nat.le_refl _) (by simp) (mU.old (fb ds2))) .nil))) hq
   case fin=>
    refine ⟨k,["kept_share"],[frD share],rfl,by rw [abe hkl],by decide,by decide, ?_⟩
    rw [List.set_set]
    exact h
def kindOf:Rw→Str
 | .fin _=>"end"
 | .doors k _=>k
def aF:Rw→List DrG
 | .fin _=>[]
 | .doors _ ds=>ds
def E4:Rw→Dt
 | .fin p=>frD p
 | .doors _ _=> .non
theorem jJ{rows:List Rw}{i:Nat}{r:Rw}(h:rows[i]? =some r):(rows.map cj)[i]? =some (cj r):=by rw [aaf,h];rfl
theorem zq{r:Rw}:∃e,cj r= .tup [.str (kindOf r),e]:=by
 cases r with
 | fin p=>exact ⟨_,rfl⟩
 | doors k ds=>exact ⟨_,rfl⟩
def oQ(C:Addr):DF:=fun as M q _=>∃share rows,as=[aP C share rows]∧q (.int rows.length) M
theorem pB:ar ["self"] ["self"] (ag ie):=⟨rfl,rfl,rfl,by decide+kernel,rfl,by decide+kernel,by decide+kernel⟩
theorem nJ{f:Addr}{fd:FuncData}(F:Fun K "size" "Floor.size" ie f fd)(E:Ev K mg Co CF CN):bA P w K mg base (CX1 P w) 1 f fd ["self"] (spD K (oQ Co)):=by
 refine F.okD pB (fun ds M q x h=> ?_) (fun cdv A outer s H E' hr=>⟨_,(ah (au (dE E.n_len (aa (qu E.clsFloor E.na_kept_rows (jv 0)) af)))),fun ds M q x h=> ?_⟩)
 ·obtain ⟨share,rows,rfl,_⟩:=h;rfl
 ·obtain ⟨share,rows,rfl,h⟩:=h
  refine ⟨_,_,_, .inl rfl,rfl, ?_⟩
  show j6 [.lst (rows.map cj)] M _
  refine aL (xs:=rows.map cj) rfl ?_
  rw [aac];exact h
def z4(C:Addr):DF:=fun as M q _=>∃share rows,as=[aP C share rows]∧q (frD share) M
theorem nj:ar ["self"] ["self"] (ag gy):=⟨rfl,rfl,rfl,by decide+kernel,rfl,by decide+kernel,by decide+kernel⟩
theorem lQ{f:Addr}{fd:FuncData}(F:Fun K "share" "Floor.share" gy f fd)(E:Ev K mg Co CF CN):bA P w K mg base (CX1 P w) 1 f fd ["self"] (spD K (z4 Co)):=by
 refine F.okD nj (fun ds M q x h=> ?_) (fun cdv A outer s H E' hr=>⟨_,(ah (au (qu E.clsFloor E.na_kept_share (jv 0)))),fun ds M q x h=> ?_⟩)
 ·obtain ⟨share,rows,rfl,_⟩:=h;rfl
 ·obtain ⟨share,rows,rfl,h⟩:=h
  exact ⟨_,_,_, .inl rfl,rfl,h⟩
def oR(C:Addr):DF:=fun as M q _=>∃share rows i r,as=[aP C share rows, .int (i:Nat)]∧rows[i]? =some r∧q (.str (kindOf r)) M
theorem pC:ar ["self","place"] ["self","place"] (ag ig):=⟨rfl,rfl,rfl,by decide+kernel,rfl,by decide+kernel,by decide+kernel⟩
theorem nL{f:Addr}{fd:FuncData}(F:Fun K "kind" "Floor.kind" ig f fd)(E:Ev K mg Co CF CN):bA P w K mg base (CX1 P w) 1 f fd ["self","place"] (spD K (oR Co)):=by
 refine F.okD pC (fun ds M q x h=> ?_) (fun cdv A outer s H E' hr=>⟨_,(ah (au (aD (aD (qu E.clsFloor E.na_kept_rows (jv 0)) (jv 1)) aw))),fun ds M q x h=> ?_⟩)
 ·obtain ⟨share,rows,i,r,rfl,_⟩:=h;rfl
 ·obtain ⟨share,rows,i,r,rfl,hi,h⟩:=h
  refine ⟨_,_,_, .inl rfl,rfl, ?_⟩
  walk_at "vc"
  refine ax (xs:=rows.map cj) rfl (aI (jJ hi)) ?_
  obtain ⟨e,er⟩:=zq (r:=r)
  rw [er]
  exact h
def oU(C:Addr):DF:=fun as M q _=>∃share rows i r,as=[aP C share rows, .int (i:Nat)]∧rows[i]? =some r∧fZ r∧q (.loc M.length) (M++[.lst ((aF r).map drG)])
theorem nq:ar ["self","place"] ["self","place"] (ag gz):=⟨rfl,rfl,rfl,by decide+kernel,rfl,by decide+kernel,by decide+kernel⟩
theorem lR{f:Addr}{fd:FuncData}(F:Fun K "doors" "Floor.doors" gz f fd)(E:Ev K mg Co CF CN){fFloorKind:Addr}{dFloorKind:FuncData}(c_FloorKind:fj P w K mg base 1 Co "kind" ["self","place"] (oR Co) fFloorKind dFloorKind):bA P w K mg base (CX1 P w) 2 f fd ["self","place"] (spD K (oU Co)):=by
 refine F.okD nq (fun ds M q x h=> ?_) (fun cdv A outer s H E' hr=>⟨_,(ae (bc (eg hr (bZ c_FloorKind hr aj (jv 0) (aa (jv 1) af (hs:=ak))) g9) (ah (au (kM af))) aA)
   (ah (au (wj E.n_list (aa (aD (aD (qu E.clsFloor E.na_kept_rows (jv 0)) (jv 1)) aw) af (hs:=aS)))))),fun ds M q x h=> ?_⟩)
 ·obtain ⟨share,rows,i,r,rfl,_⟩:=h;rfl
 ·obtain ⟨share,rows,i,r,rfl,hi,ro,h⟩:=h
  refine ⟨⟨_,_, .inl rfl,rfl⟩,share,rows,i,r,rfl,hi, ?_⟩
  cases r with
  | fin p=>exact ⟨fun _=>⟨by decide,h⟩,fun z=>(nomatch z)⟩
  | doors k ds=>
   refine ⟨fun z=>absurd (of_decide_eq_true z) ro.1,fun _=> ?_⟩
   refine ⟨_,_,_, .inl rfl,rfl, ?_⟩
   walk_at "vc"
   refine ax (xs:=rows.map cj) rfl (aI (jJ hi)) ?_
   exact h
def Er(C:Addr):DF:=fun as M q _=>∃share rows i r,as=[aP C share rows, .int (i:Nat)]∧rows[i]? =some r∧fZ r∧q (E4 r) M
theorem tq:ar ["self","place"] ["self","place"] (ag jG):=⟨rfl,rfl,rfl,by decide+kernel,rfl,by decide+kernel,by decide+kernel⟩
theorem qc{f:Addr}{fd:FuncData}(F:Fun K "pay" "Floor.pay" jG f fd)(E:Ev K mg Co CF CN){fFloorKind:Addr}{dFloorKind:FuncData}(c_FloorKind:fj P w K mg base 1 Co "kind" ["self","place"] (oR Co) fFloorKind dFloorKind):bA P w K mg base (CX1 P w) 2 f fd ["self","place"] (spD K (Er Co)):=by
 refine F.okD tq (fun ds M q x h=> ?_) (fun cdv A outer s H E' hr=>⟨_,(ae (bc (eg hr (bZ c_FloorKind hr aj (jv 0) (aa (jv 1) af (hs:=ak))) g9) (ah (au (aD (aD (qu E.clsFloor E.na_kept_rows (jv 0)) (jv 1)) aw))) aA)
   (ah (au Ek))),fun ds M q x h=> ?_⟩)
 ·obtain ⟨share,rows,i,r,rfl,_⟩:=h;rfl
 ·obtain ⟨share,rows,i,r,rfl,hi,ro,h⟩:=h
  refine ⟨⟨_,_, .inl rfl,rfl⟩,share,rows,i,r,rfl,hi, ?_⟩
  cases r with
  | fin p=>
   refine ⟨fun _=> ?_,fun z=>(nomatch z)⟩
   refine ⟨_,_,_, .inl rfl,rfl, ?_⟩
   walk_at "vc"
   refine ax (xs:=rows.map cj) rfl (aI (jJ hi)) ?_
   exact h
  | doors k ds=>exact ⟨fun z=>absurd (of_decide_eq_true z) ro.1,fun _=>h⟩
theorem fS{α:Type}(f:α→Dt):∀(xs ys:List α),(∀x∈xs,x∈ys)→Paired (fun x a=>x=f a∧a∈ys) (xs.map f) xs
 | [],_,_=> .nil
 | x::xs,ys,h=> .cons ⟨rfl,h x aae⟩ (fS f xs ys fun y hy=>h y (aad _ hy))
theorem dY{M:Ms}{q:DQ}{ds:List Dt}(u:Dt.underL M.length ds)(h:q (.lst ds) M):frzU M q (.loc M.length) (M++[.lst ds]):=kR (.newL (aak _) (by rw [Nat.sub_self];rfl) (mU.old u)) h
theorem Bg{M:Ms}{q:DQ}{ds:List Dt}(u:Dt.underL M.length ds)(h:q (.lst ds) M):yM [.lst ds] M (frzU M q):=by
 show frzU M q (.loc M.length) (M++[.lst ds])
 exact dY u h
theorem Bp{d:DrG}{M:Ms}{q:DQ}(h:q (frD d.2.1) M):fIx (drG d) (.int 1) M q:=ax (xs:= .int d.1::frD d.2.1::d.2.2.map frD) rfl (aI (j:=1) rfl) h
theorem ud{d:DrG}{M:Ms}{q:DQ}(h:q (.int d.1) M):fIx (drG d) (.int 0) M q:=ax (xs:= .int d.1::frD d.2.1::d.2.2.map frD) rfl dG h
theorem x8{k:Str}{e:Dt}{M:Ms}{q:DQ}(h:q e M):fIx (.tup [.str k,e]) (.int 1) M q:=ax (xs:=[.str k,e]) rfl (aI (j:=1) rfl) h
theorem bU{g:Dt→En→(En→Prop)→Prop}{tb:DS}{Dn:mQ}(J:List Dt→En→Ms→Prop)
  (step:∀x xs ρ M,J (x::xs) ρ M→(∀ρ M,J xs ρ M→yJ g tb Dn xs ρ M)→g x ρ fun ρ'=>tb {Dn with nx:=yJ g tb Dn xs,ct:=yJ g tb Dn xs,bk:=Dn.nx} ρ' M)
  (fin:∀ρ M,J [] ρ M→Dn.nx ρ M):∀(xs:List Dt) (ρ:En) (M:Ms),J xs ρ M→yJ g tb Dn xs ρ M
 | [],ρ,M,h=>fin _ _ h
 | x::xs,ρ,M,h=>step x xs ρ M h fun ρ' M' h'=>bU J step fin xs ρ' M' h'
theorem bC{lo:Int}{n:Nat}{x:Dt}{xs:List Dt}(h:x::xs=fW lo n):∃m,n=m+1∧x= .int lo∧xs=fW (lo+1) m:=by
 cases n with
 | zero=>exact nomatch h
 | succ m=>
  unfold fW at h
  rw [abJ,aaN,aaC] at h
  cases h
  refine ⟨m,rfl,by simp, ?_⟩
  unfold fW
  apply aa8
  intro k _
  show Dt.int (lo+((k+1:Nat):Int))=Dt.int (lo+1+(k:Int))
  congr 1
  omega
theorem gU{lo:Int}{n:Nat}{x:Dt}(h:x∈fW lo n):∃k:Nat,k < n∧x= .int (lo+k):=by
 unfold fW at h
 obtain ⟨k,hk,rfl⟩:=aal.mp h
 exact ⟨k,abB.mp hk,rfl⟩
theorem bR{lo:Int}{n:Nat}:(fW lo n).length=n:=by unfold fW;simp
theorem kU{α:Type}{te:DE}{cs:En}{M:Ms}{f:α→Dt}(G:α→Prop){k:List Dt→Ms→Prop}:∀(xs:List Dt) (acc:List α),(∀a∈acc,G a)→(∀x∈xs,∀q:DQ,(∀a,G a→q (f a) M)→te (some x::cs) M q noX)→
  (∀as:List α,as.length=acc.length+xs.length→(∀a∈as,G a)→k (as.map f) M)→uh te cs xs (acc.map f) M k
 | [],acc,ha,_,h=>h acc (by simp) ha
 | x::xs,acc,ha,ht,h=>ht x aae _ fun a hg=>by
  have e:acc.map f++[f a]=(acc++[a]).map f:=by simp
  rw [e]
  refine kU G xs (acc++[a]) (fun b hb=> ?_) (fun y hy=>ht y (List.mem_cons_of_mem _ hy)) fun as hl hg'=>h as (by rw [hl];simp;omega) hg'
  rcases aaL.mp hb with hb | hb
  ·exact ha b hb
  ·have:b=a:=by simpa using hb
   rw [this];exact hg
theorem qy{n:Nat}:∀(xs:List Int),Dt.underL n (xs.map Dt.int)
 | []=>trivial
 | _::xs=>⟨trivial,qy xs⟩
theorem zj{m:Int}:∀{l:List Int},(∀w∈l,w≤m)→l.sum≤l.length * m
 | [],_=>by simp
 | a::l,h=>by
  have i:=zj (l:=l) fun w hw=>h w (aad _ hw)
  have:=h a aae
  rw [List.sum_cons,aas,aa6,Int.add_mul]
  omega
def mP(many:Int)(r:Rw):Prop:=fZ r∧e9 r many=true
theorem Bb{k:Str}{ds:List DrG}{many:Int}(hk:aB k=true)(hz:1≤ds.length)(hz6:ds.length≤6)(hd:∀d∈ds,aR d.1 d.2.1 many=true)(hs:∀d∈ds,d.2.2=[]∧0 < d.2.1.2):mP many (.doors k ds):=by
 have fd:aK ds many=true:=by
  unfold aK
  rw [decide_eq_true hz,decide_eq_true hz6,List.all_eq_true.mpr hd];rfl
 have ne:k≠"end"∧k≠"chance":=by
  refine ⟨fun z=> ?_,fun z=> ?_⟩ <;> (subst z;exact absurd hk (by decide))
 refine ⟨⟨ne.1,by omega,fun z=>absurd z ne.2,fun d h=>⟨by rw [(hs d h).1];exact abM _,(hs d h).2⟩⟩, ?_⟩
 show (if aB k then _ else _)=true
 rw [if_pos hk];exact fd
theorem xg{ds:List DrG}{many:Int}(hz:1≤ds.length)(hz6:ds.length≤6)(hd:∀d∈ds,aR d.1 d.2.1 many=true)(h1:∀d∈ds,d.2.2=[ai d])(hc:aE (ds.map ai)=true)(ho:Ok3 (ds.map ai))(hp:∀d∈ds,0 < d.2.1.2):mP many (.doors "chance" ds):=by
 have fd:aK ds many=true:=by
  unfold aK
  rw [decide_eq_true hz,decide_eq_true hz6,List.all_eq_true.mpr hd];rfl
 refine ⟨⟨by decide,by omega,fun _=>⟨h1,ho⟩,fun d h=>⟨by rw [h1 d h];exact aak _,hp d h⟩⟩, ?_⟩
 have e:e9 (.doors "chance" ds) many=(aK ds many&&aE (ds.map ai)):=by
  dsimp only [e9]
  rw [if_neg (by decide),if_pos rfl]
 rw [e,fd,hc];rfl
theorem Bq{t many:Int}{p:Fr}(h0:0≤t)(h1:t < many)(hp:aX p=true):aR t p many=true:=by
 unfold aR
 rw [decide_eq_true h0,decide_eq_true h1,hp];rfl
theorem hG{xs:List Int}{j:Nat}(h:j < xs.length):atI (xs.map Dt.int) (j:Int)=some (.int xs[j]):=aI (by rw [aaf,aaa h];rfl)
theorem uK:∀{l:List Int},(∀w∈l,0 < w)→l≠[]→0 < l.sum
 | [],_,z=>absurd rfl z
 | [a],h,_=>by have:=h a List.mem_cons_self;simpa using this
 | a::b::l,h,_=>by
  have i:=uK (l:=b::l) (fun w hw=>h w (List.mem_cons_of_mem _ hw)) (by simp)
  have:=h a aae
  rw [List.sum_cons];omega
def Sz(k:Nat)(p:Fr):Prop:=p.1.natAbs < 2 ^ k∧0 < p.2∧p.2.natAbs < 2 ^ k
def bf(p q:Fr):Fr:=bK (p.1 * q.2+q.1 * p.2) (p.2 * q.2)
def aG(p q:Fr):Fr:=bK (p.1 * q.1) (p.2 * q.2)
theorem dM{k k':Nat}{p:Fr}(h:Sz k p)(hk:k≤k'):Sz k' p:=
 ⟨aao h.1 (abp (by decide) hk),h.2.1,aao h.2.2 (abp (by decide) hk)⟩
theorem bD{a b k l:Nat}(h:a < 2 ^ k)(h':b < 2 ^ l):a * b < 2 ^ (k+l):=by
 rw [Nat.pow_add]
 exact Nat.mul_lt_mul'' h h'
theorem An{t b:Int}{k:Nat}(hb:0 < b)(h1:t.natAbs < 2 ^ k)(h2:b.natAbs < 2 ^ k):Sz k (bK t b):=
 ⟨aaO (mE (by omega)) h1,b6 (by omega),aaO (hI (by omega)) h2⟩
theorem nB{p q:Fr}{k l:Nat}(hp:Sz k p)(hq:Sz l q):(p.1 * q.2+q.1 * p.2).natAbs < 2 ^ (k+l+1)∧(p.2 * q.2).natAbs < 2 ^ (k+l+1)∧0 < p.2 * q.2:=by
 have a:=bD hp.1 hq.2.2
 have b:=bD hq.1 hp.2.2
 have c:=bD hp.2.2 hq.2.2
 rw [Nat.add_comm l k] at b
 have e:(2:Nat) ^ (k+l+1)=2 ^ (k+l)+2 ^ (k+l):=by rw [Nat.pow_succ];omega
 have hn:=Int.natAbs_add_le (p.1 * q.2) (q.1 * p.2)
 rw [aaW,aaW] at hn
 refine ⟨by rw [e];omega, ?_,aaq hp.2.1 hq.2.1⟩
 rw [aaW,e];omega
theorem Am{p q:Fr}{k l:Nat}(hp:Sz k p)(hq:Sz l q):Sz (k+l+1) (bf p q):=
 let ⟨a,b,c⟩:=nB hp hq
 An c a b
theorem sS{p q:Fr}{k l:Nat}(hp:Sz k p)(hq:Sz l q):(p.1 * q.1).natAbs < 2 ^ (k+l)∧(p.2 * q.2).natAbs < 2 ^ (k+l)∧0 < p.2 * q.2:=by
 have a:=bD hp.1 hq.1
 have c:=bD hp.2.2 hq.2.2
 exact ⟨by rw [aaW];exact a,by rw [aaW];exact c,aaq hp.2.1 hq.2.1⟩
theorem b8{p:Fr}{k:Nat}(h:Sz k p)(hk:k≤8000):Big p.1:=bg h.1 hk
theorem bj{p:Fr}{k:Nat}(h:Sz k p)(hk:k≤8000):Big p.2:=bg h.2.2 hk
theorem zi{p:Fr}(h:aX p=true)(h0:0 < p.2):Sz 101 p:=by
 unfold aX at h
 rw [aat,decide_eq_true_iff,decide_eq_true_iff] at h
 obtain ⟨h1,h2⟩:=h
 have e1:(10:Int) ^ 30 < 2 ^ 101:=by decide
 have n1:(p.1.natAbs:Int)≤10 ^ 30:=by
  split at h1 <;> omega
 refine ⟨?_,h0, ?_⟩
 ·have:(p.1.natAbs:Int) < ((2 ^ 101:Nat):Int):=aan n1 (by decide)
  exact abO.mp this
 ·have:(p.2.natAbs:Int) < ((2 ^ 101:Nat):Int):=aan (show (p.2.natAbs:Int)≤1000000 by omega) (by decide)
  exact abO.mp this
theorem q9{p:Fr}(h:aW p=true):Sz 11 p:=by
 unfold aW at h
 rw [aat,aat,decide_eq_true_iff,decide_eq_true_iff,decide_eq_true_iff] at h
 obtain ⟨h1,h2,h3⟩:=h
 exact ⟨by omega,by omega,by omega⟩
theorem iy{p:Fr}{M:Ms}{q:DQ}(h:q (.int p.1) M):fIx (frD p) (.int 0) M q:=ax (xs:=[.int p.1, .int p.2]) rfl dG h
theorem gI{p:Fr}{M:Ms}{q:DQ}(h:q (.int p.2) M):fIx (frD p) (.int 1) M q:=ax (xs:=[.int p.1, .int p.2]) rfl (aI (j:=1) rfl) h
def yX:DF:=fun as M q _=>∃p r k l,as=[frD p,frD r]∧Sz k p∧Sz l r∧k+l+1≤8000∧q (frD (bf p r)) M
theorem B6:ar ["one","other"] ["one","other"] (ag Aw):=⟨rfl,rfl,rfl,by decide+kernel,rfl,by decide+kernel,by decide+kernel⟩
theorem AU{f:Addr}{fd:FuncData}(F:Fun K "plus" "plus" Aw f fd)(E:Ev K mg Co CF CN){fFraction:Addr}{dFraction:FuncData}(c_Fraction:bx P w K mg base 2 "fraction" ["top","bottom"] (qM CN) fFraction dFraction):bA P w K mg base (CX1 P w) 3 f fd ["one","other"] (spD K yX):=by
 refine F.okD B6 (fun ds M q x h=> ?_) (fun cdv A outer s H E' hr=>⟨_,(ah (au (aV c_Fraction hr aj (aa (dc (bW (aD (jv 0) aw) (aD (jv 1) aw)) (bW (aD (jv 1) aw) (aD (jv 0) aw))) (aa (bW (aD (jv 0) aw) (aD (jv 1) aw)) af (hs:=bO)) (hs:=bO))))),fun ds M q x h=> ?_⟩)
 ·obtain ⟨p,r,k,l,rfl,_⟩:=h;rfl
 ·obtain ⟨p,r,k,l,rfl,hp,hr',hk,h⟩:=h
  obtain ⟨a,b,c⟩:=nB hp hr'
  refine ⟨⟨b8 hp (by omega),bj hr' (by omega)⟩,⟨b8 hr' (by omega),bj hp (by omega)⟩,⟨bj hp (by omega),bj hr' (by omega)⟩,bg b hk,fun z=>absurd z (by omega),fun _=>h⟩
def oP:DF:=fun as M q _=>∃p r k l,as=[frD p,frD r]∧Sz k p∧Sz l r∧k+l+1≤8000∧q (frD (aG p r)) M
theorem Au:ar ["one","other"] ["one","other"] (ag uV):=⟨rfl,rfl,rfl,by decide+kernel,rfl,by decide+kernel,by decide+kernel⟩
theorem yn{f:Addr}{fd:FuncData}(F:Fun K "times" "times" uV f fd)(E:Ev K mg Co CF CN){fFraction:Addr}{dFraction:FuncData}(c_Fraction:bx P w K mg base 2 "fraction" ["top","bottom"] (qM CN) fFraction dFraction):bA P w K mg base (CX1 P w) 3 f fd ["one","other"] (spD K oP):=by
 refine F.okD Au (fun ds M q x h=> ?_) (fun cdv A outer s H E' hr=>⟨_,(ah (au (aV c_Fraction hr aj (aa (bW (aD (jv 0) aw) (aD (jv 1) aw)) (aa (bW (aD (jv 0) aw) (aD (jv 1) aw)) af (hs:=bO)) (hs:=bO))))),fun ds M q x h=> ?_⟩)
 ·obtain ⟨p,r,k,l,rfl,_⟩:=h;rfl
 ·obtain ⟨p,r,k,l,rfl,hp,hr',hk,h⟩:=h
  obtain ⟨a,b,c⟩:=sS hp hr'
  refine ⟨⟨b8 hp (by omega),b8 hr' (by omega)⟩,⟨bj hp (by omega),bj hr' (by omega)⟩,bg b (by omega),fun z=>absurd z (by omega),fun _=>h⟩
def gc(p q:Fr):Fr:=bK (p.1 * q.2 - q.1 * p.2) (p.2 * q.2)
theorem tP{p q:Fr}{k l:Nat}(hp:Sz k p)(hq:Sz l q):(p.1 * q.2 - q.1 * p.2).natAbs < 2 ^ (k+l+1)∧(p.2 * q.2).natAbs < 2 ^ (k+l+1)∧0 < p.2 * q.2:=by
 have a:=bD hp.1 hq.2.2
 have b:=bD hq.1 hp.2.2
 have c:=bD hp.2.2 hq.2.2
 rw [Nat.add_comm l k] at b
 have e:(2:Nat) ^ (k+l+1)=2 ^ (k+l)+2 ^ (k+l):=by rw [Nat.pow_succ];omega
 have hn:(p.1 * q.2 - q.1 * p.2).natAbs≤(p.1 * q.2).natAbs+(q.1 * p.2).natAbs:=by omega
 rw [aaW,aaW] at hn
 refine ⟨by rw [e];omega, ?_,aaq hp.2.1 hq.2.1⟩
 rw [aaW,e];omega
def Af:DF:=fun as M q _=>∃p r k l,as=[frD p,frD r]∧Sz k p∧Sz l r∧k+l+1≤8000∧q (frD (gc p r)) M
theorem Av:ar ["one","other"] ["one","other"] (ag uW):=⟨rfl,rfl,rfl,by decide+kernel,rfl,by decide+kernel,by decide+kernel⟩
theorem yp{f:Addr}{fd:FuncData}(F:Fun K "minus" "minus" uW f fd)(E:Ev K mg Co CF CN){fFraction:Addr}{dFraction:FuncData}(c_Fraction:bx P w K mg base 2 "fraction" ["top","bottom"] (qM CN) fFraction dFraction):bA P w K mg base (CX1 P w) 3 f fd ["one","other"] (spD K Af):=by
 refine F.okD Av (fun ds M q x h=> ?_) (fun cdv A outer s H E' hr=>⟨_,(ah (au (aV c_Fraction hr aj (aa (og (bW (aD (jv 0) aw) (aD (jv 1) aw)) (bW (aD (jv 1) aw) (aD (jv 0) aw))) (aa (bW (aD (jv 0) aw) (aD (jv 1) aw)) af (hs:=bO)) (hs:=bO))))),fun ds M q x h=> ?_⟩)
 ·obtain ⟨p,r,k,l,rfl,_⟩:=h;rfl
 ·obtain ⟨p,r,k,l,rfl,hp,hr',hk,h⟩:=h
  obtain ⟨a,b,c⟩:=tP hp hr'
  refine ⟨⟨b8 hp (by omega),bj hr' (by omega)⟩,⟨b8 hr' (by omega),bj hp (by omega)⟩,⟨bj hp (by omega),bj hr' (by omega)⟩,bg b hk,fun z=>absurd z (by omega),fun _=>h⟩
def o9(B:Int)(c:Fr):Int:=c.1 * (B / c.2)
structure Ef(cs:List Fr):Prop where
 pos:∀c∈cs,0 < o9 (dI cs) c
 sum:(cs.map (o9 (dI cs))).sum=dI cs
 b0:0 < dI cs
 b1:dI cs≤1000000
 ne:cs≠[]
 ok3:Ok3 cs
theorem FR{cs:List Fr}(h:aE cs=true)(o:Ok3 cs)(n:cs≠[]):Ef cs:=by
 unfold aE at h
 rw [aat,aat,decide_eq_true_iff,decide_eq_true_iff,Bool.not_eq_true'] at h
 obtain ⟨h1,h2,h3⟩:=h
 have B0:0 < dI cs:=dD cs 1 (by decide) fun c hc=>(o.2 c hc).1
 obtain ⟨_,_,hB⟩:=fT cs 1 0 (by decide) (ab1 _) fun c hc=>⟨(o.2 c hc).1,ab1 _⟩
 refine ⟨fun c hc=> ?_,h2,B0,h3,n,o⟩
 have c1:0 < c.1:=by
  have:=List.any_eq_false.mp h1 c hc
  simpa using this
 exact aaq c1 (Int.ediv_pos_of_pos_of_dvd B0 (aah (o.2 c hc).1) (hB c hc))
def val(p:Fr):Rat:=(p.1:Rat) / (p.2:Rat)
structure Red(p:Fr):Prop where
 pos:0 < p.2
 low:Int.gcd p.1 p.2=1
theorem aZ{b:Int}(h:b≠0):(b:Rat)≠0:=fun z=>h (Rat.intCast_eq_zero_iff.mp z)
theorem Bx{a b c d:Int}(h:a * b=c * d):(a:Rat) * b=c * d:=by
 rw [←aaD,←aaD,h]
theorem aM{t b:Int}(h:b≠0):Red (bK t b):=⟨b6 h,sk h⟩
theorem gO{t b:Int}(h:b≠0):val (bK t b)=(t:Rat) / (b:Rat):=by
 have hq:=b6 (t:=t) h
 have hx:=Bx (bT (t:=t) h)
 have h1:=aZ h
 have h2:=aZ (show (bK t b).2≠0 by omega)
 unfold val
 generalize ((bK t b).1:Rat)=x at *
 generalize ((bK t b).2:Rat)=y at *
 generalize (t:Rat)=t' at *
 generalize (b:Rat)=b' at *
 grind
theorem jk{p q:Fr}(hp:Red p)(hq:Red q)(h:val p=val q):p=q:=by
 have h1:=aZ (show p.2≠0 by have:=hp.pos;omega)
 have h2:=aZ (show q.2≠0 by have:=hq.pos;omega)
 have e:p.1 * q.2=p.2 * q.1:=by
  unfold val at h
  have e1:(p.1:Rat) * (q.2:Rat)=(p.2:Rat) * (q.1:Rat):=by
   generalize (p.1:Rat)=a at *
   generalize (p.2:Rat)=b at *
   generalize (q.1:Rat)=c at *
   generalize (q.2:Rat)=d at *
   grind
  rw [←aaD,←aaD] at e1
  exact Rat.intCast_inj.mp e1
 have a:=qB (show p.2≠0 by have:=hp.pos;omega) hq.pos hq.low e
 have b:=wI hp.pos hp.low
 rw [←Prod.eta p,←b,a]
theorem cN{p q:Fr}(hp:0 < p.2)(hq:0 < q.2):val (bf p q)=val p+val q:=by
 unfold bf
 rw [gO (aaH (aaq hp hq))]
 have h1:=aZ (show p.2≠0 by omega)
 have h2:=aZ (show q.2≠0 by omega)
 rw [Rat.intCast_add,aaD,aaD,aaD]
 unfold val
 generalize (p.1:Rat)=a at *
 generalize (p.2:Rat)=b at *
 generalize (q.1:Rat)=c at *
 generalize (q.2:Rat)=d at *
 grind
theorem cv{p q:Fr}(hp:0 < p.2)(hq:0 < q.2):val (aG p q)=val p * val q:=by
 unfold aG
 rw [gO (aaH (aaq hp hq))]
 have h1:=aZ (show p.2≠0 by omega)
 have h2:=aZ (show q.2≠0 by omega)
 rw [aaD,aaD]
 unfold val
 generalize (p.1:Rat)=a at *
 generalize (p.2:Rat)=b at *
 generalize (q.1:Rat)=c at *
 generalize (q.2:Rat)=d at *
 grind
def hV(p:Fr)(E:Int):Prop:=∃N,p.1 * E=N * p.2
theorem j3{t b E N:Int}(h:b≠0)(e:t * E=N * b):hV (bK t b) E:=by
 have hx:=bT (t:=t) h
 generalize hf:bK t b=f at *
 obtain ⟨x,y⟩:=f
 refine ⟨N, ?_⟩
 show x * E=N * y
 have hx:t * y=b * x:=hx
 have:b * (x * E)=b * (N * y):=by grind
 exact aaG h this
theorem jd{p:Fr}{E:Int}(k:Int)(h:hV p E):hV p (E * k):=by
 obtain ⟨N,e⟩:=h
 exact ⟨N * k,by grind⟩
theorem om(p:Fr):hV p p.2:=⟨p.1,rfl⟩
theorem oo{p q:Fr}{E:Int}(hp:0 < p.2)(hq:0 < q.2)(h:hV p E)(h':hV q E):hV (bf p q) E:=by
 obtain ⟨N,e⟩:=h
 obtain ⟨N',e'⟩:=h'
 unfold bf
 exact j3 (N:=N+N') (Int.ne_of_gt (Int.mul_pos hp hq)) (by grind)
theorem ir{p q:Fr}{E F:Int}(hp:0 < p.2)(hq:0 < q.2)(h:hV p E)(h':hV q F):hV (aG p q) (E * F):=by
 obtain ⟨N,e⟩:=h
 obtain ⟨N',e'⟩:=h'
 unfold aG
 exact j3 (N:=N * N') (Int.ne_of_gt (Int.mul_pos hp hq)) (by grind)
theorem pM{p:Fr}{E:Int}(hp:Red p)(h:hV p E):p.2∣E:=by
 obtain ⟨N,e⟩:=h
 have d:p.2∣p.1 * E:=⟨N,by rw [e,aaE]⟩
 have d2:p.2.natAbs∣p.1.natAbs * E.natAbs:=by
  rw [←aaW];exact Int.natAbs_dvd_natAbs.mpr d
 have co:Nat.Coprime p.2.natAbs p.1.natAbs:=by
  have:=hp.low
  unfold Int.gcd at this
  rw [Nat.coprime_comm];exact this
 exact Int.natAbs_dvd_natAbs.mp (co.dvd_of_dvd_mul_left d2)
def dZ(p:Fr)(C:Int):Prop:=p.1≤p.2 * C∧ -(p.2 * C)≤p.1
theorem mJ{t b C:Int}(h:0 < b)(h1:t≤b * C)(h2: -(b * C)≤t):dZ (bK t b) C:=by
 have hx:=bT (t:=t) (show b≠0 by omega)
 have hq:=b6 (t:=t) (show b≠0 by omega)
 generalize hf:bK t b=f at *
 obtain ⟨x,y⟩:=f
 have hx:t * y=b * x:=hx
 have hq:0 < y:=hq
 constructor
 ·show x≤y * C
  have:=aaj h1 (aah hq)
  rw [hx] at this
  have e:b * C * y=b * (y * C):=by grind
  rw [e] at this
  exact abV this h
 ·show -(y * C)≤x
  have:=aaj h2 (aah hq)
  rw [hx] at this
  have e: -(b * C) * y=b * (-(y * C)):=by grind
  rw [e] at this
  exact abV this h
theorem bV{a b c:Int}(h:a≤b)(hc:0≤c):a * c≤b * c:=aaj h hc
theorem sG{p q:Fr}{C D:Int}(hp:0 < p.2)(hq:0 < q.2)(h:dZ p C)(h':dZ q D):dZ (bf p q) (C+D):=by
 unfold bf
 have a:=bV h.1 (aah hq)
 have b:=bV h'.1 (aah hp)
 have c:=bV h.2 (aah hq)
 have d:=bV h'.2 (aah hp)
 refine mJ (aaq hp hq) ?_ ?_
 ·have e:p.2 * q.2 * (C+D)=p.2 * C * q.2+q.2 * D * p.2:=by grind
  omega
 ·have e: -(p.2 * q.2 * (C+D))= -(p.2 * C) * q.2+ -(q.2 * D) * p.2:=by grind
  omega
def fh(c:Fr):Prop:=0≤c.1∧c.1≤c.2
theorem xq{c p:Fr}{C:Int}(hc:0 < c.2)(hp:0 < p.2)(u:fh c)(h:dZ p C)(hC:0≤C):dZ (aG c p) C:=by
 unfold aG
 have pc:0≤p.2 * C:=aaM (aah hp) hC
 have a:=bV h.1 u.1
 have b:=bV u.2 pc
 have c':=bV h.2 u.1
 refine mJ (aaq hc hp) ?_ ?_
 ·have e:c.2 * p.2 * C=c.2 * (p.2 * C):=by grind
  have e1:c.1 * p.1=p.1 * c.1:=aaE ..
  have e2:p.2 * C * c.1=c.1 * (p.2 * C):=aaE ..
  omega
 ·have e: -(c.2 * p.2 * C)= -(c.2 * (p.2 * C)):=by grind
  have e1:c.1 * p.1=p.1 * c.1:=aaE ..
  have e2: -(p.2 * C) * c.1= -(c.1 * (p.2 * C)):=by grind
  omega
theorem sN{c s:Fr}(hc:0 < c.2)(hs:0 < s.2)(u:fh c)(v:fh s):fh (aG c s):=by
 unfold aG
 have hx:=bT (t:=c.1 * s.1) (aaH (aaq hc hs))
 have hq:=b6 (t:=c.1 * s.1) (aaH (aaq hc hs))
 have t0:0≤c.1 * s.1:=aaM u.1 v.1
 have t1:c.1 * s.1≤c.2 * s.2:=aa4 (bV u.2 v.1) (by
  have:=bV v.2 (aah hc)
  rw [aaE c.2 s.1,aaE c.2 s.2];exact this)
 have bp:=aaq hc hs
 generalize c.1 * s.1=t at *
 generalize c.2 * s.2=b at *
 generalize hf:bK t b=f at *
 obtain ⟨x,y⟩:=f
 have hx:t * y=b * x:=hx
 have hq:0 < y:=hq
 constructor
 ·show 0≤x
  rcases abP x 0 with z | z
  ·have:=abC bp z
   have:=aaM t0 (aah hq)
   omega
  ·exact z
 ·show x≤y
  have:=bV t1 (aah hq)
  rw [hx] at this
  exact abV this bp
theorem xV{p:Fr}{E C:Int}{k m:Nat}(r:Red p)(h:hV p E)(e0:0 < E)(e1:E < 2 ^ k)(a:dZ p C)(c0:0≤C)(c1:C < 2 ^ m):Sz (k+m) p:=by
 have d:=abQ e0 (pM r h)
 have rp:=r.pos
 have b1:p.2.natAbs < 2 ^ k:=by
  have:(p.2.natAbs:Int) < ((2 ^ k:Nat):Int):=by
   rw [abc (aah rp)]
   exact aan d (by exact_mod_cast e1)
  exact abO.mp this
 have b2:C.natAbs < 2 ^ m:=by
  have:(C.natAbs:Int) < ((2 ^ m:Nat):Int):=by
   rw [abc c0]
   exact_mod_cast c1
  exact abO.mp this
 have b3:=bD b1 b2
 refine ⟨?_,rp,aao b1 (abp (by decide) (abz _ _))⟩
 refine aaO ?_ b3
 rw [←aaW]
 have q0:0≤p.2 * C:=aaM (aah rp) c0
 have:=a.1
 have:=a.2
 omega
theorem Bj{cs:List Fr}{j:Nat}(h:j < cs.length):atI (cs.map frD) (j:Int)=some (frD cs[j]):=aI (by rw [aaf,aaa h];rfl)
theorem DG{ds:List DrG}{j:Nat}(h:j < ds.length):atI (ds.map drG) (j:Int)=some (drG ds[j]):=aI (by rw [aaf,aaa h];rfl)
structure BF(share:Fr)(rows:List Rw):Prop where
 sh:aW share=true
 len:rows.length≤12
 row:∀r∈rows,fZ r∧e9 r rows.length=true
structure Gh(rows:List Rw)(k:Str)(ds:List DrG):Prop where
 ro:fZ (.doors k ds)
 l1:1≤ds.length
 l6:ds.length≤6
 kd:aB k=true∨(aB k=false∧k="chance"∧Ef (ds.map ai))
 to:∀d∈ds,0≤d.1∧d.1 < rows.length
 py:∀d∈ds,aX d.2.1=true∧0 < d.2.1.2
theorem aQ{share:Fr}{rows:List Rw}{k:Str}{ds:List DrG}(f:BF share rows)(h:Rw.doors k ds∈rows):Gh rows k ds:=by
 obtain ⟨ro,h2⟩:=f.row _ h
 have h2:(if aB k then aK ds rows.length else if k="chance" then aK ds rows.length&&aE (ds.map ai) else false)=true:=h2
 have key:aK ds rows.length=true∧(aB k=true∨(aB k=false∧k="chance"∧aE (ds.map ai)=true)):=by
  by_cases hk:aB k=true
  ·rw [if_pos hk] at h2;exact ⟨h2, .inl hk⟩
  ·rw [if_neg hk] at h2
   by_cases hc:k="chance"
   ·rw [if_pos hc,Bool.and_eq_true] at h2;exact ⟨h2.1, .inr ⟨by simpa using hk,hc,h2.2⟩⟩
   ·rw [if_neg hc] at h2;cases h2
 obtain ⟨fd,hk⟩:=key
 unfold aK at fd
 rw [aat,aat,decide_eq_true_iff,decide_eq_true_iff] at fd
 obtain ⟨⟨d1,d6⟩,fa⟩:=fd
 have each:∀d∈ds,0≤d.1∧d.1 < rows.length∧aX d.2.1=true:=fun d hd=>by
  have h3:=List.all_eq_true.mp fa d hd
  unfold aR at h3
  rw [aat,aat,decide_eq_true_iff,decide_eq_true_iff] at h3
  exact ⟨h3.1,h3.2.1,h3.2.2⟩
 refine ⟨ro,d1,d6, ?_,fun d hd=>⟨(each d hd).1,(each d hd).2.1⟩,fun d hd=>⟨(each d hd).2.2,(ro.2.2.2 d hd).2⟩⟩
 rcases hk with hk | ⟨hk,hc,hf⟩
 ·exact .inl hk
 ·refine .inr ⟨hk,hc,FR hf (ro.2.2.1 hc).2 fun z=> ?_⟩
  have:=congrArg List.length z
  rw [aac] at this
  have:ds.length=0:=this
  omega
theorem pL{α:Type}(xs:List α)(a:α)(f:α→Dt):(fW 0 xs.length).map (fun x=>match x with | .int j=>f (xs.getD j.toNat a) | _=> .non)=xs.map f:=by
 unfold fW
 rw [aaC]
 apply abd
 ·simp
 ·intro i h1 h2
  simp only [List.getElem_map,List.getElem_range,Function.comp]
  rw [show (0+(i:Int)).toNat=i by omega]
  have hi:i < xs.length:=by simpa using h2
  rw [aab,aaa hi];rfl
abbrev d0:DrG:=(0,(0,1),[])
def lg(tb:List Fr)(t:Int):Fr:=tb.getD t.toNat (0,1)
def aO(share:Fr)(tb:List Fr)(d:DrG):Fr:=bf d.2.1 (aG share (lg tb d.1))
def ff(ps:List (Fr×Fr)):Fr:=ps.foldl (fun w p=>bf w (aG p.1 p.2)) (0,1)
def mh(share:Fr)(tb:List Fr):Rw→Fr
 | .fin p=>p
 | .doors _ ds=>ff ((ds.map ai).zip (ds.map (aO share tb)))
structure Nb(E C:Int)(p:Fr):Prop where
 pos:0 < p.2
 he:hV p E
 ab:dZ p C
 sz:Sz 2600 p
structure Bd(E C:Int):Prop where
 e0:0 < E
 e1:E < 2 ^ 2200
 c0:0≤C
 c1:C < 2 ^ 400
theorem yt{E C:Int}{p:Fr}(r:Red p)(h:hV p E)(a:dZ p C)(b:Bd E C):Nb E C p:=⟨r.pos,h,a,xV (k:=2200) (m:=400) r h b.e0 b.e1 a b.c0 b.c1⟩
theorem lT{E C D:Int}{p q:Fr}(h:Nb E C p)(h':Nb E D q)(b:Bd E (C+D)):Nb E (C+D) (bf p q):=yt (aM (aaH (aaq h.pos h'.pos))) (oo h.pos h'.pos h.he h'.he) (sG h.pos h'.pos h.ab h'.ab) b
theorem i4{E F C:Int}{c p:Fr}(c0:0 < c.2)(hc:hV c F)(u:fh c)(h:Nb E C p)(b:Bd (F * E) C):Nb (F * E) C (aG c p):=yt (aM (aaH (aaq c0 h.pos))) (ir c0 h.pos hc h.he) (xq c0 h.pos u h.ab b.c0) b
theorem nU{E C:Int}{p:Fr}(k:Int)(h:Nb E C p):Nb (E * k) C p:=⟨h.pos,jd k h.he,h.ab,h.sz⟩
theorem xt{p:Fr}{C D:Int}(h0:0 < p.2)(h:dZ p C)(hd:C≤D):dZ p D:=by
 have:=aar hd (aah h0)
 obtain ⟨a,b⟩:=h
 exact ⟨by omega,by omega⟩
theorem lU{E C D:Int}{p:Fr}(h:Nb E C p)(hd:C≤D):Nb E D p:=⟨h.pos,h.he,xt h.pos h.ab hd,h.sz⟩
theorem zI{E:Int}:Nb E 0 (0,1):=⟨by decide,⟨0,by simp⟩,⟨by decide,by decide⟩,dM (k:=1) ⟨by decide,by decide,by decide⟩ (by decide)⟩
structure Fl(share:Fr)(rows:List Rw)(E B:Int):Prop where
 pl:BF share rows
 e0:0 < E
 e1:E < 2 ^ 600
 b0:0 < B
 b1:B < 2 ^ 110
 pay:∀k ds,Rw.doors k ds∈rows→∀d∈ds,Nb E (10 ^ 30) d.2.1
 fin:∀p,Rw.fin p∈rows→Nb E (10 ^ 30) p
 hnd:∀k ds,Rw.doors k ds∈rows→aB k=true→∀d∈ds,d.2.2=[]
 ch:∀ds,Rw.doors "chance" ds∈rows→∀d∈ds,0 < (ai d).2∧hV (ai d) B∧fh (ai d)∧Sz 300 (ai d)
structure Tb(rows:List Rw)(E C:Int)(tb:List Fr):Prop where
 len:tb.length=rows.length
 nb:∀t∈tb,Nb E C t
theorem dt{p:Fr}(h:aW p=true):0 < p.2∧p.2≤1000∧fh p:=by
 unfold aW at h
 rw [aat,aat,decide_eq_true_iff,decide_eq_true_iff,decide_eq_true_iff] at h
 obtain ⟨h1,h2,h3⟩:=h
 exact ⟨by omega,h3,h1,by omega⟩
theorem qZ{rows:List Rw}{E C:Int}{tb:List Fr}{t:Int}(f:Tb rows E C tb)(h0:0≤t)(h1:t < rows.length):atI (tb.map frD) t=some (frD (lg tb t))∧Nb E C (lg tb t):=by
 have hl:t.toNat < tb.length:=by rw [f.len];omega
 have e:lg tb t=tb[t.toNat]:=by unfold lg;rw [List.getD_eq_getElem?_getD,List.getElem?_eq_getElem hl];rfl
 refine ⟨?_,by rw [e];exact f.nb _ (aay hl)⟩
 have e2:(tb.map frD)[t.toNat]? =some (frD (lg tb t)):=by rw [aaf,aaa hl,e];rfl
 have:=aI e2
 rwa [show ((t.toNat:Nat):Int)=t by omega] at this
theorem bG{a b:Int}{m n:Nat}(h0:0 < a)(h1:a < 2 ^ m)(h2:0 < b)(h3:b < 2 ^ n):0 < a * b∧a * b < 2 ^ (m+n):=by
 refine ⟨aaq h0 h2, ?_⟩
 rw [Int.pow_add]
 exact aan (aaj (aah h1) (aah h2)) (Int.mul_lt_mul_of_pos_left h3 (abA (by decide)))
section
variable{share:Fr}{rows:List Rw}{E B F C:Int}{tb:List Fr}{k:Str}{ds:List DrG}{d:DrG}
structure Gr(F C:Int):Prop where
 f0:0 < F
 f1:F < 2 ^ 1450
 c0:0≤C
 c1:C < 2 ^ 240
theorem Gr.bd(g:Gr F C)(fl:Fl share rows E B):Bd (E * F) C:=by
 obtain ⟨a,b⟩:=bG fl.e0 fl.e1 g.f0 g.f1
 exact ⟨a,abm b (by decide),g.c0,abE g.c1 (by decide)⟩
theorem qY(fl:Fl share rows E B)(g:Gr F C)(tb':Tb rows (E * F) C tb){t:Int}(h0:0≤t)(h1:t < rows.length):Nb (E * F * share.2) C (aG share (lg tb t)):=by
 obtain ⟨s0,s1,su⟩:=dt fl.pl.sh
 obtain ⟨a,b⟩:=bG fl.e0 fl.e1 g.f0 g.f1
 obtain ⟨a2,b2⟩:=bG a b s0 (show share.2 < 2 ^ 10 by omega)
 have:=i4 s0 (om share) su (qZ tb' h0 h1).2 (by rw [aaE];exact ⟨a2,abm b2 (by decide),g.c0,abE g.c1 (by decide)⟩)
 rwa [aaE] at this
theorem iW(fl:Fl share rows E B)(g:Gr F C)(tb':Tb rows (E * F) C tb)(hm:Rw.doors k ds∈rows)(hd:d∈ds):Nb (E * F * share.2) (10 ^ 30+C) (aO share tb d):=by
 obtain ⟨s0,s1,su⟩:=dt fl.pl.sh
 obtain ⟨a,b⟩:=bG fl.e0 fl.e1 g.f0 g.f1
 obtain ⟨a2,b2⟩:=bG a b s0 (show share.2 < 2 ^ 10 by omega)
 obtain ⟨t0,t1⟩:=(aQ fl.pl hm).to d hd
 have hp:Nb (E * F * share.2) (10 ^ 30) d.2.1:=nU _ (nU _ (fl.pay k ds hm d hd))
 have c0:=g.c0
 have c1:=g.c1
 exact lT hp (qY fl g tb' t0 t1) ⟨a2,abm b2 (by decide),by omega,by omega⟩
end
def xA(A:Addr):DF:=fun as M q _=>∃share rows tb i j k ds d E B F C,as=[aP A share rows, .int (i:Nat), .int (j:Nat), .lst (tb.map frD)]∧rows[i]? =some (.doors k ds)∧ds[j]? =some d∧Fl share rows E B∧Gr F C∧Tb rows (E * F) C tb∧q (frD (aO share tb d)) M
theorem iE:ar ["self","place","door","table","taken"] ["self","place","door","table"] (ag gx):=⟨rfl,rfl,rfl,by decide+kernel,rfl,by decide+kernel,by decide+kernel⟩
theorem lP{f:Addr}{fd:FuncData}(F:Fun K "shown" "Floor.shown" gx f fd)(E:Ev K mg Co CF CN){fPlus:Addr}{dPlus:FuncData}(c_Plus:bx P w K mg base 3 "plus" ["one","other"] yX fPlus dPlus){fTimes:Addr}{dTimes:FuncData}(c_Times:bx P w K mg base 3 "times" ["one","other"] oP fTimes dTimes):bA P w K mg base (CX1 P w) 4 f fd ["self","place","door","table"] (spD K (xA Co)):=by
 refine F.okD iE (fun ds M q x h=> ?_) (fun cdv A outer s H E' hr=>⟨_,(ae (aq (i:=4) iE.nd rfl (Or.inl rfl) (aD (aD (aD (qu E.clsFloor E.na_kept_rows (jv 0)) (jv 1)) aw) (jv 2)))
   (ah (au (aV c_Plus hr aj (aa (aD (jv 4) aw) (aa (aV c_Times hr aj (aa (qu E.clsFloor E.na_kept_share (jv 0)) (aa (aD (jv 3) (aD (jv 4) aw)) af (hs:=aS)))) af (hs:=aU)) (hs:=aS)))))),fun ds M q x h=> ?_⟩)
 ·obtain ⟨share,rows,tb,i,j,k,ds,d,E,B,F,C,rfl,_⟩:=h;rfl
 ·obtain ⟨share,rows,tb,i,j,k,ds,d,Ep,B,Ft,C,rfl,hi,hj,fl,g,ht,h⟩:=h
  have hm:Rw.doors k ds∈rows:=aag hi
  have hd:d∈ds:=aag hj
  obtain ⟨a,b⟩:=(aQ fl.pl hm).to d hd
  obtain ⟨t1,t2⟩:=qZ ht a b
  have hdj:(ds.map drG)[j]? =some (drG d):=by rw [aaf,hj];rfl
  refine ⟨_,_,_, .inl rfl,rfl, ?_⟩
  walk_at "vc"
  refine ax (xs:=rows.map cj) rfl (aI (jJ hi)) (x8 (ax (d:= .lst (ds.map drG)) rfl (aI hdj) ?_))
  exact Bp ⟨_,_,_, .inl rfl,rfl,ud (ax (d:= .lst (tb.map frD)) rfl t1 ⟨share,lg tb d.1,11,2600,rfl,q9 fl.pl.sh,t2.sz,by decide,d.2.1,_,2600,2600,rfl,(fl.pay k ds hm d hd).sz,(qY fl g ht a b).sz,by decide,h⟩)⟩
def oV(A:Addr):DF:=fun as M q _=>∃share rows tb i k ds E B F C,as=[aP A share rows, .int (i:Nat), .lst (tb.map frD)]∧rows[i]? =some (.doors k ds)∧Fl share rows E B∧Gr F C∧Tb rows (E * F) C tb∧q (.lst (ds.map fun d=>frD (aO share tb d))) M
theorem jr:ar ["self","place","table"] ["self","place","table"] (ag bY):=⟨rfl,rfl,rfl,by decide+kernel,rfl,by decide+kernel,by decide+kernel⟩
theorem iN{f:Addr}{fd:FuncData}(F:Fun K "all_shown" "Floor.all_shown" bY f fd)(E:Ev K mg Co CF CN){fFloorDoors:Addr}{dFloorDoors:FuncData}(c_FloorDoors:fj P w K mg base 2 Co "doors" ["self","place"] (oU Co) fFloorDoors dFloorDoors){fFloorShown:Addr}{dFloorShown:FuncData}(c_FloorShown:fj P w K mg base 4 Co "shown" ["self","place","door","table"] (xA Co) fFloorShown dFloorShown):bA P w K mg base (CX1 P w) 5 f fd ["self","place","table"] (spD K (oV Co)):=by
 refine F.okD jr (fun ds M q x h=> ?_) (fun cdv A outer s H E' hr=>⟨_,(ah (au (wu (ys:=["place","table","self"]) (caps:=[1,2,0]) ⟨rfl,by decide+kernel,by decide+kernel,rfl,(by show∀p:Str×NameKind,p∈_→p.2=NameKind.free→List.lookup p.1 (ag bY).names=some .cell;decide+kernel),by decide+kernel,(by show∀q:Str×Nat,q∈_→(["self","place","table"]:List Str)[q.2]? =some q.1∧List.lookup q.1 (ag bY).names=some .cell∧_;decide+kernel),rfl⟩ (bq E.n_range (aa (dE E.n_len (aa (eh (bZ c_FloorDoors hr aj (jv 0) (aa (jv 1) af (hs:=ak)))) af (hs:=aU))) af (hs:=aU))) (fun C s H fp=>(bZ c_FloorShown hr (dU (P:=P) (w:=w)) (jv 3) (aa (jv 1) (aa (jv 0) (aa (jv 2) af (hs:=ak)) (hs:=ak)) (hs:=ak))))))),fun ds M q x h=> ?_⟩)
 ·obtain ⟨share,rows,tb,i,k,ds,E,B,F,C,rfl,_⟩:=h;rfl
 ·obtain ⟨share,rows,tb,i,k,ds,Ep,B,Ft,C,rfl,hi,fl,g,ht,h⟩:=h
  have hm:Rw.doors k ds∈rows:=aag hi
  have dr:=aQ fl.pl hm
  have l6:=dr.l6
  refine ⟨⟨_,_, .inl rfl,rfl⟩,share,rows,i, .doors k ds,rfl,hi,dr.ro,dY (ds:=ds.map drG) (fb ds) ?_⟩
  walk_at "vc"
  refine aL (d:= .lst (ds.map drG)) (xs:=ds.map drG) rfl ?_
  rw [aac]
  refine ⟨⟨by omega,by omega⟩,by rw [bR];exact aaz (show _≤6 by omega) (by decide), ?_⟩
  refine fH (f:=fun x=>match x with | .int j=>frD (aO share tb (ds.getD j.toNat d0)) | _=> .non) _ _ (fun x hxm q' hq=> ?_) ?_
  ·obtain ⟨j,hj,rfl⟩:=gU hxm
   have hj:j < ds.length:=by omega
   have e:ds.getD (0+(j:Int)).toNat d0=ds[j]:=by
    rw [show (0+(j:Int)).toNat=j by omega,aab,aaa hj];rfl
   have hq:q' (frD (aO share tb (ds.getD (0+(j:Int)).toNat d0))) M:=hq
   rw [e] at hq
   refine ⟨⟨_,_, .inl rfl,rfl⟩,share,rows,tb,i,j,k,ds,ds[j],Ep,B,Ft,C,by rw [Int.zero_add],hi,aaa hj,fl,g,ht,hq⟩
  ·rw [aaI,show ((ds.length:Int)).toNat=ds.length by omega,pL ds d0 (fun d=>frD (aO share tb d))]
   exact h
theorem kN{n p:Nat}(h:p < n):ixN n (p:Int)=some p:=by
 unfold ixN
 rw [if_pos (by omega),if_pos (by omega),abg]
theorem yw{M:Ms}{d:Dt}{xs:List Dt}(h:A3 M d=some xs):rh M d=some xs:=by
 cases d <;> first | exact h | cases h
theorem vT{M:Ms}{d:Dt}{xs:List Dt}(h:A3 M d=some xs):yz M d=some (.type "list"):=by
 cases d with
 | lst ds=>rfl
 | loc k=>
  have h:(match M[k]? with | some (.lst xs)=>some xs | _=>none)=some xs:=h
  show (match M[k]? with | some (.lst _)=>some (Value.type "list") | _=>none)=_
  split at h
  ·rfl
  ·cases h
 | _=>cases h
theorem bo{M:Ms}{o:MO}:(M++[o])[M.length]? =some o:=by simp
theorem me{M:Ms}{k:Nat}{xs:List Dt}(h:M[k]? =some (MO.lst xs)):A3 M (.loc k)=some xs:=by
 show (match M[k]? with | some (MO.lst xs)=>some xs | _=>none)=some xs
 rw [h]
theorem dN{M:Ms}{a c:MO}:(M++[a]).set M.length c=M++[c]:=by simp [List.set_append]
theorem DV{M E:Ms}{o:MO}:(M++o::E)[M.length]? =some o:=by simp
theorem Aq{M E:Ms}{o c:MO}:(M++o::E).set M.length c=M++c::E:=by simp [List.set_append]
abbrev ilD(l:List Int):Dt:= .lst (l.map Dt.int)
abbrev mlD(ls:List (List Int)):Dt:= .lst (ls.map ilD)
theorem yu{ls:List (List Int)}{j:Nat}(h:j < ls.length):atI (ls.map ilD) (j:Int)=some (ilD ls[j]):=aI (by rw [aaf,aaa h];rfl)
theorem gZ{n:Nat}:∀(ls:List (List Int)),Dt.underL n (ls.map ilD)
 | []=>trivial
 | l::ls=>⟨qy l,gZ ls⟩
abbrev dJ:=Bz.dJ
theorem qV{n i:Nat}(h:i < n):((List.replicate (n:Int).toNat [Dt.int 0]).flatten).set i (Dt.int 1)=(dJ n i).map Dt.int:=by
 have e:(List.replicate (n:Int).toNat [Dt.int 0]).flatten=List.replicate n (Dt.int 0):=by
  rw [show ((n:Int)).toNat=n by omega]
  clear h
  induction n with
  | zero=>rfl
  | succ n ih=>rw [aa0,abh,ih];rfl
 rw [e]
 unfold dJ Bz.dJ
 apply abd
 ·simp
 ·intro j h1 h2
  rw [List.getElem_set]
  simp only [List.getElem_replicate,List.getElem_map,List.getElem_range,Bz.ind]
  split <;> rfl
def D3:DF:=fun as M q _=>∃rows:List (List Int),as=[mlD rows]∧rows.length≤12∧(∀r∈rows,r.length≤13)∧∀E,q (.loc M.length) (M++MO.lst (((List.range rows.length).map fun i=>rows.getD i []++dJ rows.length i).map ilD)::E)
theorem cz:ar ["rows","told","number","row","weights"] ["rows"] (ag fq):=⟨rfl,rfl,rfl,by decide+kernel,rfl,by decide+kernel,by decide+kernel⟩
theorem ki{f:Addr}{fd:FuncData}(F:Fun K "with_weights" "with_weights" fq f fd)(E:Ev K mg Co CF CN):bA P w K mg base (CX1 P w) 1 f fd ["rows"] (spD K D3):=by
 refine F.okD cz (fun ds M q x h=> ?_) (fun cdv A outer s H E' hr=>⟨_,(ae (aq (i:=1) cz.nd rfl (Or.inl rfl) (kM af))
   (ae (dW (qr E.n_enumerate (aa (jv 0) af (hs:=ak))) (jN rfl (bL (aJ (i:=2) cz.nd rfl (Or.inl rfl)) (bL (aJ (i:=3) cz.nd rfl (Or.inl rfl)) gB))) kQ (ae (aq (i:=4) cz.nd rfl (Or.inl rfl) (r8 (eZ 3 (d:= .lst [.int 0]) (by rfl)) (dE E.n_len (aa (jv 0) af (hs:=ak)))))
   (ae (fU (jv 4) (jv 2) aw)
   (ah (gF (e7 (jv 1) (aa (jZ (jv 3) (jv 4)) af (hs:=bO))))))))
   (ah (au (jv 1))))),fun ds M q x h=> ?_⟩)
 ·obtain ⟨rows,rfl,_⟩:=h;rfl
 ·obtain ⟨rows,rfl,r12,r13,h⟩:=h
  refine ⟨by decide, ?_⟩
  refine ⟨mlD rows,rows.map ilD,fun _=>True,rfl,rfl, ?_⟩
  refine cQ (fun xs ρ M'=>∃(k:Nat) (rest:List (List Int)) (E:Ms) (o1 o2 o3:Option Dt),xs=iQ k (rest.map ilD)∧rows.drop k=rest∧k≤rows.length∧M'=M++MO.lst (((List.range k).map fun i=>rows.getD i []++dJ rows.length i).map ilD)::E∧ρ=[some (mlD rows),some (.loc M.length),o1,o2,o3]) (fun xs ρ M' hj=>trivial) (fun x xs ρ M' hj nxt=> ?_) (fun ρ M' hj=> ?_) _ _ _ ⟨0,rows,[],none,none,none,rfl,rfl,abM _,rfl,rfl⟩
  ·obtain ⟨k,rest,E,o1,o2,o3,ex,hd,hk,rfl,rfl⟩:=hj
   cases rest with
   | nil=>cases ex
   | cons r rest=>
    cases ex
    have hk':k < rows.length:=by
     rcases Nat.lt_or_ge k rows.length with z | z
     ·exact z
     ·rw [List.drop_of_length_le z] at hd;cases hd
    have rk:rows[k]=r:=by
     have:=aaR hk'
     rw [hd] at this
     exact (List.cons.inj this).1.symm
    have rg:rows.getD k []=r:=by rw [aab,aaa hk',rk];rfl
    have hr13:=r13 r (by rw [←rk];exact aay hk')
    have hd':rows.drop (k+1)=rest:=by
     have:=aaR hk'
     rw [hd] at this
     exact (List.cons.inj this).2.symm
    dsimp only [g2]
    walk_at "vc"
    refine (aL (d:=mlD rows) (xs:=rows.map ilD) rfl ?_:j6 [mlD rows] _ _)
    rw [aac]
    refine ⟨[.int 0],rows.length,rfl,rfl,by omega,by omega, ?_, ?_⟩
    ·show 1 * ((rows.length:Int)).toNat≤sizeLine
     exact aaz (show _≤12 by omega) (by decide)
    generalize hM2:M++MO.lst (((List.range k).map fun i=>rows.getD i []++dJ rows.length i).map ilD)::E=M2
    refine ⟨M2.length,k,_,k,rfl,rfl,bo, ?_, ?_⟩
    ·have:((List.replicate (rows.length:Int).toNat [Dt.int 0]).flatten).length=rows.length:=by
      have:=congrArg List.length (qV hk')
      rw [abt,aac] at this
      rw [this];unfold dJ Bz.dJ;simp
     rw [this];exact kN hk'
    rw [dN,qV hk']
    subst hM2
    have eM:(M++MO.lst (((List.range k).map fun i=>rows.getD i []++dJ rows.length i).map ilD)::E)++[MO.lst ((dJ rows.length k).map Dt.int)]=M++MO.lst (((List.range k).map fun i=>rows.getD i []++dJ rows.length i).map ilD)::(E++[MO.lst ((dJ rows.length k).map Dt.int)]):=by simp
    have at3:((M++MO.lst (((List.range k).map fun i=>rows.getD i []++dJ rows.length i).map ilD)::E)++[MO.lst ((dJ rows.length k).map Dt.int)])[M.length]? =some (.lst (((List.range k).map fun i=>rows.getD i []++dJ rows.length i).map ilD)):=by rw [eM];exact DV
    refine ⟨⟨M.length,_,rfl,at3⟩,r.map Dt.int,(dJ rows.length k).map Dt.int,rfl,me bo, ?_,M.length,_,_,rfl,rfl,at3, ?_, ?_⟩
    ·rw [aac,aac]
     unfold dJ Bz.dJ
     rw [aac,abi]
     exact aaz (show _≤30 by omega) (by decide)
    ·rw [aac,aac,abi]
     exact aaO (show k≤12 by omega) (by decide)
    rw [eM,Aq]
    refine nxt _ _ ⟨k+1,rest,E++[MO.lst ((dJ rows.length k).map Dt.int)],_,_,_,rfl,hd',hk', ?_,rfl⟩
    rw [List.range_succ,aaX,aaX]
    simp only [List.map_cons,List.map_nil]
    rw [rg,←aaX]
  ·obtain ⟨k,rest,E,o1,o2,o3,ex,hd,hk,rfl,rfl⟩:=hj
   cases rest with
   | cons r rest=>cases ex
   | nil=>
    have:k=rows.length:=by
     have:=congrArg List.length hd
     rw [abx] at this
     simp at this;omega
    subst this
    exact h E
def GZ:DF:=fun as M q _=>∃(ls:List (List Int)) (f c:Nat),as=[mlD ls, .int (f:Int), .int (c:Int)]∧f≤ls.length∧ls.length≤12∧(∀l∈ls,c < l.length)∧
 ((∀(k:Nat),f≤k→k < ls.length→(ls.getD k []).getD c 0=0)→q .non M)∧
 (∀(k:Nat),f≤k→k < ls.length→(ls.getD k []).getD c 0≠0→q (.int (k:Int)) M)
theorem gb:ar ["lines","first","column","number"] ["lines","first","column"] (ag eT):=⟨rfl,rfl,rfl,by decide+kernel,rfl,by decide+kernel,by decide+kernel⟩
theorem jP{f:Addr}{fd:FuncData}(F:Fun K "number_of_head" "number_of_head" eT f fd)(E:Ev K mg Co CF CN):bA P w K mg base (CX1 P w) 1 f fd ["lines","first","column"] (spD K GZ):=by
 refine F.okD gb (fun ds M q x h=> ?_) (fun cdv A outer s H E' hr=>⟨_,(ae (fg (wc E.n_range (aa (jv 1) (aa (dE E.n_len (aa (jv 0) af (hs:=ak))) af (hs:=aU)) (hs:=ak))) (aJ (i:=3) gb.nd rfl (Or.inl rfl)) bJ (ah (bc (mv hr (aD (aD (jv 0) (jv 3)) (jv 2)) aw) (ah (au (jv 3))) aA)))
   (ah (au Ek))),fun ds M q x h=> ?_⟩)
 ·obtain ⟨ls,f,c,rfl,_⟩:=h;rfl
 ·obtain ⟨ls,f,c,rfl,hf,l12,hc,h1,h2⟩:=h
  walk_at "vc"
  dsimp only [zQ]
  walk_at "vc"
  refine (aL (d:=mlD ls) (xs:=ls.map ilD) rfl ?_:j6 [mlD ls] _ _)
  rw [aac]
  refine ⟨⟨by omega,by omega,by omega,by omega⟩, ?_⟩
  refine bU (fun zs ρ M'=>M'=M∧∃(n k:Nat) (o:Option Dt),zs=fW k n∧f≤k∧k+n=ls.length∧(∀j,f≤j→j < k→(ls.getD j []).getD c 0=0)∧ρ=[some (mlD ls),some (.int (f:Int)),some (.int (c:Int)),o]) (fun x zs ρ M' hj nxt=> ?_) (fun ρ M' hj=> ?_) _ _ _ ⟨rfl,ls.length - f,f,none, ?_,aak _,by omega,fun j a b=>absurd a (by omega),rfl⟩
  ·obtain ⟨rfl,n,k,o,ex,hk,hn,hz,rfl⟩:=hj
   obtain ⟨m,rfl,rfl,rfl⟩:=bC ex
   have kl:k < ls.length:=by omega
   have hl:=hc _ (aay kl)
   have e1:(ls.getD k []).getD c 0=(ls[k])[c]:=by
    rw [aab,aab,aaa kl]
    show ((ls[k])[c]?).getD 0=_
    rw [aaa hl];rfl
   walk_at "vc"
   refine (ax (d:=mlD ls) rfl (yu kl) ?_:fIx (mlD ls) (.int (k:Int)) _ _)
   refine (ax (d:=ilD ls[k]) rfl (hG hl) ?_:fIx (ilD ls[k]) (.int (c:Int)) _ _)
   refine ⟨fun z=> ?_,fun z=> ?_⟩
   ·have z:(!decide ((ls[k])[c]=0))=true:=z
    refine h2 k hk kl ?_
    rw [e1]
    intro y
    rw [decide_eq_true y] at z;exact nomatch z
   ·have z:(!decide ((ls[k])[c]=0))=false:=z
    have z0:(ls[k])[c]=0:=by
     rcases Decidable.em ((ls[k])[c]=0) with y | y
     ·exact y
     ·rw [decide_eq_false y] at z;exact nomatch z
    refine nxt _ _ ⟨rfl,m,k+1,_,by simp,by omega,by omega,fun j a b=> ?_,rfl⟩
    by_cases e:j=k
    ·rw [e,e1];exact z0
    ·exact hz j a (by omega)
  ·obtain ⟨rfl,n,k,o,ex,hk,hn,hz,rfl⟩:=hj
   have hn0:n=0:=by
    have:=congrArg List.length ex
    unfold fW at this
    simpa using this.symm
   exact h1 fun j a b=>hz j a (by omega)
  ·rw [show ((ls.length:Int) - (f:Int)).toNat=ls.length - f by omega]
abbrev iF:=Bz.iF
def Ad:DF:=fun as M q _=>∃(ls:List (List Int)) (f k:Nat),as=[mlD ls, .int (f:Int), .int (k:Int)]∧f≤k∧k < ls.length∧ls.length≤12∧q (mlD (iF ls f k)) M
theorem nh:ar ["lines","first","number"] ["lines","first","number"] (ag gw):=⟨rfl,rfl,rfl,by decide+kernel,rfl,by decide+kernel,by decide+kernel⟩
theorem lO{f:Addr}{fd:FuncData}(F:Fun K "moved_ahead" "moved_ahead" gw f fd)(E:Ev K mg Co CF CN):bA P w K mg base (CX1 P w) 1 f fd ["lines","first","number"] (spD K Ad):=by
 refine F.okD nh (fun ds M q x h=> ?_) (fun cdv A outer s H E' hr=>⟨_,(ah (au (jZ (jZ (jZ (eh (we (jv 0) (jv 1))) (qt (aa (aD (jv 0) (jv 2)) af (hs:=aS)))) (eh (wg (jv 0) (jv 1) (jv 2)))) (eh (jY (jv 0) (dc (jv 2) aw)))))),fun ds M q x h=> ?_⟩)
 ·obtain ⟨ls,f,k,rfl,_⟩:=h;rfl
 ·obtain ⟨ls,f,k,rfl,hf,hk,l12,h⟩:=h
  have gk:ls.getD k []=ls[k]:=by rw [aab,aaa hk];rfl
  have sz:∀{n:Nat},n≤40→n≤sizeLine:=fun h=>aaz h (by decide)
  refine ⟨ls.map ilD,f,rfl,rfl, ?_⟩
  rw [←List.map_take]
  refine dY (gZ _) ?_
  walk_at "vc"
  refine (ax (d:=mlD ls) rfl (yu hk) ?_:fIx (mlD ls) (.int (k:Int)) _ _)
  refine ⟨sz (by show 1≤40;decide),(ls.take f).map ilD,[ilD ls[k]],rfl,rfl,sz (by simp;omega), ?_⟩
  refine ⟨f,rfl,ls.map ilD,k,rfl,rfl, ?_⟩
  rw [←List.map_drop,←List.map_take]
  refine dY (gZ _) ?_
  refine ⟨(ls.take f).map ilD++[ilD ls[k]],((ls.drop f).take (k - f)).map ilD,rfl,rfl,sz (by simp;omega), ?_⟩
  refine ⟨ls.map ilD,k+1,rfl,rfl, ?_⟩
  rw [←List.map_drop]
  refine dY (gZ _) ?_
  refine ⟨(ls.take f).map ilD++[ilD ls[k]]++((ls.drop f).take (k - f)).map ilD,(ls.drop (k+1)).map ilD,rfl,rfl,sz (by simp;omega), ?_⟩
  unfold iF Bz.iF at h
  rw [gk] at h
  have e:(ls.take f).map ilD++[ilD ls[k]]++((ls.drop f).take (k - f)).map ilD++(ls.drop (k+1)).map ilD=(ls.take f++[ls[k]]++(ls.drop f).take (k - f)++ls.drop (k+1)).map ilD:=by
   rw [aaX,aaX,aaX];rfl
  rw [e];exact h
abbrev da:=Bz.da
def xF:DF:=fun as M q _=>∃(l h:List Int) (c:Nat) (d:Int),as=[ilD l,ilD h, .int (c:Int), .int d]∧l.length=h.length∧h.length≤30∧c < h.length∧(∀x∈l,Big x)∧(∀x∈h,Big x)∧d≠0∧Big d∧q (ilD (da l h c d)) M
theorem lx:ar ["line","head","column","divisor"] ["line","head","column","divisor"] (ag cT):=⟨rfl,rfl,rfl,by decide+kernel,rfl,by decide+kernel,by decide+kernel⟩
theorem kn{f:Addr}{fd:FuncData}(F:Fun K "cleared_line" "cleared_line" cT f fd)(E:Ev K mg Co CF CN):bA P w K mg base (CX1 P w) 1 f fd ["line","head","column","divisor"] (spD K xF):=by
 refine F.okD lx (fun ds M q x h=> ?_) (fun cdv A outer s H E' hr=>⟨_,(ah (au (A9 (ys:=["divisor","head","column","line"]) (caps:=[3,1,2,0]) ⟨rfl,by decide+kernel,by decide+kernel,(by show∀x:Str,x∈(["own","other"]:List Str)→_;decide+kernel),(by show∀p:Str×NameKind,p∈_→p.2=NameKind.free→List.lookup p.1 (ag cT).names=some .cell;decide+kernel),by decide+kernel,(by show∀q:Str×Nat,q∈_→(["line","head","column","divisor"]:List Str)[q.2]? =some q.1∧List.lookup q.1 (ag cT).names=some .cell∧_;decide+kernel),rfl⟩ (wb E.n_zip (aa (jv 0) (aa (jv 1) af (hs:=ak)) (hs:=ak))) (fun C s H fp=>(wq (og (bW (aD (jv 3) (jv 4)) (jv 0)) (bW (aD (jv 5) (jv 4)) (jv 1))) (jv 2)))))),fun ds M q x h=> ?_⟩)
 ·obtain ⟨l,h',c,d,rfl,_⟩:=h;rfl
 ·obtain ⟨l,hd,c,d,rfl,hl,h30,hc,bl,bh,d0,bd,h⟩:=h
  have cl:c < l.length:=by omega
  have g1:hd.getD c 0=hd[c]:=by rw [aab,aaa hc];rfl
  have g2':l.getD c 0=l[c]:=by rw [aab,aaa cl];rfl
  refine ⟨ilD l,ilD hd,l.map Dt.int,hd.map Dt.int,fun _=>True,fun _=>True,rfl,rfl,rfl, ?_⟩
  have ez:ur (l.map Dt.int) (hd.map Dt.int)=(l.zip hd).map fun p=> .tup [.int p.1, .int p.2]:=by
   unfold ur
   rw [List.zip_map,aaC];rfl
  rw [ez]
  refine ⟨?_, ?_⟩
  ·rw [aac,abl];exact aaz (show _≤30 by omega) (by decide)
  refine oE ⟨trivial,trivial⟩ (fun x=>match x with | .tup [.int a, .int b]=> .int ((hd.getD c 0 * a - l.getD c 0 * b).fdiv d) | _=> .non) _ _ (fun x hx q' hq=> ?_) ?_
  ·obtain ⟨p,hp,rfl⟩:=aal.mp hx
   have hq:q' (.int ((hd.getD c 0 * p.1 - l.getD c 0 * p.2).fdiv d)) M:=hq
   have p1:=bl p.1 (aaU hp).1
   have p2:=bh p.2 (aaU hp).2
   rw [g1,g2'] at hq
   have key:fIx (ilD hd) (.int (c:Int)) M (fun x M1=>Dy x (.int p.1) M1 fun y M2=>fIx (ilD l) (.int (c:Int)) M2 fun z M3=>Dy z (.int p.2) M3 fun u M4=>BN y u M4 fun v M5=>yN v (.int d) M5 q'):=by
    refine ax (d:=ilD hd) rfl (hG hc) ⟨⟨bh _ (aay hc),p1⟩, ?_⟩
    refine ax (d:=ilD l) rfl (hG cl) ⟨⟨bl _ (aay cl),p2⟩, ?_⟩
    exact ⟨⟨d0,bd⟩,hq⟩
   exact key
  ·rw [aaI,aaC]
   unfold da Bz.da at h
   rw [show ilD ((l.zip hd).map fun p=>(hd.getD c 0 * p.1 - l.getD c 0 * p.2).fdiv d)= .lst ((l.zip hd).map fun p=>Dt.int ((hd.getD c 0 * p.1 - l.getD c 0 * p.2).fdiv d)) by show Dt.lst _=_;rw [aaC];rfl] at h
   exact h
theorem rF{a b:Int}(h0:0≤a)(h:a≤b):∀n:Nat,a ^ n≤b ^ n
 | 0=>by rw [aa3,aa3];exact Int.le_refl _
 | n+1=>by
  rw [aaP,aaP]
  exact abr (rF h0 h n) h h0 (abj (by omega))
theorem xu{x B:Int}{r:Nat}(h:Bz.Ab x (Bz.top B r))(h1:1≤B)(hB:B≤2 ^ 450)(hr:r≤12):Big x:=by
 have e1:Bz.top B r≤(12 * B) ^ 15:=Bz.rG h1 (by omega)
 have e2:(12 * B) ^ 15≤(12 * 2 ^ 450) ^ 15:=rF (by omega) (by omega) 15
 have e3:((12 * 2 ^ 450) ^ 15:Int) < ((2 ^ 8000:Nat):Int):=by decide
 have:(x.natAbs:Int) < ((2 ^ 8000:Nat):Int):=by
  obtain ⟨a,b⟩:=h
  omega
 exact abO.mp this
section
variable{A:Nat→Bz.Row}{n col:Nat}{ρ cols:List Nat}{qq:Nat→Nat}{d:Int}{W:Nat→Bz.Row}
theorem rX{m:Nat}{B:Int}(t:Bz.d8 A n col ρ cols qq d W)(b:Bz.Bd A n m B)(hB:B≤2 ^ 450)(hm:col≤m)(hr:ρ.length≤12):(∀i,i < n→∀x∈Bz.aT A n m (W i),Big x)∧Big d:=by
 obtain ⟨a1,a2,a3⟩:=t.st.abs b (fun c hc=>aao (t.cl c hc) hm) hr
 refine ⟨fun i hi x hx=> ?_,xu a3 b.b1 hB hr⟩
 unfold Bz.aT at hx
 rcases aaL.mp hx with z | z
 ·obtain ⟨y,hy,rfl⟩:=aal.mp z
  exact xu (a2 i y hi (abB.mp hy)) b.b1 hB hr
 ·obtain ⟨y,hy,rfl⟩:=aal.mp z
  exact xu (a1 i y hi) b.b1 hB hr
end
def ntD(n:Nat):Dt:= .int n
theorem vN{n:Nat}:∀(l:List Nat),Dt.underL n (l.map ntD)
 | []=>trivial
 | _::l=>⟨trivial,vN l⟩
theorem nW{A:Nat→Bz.Row}{n m:Nat}{W:Nat→Bz.Row}{l:List Int}(h:l∈Bz.aH A n m W):∃i,i < n∧l=Bz.aT A n m (W i):=by
 unfold Bz.aH at h
 obtain ⟨i,hi,e⟩:=aal.mp h
 exact ⟨i,abB.mp hi,e.symm⟩
theorem iZ{α:Type}(a:α):∀u:Nat,(List.replicate u [a]).flatten=List.replicate u a
 | 0=>rfl
 | u+1=>by rw [aa0,abh,iZ a u];rfl
structure xG(rows:List (List Int))(u:Nat)(B:Int):Prop where
 n1:1≤rows.length
 n12:rows.length≤12
 u12:u≤12
 ml:∀r∈rows,r.length=u+1
 bd:Bz.Bd (Bz.arr rows) rows.length (u+1) B
 b450:B≤2 ^ 450
def sJ:DF:=fun as M q _=>∃(rows:List (List Int)) (u:Nat) (B:Int),as=[mlD rows, .int (u:Int)]∧xG rows u B∧
 ∀ρ cols qq d W,Bz.d8 (Bz.arr rows) rows.length u ρ cols qq d W→q (.tup [mlD (Bz.aH (Bz.arr rows) rows.length (u+1) W), .loc M.length]) (M++[.lst (cols.map ntD)])
theorem bt:ar ["rows","unknowns","lines","columns","divisor","column","rank","number","head","above","below"] ["rows","unknowns"] (ag eV):=⟨rfl,rfl,rfl,by decide+kernel,rfl,by decide+kernel,by decide+kernel⟩
theorem tO{f:Addr}{fd:FuncData}(F:Fun K "cleared" "cleared" eV f fd)(E:Ev K mg Co CF CN){fWithWeights:Addr}{dWithWeights:FuncData}(c_WithWeights:bx P w K mg base 1 "with_weights" ["rows"] D3 fWithWeights dWithWeights){fNumberOfHead:Addr}{dNumberOfHead:FuncData}(c_NumberOfHead:bx P w K mg base 1 "number_of_head" ["lines","first","column"] GZ fNumberOfHead dNumberOfHead){fMovedAhead:Addr}{dMovedAhead:FuncData}(c_MovedAhead:bx P w K mg base 1 "moved_ahead" ["lines","first","number"] Ad fMovedAhead dMovedAhead){fClearedLine:Addr}{dClearedLine:FuncData}(c_ClearedLine:bx P w K mg base 1 "cleared_line" ["line","head","column","divisor"] xF fClearedLine dClearedLine):bA P w K mg base (CX1 P w) 2 f fd ["rows","unknowns"] (spD K sJ):=by
 refine F.okD bt (fun ds M q x h=> ?_) (fun cdv A outer s H E' hr=>⟨_,(ae (aq (i:=2) bt.nd rfl (Or.inl rfl) (eh (aV c_WithWeights hr aj (aa (jv 0) af (hs:=ak)))))
   (ae (aq (i:=3) bt.nd rfl (Or.inl rfl) (kM af))
   (ae (aq (i:=4) bt.nd rfl (Or.inr rfl) aw)
   (ae (fg (bq E.n_range (aa (jv 1) af (hs:=ak))) (aJ (i:=5) bt.nd rfl (Or.inr rfl)) bJ (ae (aq (i:=6) bt.nd rfl (Or.inl rfl) (dE E.n_len (aa (jv 3) af (hs:=ak))))
   (ae (aq (i:=7) bt.nd rfl (Or.inl rfl) (aV c_NumberOfHead hr aj (aa (jv 2) (aa (jv 6) (aa (jv 5) af (hs:=ak)) (hs:=ak)) (hs:=ak))))
   (ae (bc (zK (jv 7) Ek) (ah gG) aA)
   (ae (aq (i:=2) bt.nd rfl (Or.inl rfl) (aV c_MovedAhead hr aj (aa (jv 2) (aa (jv 6) (aa (jv 7) af (hs:=ak)) (hs:=ak)) (hs:=ak))))
   (ae (aq (i:=8) bt.nd rfl (Or.inr rfl) (aD (jv 2) (jv 6)))
   (ae (eW (i:=9) bt.nd rfl (Or.inl rfl) (ys:=["head","column","divisor"]) (caps:=[8,5,4]) ⟨rfl,by decide+kernel,by decide+kernel,rfl,(by show∀p:Str×NameKind,p∈_→p.2=NameKind.free→List.lookup p.1 (ag eV).names=some .cell;decide+kernel),by decide+kernel,(by show∀q:Str×Nat,q∈_→(["rows","unknowns","lines","columns","divisor","column","rank","number","head","above","below"]:List Str)[q.2]? =some q.1∧List.lookup q.1 (ag eV).names=some .cell∧_;decide+kernel),rfl⟩ (cD (eh (we (jv 2) (jv 6)))) (fun C s H fp=>(aV c_ClearedLine hr (dU (P:=P) (w:=w)) (aa (jv 0) (aa (jv 1) (aa (jv 2) (aa (jv 3) af (hs:=ak)) (hs:=ak)) (hs:=ak)) (hs:=ak)))))
   (ae (eW (i:=10) bt.nd rfl (Or.inl rfl) (ys:=["head","column","divisor"]) (caps:=[8,5,4]) ⟨rfl,by decide+kernel,by decide+kernel,rfl,(by show∀p:Str×NameKind,p∈_→p.2=NameKind.free→List.lookup p.1 (ag eV).names=some .cell;decide+kernel),by decide+kernel,(by show∀q:Str×Nat,q∈_→(["rows","unknowns","lines","columns","divisor","column","rank","number","head","above","below"]:List Str)[q.2]? =some q.1∧List.lookup q.1 (ag eV).names=some .cell∧_;decide+kernel),rfl⟩ (cD (eh (jY (jv 2) (dc (jv 6) aw)))) (fun C s H fp=>(aV c_ClearedLine hr (dU (P:=P) (w:=w)) (aa (jv 0) (aa (jv 1) (aa (jv 2) (aa (jv 3) af (hs:=ak)) (hs:=ak)) (hs:=ak)) (hs:=ak)))))
   (ae (aq (i:=2) bt.nd rfl (Or.inl rfl) (jZ (jZ (jv 9) (qt (aa (jv 8) af (hs:=ak)))) (jv 10)))
   (ae (aq (i:=4) bt.nd rfl (Or.inr rfl) (aD (jv 8) (jv 5)))
   (ah (gF (e7 (jv 3) (aa (jv 5) af (hs:=ak)))))))))))))))
   (ah (au (cJ (aa (jv 2) (aa (jv 3) af (hs:=ak)) (hs:=ak))))))))),fun ds M q x h=> ?_⟩)
 ·obtain ⟨rows,u,B,rfl,_⟩:=h;rfl
 ·obtain ⟨rows,u,B,rfl,ro,h⟩:=h
  have n1:=ro.n1
  have n12:=ro.n12
  have u12:=ro.u12
  refine ⟨rows,rfl,n12,fun r hr'=>by rw [ro.ml r hr'];omega,fun E0'=> ?_⟩
  rw [Bz.ql ro.ml]
  refine kR (d':=mlD (Bz.aH (Bz.arr rows) rows.length (u+1) fun i=>Bz.ind i)) (.newL (Nat.le_refl _) (by simp) (mU.old (gZ _))) ?_
  generalize hA:Bz.arr rows=A at *
  generalize hn:rows.length=n at *
  refine ⟨by decide, ?_⟩
  walk_at "vc"
  refine ⟨⟨by omega,by omega⟩, ?_⟩
  refine bU (fun zs ρ' M'=>∃(c k:Nat) (ρ cols:List Nat) (qq:Nat→Nat) (d:Int) (W:Nat→Bz.Row) (o1 o2 o3 o4 o5 o6:Option Dt),zs=fW k c∧k+c=u∧Bz.d8 A n k ρ cols qq d W∧M'=M++[MO.lst (cols.map ntD)]∧ρ'=[some (mlD rows),some (.int (u:Int)),some (mlD (Bz.aH A n (u+1) W)),some (.loc M.length),some (.int d),o1,o2,o3,o4,o5,o6]) (fun x zs ρ' M' hj nxt=> ?_) (fun ρ' M' hj=> ?_) _ _ _ ⟨u,0,[],[],id,1,_,none,none,none,none,none,none,by simp,by simp,Bz.d8.start,rfl,rfl⟩
  ·obtain ⟨c,k,ρ,cols,qq,d,W,o1,o2,o3,o4,o5,o6,ex,hkc,t,rfl,rfl⟩:=hj
   obtain ⟨m,rfl,rfl,rfl⟩:=bC ex
   have lc:cols.length=ρ.length:=t.st.lc
   have rn:ρ.length≤n:=t.st.rn
   have hs1:rh (M++[MO.lst (cols.map ntD)]) (.loc M.length)=some (cols.map ntD):=yw (me bo)
   walk_at "vc"
   refine (aL (d:= .loc M.length) hs1 ?_:j6 [.loc M.length] _ _)
   rw [aac,lc]
   refine ⟨Bz.aH A n (u+1) W,ρ.length,k,rfl,by rw [Bz.cC];exact rn,by rw [Bz.cC];exact n12,fun l hl=> ?_,fun hz=> ?_,fun k' h1 h2 h0=> ?_⟩
   ·obtain ⟨i,_,rfl⟩:=nW hl
    rw [Bz.dw];omega
   ·refine ⟨fun _=> ?_,fun z=>(nomatch z)⟩
    refine nxt _ _ ⟨m,k+1,ρ,cols,qq,d,W,_,_,_,_,_,_,by simp,by omega,t.skip fun i a b=> ?_,rfl,rfl⟩
    have:=hz i a (by rw [Bz.cC];exact b)
    rw [Bz.g6 b,Bz.fD (by omega)] at this
    exact this
   ·rw [Bz.cC] at h2
    rw [Bz.g6 h2,Bz.fD (show k < u+1 by omega)] at h0
    refine ⟨fun z=>(nomatch z),fun _=> ?_⟩
    refine ⟨Bz.aH A n (u+1) W,ρ.length,k',rfl,h1,by rw [Bz.cC];exact h2,by rw [Bz.cC];exact n12, ?_⟩
    rw [show iF (Bz.aH A n (u+1) W) ρ.length k'=_ from Bz.qm h1 h2]
    have t1:=t.move h1 h2
    have hrn:ρ.length < n:=by omega
    have h0':Bz.rv A n (W (Bz.rot ρ.length k' ρ.length)) k≠0:=by
     have:Bz.rot ρ.length k' ρ.length=k':=by unfold Bz.rot;rw [if_neg (Nat.lt_irrefl _),if_pos rfl]
     rw [this];exact h0
    clear h0 h1 h2 t
    generalize hW1:(fun i=>W (Bz.rot ρ.length k' i))=W1 at *
    generalize hq1:(fun i=>qq (Bz.rot ρ.length k' i))=q1 at *
    have e1:W (Bz.rot ρ.length k' ρ.length)=W1 ρ.length:=by rw [←hW1]
    rw [e1] at h0'
    obtain ⟨bl,bd⟩:=rX t1 (m:=u+1) (by subst hA hn;exact ro.bd) ro.b450 (by omega) (by omega)
    obtain ⟨W',t2,el⟩:=t1.step (m:=u+1) hrn (by omega) h0'
    have llen:(Bz.aH A n (u+1) W1).length=n:=Bz.cC
    have hdg:(Bz.aH A n (u+1) W1)[ρ.length]'(by rw [llen];exact hrn)=Bz.aT A n (u+1) (W1 ρ.length):=by
     have:=Bz.g6 (A:=A) (m:=u+1) (W:=W1) hrn
     rw [aab,aaa (by rw [llen];exact hrn)] at this
     exact this
    have clr:∀l∈Bz.aH A n (u+1) W1,∀q':DQ,q' (ilD (da l (Bz.aT A n (u+1) (W1 ρ.length)) k d)) (M++[MO.lst (cols.map ntD)])→xF [ilD l,ilD (Bz.aT A n (u+1) (W1 ρ.length)), .int (k:Int), .int d] (M++[MO.lst (cols.map ntD)]) q' (fun C fs M'=>noX [] C fs M'):=fun l hl q' hq'=>by
     obtain ⟨i,hi,rfl⟩:=nW hl
     exact ⟨_,_,k,d,rfl,by rw [Bz.dw,Bz.dw],by rw [Bz.dw];omega,by rw [Bz.dw];omega,bl i hi,bl _ hrn,t1.d0,bd,hq'⟩
    walk_at "vc"
    refine (ax (d:=mlD (Bz.aH A n (u+1) W1)) rfl (yu (by rw [llen];exact hrn)) ?_:fIx (mlD (Bz.aH A n (u+1) W1)) (.int (ρ.length:Int)) _ _)
    rw [hdg]
    have sz:∀{z:Nat},z≤40→z≤sizeLine:=fun h=>aaz h (by decide)
    refine ⟨(Bz.aH A n (u+1) W1).map ilD,ρ.length,rfl,rfl, ?_⟩
    rw [←List.map_take]
    refine dY (gZ _) ⟨sz (by rw [aac,abH];omega), ?_⟩
    refine cL (F:=fun x a=>x=ilD a∧a∈Bz.aH A n (u+1) W1) (f:=fun l=>ilD (da l (Bz.aT A n (u+1) (W1 ρ.length)) k d)) trivial (fun x a ha q' hq'=>by obtain ⟨rfl,ha⟩:=ha;exact clr a ha q' hq') (fS ilD _ _ fun _ h=>List.mem_of_mem_take h) ?_
    rw [aaI]
    refine ⟨(Bz.aH A n (u+1) W1).map ilD,ρ.length+1,rfl,rfl, ?_⟩
    rw [←List.map_drop]
    refine dY (gZ _) ⟨sz (by rw [aac,abx];omega), ?_⟩
    refine cL (F:=fun x a=>x=ilD a∧a∈Bz.aH A n (u+1) W1) (f:=fun l=>ilD (da l (Bz.aT A n (u+1) (W1 ρ.length)) k d)) trivial (fun x a ha q' hq'=>by obtain ⟨rfl,ha⟩:=ha;exact clr a ha q' hq') (fS ilD _ _ fun _ h=>List.mem_of_mem_drop h) ?_
    rw [aaI]
    refine ⟨by show 1≤sizeLine;decide,_,_,rfl,rfl,sz (by simp;omega),_,_,rfl,rfl,sz (by simp;omega), ?_⟩
    have ek:k < (Bz.aT A n (u+1) (W1 ρ.length)).length:=by rw [Bz.dw];omega
    have ev:(Bz.aT A n (u+1) (W1 ρ.length))[k]=Bz.rv A n (W1 ρ.length) k:=by
     have:=Bz.fD (A:=A) (n:=n) (m:=u+1) (x:=k) (w:=W1 ρ.length) (by omega)
     rw [aab,aaa ek] at this
     exact this
    refine ax (d:=ilD (Bz.aT A n (u+1) (W1 ρ.length))) rfl (hG ek) ?_
    rw [ev]
    refine ⟨⟨M.length,_,rfl,bo⟩,M.length,_,_,rfl,rfl,bo, ?_, ?_⟩
    ·rw [aac,lc];exact aaO (show _≤12 by omega) (by decide)
    rw [dN]
    have ee:=congrArg (List.map ilD) el
    rw [aaX,aaX,aaC,aaC] at ee
    refine nxt _ _ ⟨m,k+1,ρ++[q1 ρ.length],cols++[k],q1,_,W',some (.int (k:Int)),some (.int (ρ.length:Int)),some (.int (k':Int)),some (ilD (Bz.aT A n (u+1) (W1 ρ.length))),some (.lst (((Bz.aH A n (u+1) W1).take ρ.length).map fun l=>ilD (da l (Bz.aT A n (u+1) (W1 ρ.length)) k d))),some (.lst (((Bz.aH A n (u+1) W1).drop (ρ.length+1)).map fun l=>ilD (da l (Bz.aT A n (u+1) (W1 ρ.length)) k d))),by simp,by omega,t2,by simp [ntD], ?_⟩
    show _=[some (mlD rows),some (Dt.int (u:Int)),some (Dt.lst ((Bz.aH A n (u+1) W').map ilD)),some (Dt.loc M.length),some (Dt.int _),_,_,_,_,_,_]
    rw [←ee]
    rfl
  ·obtain ⟨c,k,ρ,cols,qq,d,W,o1,o2,o3,o4,o5,o6,ex,hkc,t,rfl,rfl⟩:=hj
   have hn0:c=0:=by
    have:=congrArg List.length ex
    unfold fW at this
    simpa using this.symm
   have:k=u:=by omega
   subst this
   exact ⟨by show 2≤sizeLine;decide,h _ _ _ _ _ t⟩
def D4:DF:=fun as M q _=>∃(rows:List (List Int)) (u:Nat) (B:Int) (ρ cols:List Nat) (qq:Nat→Nat) (d:Int) (W:Nat→Bz.Row),as=[mlD (Bz.aH (Bz.arr rows) rows.length (u+1) W), .lst (cols.map ntD), .int (u:Int), .int (u:Int)]∧xG rows u B∧Bz.d8 (Bz.arr rows) rows.length u ρ cols qq d W∧cols=List.range u∧
 q (.loc M.length) (M++[.lst ((List.range u).map fun i=>frD (bK (Bz.rv (Bz.arr rows) rows.length (W i) u) d))])
theorem eN:ar ["lines","columns","unknowns","source","told","line","column"] ["lines","columns","unknowns","source"] (ag h8):=⟨rfl,rfl,rfl,by decide+kernel,rfl,by decide+kernel,by decide+kernel⟩
theorem nE{f:Addr}{fd:FuncData}(F:Fun K "quotients" "quotients" h8 f fd)(E:Ev K mg Co CF CN){fFraction:Addr}{dFraction:FuncData}(c_Fraction:bx P w K mg base 2 "fraction" ["top","bottom"] (qM CN) fFraction dFraction):bA P w K mg base (CX1 P w) 3 f fd ["lines","columns","unknowns","source"] (spD K D4):=by
 refine F.okD eN (fun ds M q x h=> ?_) (fun cdv A outer s H E' hr=>⟨_,(ae (aq (i:=4) eN.nd rfl (Or.inl rfl) (r8 (eZ 3 (d:= .lst [.tup [.int 0, .int 1]]) (by rfl)) (jv 2)))
   (ae (dW (wb E.n_zip (aa (jv 0) (aa (jv 1) af (hs:=ak)) (hs:=ak))) (jN rfl (bL (aJ (i:=5) eN.nd rfl (Or.inl rfl)) (bL (aJ (i:=6) eN.nd rfl (Or.inl rfl)) gB))) kQ (ah (fU (jv 4) (jv 6) (aV c_Fraction hr aj (aa (aD (jv 5) (jv 3)) (aa (aD (jv 5) (jv 6)) af (hs:=aS)) (hs:=aS))))))
   (ah (au (jv 4))))),fun ds M q x h=> ?_⟩)
 ·obtain ⟨rows,u,B,ρ,cols,qq,d,W,rfl,_⟩:=h;rfl
 ·obtain ⟨rows,u,B,ρ,cols,qq,d,W,rfl,ro,t,hc,h⟩:=h
  have u12:=ro.u12
  have n12:=ro.n12
  have hl:ρ.length=u:=by rw [←t.st.lc,hc,abi]
  have un:u≤rows.length:=by rw [←hl];exact t.st.rn
  obtain ⟨bl,bd⟩:=rX t (m:=u+1) ro.bd ro.b450 (by omega) (by omega)
  have d0:=t.d0
  have one:∀i,i < u→Bz.rv (Bz.arr rows) rows.length (W i) i=d:=fun i hi=>by
   have:=t.st.one i i (by omega) (by omega)
   rw [if_pos rfl,hc,aab,aaB hi] at this
   exact this
  generalize hA:Bz.arr rows=A at *
  generalize hn:rows.length=n at *
  let tl:Nat→List Dt:=fun k=>(List.range u).map fun i=>if i < k then frD (bK (Bz.rv A n (W i) u) d) else frD (0,1)
  have t0:(List.replicate (u:Int).toNat [frD (0,1)]).flatten=tl 0:=by
   show _=(List.range u).map fun i=>if i < 0 then _ else frD (0,1)
   rw [show ((u:Int)).toNat=u by omega]
   apply abd
   ·simp
   ·intro j h1 h2
    have e:(List.replicate u [frD (0,1)]).flatten=List.replicate u (frD (0,1)):=iZ _ u
    simp [e]
  have ts:∀k,k < u→(tl k).set k (frD (bK (Bz.rv A n (W k) u) d))=tl (k+1):=fun k hk=>by
   apply abd
   ·simp [tl]
   ·intro j h1 h2
    rw [List.getElem_set]
    simp only [tl,List.getElem_map,List.getElem_range]
    by_cases e:k=j
    ·subst e;rw [if_pos rfl,if_pos (by omega)]
    ·rw [if_neg e]
     by_cases f:j < k
     ·rw [if_pos f,if_pos (by omega)]
     ·rw [if_neg f,if_neg (by omega)]
  refine ⟨[frD (0,1)],u,rfl,rfl,by omega,by omega, ?_, ?_⟩
  ·show 1 * ((u:Int)).toNat≤sizeLine
   exact aaz (show _≤12 by omega) (by decide)
  rw [t0]
  refine ⟨mlD (Bz.aH A n (u+1) W), .lst (cols.map ntD),_,_,fun _=>True,fun _=>True,rfl,rfl,rfl, ?_⟩
  have ez:ur ((Bz.aH A n (u+1) W).map ilD) (cols.map ntD)=(List.range u).map fun i=> .tup [ilD (Bz.aT A n (u+1) (W i)),ntD i]:=by
   unfold ur Bz.aH
   rw [hc]
   apply abd
   ·simp;omega
   ·intro j h1 h2
    simp
  rw [ez]
  refine cQ (fun zs ρ' M'=>∃(k:Nat) (o1 o2:Option Dt),k≤u∧zs=((List.range u).drop k).map (fun i=> .tup [ilD (Bz.aT A n (u+1) (W i)),ntD i])∧M'=M++[MO.lst (tl k)]∧ρ'=[some (mlD (Bz.aH A n (u+1) W)),some (.lst (cols.map ntD)),some (.int (u:Int)),some (.int (u:Int)),some (.loc M.length),o1,o2]) (fun zs ρ' M' hj=>⟨trivial,trivial⟩) (fun x zs ρ' M' hj nxt=> ?_) (fun ρ' M' hj=> ?_) _ _ _ ⟨0,none,none,abM _,rfl,rfl,rfl⟩
  ·obtain ⟨k,o1,o2,hk,ex,rfl,rfl⟩:=hj
   have hk':k < u:=by
    rcases Nat.lt_or_ge k u with z | z
    ·exact z
    ·rw [List.drop_of_length_le (by simpa using z)] at ex;cases ex
   rw [List.drop_eq_getElem_cons (by simpa using hk'),List.map_cons,List.getElem_range] at ex
   cases ex
   have ek:k < (Bz.aT A n (u+1) (W k)).length:=by rw [Bz.dw];omega
   have eu:u < (Bz.aT A n (u+1) (W k)).length:=by rw [Bz.dw];omega
   have v1:(Bz.aT A n (u+1) (W k))[k]=d:=by
    have:=Bz.fD (A:=A) (n:=n) (m:=u+1) (x:=k) (w:=W k) (by omega)
    rw [aab,aaa ek] at this
    rw [←one k hk'];exact this
   have v2:(Bz.aT A n (u+1) (W k))[u]=Bz.rv A n (W k) u:=by
    have:=Bz.fD (A:=A) (n:=n) (m:=u+1) (x:=u) (w:=W k) (by omega)
    rw [aab,aaa eu] at this
    exact this
   dsimp only [g2,kF]
   walk_at "vc"
   refine ax (d:=ilD (Bz.aT A n (u+1) (W k))) rfl (hG eu) ?_
   refine ax (d:=ilD (Bz.aT A n (u+1) (W k))) rfl (hG ek) ?_
   rw [v1,v2]
   refine ⟨bd,fun z=>absurd z d0,fun _=> ?_⟩
   refine ⟨M.length,k,_,k,rfl,rfl,bo, ?_, ?_⟩
   ·rw [show (tl k).length=u by simp [tl]];exact kN hk'
   rw [dN]
   refine nxt _ _ ⟨k+1,_,_,hk',rfl, ?_,rfl⟩
   rw [←ts k hk'];rfl
  ·obtain ⟨k,o1,o2,hk,ex,rfl,rfl⟩:=hj
   have:k=u:=by
    have:=congrArg List.length ex
    simp at this;omega
   subst this
   have e:tl k=(List.range k).map fun i=>frD (bK (Bz.rv A n (W i) k) d):=aa8 fun i hi=>by
    rw [if_pos (abB.mp hi)]
   rw [e];exact h
def qN:DF:=fun as M q _=>∃(rows:List (List Int)) (u:Nat) (B:Int) (due:List Fr) (z:Bz.Row) (N:Int),as=[mlD rows]∧xG rows u B∧1≤u∧due.length=u∧Bz.Sol (Bz.arr rows) rows.length u z N∧N≠0∧
 (∀i,i < u→0 < (due.getD i (0,1)).2∧Int.gcd (due.getD i (0,1)).1 (due.getD i (0,1)).2=1∧N * (due.getD i (0,1)).1=z i * (due.getD i (0,1)).2)∧
 (∀y:Bz.Row,(∀k,k < rows.length→Bz.ay (fun x=>Bz.arr rows k x * y x) u=0)→∀x,x < u→y x=0)∧q (.loc M.length) (M++[.lst (due.map frD)])
theorem cH:ar ["rows","unknowns","found","lines","columns","line","answer"] ["rows"] (ag jI):=⟨rfl,rfl,rfl,by decide+kernel,rfl,by decide+kernel,by decide+kernel⟩
theorem qe{f:Addr}{fd:FuncData}(F:Fun K "answer_of" "answer_of" jI f fd)(E:Ev K mg Co CF CN){fCleared:Addr}{dCleared:FuncData}(c_Cleared:bx P w K mg base 2 "cleared" ["rows","unknowns"] sJ fCleared dCleared){fQuotients:Addr}{dQuotients:FuncData}(c_Quotients:bx P w K mg base 3 "quotients" ["lines","columns","unknowns","source"] D4 fQuotients dQuotients):bA P w K mg base (CX1 P w) 4 f fd ["rows"] (spD K qN):=by
 refine F.okD cH (fun ds M q x h=> ?_) (fun cdv A outer s H E' hr=>⟨_,(ae (aq (i:=1) cH.nd rfl (Or.inl rfl) (og (dE E.n_len (aa (aD (jv 0) aw) af (hs:=aS))) aw))
   (ae (aq (i:=2) cH.nd rfl (Or.inl rfl) (eh (aV c_Cleared hr aj (aa (jv 0) (aa (jv 1) af (hs:=ak)) (hs:=ak)))))
   (ae (aq (i:=3) cH.nd rfl (Or.inl rfl) (aD (jv 2) aw))
   (ae (aq (i:=4) cH.nd rfl (Or.inl rfl) (aD (jv 2) aw))
   (ae (dW (cD (eh (jY (jv 3) (dE E.n_len (aa (jv 4) af (hs:=ak)))))) (aJ (i:=5) cH.nd rfl (Or.inl rfl)) bJ (ah (bc (mv hr (aD (jv 5) (jv 1)) aw) (ah i9) aA)))
   (ae (aq (i:=6) cH.nd rfl (Or.inl rfl) (aV c_Quotients hr aj (aa (jv 3) (aa (jv 4) (aa (jv 1) (aa (jv 1) af (hs:=ak)) (hs:=ak)) (hs:=ak)) (hs:=ak))))
   (ae (bc (qp (dE E.n_len (aa (jv 4) af (hs:=ak))) (jv 1)) (ah i9) aA)
   (ah (au (jv 6)))))))))),fun ds M q x h=> ?_⟩)
 ·obtain ⟨rows,u,B,due,z,N,rfl,_⟩:=h;rfl
 ·obtain ⟨rows,u,B,due,z,N,rfl,ro,u1,dl,sol,hN,hdue,hker,h⟩:=h
  have n1:=ro.n1
  have n12:=ro.n12
  have u12:=ro.u12
  have r0:0 < rows.length:=by omega
  have m0:rows[0].length=u+1:=ro.ml _ (aay r0)
  walk_at "vc"
  refine (ax (d:=mlD rows) rfl (yu r0) ?_:fIx (mlD rows) (.int 0) _ _)
  refine (aL (d:=ilD rows[0]) (xs:=rows[0].map Dt.int) rfl ?_:j6 [ilD rows[0]] _ _)
  rw [aac,m0]
  dsimp only [BN]
  rw [show (((u+1:Nat):Int) - 1)=(u:Int) by omega]
  refine ⟨rows,u,B,rfl,ro,fun ρ cols qq d W t=> ?_⟩
  have hcols:cols=List.range u:=by
   rcases t.all with e | ⟨x,hx,hf⟩
   ·exact e
   ·obtain ⟨y,y1,y2⟩:=t.kernel hx hf
    have:=hker y y2 x hx
    rw [this] at y1
    exact absurd (by omega) t.d0
  have hl:ρ.length=u:=by rw [←t.st.lc,hcols,abi]
  have un:u≤rows.length:=by rw [←hl];exact t.st.rn
  refine kR (d':= .tup [mlD (Bz.aH (Bz.arr rows) rows.length (u+1) W), .lst (cols.map ntD)]) (.tup (.cons (.old (gZ _)) (.cons (.newL (Nat.le_refl _) (by simp) (mU.old (vN _))) .nil))) ?_
  have told:(List.range u).map (fun i=>frD (bK (Bz.rv (Bz.arr rows) rows.length (W i) u) d))=due.map frD:=by
   apply abd
   ·simp [dl]
   ·intro i h1 h2
    have hi:i < u:=by simpa using h1
    simp only [List.getElem_map,List.getElem_range]
    obtain ⟨p0,p1,p2⟩:=hdue i hi
    have gi:due.getD i (0,1)=due[i]:=by rw [aab,aaa (by omega)];rfl
    rw [gi] at p0 p1 p2
    have e:=t.told hcols sol hi
    congr 1
    have:bK (Bz.rv (Bz.arr rows) rows.length (W i) u) d=(due[i].1,due[i].2):=qB t.d0 p0 p1 (by
     refine aaG hN ?_
     grind)
    exact this
  refine (ax (d:= .tup [mlD (Bz.aH (Bz.arr rows) rows.length (u+1) W), .lst (cols.map ntD)]) rfl dG ?_:fIx (.tup [mlD (Bz.aH (Bz.arr rows) rows.length (u+1) W), .lst (cols.map ntD)]) (.int 0) _ _)
  refine (ax (d:= .tup [mlD (Bz.aH (Bz.arr rows) rows.length (u+1) W), .lst (cols.map ntD)]) rfl (aI (j:=1) rfl) ?_:fIx (.tup [mlD (Bz.aH (Bz.arr rows) rows.length (u+1) W), .lst (cols.map ntD)]) (.int 1) _ _)
  have lcu:(cols.map ntD).length=u:=by rw [aac,hcols,abi]
  dsimp only [x6,iP,dFz,GS]
  walk_at "vc"
  refine (aL (d:= .lst (cols.map ntD)) (xs:=cols.map ntD) rfl ?_:j6 [.lst (cols.map ntD)] _ _)
  refine ⟨(Bz.aH (Bz.arr rows) rows.length (u+1) W).map ilD,(cols.map ntD).length,rfl,rfl, ?_⟩
  rw [lcu,←List.map_drop]
  refine dY (gZ _) ?_
  have hz:∀l∈(Bz.aH (Bz.arr rows) rows.length (u+1) W).drop u,u < l.length∧l.getD u 0=0:=fun l hl'=>by
   obtain ⟨j,hj,e⟩:=aa7 hl'
   rw [List.getElem_drop] at e
   rw [abx,Bz.cC] at hj
   have hu:u+j < rows.length:=by omega
   have el:l=Bz.aT (Bz.arr rows) rows.length (u+1) (W (u+j)):=by
    have:=Bz.g6 (A:=Bz.arr rows) (m:=u+1) (W:=W) hu
    rw [aab,aaa (by rw [Bz.cC];exact hu)] at this
    rw [←e];exact this
   rw [el]
   refine ⟨by rw [Bz.dw];omega, ?_⟩
   rw [Bz.fD (by omega)]
   exact t.rest sol hN (by omega) hu
  refine cQ (fun zs ρ' M'=>M'=M∧∃(rest:List (List Int)) (o:Option Dt),zs=rest.map ilD∧(∀l∈rest,u < l.length∧l.getD u 0=0)∧ρ'=[some (mlD rows),some (.int (u:Int)),some (.tup [mlD (Bz.aH (Bz.arr rows) rows.length (u+1) W), .lst (cols.map ntD)]),some (mlD (Bz.aH (Bz.arr rows) rows.length (u+1) W)),some (.lst (cols.map ntD)),o,none]) (fun zs ρ' M' hj=>trivial) (fun x zs ρ' M' hj nxt=> ?_) (fun ρ' M' hj=> ?_) _ _ _ ⟨rfl,_,none,rfl,hz,rfl⟩
  ·obtain ⟨rfl,rest,o,ex,hr',rfl⟩:=hj
   cases rest with
   | nil=>cases ex
   | cons l rest=>
    cases ex
    obtain ⟨l1,l2⟩:=hr' l aae
    have lv:l[u]=0:=by
     rw [aab,aaa l1] at l2;exact l2
    walk_at "vc"
    refine (ax (d:=ilD l) rfl (hG l1) ?_:fIx (ilD l) (.int (u:Int)) _ _)
    rw [lv]
    exact ⟨fun z=>(nomatch z),fun _=>nxt _ _ ⟨rfl,rest,_,rfl,fun y hy=>hr' y (aad _ hy),rfl⟩⟩
  ·obtain ⟨rfl,rest,o,ex,hr',rfl⟩:=hj
   refine ⟨rows,u,B,ρ,cols,qq,d,W,rfl,ro,t,hcols, ?_⟩
   rw [told]
   walk_at "vc"
   refine (aL (d:= .lst (cols.map ntD)) (xs:=cols.map ntD) rfl ?_:j6 [.lst (cols.map ntD)] _ _)
   rw [lcu]
   refine ⟨fun z=> ?_,fun _=>h⟩
   have z:(u:Int) < u:=of_decide_eq_true z
   omega
theorem xP(cs ns:List Fr):ur (cs.map frD) (ns.map frD)=(cs.zip ns).map fun p=> .tup [frD p.1,frD p.2]:=by
 unfold ur
 rw [List.zip_map,aaC];rfl
structure Ch(B:Int)(c:Fr):Prop where
 pos:0 < c.2
 he:hV c B
 u:fh c
 sz:Sz 300 c
theorem gM{E B C:Int}(b0:0 < B)(e0:0 < E)(be:B * E < 2 ^ 2200)(c0:0≤C)(c1:C < 2 ^ 300):∀(ps:List (Fr×Fr)) (w:Fr) (j:Nat),j+ps.length≤6→Nb (B * E) (j * C) w→(∀p∈ps,Ch B p.1∧Nb E C p.2)→Nb (B * E) ((j+ps.length:Nat) * C) (ps.foldl (fun w p=>bf w (aG p.1 p.2)) w)
 | [],w,j,_,hw,_=>hw
 | p::ps,w,j,hj,hw,h=>by
  rw [aas] at hj
  obtain ⟨h1,h2⟩:=h p aae
  have jc:((j:Int)+1) * C=j * C+C:=by rw [Int.add_mul,Int.one_mul]
  have jm:((j:Int)+1) * C≤6 * C:=aaj (by omega) c0
  have j0:0≤(j:Int) * C:=aaM (by omega) c0
  have ht:=i4 h1.pos h1.he h1.u h2 ⟨aaq b0 e0,be,c0,abE c1 (by decide)⟩
  have hp:=lT hw ht ⟨aaq b0 e0,be,by omega,by omega⟩
  rw [←jc] at hp
  have:=gM b0 e0 be c0 c1 ps _ (j+1) (by omega) (by exact_mod_cast hp) (fun q hq=>h q (aad _ hq))
  rw [abD,aas,show j+(ps.length+1)=j+1+ps.length by omega]
  exact this
def mK:DF:=fun as M q _=>∃(cs ns:List Fr) (E B C:Int),as=[.lst (cs.map frD), .lst (ns.map frD)]∧cs.length≤6∧0 < B∧0 < E∧B * E < 2 ^ 2200∧0≤C∧C < 2 ^ 300∧(∀c∈cs,Ch B c)∧(∀n∈ns,Nb E C n)∧q (frD (ff (cs.zip ns))) M
theorem fm:ar ["chances","numbers","whole","chance","number"] ["chances","numbers"] (ag ly):=⟨rfl,rfl,rfl,by decide+kernel,rfl,by decide+kernel,by decide+kernel⟩
theorem tF{f:Addr}{fd:FuncData}(F:Fun K "weighed" "weighed" ly f fd)(E:Ev K mg Co CF CN){fPlus:Addr}{dPlus:FuncData}(c_Plus:bx P w K mg base 3 "plus" ["one","other"] yX fPlus dPlus){fTimes:Addr}{dTimes:FuncData}(c_Times:bx P w K mg base 3 "times" ["one","other"] oP fTimes dTimes):bA P w K mg base (CX1 P w) 4 f fd ["chances","numbers"] (spD K mK):=by
 refine F.okD fm (fun ds M q x h=> ?_) (fun cdv A outer s H E' hr=>⟨_,(ae (aq (i:=2) fm.nd rfl (Or.inl rfl) (cJ (aa aw (aa aw af (hs:=bB)) (hs:=bB))))
   (ae (dW (wb E.n_zip (aa (jv 0) (aa (jv 1) af (hs:=ak)) (hs:=ak))) (jN rfl (bL (aJ (i:=3) fm.nd rfl (Or.inl rfl)) (bL (aJ (i:=4) fm.nd rfl (Or.inl rfl)) gB))) kQ (ah (aq (i:=2) fm.nd rfl (Or.inl rfl) (aV c_Plus hr aj (aa (jv 2) (aa (aV c_Times hr aj (aa (jv 3) (aa (jv 4) af (hs:=ak)) (hs:=ak))) af (hs:=aU)) (hs:=ak))))))
   (ah (au (jv 2))))),fun ds M q x h=> ?_⟩)
 ·obtain ⟨cs,ns,E,B,C,rfl,_⟩:=h;rfl
 ·obtain ⟨cs,ns,Ep,B,C,rfl,hz,b0,e0,be,c0,c1,hc,hn,h⟩:=h
  refine ⟨by show 2≤sizeLine;decide, ?_⟩
  refine ⟨.lst (cs.map frD), .lst (ns.map frD),cs.map frD,ns.map frD,fun _=>True,fun _=>True,rfl,rfl,rfl, ?_⟩
  rw [xP]
  refine cQ (fun xs ρ M'=>M'=M∧∃(rest:List (Fr×Fr)) (w:Fr) (a b:Option Dt) (j:Nat),xs=rest.map (fun p=> .tup [frD p.1,frD p.2])∧(∀p∈rest,Ch B p.1∧Nb Ep C p.2)∧Nb (B * Ep) (j * C) w∧j+rest.length≤6∧rest.foldl (fun w p=>bf w (aG p.1 p.2)) w=ff (cs.zip ns)∧ρ=[some (.lst (cs.map frD)),some (.lst (ns.map frD)),some (frD w),a,b]) (fun xs ρ M' hj=>⟨trivial,trivial⟩) (fun x xs ρ M' hj nxt=> ?_) (fun ρ M' hj=> ?_) _ _ _ ⟨rfl,cs.zip ns,(0,1),none,none,0,rfl,fun p hp=>⟨hc _ (aaU hp).1,hn _ (aaU hp).2⟩,by rw [abI,Int.zero_mul];exact zI, ?_,rfl,rfl⟩
  ·obtain ⟨rfl,rest,w,a,b,j,ex,hr2,hw,hj,hf,rfl⟩:=hj
   cases rest with
   | nil=>cases ex
   | cons p rest=>
    cases ex
    obtain ⟨h1,h2⟩:=hr2 p aae
    rw [aas] at hj
    have ht:=i4 h1.pos h1.he h1.u h2 ⟨aaq b0 e0,be,c0,abE c1 (by decide)⟩
    refine ⟨p.1,p.2,300,2600,rfl,h1.sz,h2.sz,by decide,w,aG p.1 p.2,2600,2600,rfl,hw.sz,ht.sz,by decide, ?_⟩
    refine nxt _ _ ⟨rfl,rest,_,_,_,j+1,rfl,fun p hp=>hr2 p (aad _ hp), ?_,by omega,hf,rfl⟩
    exact gM b0 e0 be c0 c1 [p] w j (by simp;omega) hw (fun q hq=>by rw [List.mem_singleton.mp hq];exact ⟨h1,h2⟩)
  ·obtain ⟨rfl,rest,w,a,b,j,ex,hr2,hw,hj,hf,rfl⟩:=hj
   cases rest with
   | nil=>rw [←hf] at h;exact h
   | cons p rest=>cases ex
  ·rw [abl];omega
def BE:DF:=fun _ _ _ _=>False
theorem As:ar ["one","other"] ["one","other"] (ag uU):=⟨rfl,rfl,rfl,by decide+kernel,rfl,by decide+kernel,by decide+kernel⟩
theorem ym{f:Addr}{fd:FuncData}(F:Fun K "under" "under" uU f fd)(E:Ev K mg Co CF CN):bA P w K mg base (CX1 P w) 1 f fd ["one","other"] (spD K BE):=by
 exact F.okD As (fun ds M q x h=>h.elim) (fun cdv A outer s H E' hr=>⟨_,(ah (au (BK (bW (aD (jv 0) aw) (aD (jv 1) aw)) (bW (aD (jv 1) aw) (aD (jv 0) aw))))),fun ds M q x h=>h.elim⟩)
theorem fQ:ar ["numbers","found","number"] ["numbers"] (ag jE):=⟨rfl,rfl,rfl,by decide+kernel,rfl,by decide+kernel,by decide+kernel⟩
theorem qa{f:Addr}{fd:FuncData}(F:Fun K "greatest" "greatest" jE f fd)(E:Ev K mg Co CF CN){fUnder:Addr}{dUnder:FuncData}(c_Under:bx P w K mg base 1 "under" ["one","other"] BE fUnder dUnder):bA P w K mg base (CX1 P w) 2 f fd ["numbers"] (spD K BE):=by
 exact F.okD fQ (fun ds M q x h=>h.elim) (fun cdv A outer s H E' hr=>⟨_,(ae (aq (i:=1) fQ.nd rfl (Or.inl rfl) (aD (jv 0) aw))
   (ae (dW (cD (jv 0)) (aJ (i:=2) fQ.nd rfl (Or.inl rfl)) bJ (ah (bc (eG (aV c_Under hr aj (aa (jv 1) (aa (jv 2) af (hs:=ak)) (hs:=ak)))) (ah (aq (i:=1) fQ.nd rfl (Or.inl rfl) (jv 2))) aA)))
   (ah (au (jv 1))))),fun ds M q x h=>h.elim⟩)
theorem lu:ar ["numbers","found","number"] ["numbers"] (ag uX):=⟨rfl,rfl,rfl,by decide+kernel,rfl,by decide+kernel,by decide+kernel⟩
theorem yq{f:Addr}{fd:FuncData}(F:Fun K "least" "least" uX f fd)(E:Ev K mg Co CF CN){fUnder:Addr}{dUnder:FuncData}(c_Under:bx P w K mg base 1 "under" ["one","other"] BE fUnder dUnder):bA P w K mg base (CX1 P w) 2 f fd ["numbers"] (spD K BE):=by
 exact F.okD lu (fun ds M q x h=>h.elim) (fun cdv A outer s H E' hr=>⟨_,(ae (aq (i:=1) lu.nd rfl (Or.inl rfl) (aD (jv 0) aw))
   (ae (dW (cD (jv 0)) (aJ (i:=2) lu.nd rfl (Or.inl rfl)) bJ (ah (bc (eG (aV c_Under hr aj (aa (jv 2) (aa (jv 1) af (hs:=ak)) (hs:=ak)))) (ah (aq (i:=1) lu.nd rfl (Or.inl rfl) (jv 2))) aA)))
   (ah (au (jv 1))))),fun ds M q x h=>h.elim⟩)
section
variable{share:Fr}{rows:List Rw}{E B F C:Int}{tb:List Fr}{ds:List DrG}
theorem Fl.chs(fl:Fl share rows E B)(h:Rw.doors "chance" ds∈rows):∀c∈ds.map ai,Ch B c:=fun c hc=>by
 obtain ⟨d,hd,rfl⟩:=aal.mp hc
 obtain ⟨a,b,c,e⟩:=fl.ch ds h d hd
 exact ⟨a,b,c,e⟩
theorem qk(fl:Fl share rows E B)(g:Gr F C):0 < E * F * share.2∧B * (E * F * share.2) < 2 ^ 2200:=by
 obtain ⟨s0,s1,su⟩:=dt fl.pl.sh
 obtain ⟨a,b⟩:=bG fl.e0 fl.e1 g.f0 g.f1
 obtain ⟨a2,b2⟩:=bG a b s0 (show share.2 < 2 ^ 10 by omega)
 obtain ⟨a3,b3⟩:=bG fl.b0 fl.b1 a2 b2
 exact ⟨a2,abm b3 (by decide)⟩
theorem A4(fl:Fl share rows E B)(g:Gr F C)(tb':Tb rows (E * F) C tb){r:Rw}(hm:r∈rows)(hk:kindOf r="chance"∨kindOf r="end"):Nb (E * (F * (share.2 * B))) (6 * (10 ^ 30+C)) (mh share tb r):=by
 have c0:=g.c0
 have c1:=g.c1
 cases r with
 | fin p=>exact lU (nU _ (fl.fin p hm)) (by omega)
 | doors k ds=>
  have hk:k="chance":=by
   rcases hk with z | z
   ·exact z
   ·exact absurd z ((fl.pl.row _ hm).1).1
  subst hk
  have l6:=(aQ fl.pl hm).l6
  obtain ⟨z1,z2⟩:=qk fl g
  have:=gM fl.b0 z1 z2 (show 0≤10 ^ 30+C by omega) (by omega) ((ds.map ai).zip (ds.map (aO share tb))) (0,1) 0 (by rw [abl,aac,aac];omega) (by rw [abI,Int.zero_mul];exact zI) (fun p hp=>⟨fl.chs hm _ (aaU hp).1,by
   obtain ⟨d,hd,e⟩:=aal.mp (aaU hp).2
   rw [←e];exact iW fl g tb' hm hd⟩)
  have e:B * (E * F * share.2)=E * (F * (share.2 * B)):=by grind
  rw [e] at this
  refine lU this ?_
  refine aaj ?_ (by omega)
  rw [abl,aac,aac]
  omega
end
def D8(A:Addr):DF:=fun as M q _=>∃share rows tb i r E B F C,as=[aP A share rows, .int (i:Nat), .lst (tb.map frD)]∧rows[i]? =some r∧(kindOf r="chance"∨kindOf r="end")∧Fl share rows E B∧Gr F C∧Tb rows (E * F) C tb∧q (frD (mh share tb r)) M
theorem jq:ar ["self","place","table","kind"] ["self","place","table"] (ag eD):=⟨rfl,rfl,rfl,by decide+kernel,rfl,by decide+kernel,by decide+kernel⟩
theorem nK{f:Addr}{fd:FuncData}(F:Fun K "look" "Floor.look" eD f fd)(E:Ev K mg Co CF CN){fFloorKind:Addr}{dFloorKind:FuncData}(c_FloorKind:fj P w K mg base 1 Co "kind" ["self","place"] (oR Co) fFloorKind dFloorKind){fFloorPay:Addr}{dFloorPay:FuncData}(c_FloorPay:fj P w K mg base 2 Co "pay" ["self","place"] (Er Co) fFloorPay dFloorPay){fWeighed:Addr}{dWeighed:FuncData}(c_Weighed:bx P w K mg base 4 "weighed" ["chances","numbers"] mK fWeighed dWeighed){fFloorAllShown:Addr}{dFloorAllShown:FuncData}(c_FloorAllShown:fj P w K mg base 5 Co "all_shown" ["self","place","table"] (oV Co) fFloorAllShown dFloorAllShown){fFloorDoors:Addr}{dFloorDoors:FuncData}(c_FloorDoors:fj P w K mg base 2 Co "doors" ["self","place"] (oU Co) fFloorDoors dFloorDoors){fGreatest:Addr}{dGreatest:FuncData}(c_Greatest:bx P w K mg base 2 "greatest" ["numbers"] BE fGreatest dGreatest){fLeast:Addr}{dLeast:FuncData}(c_Least:bx P w K mg base 2 "least" ["numbers"] BE fLeast dLeast):bA P w K mg base (CX1 P w) 6 f fd ["self","place","table"] (spD K (D8 Co)):=by
 refine F.okD jq (fun ds M q x h=> ?_) (fun cdv A outer s H E' hr=>⟨_,(ae (aq (i:=3) jq.nd rfl (Or.inl rfl) (bZ c_FloorKind hr aj (jv 0) (aa (jv 1) af (hs:=ak))))
   (ae (bc (eg hr (jv 3) g9) (ah (au (bZ c_FloorPay hr aj (jv 0) (aa (jv 1) af (hs:=ak))))) aA)
   (ae (bc (eg hr (jv 3) g9) (ah (au (aV c_Weighed hr aj (aa (e6 (ys:=[]) (caps:=[]) ⟨rfl,by decide+kernel,by decide+kernel,rfl,(by show∀p:Str×NameKind,p∈_→p.2=NameKind.free→List.lookup p.1 (ag eD).names=some .cell;decide+kernel),by decide+kernel,(by show∀q:Str×Nat,q∈_→(["self","place","table","kind"]:List Str)[q.2]? =some q.1∧List.lookup q.1 (ag eD).names=some .cell∧_;decide+kernel),rfl⟩ (cD (eh (bZ c_FloorDoors hr aj (jv 0) (aa (jv 1) af (hs:=ak))))) (fun C s H fp=>(aD (jv 0) aw))) (aa (bZ c_FloorAllShown hr aj (jv 0) (aa (jv 1) (aa (jv 2) af (hs:=ak)) (hs:=ak))) af (hs:=aU)))))) aA)
   (ae (bc (eg hr (jv 3) g9) (ah (au (aV c_Greatest hr aj (aa (bZ c_FloorAllShown hr aj (jv 0) (aa (jv 1) (aa (jv 2) af (hs:=ak)) (hs:=ak))) af (hs:=aU))))) aA)
   (ah (au (aV c_Least hr aj (aa (bZ c_FloorAllShown hr aj (jv 0) (aa (jv 1) (aa (jv 2) af (hs:=ak)) (hs:=ak))) af (hs:=aU))))))))),fun ds M q x h=> ?_⟩)
 ·obtain ⟨share,rows,tb,i,r,E,B,F,C,rfl,_⟩:=h;rfl
 ·obtain ⟨share,rows,tb,i,r,Ep,B,Ft,C,rfl,hi,hk,fl,g,ht,h⟩:=h
  have hm:r∈rows:=aag hi
  have ro:=(fl.pl.row _ hm).1
  refine ⟨⟨_,_, .inl rfl,rfl⟩,share,rows,i,r,rfl,hi, ?_⟩
  cases r with
  | fin p=>exact ⟨fun _=>⟨⟨_,_, .inl rfl,rfl⟩,share,rows,i, .fin p,rfl,hi,ro,h⟩,fun z=>(nomatch z)⟩
  | doors k ds=>
   have hk:k="chance":=by
    rcases hk with z | z
    ·exact z
    ·exact absurd z ro.1
   subst hk
   have l6:=(aQ fl.pl hm).l6
   have eS:ds.map (fun d=>frD (aO share tb d))=(ds.map (aO share tb)).map frD:=by rw [aaC];rfl
   refine ⟨fun z=>absurd (of_decide_eq_true z) ro.1,fun _=>⟨fun z=> ?_,fun z=>absurd rfl (of_decide_eq_false z)⟩⟩
   obtain ⟨hone,ok3⟩:=ro.2.2.1 rfl
   refine ⟨⟨_,_, .inl rfl,rfl⟩,share,rows,i, .doors "chance" ds,rfl,hi,ro,dY (ds:=ds.map drG) (fb ds) ?_⟩
   refine ⟨by rw [aac];exact aaz l6 (by decide), ?_⟩
   refine cZ (f:=fun d=>match d with | .tup [_,_,c]=>c | _=> .non) trivial (fun x hx q' hq=> ?_) ?_
   ·obtain ⟨y,hy,rfl⟩:=aal.mp hx
    have ey:drG y= .tup [.int y.1,frD y.2.1,frD (ai y)]:=by unfold drG;rw [hone y hy];rfl
    rw [ey] at hq⊢
    exact hq
   ·rw [aaI,aaC]
    have e2:ds.map ((fun d=>match d with | Dt.tup [_,_,c]=>c | _=>Dt.non) ∘ drG)=(ds.map ai).map frD:=by
     rw [aaC]
     apply aa8
     intro y hy
     have ey:drG y= .tup [.int y.1,frD y.2.1,frD (ai y)]:=by unfold drG;rw [hone y hy];rfl
     show (match drG y with | Dt.tup [_,_,c]=>c | _=>Dt.non)=frD (ai y)
     rw [ey]
    rw [e2]
    refine ⟨⟨_,_, .inl rfl,rfl⟩,share,rows,tb,i,"chance",ds,Ep,B,Ft,C,rfl,hi,fl,g,ht, ?_⟩
    rw [eS]
    obtain ⟨z1,z2⟩:=qk fl g
    have c0:=g.c0
    have c1:=g.c1
    exact ⟨_,_,Ep * Ft * share.2,B,10 ^ 30+C,rfl,by rw [aac];exact l6,fl.b0,z1,z2,by omega,by omega,fl.chs hm,fun n hn=>by
     obtain ⟨d,hd,rfl⟩:=aal.mp hn
     exact iW fl g ht hm hd,h⟩
def jM:List Int→Int
 | []=>1
 | a::l=>a * jM l
theorem fR:∀{l:List Int},(∀a∈l,0 < a)→0 < jM l
 | [],_=>by decide
 | a::l,h=>aaq (h a aae) (fR fun b hb=>h b (aad _ hb))
theorem jL:∀{l:List Int},(∀a∈l,0 < a∧a≤1000000)→jM l≤1000000 ^ l.length
 | [],_=>by decide
 | a::l,h=>by
  have i:=jL fun b hb=>h b (aad _ hb)
  have p:=fR (l:=l) fun b hb=>(h b (aad _ hb)).1
  have h0:=h a aae
  show a * jM l≤_
  rw [aas,aaP,aaE a]
  exact abr i h0.2 (aah h0.1) (abj (by decide))
theorem gW:∀{l:List Int} {a:Int},a∈l→a∣jM l
 | b::l,a,h=>by
  rcases aaJ.mp h with e | e
  ·rw [e];exact ⟨jM l,rfl⟩
  ·obtain ⟨c,hc⟩:=gW e
   exact ⟨b * c,by show b * jM l=_;rw [hc];grind⟩
theorem mz{p:Fr}{E:Int}(h:p.2∣E):hV p E:=by
 obtain ⟨k,e⟩:=h
 exact ⟨p.1 * k,by rw [e];grind⟩
theorem kz:∀{l:List Int} {a:Int},(∀b∈l,0 < b)→a∈l→a≤l.sum
 | b::l,a,h,ha=>by
  have ih:∀{l:List Int},(∀b∈l,0 < b)→0≤l.sum:=fun {l}=>by
   induction l with
   | nil=>intro _;exact Int.le_refl _
   | cons c l ih=>
    intro h
    have:=ih fun d hd=>h d (aad _ hd)
    have:=h c aae
    rw [List.sum_cons];omega
  rw [List.sum_cons]
  have h0:=h b aae
  rcases aaJ.mp ha with e | e
  ·have:=ih fun d hd=>h d (aad _ hd)
   omega
  ·have:=kz (fun d hd=>h d (aad _ hd)) e
   omega
theorem xh{cs:List Fr}(o:Ef cs){c:Fr}(hc:c∈cs):0 < c.2∧c.2∣dI cs∧fh c∧Sz 300 c:=by
 obtain ⟨a,b,d⟩:=o.ok3.2 c hc
 have B0:=o.b0
 obtain ⟨_,_,hB⟩:=fT cs 1 0 (by decide) (ab1 _) fun c hc=>⟨(o.ok3.2 c hc).1,ab1 _⟩
 have dv:c.2∣dI cs:=hB c hc
 have le:=kz (l:=cs.map (o9 (dI cs))) (fun b hb=>by
  obtain ⟨x,hx,rfl⟩:=aal.mp hb
  exact o.pos x hx) (aal.mpr ⟨c,hc,rfl⟩)
 rw [o.sum] at le
 have wp:=o.pos c hc
 unfold o9 at le wp
 obtain ⟨m,em⟩:=dv
 have em':dI cs / c.2=m:=by rw [em];exact aba m (by omega)
 rw [em'] at le wp
 have m0:0 < m:=by
  rw [em] at B0
  rcases abP 0 m with z | z
  ·exact z
  ·have:=aar z (aah a)
   omega
 have c0:0≤c.1:=by
  rcases abP c.1 0 with z | z
  ·have:=aaj (aah z) (aah m0)
   omega
  ·exact z
 have c1:c.1≤c.2:=by
  rw [em] at le
  exact Int.le_of_mul_le_mul_right le m0
 refine ⟨a,⟨m,em⟩,⟨c0,c1⟩,dM (k:=200) ⟨d,a, ?_⟩ (by decide)⟩
 have:(c.2.natAbs:Int) < ((2 ^ 200:Nat):Int):=by rw [abc (aah a)];exact b
 exact abO.mp this
abbrev Pl:=List (Int×Int)
def kP(pl:Pl):List Key:=pl.map fun p=>Sum.inl p.1
def vP(pl:Pl):List Dt:=pl.map fun p=>Dt.int p.2
abbrev dP(pl:Pl):MO:= .dct (kP pl) (vP pl)
def cK:Pl→Int→Option Int
 | [],_=>none
 | p::r,i=>if p.1=i then some p.2 else cK r i
def mR(pl:Pl)(i v:Int):Pl:=if (cK pl i).isSome=true then pl.map (fun p=>if p.1=i then (p.1,v) else p) else pl++[(i,v)]
theorem zP{a b:Int}:(decide ((Sum.inl a:Key)=Sum.inl b))=decide (a=b):=by
 by_cases h:a=b
 ·rw [decide_eq_true h,decide_eq_true (congrArg Sum.inl h)]
 ·rw [decide_eq_false h,decide_eq_false fun z=>h (Sum.inl.inj z)]
theorem uc{i:Int}:∀{pl:Pl},dh (kP pl) (vP pl) (Sum.inl i)=(cK pl i).map Dt.int
 | []=>rfl
 | p::r=>by
  have ih:=uc (i:=i) (pl:=r)
  unfold dh at ih⊢
  show (List.find? (fun q:Key×Dt=>decide (q.1=Sum.inl i)) ((Sum.inl p.1,Dt.int p.2)::(kP r).zip (vP r))).map (·.2)=Option.map Dt.int (if p.1=i then some p.2 else cK r i)
  rw [List.find?_cons,zP]
  by_cases h:p.1=i
  ·rw [decide_eq_true h,if_pos h];rfl
  ·rw [decide_eq_false h,if_neg h];exact ih
theorem Dr{i:Int}:∀{pl:Pl},inK (kP pl) (Sum.inl i)=(cK pl i).isSome
 | []=>rfl
 | p::r=>by
  have ih:=Dr (i:=i) (pl:=r)
  unfold inK at ih⊢
  show (decide ((Sum.inl p.1:Key)=Sum.inl i) || (kP r).any fun c=>decide (c=Sum.inl i))=(if p.1=i then some p.2 else cK r i).isSome
  rw [zP,ih]
  by_cases h:p.1=i
  ·rw [decide_eq_true h,if_pos h];rfl
  ·rw [decide_eq_false h,if_neg h,Bool.false_or]
theorem vf{i v:Int}:∀{pl:Pl},kh (Sum.inl i:Key) (Dt.int v) (kP pl) (vP pl)=vP (pl.map fun p=>if p.1=i then (p.1,v) else p)
 | []=>rfl
 | p::r=>by
  show (if (Sum.inl p.1:Key)=Sum.inl i then Dt.int v else Dt.int p.2)::kh (Sum.inl i:Key) (Dt.int v) (kP r) (vP r)=Dt.int (if p.1=i then (p.1,v) else p).2::vP (r.map fun p=>if p.1=i then (p.1,v) else p)
  rw [vf]
  by_cases h:p.1=i
  ·rw [if_pos h,if_pos (congrArg Sum.inl h)]
  ·rw [if_neg h,if_neg fun z=>h (Sum.inl.inj z)]
theorem rY{i v:Int}:∀{pl:Pl},kP (pl.map fun p=>if p.1=i then (p.1,v) else p)=kP pl
 | []=>rfl
 | p::r=>by
  show (Sum.inl (if p.1=i then (p.1,v) else p).1:Key)::kP (r.map fun p=>if p.1=i then (p.1,v) else p)=Sum.inl p.1::kP r
  rw [rY]
  split <;> rfl
theorem Ck{pl:Pl}{i v:Int}:pO (kP pl) (Sum.inl i)=kP (mR pl i v):=by
 unfold pO mR
 rw [Dr]
 split
 ·exact rY.symm
 ·unfold kP;rw [List.map_append];rfl
theorem Cp{pl:Pl}{i v:Int}:lJ (kP pl) (Sum.inl i) (vP pl) (Dt.int v)=vP (mR pl i v):=by
 unfold lJ mR
 rw [Dr]
 split
 ·exact vf
 ·unfold vP;rw [List.map_append];rfl
theorem mB{i v j:Int}:∀{pl:Pl},cK (pl.map fun p=>if p.1=i then (p.1,v) else p) j=if j=i then (cK pl j).map fun _=>v else cK pl j
 | []=>by split <;> rfl
 | p::r=>by
  have ih:=mB (i:=i) (v:=v) (j:=j) (pl:=r)
  rw [aaN]
  unfold cK
  by_cases h:p.1=i
  ·rw [if_pos h]
   by_cases hj:p.1=j
   ·rw [if_pos hj,if_pos hj,if_pos (by omega)];rfl
   ·rw [if_neg hj,if_neg hj];exact ih
  ·rw [if_neg h]
   by_cases hj:p.1=j
   ·rw [if_pos hj,if_pos hj,if_neg (by omega)]
   ·rw [if_neg hj,if_neg hj];exact ih
theorem wF{i j v:Int}:∀{pl:Pl},cK (pl++[(i,v)]) j=if (cK pl j).isSome=true then cK pl j else if i=j then some v else none
 | []=>rfl
 | p::r=>by
  have ih:=wF (i:=i) (j:=j) (v:=v) (pl:=r)
  rw [List.cons_append]
  unfold cK
  by_cases hj:p.1=j
  ·rw [if_pos hj,if_pos hj];rfl
  ·rw [if_neg hj,if_neg hj];exact ih
theorem qz{pl:Pl}{i v j:Int}:cK (mR pl i v) j=if j=i then some v else cK pl j:=by
 unfold mR
 split
 ·rename_i h
  rw [mB]
  split
  ·rename_i e
   subst e
   obtain ⟨x,hx⟩:=aa9.mp h
   rw [hx];rfl
  ·rfl
 ·rename_i h
  rw [wF]
  by_cases e:j=i
  ·subst e
   rw [if_neg h,if_pos rfl,if_pos rfl]
  ·rw [if_neg e]
   cases hj:cK pl j with
   | none=>rw [if_neg (by simp),if_neg (by omega)]
   | some x=>rfl
def NdP(pl:Pl):Prop:=(pl.map (·.1)).Nodup
theorem yE{i:Int}{pl:Pl}(h:cK pl i=none):i∉pl.map (·.1):=fun z=>by
 obtain ⟨p,hp,e⟩:=aal.mp z
 have:∀{pl:Pl},p∈pl→cK pl i≠none:=fun {pl}=>by
  induction pl with
  | nil=>intro h;cases h
  | cons q r ih=>
   intro h
   unfold cK
   rcases aaJ.mp h with e' | e'
   ·rw [if_pos (by rw [←e'];exact e)];simp
   ·split
    ·simp
    ·exact ih e'
 exact this hp h
theorem C2{pl:Pl}{i v:Int}(h:NdP pl):NdP (mR pl i v):=by
 unfold NdP mR
 split
 ·have e:(pl.map fun p=>if p.1=i then (p.1,v) else p).map (·.1)=pl.map (·.1):=by
   rw [aaC]
   refine aa8 fun p _=> ?_
   show (if p.1=i then (p.1,v) else p).1=p.1
   split <;> rfl
  rw [e];exact h
 ·rename_i hn
  have hn:cK pl i=none:=by
   cases hg:cK pl i with
   | none=>rfl
   | some x=>rw [hg] at hn;exact absurd rfl hn
  rw [aaX]
  refine List.nodup_append.mpr ⟨h,by simp,fun a ha b hb z=> ?_⟩
  have:b=i:=by simpa using hb
  exact yE hn (by rw [←this,←z];exact ha)
structure Two(M:Ms)(k:Nat)(p1 p2:Pl):Prop where
 ex:∃k1 k2,M[k]? =some (.dct [Sum.inr "one",Sum.inr "other"] [.loc k1, .loc k2])∧M[k1]? =some (dP p1)∧M[k2]? =some (dP p2)
theorem bM{M E:Ms}{k:Nat}{m:MO}(h:M[k]? =some m):(M++E)[k]? =some m:=by
 rw [aav (aai.mp h).1];exact h
theorem Two.app{M E:Ms}{k:Nat}{p1 p2:Pl}(h:Two M k p1 p2):Two (M++E) k p1 p2:=by
 obtain ⟨k1,k2,a,b,c⟩:=h
 exact ⟨k1,k2,bM a,bM b,bM c⟩
def df(pl:Pl)(i:Nat)(n:Nat):Bool:=match cK pl i with
 | some v=>decide (0≤v)&&decide (v < n)
 | none=>false
def bu(p1 p2:Pl)(k:Str):Option Pl:=if k="one" then some p1 else if k="other" then some p2 else none
def gH(p1 p2:Pl)(i:Nat)(r:Rw):Bool:=match bu p1 p2 (kindOf r) with
 | some pl=>df pl i (aF r).length
 | none=>true
def cF(rows:List Rw)(p1 p2:Pl)(i:Nat):Bool:=match rows[i]? with
 | some r=>gH p1 p2 i r
 | none=>true
def fY(rows:List Rw)(p1 p2:Pl):Nat→Pl
 | 0=>[]
 | n+1=>match (rows[n]?).bind fun r=>bu p1 p2 (kindOf r) with
  | some pl=>mR (fY rows p1 p2 n) n ((cK pl n).getD 0)
  | none=>fY rows p1 p2 n
theorem xp(rows:List Rw)(p1 p2:Pl):∀n,(fY rows p1 p2 n).length≤n
 | 0=>aak _
 | n+1=>by
  have ih:=xp rows p1 p2 n
  unfold fY
  split
  ·unfold mR
   split
   ·rw [aac];omega
   ·rw [aap];exact Nat.succ_le_succ ih
  ·omega
theorem mI(rows:List Rw)(p1 p2:Pl):∀(n i:Nat),cK (fY rows p1 p2 n) i=if i < n then ((rows[i]?).bind fun r=>bu p1 p2 (kindOf r)).map fun pl=>(cK pl i).getD 0 else none
 | 0,i=>by rw [if_neg (abb _)];rfl
 | n+1,i=>by
  have ih:=mI rows p1 p2 n i
  have step:cK (fY rows p1 p2 (n+1)) i=if i=n then (match (rows[n]?).bind fun r=>bu p1 p2 (kindOf r) with | some pl=>some ((cK pl n).getD 0) | none=>cK (fY rows p1 p2 n) i) else cK (fY rows p1 p2 n) i:=by
   rw [fY]
   cases hb:(rows[n]?).bind fun r=>bu p1 p2 (kindOf r) with
   | none=>dsimp only;split <;> rfl
   | some pl=>
    dsimp only
    rw [qz]
    by_cases e:i=n
    ·rw [if_pos e,if_pos (by omega)]
    ·rw [if_neg e,if_neg (by omega)]
  rw [step,ih]
  by_cases e:i=n
  ·subst e
   rw [if_pos rfl,if_neg (aaZ _),if_pos (abn _)]
   cases (rows[i]?).bind fun r=>bu p1 p2 (kindOf r) with
   | none=>rfl
   | some pl=>rfl
  ·rw [if_neg e]
   by_cases h:i < n
   ·rw [if_pos h,if_pos (by omega)]
   ·rw [if_neg h,if_neg (by omega)]
theorem Be(k:Str):inK [Sum.inr "one",Sum.inr "other"] (Sum.inr k)=aB k:=by
 have e:∀z:Str,decide ((Sum.inr z:Key)=Sum.inr k)=(k==z):=fun z=>by
  by_cases h:z=k
  ·rw [decide_eq_true (congrArg Sum.inr h),h];simp
  ·rw [decide_eq_false fun y=>h (Sum.inr.inj y)];simp;exact fun y=>h y.symm
 show (decide ((Sum.inr (Str.ofString "one"):Key)=Sum.inr k) || (decide ((Sum.inr (Str.ofString "other"):Key)=Sum.inr k) || false))=aB k
 rw [e,e,Bool.or_false]
 rfl
theorem j4{p1 p2:Pl}{k:Str}(h:aB k=false):bu p1 p2 k=none:=by
 unfold aB at h
 rw [Bool.or_eq_false_iff,beq_eq_false_iff_ne,beq_eq_false_iff_ne] at h
 unfold bu
 rw [if_neg h.1,if_neg h.2]
theorem uD{M:Ms}{k:Nat}{p1 p2:Pl}(h:Two M k p1 p2){z:Str}(hz:aB z=true):∃ks ds k' pl,M[k]? =some (.dct ks ds)∧dh ks ds (Sum.inr z)=some (.loc k')∧bu p1 p2 z=some pl∧M[k']? =some (dP pl):=by
 obtain ⟨k1,k2,a,b,c⟩:=h
 unfold aB at hz
 rw [Bool.or_eq_true,beq_iff_eq,beq_iff_eq] at hz
 rcases hz with rfl | rfl
 ·exact ⟨_,_,k1,p1,a,rfl,rfl,b⟩
 ·exact ⟨_,_,k2,p2,a,rfl,rfl,c⟩
def G7(A:Addr):DF:=fun as M q _=>∃share rows i r k pl,as=[aP A share rows, .loc k, .int (i:Nat)]∧M[k]? =some (dP pl)∧rows[i]? =some r∧fZ r∧q (.bl (df pl i (aF r).length)) M
theorem uS:ar ["floor","plan","place"] ["floor","plan","place"] (ag lE):=⟨rfl,rfl,rfl,by decide+kernel,rfl,by decide+kernel,by decide+kernel⟩
theorem tK{f:Addr}{fd:FuncData}(F:Fun K "has_door" "has_door" lE f fd)(E:Ev K mg Co CF CN){fFloorDoors:Addr}{dFloorDoors:FuncData}(c_FloorDoors:fj P w K mg base 2 Co "doors" ["self","place"] (oU Co) fFloorDoors dFloorDoors):bA P w K mg base (CX1 P w) 3 f fd ["floor","plan","place"] (spD K (G7 Co)):=by
 refine F.okD uS (fun ds M q x h=> ?_) (fun cdv A outer s H E' hr=>⟨_,(ah (au (gf (Fi hr (jv 2) (jv 1)) (gf (zM aw (d7 hr (jv 1) (jv 2))) (iI (BK (d7 hr (jv 1) (jv 2)) (dE E.n_len (aa (eh (bZ c_FloorDoors hr aj (jv 0) (aa (jv 2) af (hs:=ak)))) af (hs:=aU))))))))),fun ds M q x h=> ?_⟩)
 ·obtain ⟨share,rows,i,r,k,pl,rfl,_⟩:=h;rfl
 ·obtain ⟨share,rows,i,r,k,pl,rfl,hk,hi,ro,h⟩:=h
  unfold df at h
  have gi:(Sum.inl (i:Int):Key)=Sum.inl ((i:Nat):Int):=rfl
  refine ⟨k,_,_,Sum.inl (i:Int),rfl,hk,rfl, ?_⟩
  rw [Dr]
  cases hg:cK pl i with
  | none=>
   rw [hg] at h
   exact ⟨fun z=>(nomatch z),fun _=>h⟩
  | some v=>
   rw [hg] at h
   have h:q (.bl (decide (0≤v)&&decide (v < ((aF r).length:Int)))) M:=h
   have dg:dh (kP pl) (vP pl) (Sum.inl (i:Int))=some (.int v):=by rw [uc,hg];rfl
   refine ⟨fun _=> ?_,fun z=>(nomatch z)⟩
   refine ⟨k,_,_,Sum.inl (i:Int),_,rfl,hk,rfl,dg, ?_⟩
   refine ⟨fun z=> ?_,fun z=> ?_⟩
   ·have z:0≤v:=of_decide_eq_true z
    rw [decide_eq_true z,Bool.true_and] at h
    refine ⟨k,_,_,Sum.inl (i:Int),_,rfl,hk,rfl,dg, ?_⟩
    refine ⟨⟨_,_, .inl rfl,rfl⟩,share,rows,i,r,rfl,hi,ro,dY (fb _) ?_⟩
    walk_at "vc"
    refine (aL (d:= .lst ((aF r).map drG)) (xs:=(aF r).map drG) rfl ?_:j6 [.lst ((aF r).map drG)] _ _)
    rw [aac]
    exact h
   ·have z:¬0≤v:=of_decide_eq_false z
    rw [decide_eq_false z,Bool.false_and] at h
    have key:decide (0≤v)=false:=decide_eq_false z
    exact h
def mO(A:Addr):DF:=fun as M q _=>∃share rows k p1 p2,as=[aP A share rows, .loc k]∧Two M k p1 p2∧BF share rows∧(∀i,i < rows.length→cF rows p1 p2 i=true)∧q (.loc M.length) (M++[dP (fY rows p1 p2 rows.length)])
theorem gR:ar ["floor","plans","doors","place","hand"] ["floor","plans"] (ag lG):=⟨rfl,rfl,rfl,by decide+kernel,rfl,by decide+kernel,by decide+kernel⟩
theorem tN{f:Addr}{fd:FuncData}(F:Fun K "doors_of" "doors_of" lG f fd)(E:Ev K mg Co CF CN){fFloorSize:Addr}{dFloorSize:FuncData}(c_FloorSize:fj P w K mg base 1 Co "size" ["self"] (oQ Co) fFloorSize dFloorSize){fFloorKind:Addr}{dFloorKind:FuncData}(c_FloorKind:fj P w K mg base 1 Co "kind" ["self","place"] (oR Co) fFloorKind dFloorKind){fHasDoor:Addr}{dHasDoor:FuncData}(c_HasDoor:bx P w K mg base 3 "has_door" ["floor","plan","place"] (G7 Co) fHasDoor dHasDoor):bA P w K mg base (CX1 P w) 4 f fd ["floor","plans"] (spD K (mO Co)):=by
 refine F.okD gR (fun ds M q x h=> ?_) (fun cdv A outer s H E' hr=>⟨_,(ae (aq (i:=2) gR.nd rfl (Or.inl rfl) wk)
   (ae (fg (bq E.n_range (aa (eY c_FloorSize hr aj (jv 0)) af (hs:=aU))) (aJ (i:=3) gR.nd rfl (Or.inl rfl)) bJ (ae (aq (i:=4) gR.nd rfl (Or.inl rfl) (bZ c_FloorKind hr aj (jv 0) (aa (jv 3) af (hs:=ak))))
   (ae (bc (v7 hr (jv 4) (jv 1)) (ah gG) aA)
   (ae (bc (kK (eG (aV c_HasDoor hr aj (aa (jv 0) (aa (d7 hr (jv 1) (jv 4)) (aa (jv 3) af (hs:=ak)) (hs:=aS)) (hs:=ak))))) (ah i9) aA)
   (ah (wa hr (jv 2) (jv 3) (d7 hr (d7 hr (jv 1) (jv 4)) (jv 3))))))))
   (ah (au (jv 2))))),fun ds M q x h=> ?_⟩)
 ·obtain ⟨share,rows,k,p1,p2,rfl,_⟩:=h;rfl
 ·obtain ⟨share,rows,k,p1,p2,rfl,tw,pl,gd0,hg⟩:=h
  have l12:=pl.len
  have km:k≠M.length:=fun e=>by
   obtain ⟨k1,k2,a,_⟩:=tw
   rw [e,List.getElem?_eq_none (aak _)] at a;cases a
  walk_at "vc"
  refine ⟨⟨_,_, .inl rfl,rfl⟩,share,rows,rfl, ?_⟩
  refine ⟨by omega, ?_⟩
  rw [show ((rows.length:Int)).toNat=rows.length by omega]
  refine bU (fun zs ρ' M'=>∃(i m:Nat) (o3 o4:Option Dt),zs=fW (i:Int) m∧i+m=rows.length∧M'=M++[dP (fY rows p1 p2 i)]∧ρ'=[some (aP Co share rows),some (.loc k),some (.loc M.length),o3,o4]) (fun x zs ρ' M' hj nxt=> ?_) (fun ρ' M' hj=> ?_) _ _ _ ⟨0,rows.length,none,none,rfl,by omega,rfl,rfl⟩
  ·obtain ⟨i,m,o3,o4,ex,im,rfl,rfl⟩:=hj
   obtain ⟨m',rfl,rfl,rfl⟩:=bC ex
   have il:i < rows.length:=by omega
   have hi:rows[i]? =some rows[i]:=aaa il
   generalize hr0:rows[i]=r at *
   have rm:r∈rows:=aag hi
   have ro:=(pl.row r rm).1
   have ga:cF rows p1 p2 i=gH p1 p2 i r:=by unfold cF;rw [hi]
   have ac:∀pl',bu p1 p2 (kindOf r)=some pl'→fY rows p1 p2 (i+1)=mR (fY rows p1 p2 i) i ((cK pl' i).getD 0):=fun pl' e=>by
    rw [fY,hi];show (match bu p1 p2 (kindOf r) with | some pl=>_ | none=>_)=_;rw [e]
   have an:bu p1 p2 (kindOf r)=none→fY rows p1 p2 (i+1)=fY rows p1 p2 i:=fun e=>by
    rw [fY,hi];show (match bu p1 p2 (kindOf r) with | some pl=>_ | none=>_)=_;rw [e]
   have tw':Two (M++[dP (fY rows p1 p2 i)]) k p1 p2:=tw.app
   obtain ⟨c1,c2,ca,cb,cc⟩:=tw'
   refine ⟨⟨_,_, .inl rfl,rfl⟩,share,rows,i,r,rfl,hi, ?_⟩
   refine ⟨k,_,_,Sum.inr (kindOf r),rfl,ca,rfl, ?_⟩
   rw [Be]
   cases hh:aB (kindOf r) with
   | false=>
    refine ⟨fun _=> ?_,fun z=>(nomatch z)⟩
    have e:=j4 (p1:=p1) (p2:=p2) hh
    refine nxt _ _ ⟨i+1,m',_,_,by rw [aa6];rfl,by omega,by rw [an e],rfl⟩
   | true=>
    refine ⟨fun z=>(nomatch z),fun _=> ?_⟩
    obtain ⟨ks,ds,k',pl',g1,g2,g3,g4⟩:=uD (M:=M++[dP (fY rows p1 p2 i)]) tw.app hh
    refine ⟨k,ks,ds,Sum.inr (kindOf r),_,rfl,g1,rfl,g2, ?_⟩
    have gr:gH p1 p2 i r=df pl' i (aF r).length:=by unfold gH;rw [g3]
    refine ⟨share,rows,i,r,k',pl',rfl,g4,hi,ro,fun z=> ?_,fun z=> ?_⟩
    ·have z:df pl' i (aF r).length=false:=by simpa using z
     have:=gd0 i il
     rw [ga,gr,z] at this
     cases this
    ·have z:df pl' i (aF r).length=true:=by simpa using z
     obtain ⟨v,hv⟩:∃v,cK pl' i=some v:=by
      unfold df at z
      cases hv:cK pl' i with
      | none=>rw [hv] at z;cases z
      | some v=>exact ⟨v,rfl⟩
     have dg:dh (kP pl') (vP pl') (Sum.inl (i:Int))=some (.int v):=by rw [uc,hv];rfl
     dsimp only [uY,uf]
     walk_at "vc"
     refine ⟨k,ks,ds,Sum.inr (kindOf r),_,rfl,g1,rfl,g2, ?_⟩
     refine ⟨k',_,_,Sum.inl (i:Int),_,rfl,g4,rfl,dg, ?_⟩
     refine ⟨M.length,_,_,Sum.inl (i:Int),rfl,bo,rfl, ?_, ?_⟩
     ·unfold kP;rw [List.length_map]
      have:=xp rows p1 p2 i
      omega
     rw [Ck (v:=v),Cp,dN]
     have e:=ac pl' g3
     rw [hv] at e
     have e:fY rows p1 p2 (i+1)=mR (fY rows p1 p2 i) i v:=e
     refine nxt _ _ ⟨i+1,m',_,_,by rw [aa6];rfl,by omega,by rw [e],rfl⟩
  ·obtain ⟨i,m,o3,o4,ex,im,rfl,rfl⟩:=hj
   have m0:m=0:=by
    have:=congrArg List.length ex
    rw [bR] at this;exact this.symm
   have:i=rows.length:=by omega
   subst this
   exact hg
structure ji(rows:List Rw)(acc:Pl):Prop where
 hand:∀(i:Nat) (r:Rw),rows[i]? =some r→aB (kindOf r)=true→∃j:Nat,cK acc i=some (j:Int)∧j < (aF r).length
 oth:∀(i:Nat) (r:Rw),rows[i]? =some r→aB (kindOf r)=false→cK acc i=none
theorem yQ{rows:List Rw}{p1 p2:Pl}(h:∀i,i < rows.length→cF rows p1 p2 i=true):ji rows (fY rows p1 p2 rows.length):=by
 refine ⟨fun i r hi hk=> ?_,fun i r hi hk=> ?_⟩
 ·have il:=(aai.mp hi).1
  have g:=h i il
  unfold cF at g
  rw [hi] at g
  have g:gH p1 p2 i r=true:=g
  obtain ⟨pl,e⟩:∃pl,bu p1 p2 (kindOf r)=some pl:=by
   unfold aB at hk
   rw [Bool.or_eq_true,beq_iff_eq,beq_iff_eq] at hk
   rcases hk with e | e <;> rw [e]
   ·exact ⟨p1,rfl⟩
   ·exact ⟨p2,rfl⟩
  unfold gH at g
  rw [e] at g
  have g:df pl i (aF r).length=true:=g
  unfold df at g
  cases hv:cK pl i with
  | none=>rw [hv] at g;cases g
  | some v=>
   rw [hv] at g
   have g:(decide (0≤v)&&decide (v < ((aF r).length:Int)))=true:=g
   rw [aat,decide_eq_true_iff,decide_eq_true_iff] at g
   refine ⟨v.toNat, ?_,by omega⟩
   rw [mI,if_pos il,hi]
   show Option.map (fun pl=>(cK pl i).getD 0) (bu p1 p2 (kindOf r))=_
   rw [e]
   show some ((cK pl i).getD 0)=_
   rw [hv,abW g.1];rfl
 ·have il:=(aai.mp hi).1
  rw [mI,if_pos il,hi]
  show Option.map (fun pl=>(cK pl i).getD 0) (bu p1 p2 (kindOf r))=_
  rw [j4 hk];rfl
def aN(acc:Pl)(i:Nat)(r:Rw):List DrG:=match cK acc i with
 | some j=>let d:=(aF r).getD j.toNat d0;[(d.1,d.2.1,d.2.2++[(1,1)])]
 | none=>aF r
def cX(share:Fr)(rows:List Rw)(acc:Pl)(tb:List Fr):List Fr:=(List.range rows.length).map fun i:Nat=>match rows[i]? with
 | some r=>(match cK acc i with
  | some j=>aO share tb ((aF r).getD j.toNat d0)
  | none=>mh share tb r)
 | none=>(0,1)
def cG(rows:List Rw):List Fr:=rows.map fun r=>match r with
 | .fin p=>p
 | .doors _ _=>(0,1)
def BC(A:Addr):DF:=fun as M q _=>∃share rows i r k acc,as=[aP A share rows, .int (i:Nat), .loc k]∧M[k]? =some (dP acc)∧rows[i]? =some r∧fZ r∧ji rows acc∧q (.lst ((aN acc i r).map drG)) M
theorem kD:ar ["floor","place","doors","ways"] ["floor","place","doors"] (ag ju):=⟨rfl,rfl,rfl,by decide+kernel,rfl,by decide+kernel,by decide+kernel⟩
theorem pW{f:Addr}{fd:FuncData}(F:Fun K "ways_from" "ways_from" ju f fd)(E:Ev K mg Co CF CN){fFloorDoors:Addr}{dFloorDoors:FuncData}(c_FloorDoors:fj P w K mg base 2 Co "doors" ["self","place"] (oU Co) fFloorDoors dFloorDoors){fFloorKind:Addr}{dFloorKind:FuncData}(c_FloorKind:fj P w K mg base 1 Co "kind" ["self","place"] (oR Co) fFloorKind dFloorKind):bA P w K mg base (CX1 P w) 3 f fd ["floor","place","doors"] (spD K (BC Co)):=by
 refine F.okD kD (fun ds M q x h=> ?_) (fun cdv A outer s H E' hr=>⟨_,(ae (aq (i:=3) kD.nd rfl (Or.inl rfl) (eh (bZ c_FloorDoors hr aj (jv 0) (aa (jv 1) af (hs:=ak)))))
   (ae (bc (zL (bZ c_FloorKind hr aj (jv 0) (aa (jv 1) af (hs:=ak))) (Dj E.mHANDS)) (ah (au (qt (aa (dc (aD (jv 3) (d7 hr (jv 2) (jv 1))) (eZ 3 (d:= .tup [.tup [.int 1, .int 1]]) (by rfl))) af (hs:=bO))))) aA)
   (ah (au (jv 3))))),fun ds M q x h=> ?_⟩)
 ·obtain ⟨share,rows,i,r,k,acc,rfl,_⟩:=h;rfl
 ·obtain ⟨share,rows,i,r,k,acc,rfl,hk,hi,ro,dk,h⟩:=h
  refine ⟨⟨_,_, .inl rfl,rfl⟩,share,rows,i,r,rfl,hi,ro,dY (fb _) ?_⟩
  refine ⟨⟨_,_, .inl rfl,rfl⟩,share,rows,i,r,rfl,hi, ?_⟩
  refine ⟨_,_,_,rfl,rfl,rfl, ?_⟩
  rw [sg]
  cases hh:aB (kindOf r) with
  | true=>
   refine ⟨fun _=> ?_,fun z=>(nomatch z)⟩
   obtain ⟨j,hj,jl⟩:=dk.hand i r hi hh
   have dg:dh (kP acc) (vP acc) (Sum.inl (i:Int))=some (.int (j:Int)):=by rw [uc,hj];rfl
   have e:aN acc i r=[(((aF r).getD j d0).1,((aF r).getD j d0).2.1,((aF r).getD j d0).2.2++[(1,1)])]:=by
    unfold aN;rw [hj];rfl
   rw [e] at h
   have gd:(aF r).getD j d0=(aF r)[j]:=by rw [aab,aaa jl];rfl
   have dm:(aF r)[j].2.2.length≤1:=by
    cases r with
    | fin p=>exact absurd jl (abb _)
    | doors k' ds=>exact (ro.2.2.2 _ (aay jl)).1
   rw [gd] at h
   obtain ⟨d,hd⟩:∃d,d=(aF r)[j]:=⟨_,rfl⟩
   rw [←hd] at h dm
   walk_at "vc"
   refine ⟨k,_,_,Sum.inl (i:Int),_,rfl,hk,rfl,dg, ?_⟩
   refine (ax (d:= .lst ((aF r).map drG)) rfl (DG jl) ?_:fIx (.lst ((aF r).map drG)) (.int (j:Int)) _ _)
   rw [←hd]
   have sz:∀{z:Nat},z≤1000→z≤sizeLine:=fun h=>aaz h (by decide)
   refine ⟨⟨fun z=>(nomatch z),sz ?_⟩,sz (by decide), ?_⟩
   ·simp;omega
   have e2:drG (d.1,d.2.1,d.2.2++[(1,1)])= .tup ((.int d.1::frD d.2.1::d.2.2.map frD)++[.tup [.int 1, .int 1]]):=by
    unfold drG;rw [List.map_append];rfl
   have h:q (.lst [drG (d.1,d.2.1,d.2.2++[(1,1)])]) M:=h
   rw [e2] at h
   exact h
  | false=>
   refine ⟨fun z=>(nomatch z),fun _=> ?_⟩
   have e:aN acc i r=aF r:=by unfold aN;rw [dk.oth i r hi hh]
   rw [e] at h
   exact h
def Ag(A:Addr):DF:=fun as M q _=>∃share rows,as=[aP A share rows]∧rows.length≤12∧(∀r∈rows,fZ r)∧q (.lst ((cG rows).map frD)) M
theorem nv:ar ["floor"] ["floor"] (ag dR):=⟨rfl,rfl,rfl,by decide+kernel,rfl,by decide+kernel,by decide+kernel⟩
theorem lS{f:Addr}{fd:FuncData}(F:Fun K "first_means" "first_means" dR f fd)(E:Ev K mg Co CF CN){fFloorSize:Addr}{dFloorSize:FuncData}(c_FloorSize:fj P w K mg base 1 Co "size" ["self"] (oQ Co) fFloorSize dFloorSize){fFloorPay:Addr}{dFloorPay:FuncData}(c_FloorPay:fj P w K mg base 2 Co "pay" ["self","place"] (Er Co) fFloorPay dFloorPay):bA P w K mg base (CX1 P w) 3 f fd ["floor"] (spD K (Ag Co)):=by
 refine F.okD nv (fun ds M q x h=> ?_) (fun cdv A outer s H E' hr=>⟨_,(ah (au (wu (ys:=["floor"]) (caps:=[0]) ⟨rfl,by decide+kernel,by decide+kernel,rfl,(by show∀p:Str×NameKind,p∈_→p.2=NameKind.free→List.lookup p.1 (ag dR).names=some .cell;decide+kernel),by decide+kernel,(by show∀q:Str×Nat,q∈_→(["floor"]:List Str)[q.2]? =some q.1∧List.lookup q.1 (ag dR).names=some .cell∧_;decide+kernel),rfl⟩ (bq E.n_range (aa (eY c_FloorSize hr aj (jv 0)) af (hs:=aU))) (fun C s H fp=>(yA (zK (bZ c_FloorPay hr (dU (P:=P) (w:=w)) (jv 1) (aa (jv 0) af (hs:=ak))) Ek) (cJ (aa aw (aa aw af (hs:=bB)) (hs:=bB))) (bZ c_FloorPay hr (dU (P:=P) (w:=w)) (jv 1) (aa (jv 0) af (hs:=ak)))))))),fun ds M q x h=> ?_⟩)
 ·obtain ⟨share,rows,rfl,_⟩:=h;rfl
 ·obtain ⟨share,rows,rfl,l12,ro,h⟩:=h
  have sz:∀{z:Nat},z≤1000→z≤sizeLine:=fun h=>aaz h (by decide)
  walk_at "vc"
  dsimp only [wZ]
  walk_at "vc"
  refine ⟨⟨_,_, .inl rfl,rfl⟩,share,rows,rfl, ?_⟩
  refine ⟨⟨by omega,by omega⟩,by rw [bR];exact sz (by omega), ?_⟩
  refine fH (f:=fun x=>match x with | .int j=>frD ((cG rows).getD j.toNat (0,1)) | _=> .non) _ _ (fun x hxm q' hq=> ?_) ?_
  ·obtain ⟨j,hj,rfl⟩:=gU hxm
   have hj:j < rows.length:=by omega
   rw [Int.zero_add] at hq⊢
   have hi:rows[j]? =some rows[j]:=aaa hj
   have e:(cG rows).getD j (0,1)=match rows[j] with | .fin p=>p | .doors _ _=>(0,1):=by
    unfold cG
    rw [aab,aaf,hi];rfl
   have hq:q' (frD ((cG rows).getD j (0,1))) M:=hq
   rw [e] at hq
   have rj:=ro _ (aay hj)
   generalize rows[j]=r at *
   walk_at "vc"
   refine ⟨⟨_,_, .inl rfl,rfl⟩,share,rows,j,r,rfl,hi,rj, ?_⟩
   cases r with
   | fin p=>
    refine ⟨fun z=>(nomatch z),fun _=> ?_⟩
    exact ⟨⟨_,_, .inl rfl,rfl⟩,share,rows,j, .fin p,rfl,hi,rj,hq⟩
   | doors k ds=>exact ⟨fun _=>⟨sz (by decide),hq⟩,fun z=>(nomatch z)⟩
  ·have fl:(cG rows).length=rows.length:=by unfold cG;simp
   have:=pL (cG rows) (0,1) frD
   rw [fl] at this
   rw [aaI,show ((rows.length:Int)).toNat=rows.length by omega]
   rw [←this] at h
   exact h
def D6(A:Addr):DF:=fun as M q _=>∃share rows k acc tb E B F C,as=[aP A share rows, .loc k, .lst (tb.map frD)]∧M[k]? =some (dP acc)∧ji rows acc∧Fl share rows E B∧Gr F C∧Tb rows (E * F) C tb∧q (.loc M.length) (M++[.lst ((cX share rows acc tb).map frD)])
theorem gj:ar ["floor","doors","means","told","place"] ["floor","doors","means"] (ag h9):=⟨rfl,rfl,rfl,by decide+kernel,rfl,by decide+kernel,by decide+kernel⟩
theorem nF{f:Addr}{fd:FuncData}(F:Fun K "more_means" "more_means" h9 f fd)(E:Ev K mg Co CF CN){fFloorSize:Addr}{dFloorSize:FuncData}(c_FloorSize:fj P w K mg base 1 Co "size" ["self"] (oQ Co) fFloorSize dFloorSize){fFloorShown:Addr}{dFloorShown:FuncData}(c_FloorShown:fj P w K mg base 4 Co "shown" ["self","place","door","table"] (xA Co) fFloorShown dFloorShown){fFloorLook:Addr}{dFloorLook:FuncData}(c_FloorLook:fj P w K mg base 6 Co "look" ["self","place","table"] (D8 Co) fFloorLook dFloorLook):bA P w K mg base (CX1 P w) 7 f fd ["floor","doors","means"] (spD K (D6 Co)):=by
 refine F.okD gj (fun ds M q x h=> ?_) (fun cdv A outer s H E' hr=>⟨_,(ae (aq (i:=3) gj.nd rfl (Or.inl rfl) (kM af))
   (ae (fg (bq E.n_range (aa (eY c_FloorSize hr aj (jv 0)) af (hs:=aU))) (aJ (i:=4) gj.nd rfl (Or.inl rfl)) bJ (ah (bc (Df hr (jv 4) (jv 1)) (ah (gF (e7 (jv 3) (aa (bZ c_FloorShown hr aj (jv 0) (aa (jv 4) (aa (d7 hr (jv 1) (jv 4)) (aa (jv 2) af (hs:=ak)) (hs:=aS)) (hs:=ak))) af (hs:=aU))))) (ah (gF (e7 (jv 3) (aa (bZ c_FloorLook hr aj (jv 0) (aa (jv 4) (aa (jv 2) af (hs:=ak)) (hs:=ak))) af (hs:=aU))))))))
   (ah (au (jv 3))))),fun ds M q x h=> ?_⟩)
 ·obtain ⟨share,rows,k,acc,tb,E,B,F,C,rfl,_⟩:=h;rfl
 ·obtain ⟨share,rows,k,acc,tb,Ep,B,Ft,C,rfl,hk,dk,fl,g,ht,h⟩:=h
  have l12:=fl.pl.len
  refine ⟨by decide, ?_⟩
  walk_at "vc"
  refine ⟨⟨_,_, .inl rfl,rfl⟩,share,rows,rfl, ?_⟩
  refine ⟨⟨by omega,by omega⟩, ?_⟩
  rw [show ((rows.length:Int)).toNat=rows.length by omega]
  have ml:(cX share rows acc tb).length=rows.length:=by unfold cX;simp
  refine bU (fun zs ρ' M'=>∃(i m:Nat) (o4:Option Dt),zs=fW (i:Int) m∧i+m=rows.length∧M'=M++[.lst (((cX share rows acc tb).take i).map frD)]∧ρ'=[some (aP Co share rows),some (.loc k),some (.lst (tb.map frD)),some (.loc M.length),o4]) (fun x zs ρ' M' hj nxt=> ?_) (fun ρ' M' hj=> ?_) _ _ _ ⟨0,rows.length,none,rfl,by omega,rfl,rfl⟩
  ·obtain ⟨i,m,o4,ex,im,rfl,rfl⟩:=hj
   obtain ⟨m',rfl,rfl,rfl⟩:=bC ex
   have il:i < rows.length:=by omega
   have hi:rows[i]? =some rows[i]:=aaa il
   generalize hr0:rows[i]=r at *
   have rm:r∈rows:=aag hi
   have ro:=(fl.pl.row r rm).1
   have mi:(cX share rows acc tb)[i]? =some (match cK acc i with | some j=>aO share tb ((aF r).getD j.toNat d0) | none=>mh share tb r):=by
    unfold cX
    rw [aaf,aaB il]
    show some (match rows[i]? with | some r=>_ | none=>_)=_
    rw [hi]
   have tk:(cX share rows acc tb).take (i+1)=(cX share rows acc tb).take i++[match cK acc i with | some j=>aO share tb ((aF r).getD j.toNat d0) | none=>mh share tb r]:=by
    rw [List.take_succ,mi];rfl
   have hk':(M++[MO.lst (((cX share rows acc tb).take i).map frD)])[k]? =some (dP acc):=bM hk
   have app:∀v,v=(match cK acc i with | some j=>aO share tb ((aF r).getD j.toNat d0) | none=>mh share tb r)→∀Dn:mQ,(∀o4,Dn.nx [some (aP Co share rows),some (.loc k),some (.lst (tb.map frD)),some (.loc M.length),o4] (M++[.lst (((cX share rows acc tb).take (i+1)).map frD)]))→True:=fun _ _ _ _=>trivial
   refine ⟨k,_,_,Sum.inl (i:Int),rfl,hk',rfl, ?_⟩
   rw [Dr]
   have lt:(((cX share rows acc tb).take i).map frD).length < sizeLine:=by
    rw [aac,abH];exact aaO (show _≤12 by omega) (by decide)
   have fin:=fun o4=>nxt [some (aP Co share rows),some (.loc k),some (.lst (tb.map frD)),some (.loc M.length),o4] (M++[.lst (((cX share rows acc tb).take (i+1)).map frD)]) ⟨i+1,m',o4,by rw [aa6];rfl,by omega,rfl,rfl⟩
   rw [tk,aaX] at fin
   clear app tk
   cases hh:aB (kindOf r) with
   | true=>
    obtain ⟨j,hj,jl⟩:=dk.hand i r hi hh
    rw [hj] at fin⊢
    refine ⟨fun _=> ?_,fun z=>(nomatch z)⟩
    cases r with
    | fin p=>exact absurd jl (abb _)
    | doors kd ds=>
     have dg:dh (kP acc) (vP acc) (Sum.inl (i:Int))=some (.int (j:Int)):=by rw [uc,hj];rfl
     have jl:j < ds.length:=jl
     have gd:ds.getD j d0=ds[j]:=by rw [aab,aaa jl];rfl
     refine ⟨⟨_,_,rfl,bo⟩, ?_⟩
     refine ⟨⟨_,_, .inl rfl,rfl⟩, ?_⟩
     walk_at "vc"
     refine ⟨k,_,_,Sum.inl (i:Int),_,rfl,hk',rfl,dg, ?_⟩
     refine ⟨share,rows,tb,i,j,kd,ds,ds[j],Ep,B,Ft,C,rfl,hi,aaa jl,fl,g,ht, ?_⟩
     refine ⟨M.length,_,_,rfl,rfl,bo,lt, ?_⟩
     rw [dN]
     have fin:∀o4,_:=fin
     have e:aO share tb ((aF (.doors kd ds)).getD ((j:Int)).toNat d0)=aO share tb ds[j]:=by
      show aO share tb (ds.getD ((j:Int)).toNat d0)=_
      rw [abg,gd]
     have f2:=fin (some (.int (i:Int)))
     dsimp only at f2
     rw [e] at f2
     exact f2
   | false=>
    have hn:=dk.oth i r hi hh
    rw [hn] at fin⊢
    refine ⟨fun z=>(nomatch z),fun _=> ?_⟩
    have kd:kindOf r="chance"∨kindOf r="end":=by
     cases r with
     | fin p=>exact .inr rfl
     | doors k' ds=>
      rcases (aQ fl.pl rm).kd with z | ⟨_,z,_⟩
      ·have hh:aB k'=false:=hh
       rw [z] at hh;cases hh
      ·exact .inl z
    refine ⟨⟨_,_,rfl,bo⟩, ?_⟩
    refine ⟨⟨_,_, .inl rfl,rfl⟩, ?_⟩
    walk_at "vc"
    refine ⟨share,rows,tb,i,r,Ep,B,Ft,C,rfl,hi,kd,fl,g,ht, ?_⟩
    refine ⟨M.length,_,_,rfl,rfl,bo,lt, ?_⟩
    rw [dN]
    exact fin (some (.int (i:Int)))
  ·obtain ⟨i,m,o4,ex,im,rfl,rfl⟩:=hj
   have m0:m=0:=by
    have:=congrArg List.length ex
    rw [bR] at this;exact this.symm
   have:i=rows.length:=by omega
   subst this
   rw [←ml,List.take_length]
   exact h
def gL(f:Nat→Rat):Nat→Rat
 | 0=>0
 | n+1=>gL f n+f n
def bI(f:DrG→Rat):List DrG→Rat
 | []=>0
 | d::ds=>f d+bI f ds
theorem bQ{f g:Nat→Rat}:∀{n:Nat},(∀i,i < n→f i=g i)→gL f n=gL g n
 | 0,_=>rfl
 | n+1,h=>by
  show gL f n+f n=gL g n+g n
  rw [bQ fun i hi=>h i (Nat.lt_succ_of_lt hi),h n (abn _)]
theorem iX(a b:Rat)(f g:Nat→Rat):∀n,gL (fun i=>a * f i - b * g i) n=a * gL f n - b * gL g n
 | 0=>by show (0:Rat)=a * 0 - b * 0;grind
 | n+1=>by
  show gL (fun i=>a * f i - b * g i) n+(a * f n - b * g n)=a * (gL f n+f n) - b * (gL g n+g n)
  rw [iX a b f g n];grind
theorem rA{t:Nat}(y:Nat→Rat):∀{n:Nat},n≤t→gL (fun x=>(if x=t then 1 else 0) * y x) n=0
 | 0,_=>rfl
 | n+1,h=>by
  show gL (fun x=>(if x=t then 1 else 0) * y x) n+(if n=t then 1 else 0) * y n=0
  rw [rA y (by omega),if_neg (by omega)];grind
theorem gT{t:Nat}(y:Nat→Rat):∀{n:Nat},t < n→gL (fun x=>(if x=t then 1 else 0) * y x) n=y t
 | 0,h=>absurd h (abb _)
 | n+1,h=>by
  show gL (fun x=>(if x=t then 1 else 0) * y x) n+(if n=t then 1 else 0) * y n=y t
  by_cases e:n=t
  ·subst e;rw [rA y (Nat.le_refl _),if_pos rfl];grind
  ·rw [gT y (by omega),if_neg e];grind
theorem jo(f:Nat→Int):∀n,((Bz.ay f n:Int):Rat)=gL (fun i=>(f i:Rat)) n
 | 0=>rfl
 | n+1=>by
  show ((Bz.ay f n+f n:Int):Rat)=gL (fun i=>(f i:Rat)) n+f n
  rw [Rat.intCast_add,jo f n]
def ab(q:Rat):Rat:=if q < 0 then -q else q
theorem hU{x m:Rat}:ab x≤m↔ -m≤x∧x≤m:=by unfold ab;split <;> grind
theorem DZ(x:Rat):0≤ab x:=by unfold ab;split <;> grind
theorem zf(x:Nat→Rat):∀n,∃i,i < n+1∧∀j,j < n+1→ab (x j)≤ab (x i)
 | 0=>⟨0,by omega,fun j hj=>by rw [show j=0 by omega];grind⟩
 | n+1=>by
  obtain ⟨i,hi,h⟩:=zf x n
  by_cases c:ab (x i)≤ab (x (n+1))
  ·refine ⟨n+1,by omega,fun j hj=> ?_⟩
   by_cases e:j=n+1
   ·subst e;grind
   ·have:=h j (by omega);grind
  ·refine ⟨i,by omega,fun j hj=> ?_⟩
   by_cases e:j=n+1
   ·subst e;grind
   ·exact h j (by omega)
theorem zk{n:Nat}{x:Nat→Rat}{s c:Rat}(s1:s < 1)(h:∀i,i < n→∀m,(∀j,j < n→ab (x j)≤m)→ab (x i)≤c+s * m):∀i,i < n→ab (x i) * (1 - s)≤c:=fun i hi=>by
 obtain ⟨k,rfl⟩:∃k,n=k+1:=⟨n - 1,by omega⟩
 obtain ⟨t,ht,ht2⟩:=zf x k
 have h1:=h t ht _ ht2
 have h2:=ht2 i hi
 have:=Rat.mul_le_mul_of_nonneg_right h2 (show 0≤1 - s by grind)
 grind
theorem cI{f g:DrG→Rat}:∀{ds:List DrG},(∀d∈ds,f d=g d)→bI f ds=bI g ds
 | [],_=>rfl
 | d::ds,h=>by
  show f d+bI f ds=g d+bI g ds
  rw [h d aae,cI fun x hx=>h x (aad _ hx)]
theorem rS(f g:DrG→Rat):∀ds:List DrG,bI (fun d=>f d - g d) ds=bI f ds - bI g ds
 | []=>by show (0:Rat)=0 - 0;grind
 | d::ds=>by
  show (f d - g d)+bI (fun d=>f d - g d) ds=(f d+bI f ds) - (g d+bI g ds)
  rw [rS f g ds];grind
abbrev cV(d:DrG):Rat:=val (ai d)
structure xv(n:Nat)(ways:List DrG):Prop where
 to:∀d∈ways,0≤d.1∧d.1 < n
 c0:∀d∈ways,0≤cV d
 one:bI cV ways≤1
theorem vS{n:Nat}{y:Nat→Rat}{m:Rat}(hm:∀j,j < n→ab (y j)≤m):∀{ways:List DrG},(∀d∈ways,0≤d.1∧d.1 < n)→(∀d∈ways,0≤cV d)→ab (bI (fun d=>cV d * y d.1.toNat) ways)≤bI cV ways * m
 | [],_,_=>by show ab 0≤0 * m;unfold ab;rw [if_neg (by grind)];grind
 | d::ways,h1,h2=>by
  have i:=vS hm (fun x hx=>h1 x (aad _ hx)) (fun x hx=>h2 x (aad _ hx))
  obtain ⟨a,b⟩:=h1 d aae
  have c:=h2 d aae
  have y1:=hU.mp (hm d.1.toNat (by omega))
  show ab (cV d * y d.1.toNat+bI (fun d=>cV d * y d.1.toNat) ways)≤(cV d+bI cV ways) * m
  have e1:=aaF y1.1 c
  have e2:=aaF y1.2 c
  have i:=hU.mp i
  refine hU.mpr ⟨?_, ?_⟩ <;> grind
theorem pd{n:Nat}{ways:List DrG}(w:xv n ways)(n0:0 < n){y:Nat→Rat}{m:Rat}(hm:∀j,j < n→ab (y j)≤m):ab (bI (fun d=>cV d * y d.1.toNat) ways)≤m:=by
 have:=vS hm w.to w.c0
 have m0:0≤m:=by have:=hm 0 n0;have:=DZ (y 0);grind
 have:=aa5 w.one m0
 grind
theorem zd{B:Int}{c:Fr}(h:0 < c.2)(hd:c.2∣B):((o9 B c:Int):Rat)=val c * B:=by
 obtain ⟨k,rfl⟩:=hd
 unfold o9 val
 rw [aba _ (by omega),aaD,aaD]
 have:=aZ (show c.2≠0 by omega)
 generalize (c.1:Rat)=a at *
 generalize (c.2:Rat)=b at *
 generalize (k:Rat)=e at *
 grind
theorem zc{B:Int}:∀{ds:List DrG},(∀d∈ds,0 < (ai d).2∧(ai d).2∣B)→((((ds.map ai).map (o9 B)).sum:Int):Rat)=bI cV ds * B
 | [],_=>by show ((0:Int):Rat)=0 * B;grind
 | d::ds,h=>by
  have i:=zc (ds:=ds) fun x hx=>h x (aad _ hx)
  obtain ⟨a,b⟩:=h d aae
  show (((o9 B (ai d)+((ds.map ai).map (o9 B)).sum:Int)):Rat)=(cV d+bI cV ds) * B
  rw [Rat.intCast_add,i,zd a b];grind
theorem eB{c:Fr}(h:0 < c.2)(h0:0≤c.1):0≤val c:=by
 have e:val c * (c.2:Rat)=c.1:=by
  have:=aZ (show c.2≠0 by omega)
  unfold val
  generalize (c.1:Rat)=x at *
  generalize (c.2:Rat)=y at *
  grind
 have p:(0:Rat) < (c.2:Rat):=aaY.mpr h
 have q:(0:Rat)≤(c.1:Rat):=aaS.mpr h0
 by_cases z:0≤val c
 ·exact z
 ·have:=Rat.mul_pos (show 0 < -val c by grind) p
  grind
theorem Bv{ds:List DrG}(o:Ef (ds.map ai)):bI cV ds=1∧∀d∈ds,0≤cV d:=by
 obtain ⟨_,_,hB⟩:=fT (ds.map ai) 1 0 (by decide) (ab1 _) fun c hc=>⟨(o.ok3.2 c hc).1,ab1 _⟩
 have hm:∀d∈ds,ai d∈ds.map ai:=fun d hd=>aal.mpr ⟨d,hd,rfl⟩
 have e:=zc (B:=dI (ds.map ai)) (ds:=ds) fun d hd=>⟨(o.ok3.2 _ (hm d hd)).1,hB _ (hm d hd)⟩
 rw [o.sum] at e
 have b0:=aZ (show dI (ds.map ai)≠0 by have:=o.b0;omega)
 refine ⟨?_,fun d hd=> ?_⟩
 ·generalize ((dI (ds.map ai):Int):Rat)=b at *
  grind
 ·refine eB (o.ok3.2 _ (hm d hd)).1 ?_
  have p:=o.pos _ (hm d hd)
  unfold o9 at p
  have q0:0≤dI (ds.map ai) / (ai d).2:=Int.ediv_nonneg (aah o.b0) (aah (o.ok3.2 _ (hm d hd)).1)
  rcases abP (ai d).1 0 with z | z
  ·have:=Int.mul_nonpos_of_nonpos_of_nonneg (aah z) q0
   omega
  ·exact z
theorem uz{p q:Fr}(hp:0 < p.2)(hq:0 < q.2):val (gc p q)=val p - val q:=by
 unfold gc
 rw [gO (aaH (aaq hp hq))]
 have h1:=aZ (show p.2≠0 by omega)
 have h2:=aZ (show q.2≠0 by omega)
 rw [Rat.intCast_sub,aaD,aaD,aaD]
 unfold val
 generalize (p.1:Rat)=a at *
 generalize (p.2:Rat)=b at *
 generalize (q.1:Rat)=c at *
 generalize (q.2:Rat)=d at *
 grind
theorem ua{p q:Fr}{E:Int}(hp:0 < p.2)(hq:0 < q.2)(h:hV p E)(h':hV q E):hV (gc p q) E:=by
 obtain ⟨N,e⟩:=h
 obtain ⟨N',e'⟩:=h'
 unfold gc
 exact j3 (N:=N - N') (Int.ne_of_gt (Int.mul_pos hp hq)) (by grind)
theorem xr{p q:Fr}{C D:Int}(hp:0 < p.2)(hq:0 < q.2)(h:dZ p C)(h':dZ q D):dZ (gc p q) (C+D):=by
 unfold gc
 have a:=bV h.1 (aah hq)
 have b:=bV h'.1 (aah hp)
 have c:=bV h.2 (aah hq)
 have d:=bV h'.2 (aah hp)
 refine mJ (aaq hp hq) ?_ ?_
 ·have e:p.2 * q.2 * (C+D)=p.2 * C * q.2+q.2 * D * p.2:=by grind
  have e2: -(q.2 * D) * p.2= -(q.2 * D * p.2):=by grind
  omega
 ·have e: -(p.2 * q.2 * (C+D))= -(p.2 * C) * q.2+ -(q.2 * D * p.2):=by grind
  omega
structure Nr(E C:Int)(p:Fr):Prop where
 red:Red p
 he:hV p E
 ab:dZ p C
structure ka(n:Nat)(E C:Int)(v:Nat→Rat)(ns:List Fr):Prop where
 len:ns.length=n
 nr:∀x,x < n→Nr E C (ns.getD x (0,1))
 val:∀x,x < n→val (ns.getD x (0,1))=v x
def uL(share:Fr)(ns:List Fr)(d:DrG):List Fr:=ns.set d.1.toNat (gc (ns.getD d.1.toNat (0,1)) (aG share (ai d)))
def gC(share:Fr)(n i:Nat)(ways:List DrG):List Fr:=ways.foldl (uL share) ((List.replicate n ((0,1):Fr)).set i (1,1))
theorem Hw{E C:Int}(c:0≤C):Nr E C (0,1):=⟨⟨by decide,by decide⟩,⟨0,by simp⟩,⟨by show (0:Int)≤1 * C;omega,by show -(1 * C)≤(0:Int);omega⟩⟩
theorem Hv{E:Int}:Nr E 1 (1,1):=⟨⟨by decide,by decide⟩,⟨E,by simp⟩,⟨by decide,by decide⟩⟩
theorem lj{ns:List Fr}{t x:Nat}{a:Fr}(h:t < ns.length):(ns.set t a).getD x (0,1)=if x=t then a else ns.getD x (0,1):=by
 rw [aab,List.getElem?_set]
 by_cases e:x=t
 ·subst e;rw [if_pos rfl,if_pos h,if_pos rfl];rfl
 ·rw [if_neg (Ne.symm e),if_neg e,←aab]
theorem zE{n i:Nat}{E:Int}(hi:i < n):ka n E 1 (fun x=>if x=i then 1 else 0) ((List.replicate n ((0,1):Fr)).set i (1,1)):=by
 have g:∀x,((List.replicate n ((0,1):Fr)).set i (1,1)).getD x (0,1)=if x=i then (1,1) else (0,1):=fun x=>by
  rw [lj (by simpa using hi)]
  congr 1
  rw [aab,abq];split <;> rfl
 refine ⟨by simp,fun x _=> ?_,fun x _=> ?_⟩
 ·rw [g];split
  ·exact Hv
  ·exact Hw (by decide)
 ·rw [g]
  show Pg.val (if x=i then (1,1) else (0,1))=if x=i then 1 else 0
  unfold Pg.val
  split
  ·show ((1:Int):Rat) / ((1:Int):Rat)=1;grind
  ·show ((0:Int):Rat) / ((1:Int):Rat)=0;grind
structure ShC(share:Fr)(E:Int)(d:DrG):Prop where
 s0:0 < share.2
 su:fh share
 c0:0 < (ai d).2
 cu:fh (ai d)
 he:hV (aG share (ai d)) E
theorem ShC.nr{share:Fr}{E:Int}{d:DrG}(h:ShC share E d):Nr E 1 (aG share (ai d)):=by
 have p:=aaq h.s0 h.c0
 have u:=sN h.s0 h.c0 h.su h.cu
 have r:Red (aG share (ai d)):=aM (aaH p)
 have rp:=r.pos
 obtain ⟨u1,u2⟩:=u
 exact ⟨r,h.he,⟨by omega,by omega⟩⟩
theorem rO{n:Nat}{share:Fr}{E C:Int}{v:Nat→Rat}{ns:List Fr}{d:DrG}(h:ka n E C v ns)(c:0≤C)(hd:0≤d.1∧d.1 < n)(sc:ShC share E d):ka n E (C+1) (fun x=>v x - Pg.val share * ((if d.1.toNat=x then 1 else 0) * cV d)) (uL share ns d):=by
 have ht:d.1.toNat < ns.length:=by rw [h.len];omega
 have k:=sc.nr
 have g:=fun x=>lj (x:=x) (a:=gc (ns.getD d.1.toNat (0,1)) (aG share (ai d))) ht
 refine ⟨by unfold uL;rw [List.length_set];exact h.len,fun x hx=> ?_,fun x hx=> ?_⟩
 ·unfold uL
  rw [g]
  have a:=h.nr x hx
  split
  ·rename_i e
   rw [←e]
   have p:=aaq a.red.pos k.red.pos
   exact ⟨aM (aaH p),ua a.red.pos k.red.pos a.he k.he,xr a.red.pos k.red.pos a.ab k.ab⟩
  ·have:=aar (show C≤C+1 by omega) (aah a.red.pos)
   exact ⟨a.red,a.he,⟨aa4 a.ab.1 this,by have:=a.ab.2;omega⟩⟩
 ·unfold uL
  rw [g]
  have a:=h.nr x hx
  have b:=h.val x hx
  split
  ·rename_i e
   rw [←e,uz a.red.pos k.red.pos,b,cv sc.s0 sc.c0,if_pos rfl];grind
  ·rename_i e
   rw [b,if_neg (Ne.symm e)];grind
theorem nQ{n:Nat}{share:Fr}{E:Int}:∀{ways:List DrG} {ns:List Fr} {v:Nat→Rat} {C:Int},(∀d∈ways,(0≤d.1∧d.1 < n)∧ShC share E d)→0≤C→ka n E C v ns→ka n E (C+ways.length) (fun x=>v x - Pg.val share * bI (fun d=>(if d.1.toNat=x then 1 else 0) * cV d) ways) (ways.foldl (uL share) ns)
 | [],ns,v,C,_,_,h=>by
  refine ⟨h.len,fun x hx=> ?_,fun x hx=> ?_⟩
  ·rw [List.length_nil,abI,Int.add_zero];exact h.nr x hx
  ·show _=v x - Pg.val share * 0
   rw [show v x - Pg.val share * 0=v x by grind];exact h.val x hx
 | d::ways,ns,v,C,hw,c,h=>by
  obtain ⟨h1,h2⟩:=hw d aae
  have i:=nQ (ways:=ways) (fun x hx=>hw x (aad _ hx)) (by omega) (rO h c h1 h2)
  rw [abD,aas,show C+((ways.length+1:Nat):Int)=C+1+ways.length by omega]
  refine ⟨i.len,i.nr,fun x hx=> ?_⟩
  rw [i.val x hx]
  show v x - Pg.val share * ((if d.1.toNat=x then 1 else 0) * cV d) - Pg.val share * bI (fun d=>(if d.1.toNat=x then 1 else 0) * cV d) ways=v x - Pg.val share * ((if d.1.toNat=x then 1 else 0) * cV d+bI (fun d=>(if d.1.toNat=x then 1 else 0) * cV d) ways)
  grind
def vW(s:Rat)(i:Nat)(ways:List DrG)(x:Nat):Rat:=(if x=i then 1 else 0) - s * bI (fun d=>(if d.1.toNat=x then 1 else 0) * cV d) ways
theorem AX{n i:Nat}{share:Fr}{E:Int}{ways:List DrG}(hi:i < n)(hw:∀d∈ways,(0≤d.1∧d.1 < n)∧ShC share E d):ka n E (1+ways.length) (vW (Pg.val share) i ways) (gC share n i ways):=nQ hw (by decide) (zE hi)
theorem ze{n i:Nat}{s:Rat}(hi:i < n)(y:Nat→Rat):∀{ways:List DrG},(∀d∈ways,0≤d.1∧d.1 < n)→gL (fun x=>vW s i ways x * y x) n=y i - s * bI (fun d=>cV d * y d.1.toNat) ways
 | [],_=>by
  rw [bQ (g:=fun x=>(if x=i then 1 else 0) * y x) fun x _=>by show ((if x=i then 1 else 0) - s * 0) * y x=_;grind]
  rw [gT y hi]
  show y i=y i - s * 0
  grind
 | d::ways,h=>by
  obtain ⟨a,b⟩:=h d aae
  have ih:=ze (s:=s) hi y (ways:=ways) fun x hx=>h x (aad _ hx)
  rw [bQ (g:=fun x=>1 * (vW s i ways x * y x) - (s * cV d) * ((if x=d.1.toNat then 1 else 0) * y x)) fun x _=>by
   show ((if x=i then 1 else 0) - s * ((if d.1.toNat=x then 1 else 0) * cV d+bI (fun d=>(if d.1.toNat=x then 1 else 0) * cV d) ways)) * y x=1 * (((if x=i then 1 else 0) - s * bI (fun d=>(if d.1.toNat=x then 1 else 0) * cV d) ways) * y x) - (s * cV d) * ((if x=d.1.toNat then 1 else 0) * y x)
   by_cases e:x=d.1.toNat
   ·rw [if_pos e,if_pos e.symm];grind
   ·rw [if_neg e,if_neg (Ne.symm e)];grind]
  rw [iX,ih,gT y (show d.1.toNat < n by omega)]
  show _=y i - s * (cV d * y d.1.toNat+bI (fun d=>cV d * y d.1.toNat) ways)
  grind
def jj(ns:List Fr):List Int:=ns.map fun c=>c.1 * (dI ns / c.2)
theorem qT{ns:List Fr}{E C:Int}(h:∀c∈ns,Nr E C c)(e0:0 < E)(c0:0≤C):0 < dI ns∧dI ns≤E∧∀c∈ns,((o9 (dI ns) c:Int):Rat)=val c * (dI ns:Int)∧ -(C * E)≤o9 (dI ns) c∧o9 (dI ns) c≤C * E:=by
 have b0:0 < dI ns:=dD ns 1 (by decide) fun c hc=>(h c hc).red.pos
 obtain ⟨d1,_,d3⟩:=fT ns 1 E (by decide) (Int.one_dvd _) fun c hc=>⟨(h c hc).red.pos,pM (h c hc).red (h c hc).he⟩
 have le:=abQ e0 d1
 refine ⟨b0,le,fun c hc=>⟨zd (h c hc).red.pos (d3 c hc), ?_⟩⟩
 have hd:=d3 c hc
 have cp:=(h c hc).red.pos
 obtain ⟨a1,a2⟩:=(h c hc).ab
 have le:dI ns≤E:=le
 have b0:0 < dI ns:=b0
 generalize hL:dI ns=L at *
 have hd:c.2∣L:=by rw [←hL];exact hd
 obtain ⟨k,rfl⟩:=hd
 unfold o9
 rw [aba _ (by omega)]
 have k0:0≤k:=by
  rcases abP k 0 with z | z
  ·have:=abC cp z;omega
  ·exact z
 have m1:=bV a1 k0
 have m2:=bV a2 k0
 have m3:=aar le c0
 have e1:c.2 * C * k=C * (c.2 * k):=by grind
 have e2: -(c.2 * C) * k= -(C * (c.2 * k)):=by grind
 exact ⟨by omega,by omega⟩
def pK(share:Fr)(n i:Nat)(ways:List DrG)(given:Fr):List Int:=jj (gC share n i ways++[given])
structure um(share:Fr)(n:Nat)(E C:Int)(ways:List DrG)(given:Fr):Prop where
 wo:xv n ways
 sc:∀d∈ways,ShC share E d
 gn:Nr E C given
 e0:0 < E
 cl:1+(ways.length:Int)≤C
theorem vL{E C D:Int}{p:Fr}(h:Nr E C p)(l:C≤D):Nr E D p:=by
 have:=aar l (aah h.red.pos)
 obtain ⟨a,b⟩:=h.ab
 exact ⟨h.red,h.he,⟨by omega,by omega⟩⟩
theorem mC{ns:List Fr}{x:Nat}(h:x < ns.length):ns.getD x (0,1)∈ns:=by
 rw [aab,aaa h];exact aay h
theorem u7{share:Fr}{n i:Nat}{E C:Int}{ways:List DrG}{given:Fr}(hi:i < n)(p:um share n E C ways given):(pK share n i ways given).length=n+1∧(∀x∈pK share n i ways given, -(C * E)≤x∧x≤C * E)∧∃L:Rat,0 < L∧(∀y:Nat→Rat,gL (fun x=>((pK share n i ways given).getD x 0:Rat) * y x) n=L * (y i - Pg.val share * bI (fun d=>cV d * y d.1.toNat) ways))∧((pK share n i ways given).getD n 0:Rat)=L * Pg.val given:=by
 have no:=AX hi fun d hd=>⟨p.wo.to d hd,p.sc d hd⟩
 have c0:0≤C:=by have:=p.cl;omega
 have all:∀c∈gC share n i ways++[given],Nr E C c:=fun c hc=>by
  rcases aaL.mp hc with z | z
  ·obtain ⟨x,hx,e⟩:=aa7 z
   have hx':x < n:=by rw [←no.len];exact hx
   have:=no.nr x hx'
   rw [aab,aaa hx] at this
   rw [←e];exact vL this p.cl
  ·rw [abL.mp z];exact p.gn
 obtain ⟨b0,bE,hb⟩:=qT all p.e0 c0
 have ln:(gC share n i ways).length=n:=no.len
 have at_:∀x,x < n+1→(pK share n i ways given).getD x 0=o9 (dI (gC share n i ways++[given])) ((gC share n i ways++[given]).getD x (0,1)):=fun x hx=>by
  unfold pK jj
  have hx:x < (gC share n i ways++[given]).length:=by simp [ln];exact hx
  rw [aab,aaf,aab,aaa hx];rfl
 have in_:∀x,x < n+1→(gC share n i ways++[given]).getD x (0,1)∈gC share n i ways++[given]:=fun x hx=>mC (by simp [ln];exact hx)
 refine ⟨by unfold pK jj;simp [ln],fun x hx=> ?_,((dI (gC share n i ways++[given]):Int):Rat), ?_,fun y=> ?_, ?_⟩
 ·unfold pK jj at hx
  obtain ⟨c,hc,rfl⟩:=aal.mp hx
  exact (hb c hc).2
 ·exact aaY.mpr b0
 ·rw [bQ (g:=fun x=>((dI (gC share n i ways++[given]):Int):Rat) * (vW (Pg.val share) i ways x * y x) - 0 * 0) fun x hx=>by
   rw [at_ x (by omega),(hb _ (in_ x (by omega))).1]
   have:(gC share n i ways++[given]).getD x (0,1)=(gC share n i ways).getD x (0,1):=by
    rw [aab,aav (by rw [ln];exact hx),←aab]
   rw [this,no.val x hx];grind]
  rw [iX _ 0 (fun x=>vW (Pg.val share) i ways x * y x) (fun _=>0),ze hi y p.wo.to];grind
 ·rw [at_ n (by omega),(hb _ (in_ n (by omega))).1]
  have:(gC share n i ways++[given]).getD n (0,1)=given:=by
   rw [aab,aam (by rw [ln];exact aak _),ln,Nat.sub_self];rfl
  rw [this];grind
structure Sys(share:Fr)(n:Nat)(B:Int)(ws:Nat→List DrG)(gv:Nat→Fr):Prop where
 n1:1≤n
 s0:0≤Pg.val share
 s1:Pg.val share < 1
 b1:1≤B
 plc:∀i,i < n→∃E C,um share n E C (ws i) (gv i)∧C * E≤B
def kg(share:Fr)(n:Nat)(ws:Nat→List DrG)(gv:Nat→Fr):List (List Int):=(List.range n).map fun i=>pK share n i (ws i) (gv i)
section
variable{share:Fr}{n:Nat}{B:Int}{ws:Nat→List DrG}{gv:Nat→Fr}
theorem uJ{k x:Nat}(h:k < n):Bz.arr (kg share n ws gv) k x=(pK share n k (ws k) (gv k)).getD x 0:=by
 unfold Bz.arr kg
 congr 1
 rw [aab,aaf,aaB h];rfl
theorem hX:(kg share n ws gv).length=n:=by unfold kg;simp
theorem Sys.eq(S:Sys share n B ws gv){k:Nat}(hk:k < n):∃L:Rat,0 < L∧(∀y:Nat→Rat,gL (fun x=>(Bz.arr (kg share n ws gv) k x:Rat) * y x) n=L * (y k - Pg.val share * bI (fun d=>cV d * y d.1.toNat) (ws k)))∧(Bz.arr (kg share n ws gv) k n:Rat)=L * Pg.val (gv k):=by
 obtain ⟨E,C,p,_⟩:=S.plc k hk
 obtain ⟨_,_,L,l0,l1,l2⟩:=u7 hk p
 refine ⟨L,l0,fun y=> ?_, ?_⟩
 ·rw [←l1 y]
  exact bQ fun x _=>by rw [uJ hk]
 ·rw [uJ hk];exact l2
theorem Sys.zero(S:Sys share n B ws gv){y:Nat→Rat}(h:∀k,k < n→y k=Pg.val share * bI (fun d=>cV d * y d.1.toNat) (ws k)):∀k,k < n→y k=0:=fun k hk=>by
 have:=zk (n:=n) (x:=y) (c:=0) S.s1 (fun i hi m hm=>by
  obtain ⟨E,C,p,_⟩:=S.plc i hi
  have w:=hU.mp (pd p.wo (by omega) hm)
  have a:=aaF w.1 S.s0
  have b:=aaF w.2 S.s0
  rw [h i hi]
  refine hU.mpr ⟨?_, ?_⟩ <;> grind) k hk
 have a0:=DZ (y k)
 have s1:=S.s1
 have:ab (y k)=0:=by
  by_cases e:ab (y k)=0
  ·exact e
  ·have p:=Rat.mul_pos (show 0 < ab (y k) by grind) (show 0 < 1 - Pg.val share by grind)
   grind
 unfold ab at this
 split at this <;> grind
theorem Sys.ker(S:Sys share n B ws gv)(y:Bz.Row)(h:∀k,k < n→Bz.ay (fun x=>Bz.arr (kg share n ws gv) k x * y x) n=0):∀x,x < n→y x=0:=fun x hx=>by
 have:=S.zero (y:=fun x=>(y x:Rat)) (fun k hk=>by
  obtain ⟨L,l0,l1,_⟩:=S.eq hk
  have e:=congrArg (fun z:Int=>(z:Rat)) (h k hk)
  rw [jo,bQ (g:=fun x=>(Bz.arr (kg share n ws gv) k x:Rat) * (y x:Rat)) fun x _=>aaD _ _,l1 fun x=>(y x:Rat)] at e
  have e:L * ((y k:Rat) - Pg.val share * bI (fun d=>cV d * (y d.1.toNat:Rat)) (ws k))=0:=e
  rcases Rat.mul_eq_zero.mp e with z | z
  ·grind
  ·grind) x hx
 exact Rat.intCast_eq_zero_iff.mp this
theorem Sys.bd(S:Sys share n B ws gv):Bz.Bd (Bz.arr (kg share n ws gv)) n (n+1) B:=⟨S.b1,fun k c hk hc=>by
 obtain ⟨E,C,p,hB⟩:=S.plc k hk
 obtain ⟨ln,hb,_⟩:=u7 hk p
 rw [uJ hk]
 have:=hb ((pK share n k (ws k) (gv k)).getD c 0) (by rw [aab,aaa (by omega)];exact aay _)
 exact ⟨by omega,by omega⟩⟩
structure Tab(share:Fr)(n:Nat)(ws:Nat→List DrG)(gv:Nat→Fr)(tb:List Fr):Prop where
 len:tb.length=n
 red:∀i,i < n→Red (tb.getD i (0,1))
 eq:∀i,i < n→Pg.val (tb.getD i (0,1))=Pg.val (gv i)+Pg.val share * bI (fun d=>cV d * Pg.val (tb.getD d.1.toNat (0,1))) (ws i)
theorem Sys.ex(S:Sys share n B ws gv)(n12:n≤12):∃(tb:List Fr) (z:Bz.Row) (N:Int),Bz.Sol (Bz.arr (kg share n ws gv)) n n z N∧N≠0∧(∀i,i < n→N * (tb.getD i (0,1)).1=z i * (tb.getD i (0,1)).2)∧Tab share n ws gv tb∧(∀i,i < n→(tb.getD i (0,1)).2≤(12 * B) ^ n)∧N≤(12 * B) ^ n∧ -N≤(12 * B) ^ n:=by
 obtain ⟨ρ,cols,q,d,W,t⟩:=Bz.d8.exists (A:=Bz.arr (kg share n ws gv)) (n:=n) n
 have hc:cols=List.range n:=by
  rcases t.all with e | ⟨x,h1,h2⟩
  ·exact e
  ·obtain ⟨z,z1,z2⟩:=t.kernel h1 h2
   have:=S.ker z z2 x h1
   rw [z1] at this
   exact absurd (by omega) t.d0
 have lr:ρ.length=n:=by rw [←t.st.lc,hc,abi]
 have sol:=t.kvSol fun i h1 h2=>absurd h1 (by omega)
 have d0:=t.d0
 generalize hz:Bz.kvk (Bz.arr (kg share n ws gv)) n W cols n cols.length=z at *
 have g:∀i,i < n→((List.range n).map fun i=>bK (z i) d).getD i (0,1)=bK (z i) d:=fun i hi=>by
  rw [aab,aaf,aaB hi];rfl
 refine ⟨(List.range n).map fun i=>bK (z i) d,z,d,sol,d0,fun i hi=> ?_,⟨by simp,fun i hi=> ?_,fun i hi=> ?_⟩,fun i hi=> ?_, ?_⟩
 ·rw [g i hi,←bT d0]
 ·rw [g i hi];exact aM d0
 ·obtain ⟨L,l0,l1,l2⟩:=S.eq hi
  obtain ⟨E,C,p,_⟩:=S.plc i hi
  have e:=congrArg (fun z:Int=>(z:Rat)) (sol i hi)
  rw [jo,bQ (g:=fun x=>(Bz.arr (kg share n ws gv) i x:Rat) * (z x:Rat)) fun x _=>aaD _ _,l1 fun x=>(z x:Rat),aaD,l2] at e
  rw [g i hi,gO d0]
  rw [cI (g:=fun dd=>(1 / (d:Rat)) * (cV dd * (z dd.1.toNat:Rat)) - 0) fun dd hdd=>by
   obtain ⟨a,b⟩:=p.wo.to dd hdd
   rw [g _ (by omega),gO d0]
   have:=aZ d0
   grind]
  have sc:∀(k:Rat) (ds:List DrG),bI (fun dd=>k * (cV dd * (z dd.1.toNat:Rat)) - 0) ds=k * bI (fun dd=>cV dd * (z dd.1.toNat:Rat)) ds:=fun k ds=>by
   induction ds with
   | nil=>show (0:Rat)=k * 0;grind
   | cons a ds ih=>
    show k * (cV a * (z a.1.toNat:Rat)) - 0+bI (fun dd=>k * (cV dd * (z dd.1.toNat:Rat)) - 0) ds=k * (cV a * (z a.1.toNat:Rat)+bI (fun dd=>cV dd * (z dd.1.toNat:Rat)) ds)
    rw [ih];grind
  rw [sc]
  have:=aZ d0
  have e:L * ((z i:Rat) - Pg.val share * bI (fun dd=>cV dd * (z dd.1.toNat:Rat)) (ws i))=(d:Rat) * (L * Pg.val (gv i)):=e
  have e2:(z i:Rat) - Pg.val share * bI (fun dd=>cV dd * (z dd.1.toNat:Rat)) (ws i)=(d:Rat) * Pg.val (gv i):=by
   have:L * ((z i:Rat) - Pg.val share * bI (fun dd=>cV dd * (z dd.1.toNat:Rat)) (ws i) - (d:Rat) * Pg.val (gv i))=0:=by grind
   rcases Rat.mul_eq_zero.mp this with y | y
   ·grind
   ·grind
  grind
 ·rw [g i hi]
  have ad:=t.st.absd S.bd (fun c hc'=>aao (t.cl c hc') (Nat.le_succ _)) (by omega)
  rw [lr] at ad
  have l:=hI (t:=z i) d0
  have q0:=b6 (t:=z i) d0
  obtain ⟨a1,a2⟩:=ad
  omega
 ·have ad:=t.st.absd S.bd (fun c hc'=>aao (t.cl c hc') (Nat.le_succ _)) (by omega)
  rw [lr] at ad
  obtain ⟨a1,a2⟩:=ad
  exact ⟨by omega,by omega⟩
end
theorem Bo{d:DrG}{c:Fr}{M:Ms}{q:DQ}(e:d.2.2=[c])(h:q (frD c) M):fIx (drG d) (.int 2) M q:=by
 unfold drG
 rw [e]
 exact ax (xs:=[.int d.1,frD d.2.1,frD c]) rfl (aI (j:=2) rfl) h
theorem iD{M:Ms}{k:Nat}{xs:List Dt}(h:M[k]? =some (MO.lst xs)):rh M (.loc k)=some xs:=by
 show (match M[k]? with | some (MO.lst xs)=>some xs | _=>none)=some xs
 rw [h]
theorem A0{E C:Int}{p:Fr}(h:Nr E C p)(e0:0 < E)(e1:E < 2 ^ 190)(c0:0≤C)(c1:C < 2 ^ 110):Sz 300 p:=xV (k:=190) (m:=110) h.red h.he e0 e1 h.ab c0 c1
def zZ:DF:=fun as M q _=>∃(ns:List Fr) (E C:Int),as=[.lst (ns.map frD)]∧ns.length≤13∧(∀c∈ns,Nr E C c)∧0 < E∧E < 2 ^ 190∧0≤C∧C < 2 ^ 110∧q (ilD (jj ns)) M
theorem kC:ar ["numbers","bottom"] ["numbers"] (ag ft):=⟨rfl,rfl,rfl,by decide+kernel,rfl,by decide+kernel,by decide+kernel⟩
theorem pV{f:Addr}{fd:FuncData}(F:Fun K "whole_row" "whole_row" ft f fd)(E:Ev K mg Co CF CN){fCommonBottom:Addr}{dCommonBottom:FuncData}(c_CommonBottom:bx P w K mg base 2 "common_bottom" ["chances"] fe fCommonBottom dCommonBottom):bA P w K mg base (CX1 P w) 3 f fd ["numbers"] (spD K zZ):=by
 refine F.okD kC (fun ds M q x h=> ?_) (fun cdv A outer s H E' hr=>⟨_,(ae (aq (i:=1) kC.nd rfl (Or.inr rfl) (aV c_CommonBottom hr aj (aa (jv 0) af (hs:=ak))))
   (ah (au (e6 (ys:=["bottom"]) (caps:=[1]) ⟨rfl,by decide+kernel,by decide+kernel,rfl,(by show∀p:Str×NameKind,p∈_→p.2=NameKind.free→List.lookup p.1 (ag ft).names=some .cell;decide+kernel),by decide+kernel,(by show∀q:Str×Nat,q∈_→(["numbers","bottom"]:List Str)[q.2]? =some q.1∧List.lookup q.1 (ag ft).names=some .cell∧_;decide+kernel),rfl⟩ (cD (jv 0)) (fun C s H fp=>(bW (aD (jv 0) aw) (fi (jv 1) (aD (jv 0) aw)))))))),fun ds M q x h=> ?_⟩)
 ·obtain ⟨ns,E,C,rfl,_⟩:=h;rfl
 ·obtain ⟨ns,Ep,C,rfl,hz,hn,e0,e1,c0,c1,h⟩:=h
  obtain ⟨b0,bE,_⟩:=qT hn e0 c0
  have szn:∀c∈ns,Sz 300 c:=fun c hc=>A0 (hn c hc) e0 e1 c0 c1
  have b2:∀c∈ns,c.2 < 2 ^ 200:=fun c hc=>by
   have:=abQ e0 (pM (hn c hc).red (hn c hc).he)
   exact aan this (abE e1 (by decide))
  refine ⟨ns,rfl,⟨hz,fun c hc=>⟨(hn c hc).red.pos,b2 c hc⟩⟩, ?_⟩
  walk_at "vc"
  refine dX (i:=0) rfl rfl ⟨by rw [aac];exact aaz hz (by decide), ?_⟩
  refine cZ (f:=fun d=> .int (match d with | .tup [.int a, .int b]=>a * (dI ns / b) | _=>0)) trivial (fun x hx q hq=> ?_) ?_
  ·obtain ⟨y,hy,rfl⟩:=aal.mp hx
   have s:=szn y hy
   have y0:=(hn y hy).red.pos
   refine ⟨⟨y0,bj s (by decide)⟩,⟨b8 s (by decide), ?_⟩,hq⟩
   exact BP (k:=190) (Int.ediv_nonneg (aah b0) (aah y0)) (aan (Int.ediv_le_self _ (aah b0)) (aan bE e1)) (by decide)
  ·rw [aaI,aaC]
   have e:ns.map ((fun d=>Dt.int (match d with | .tup [.int a, .int b]=>a * (dI ns / b) | _=>0)) ∘ frD)=(jj ns).map Dt.int:=by
    unfold jj
    rw [aaC];rfl
   rw [e];exact h
structure SzE(E C:Int):Prop where
 e1:E < 2 ^ 190
 c1:C < 2 ^ 110
def G6(A:Addr):DF:=fun as M q _=>∃(share:Fr) (rows:List Rw) (i:Nat) (ways:List DrG) (given:Fr) (E C:Int),as=[aP A share rows, .int (i:Nat), .lst (ways.map drG),frD share,frD given]∧i < rows.length∧rows.length≤12∧aW share=true∧(∀d∈ways,∃c,d.2.2=[c])∧um share rows.length E C ways given∧SzE E C∧(∀d∈ways,Sz 300 (ai d))∧∀E',q (ilD (pK share rows.length i ways given)) (M++E')
theorem lq:ar ["floor","place","ways","share","given","numbers","way"] ["floor","place","ways","share","given"] (ag pG):=⟨rfl,rfl,rfl,by decide+kernel,rfl,by decide+kernel,by decide+kernel⟩
theorem vF{f:Addr}{fd:FuncData}(F:Fun K "led_row" "led_row" pG f fd)(E:Ev K mg Co CF CN){fFloorSize:Addr}{dFloorSize:FuncData}(c_FloorSize:fj P w K mg base 1 Co "size" ["self"] (oQ Co) fFloorSize dFloorSize){fMinus:Addr}{dMinus:FuncData}(c_Minus:bx P w K mg base 3 "minus" ["one","other"] Af fMinus dMinus){fTimes:Addr}{dTimes:FuncData}(c_Times:bx P w K mg base 3 "times" ["one","other"] oP fTimes dTimes){fWholeRow:Addr}{dWholeRow:FuncData}(c_WholeRow:bx P w K mg base 3 "whole_row" ["numbers"] zZ fWholeRow dWholeRow):bA P w K mg base (CX1 P w) 5 f fd ["floor","place","ways","share","given"] (spD K (G6 Co)):=by
 refine F.okD lq (fun ds M q x h=> ?_) (fun cdv A outer s H E' hr=>⟨_,(ae (aq (i:=5) lq.nd rfl (Or.inl rfl) (r8 (eZ 3 (d:= .lst [.tup [.int 0, .int 1]]) (by rfl)) (eY c_FloorSize hr aj (jv 0))))
   (ae (fU (jv 5) (jv 1) (cJ (aa aw (aa aw af (hs:=bB)) (hs:=bB))))
   (ae (dW (cD (jv 2)) (aJ (i:=6) lq.nd rfl (Or.inl rfl)) bJ (ah (fU (jv 5) (aD (jv 6) aw) (aV c_Minus hr aj (aa (aD (jv 5) (aD (jv 6) aw)) (aa (aV c_Times hr aj (aa (jv 3) (aa (aD (jv 6) aw) af (hs:=aS)) (hs:=ak))) af (hs:=aU)) (hs:=aS))))))
   (ah (au (aV c_WholeRow hr aj (aa (jZ (jv 5) (qt (aa (jv 4) af (hs:=ak)))) af (hs:=bO)))))))),fun ds M q x h=> ?_⟩)
 ·obtain ⟨share,rows,i,ways,given,E,C,rfl,_⟩:=h;rfl
 ·obtain ⟨share,rows,i,ways,given,Ep,C,rfl,il,l12,hs,hone,p,sz,hcs,h⟩:=h
  have szs:=q9 hs
  have e0:=p.e0
  have c0:0≤C:=by have:=p.cl;omega
  generalize hn:rows.length=n at *
  refine ⟨⟨_,_, .inl rfl,rfl⟩,share,rows,rfl, ?_⟩
  rw [hn]
  refine ⟨[frD (0,1)],n,rfl,rfl,by omega,by omega, ?_, ?_⟩
  ·show 1 * ((n:Int)).toNat≤sizeLine
   exact aaz (show _≤12 by omega) (by decide)
  rw [show ((n:Int)).toNat=n by omega,iZ]
  dsimp only [kF]
  walk_at "vc"
  refine ⟨by show 2≤sizeLine;decide, ?_⟩
  refine ⟨M.length,(i:Nat),_,i,rfl,rfl,bo,by rw [aaK];exact kN il, ?_⟩
  rw [dN]
  have e00:(List.replicate n (frD (0,1))).set i (.tup [.int 1, .int 1])=((List.replicate n ((0,1):Fr)).set i (1,1)).map frD:=by
   rw [List.map_set,List.map_replicate];rfl
  rw [e00]
  dsimp only [x6,iP]
  walk_at "vc"
  refine cQ (fun zs ρ' M'=>∃(don rest:List DrG) (ns:List Fr) (v:Nat→Rat) (o:Option Dt),ways=don++rest∧zs=rest.map drG∧ns=don.foldl (uL share) ((List.replicate n ((0,1):Fr)).set i (1,1))∧ka n Ep (1+don.length) v ns∧M'=M++[MO.lst (ns.map frD)]∧ρ'=[some (aP Co share rows),some (.int (i:Int)),some (.lst (ways.map drG)),some (frD share),some (frD given),some (.loc M.length),o]) (fun zs ρ' M' hj=>trivial) (fun x zs ρ' M' hj nxt=> ?_) (fun ρ' M' hj=> ?_) _ _ _ ⟨[],ways,_,_,none,rfl,rfl,rfl,zE il,rfl,rfl⟩
  ·obtain ⟨don,rest,ns,v,o,ew,ex,en,no,rfl,rfl⟩:=hj
   cases rest with
   | nil=>cases ex
   | cons d rest=>
    cases ex
    have dm:d∈ways:=by rw [ew];exact aax _ aae
    obtain ⟨t0,t1⟩:=p.wo.to d dm
    obtain ⟨c,hc⟩:=hone d dm
    have ec:ai d=c:=by unfold ai;rw [hc];rfl
    have sc:=p.sc d dm
    have szc:=hcs d dm
    have dl:1+(don.length:Int)≤C:=by
     have:=congrArg List.length ew
     rw [aap,aas] at this
     have:=p.cl
     omega
    have tl:d.1.toNat < ns.length:=by rw [no.len];omega
    have szn:=A0 (vL (no.nr d.1.toNat (by omega)) dl) e0 sz.e1 c0 sz.c1
    have szt:=A0 (vL sc.nr (show (1:Int)≤C by omega)) e0 sz.e1 c0 sz.c1
    have at_:atI (ns.map frD) d.1=some (frD (ns.getD d.1.toNat (0,1))):=by
     have:=Bj tl
     rw [show ((d.1.toNat:Nat):Int)=d.1 by omega] at this
     rw [this,aab,aaa tl];rfl
    have nx:∀o,_:=fun o=>nxt [some (aP Co share rows),some (.int (i:Int)),some (.lst (ways.map drG)),some (frD share),some (frD given),some (.loc M.length),o] (M++[MO.lst ((uL share ns d).map frD)]) ⟨don++[d],rest,uL share ns d,_,o,by rw [ew];simp,rfl,by rw [List.foldl_append,←en];rfl,by
     have:=rO no (by omega) ⟨t0,t1⟩ sc
     rw [show 1+((don++[d]).length:Int)=1+(don.length:Int)+1 by simp;omega]
     exact this,rfl,rfl⟩
    dsimp only [gN,kF]
    walk_at "vc"
    refine ud ?_
    refine (ax (d:= .loc M.length) (iD bo) at_ ?_:fIx (.loc M.length) (.int d.1) _ _)
    refine Bo hc ?_
    rw [←ec]
    refine ⟨share,ai d,11,300,rfl,szs,szc,by decide, ?_⟩
    refine ⟨_,_,300,300,rfl,szn,szt,by decide, ?_⟩
    refine ud ?_
    refine ⟨M.length,d.1,_,d.1.toNat,rfl,rfl,bo,by rw [aac];have:=kN tl;rwa [show ((d.1.toNat:Nat):Int)=d.1 by omega] at this, ?_⟩
    rw [dN]
    have:(ns.map frD).set d.1.toNat (frD (gc (ns.getD d.1.toNat (0,1)) (aG share (ai d))))=(uL share ns d).map frD:=by
     unfold uL;rw [List.map_set]
    rw [this]
    exact nx _
  ·obtain ⟨don,rest,ns,v,o,ew,ex,en,no,rfl,rfl⟩:=hj
   cases rest with
   | cons d rest=>cases ex
   | nil=>
    rw [aaT] at ew
    subst ew
    have en:ns=gC share n i ways:=en
    walk_at "vc"
    refine ⟨by show 1≤sizeLine;decide,ns.map frD,[frD given],me bo,rfl, ?_, ?_⟩
    ·rw [aac,no.len]
     exact aaz (show n+1≤13 by omega) (by decide)
    refine ⟨ns++[given],Ep,C,by rw [aaX];rfl,by rw [aap,no.len];show n+1≤13;omega,fun c hc=> ?_,e0,sz.e1,c0,sz.c1, ?_⟩
    ·rcases aaL.mp hc with z | z
     ·obtain ⟨x,hx,e⟩:=aa7 z
      have:=no.nr x (by rw [←no.len];exact hx)
      rw [aab,aaa hx] at this
      rw [←e];exact vL this p.cl
     ·rw [abL.mp z];exact p.gn
    rw [en]
    exact h _
theorem lI:∀(ps:List (Fr×Fr)) (w:Fr),Red w→(∀p∈ps,0 < p.1.2∧0 < p.2.2)→Red (ps.foldl (fun w p=>bf w (aG p.1 p.2)) w)
 | [],w,h,_=>h
 | p::ps,w,h,hp=>by
  obtain ⟨a,b⟩:=hp p aae
  have t:Red (aG p.1 p.2):=aM (aaH (aaq a b))
  exact lI ps _ (aM (aaH (aaq h.pos t.pos))) fun x hx=>hp x (aad _ hx)
theorem mX:∀(ways:List DrG) (w:Fr),0 < w.2→(∀d∈ways,0 < (ai d).2∧0 < d.2.1.2)→val (((ways.map ai).zip (ways.map (·.2.1))).foldl (fun w p=>bf w (aG p.1 p.2)) w)=val w+bI (fun d=>cV d * val d.2.1) ways
 | [],w,_,_=>by show val w=val w+0;grind
 | d::ways,w,h,hp=>by
  obtain ⟨a,b⟩:=hp d aae
  have t:Red (aG (ai d) d.2.1):=aM (aaH (aaq a b))
  have u:Red (bf w (aG (ai d) d.2.1)):=aM (aaH (aaq h t.pos))
  have ih:=mX ways (bf w (aG (ai d) d.2.1)) u.pos fun x hx=>hp x (aad _ hx)
  rw [aaN,aaN,aa2,abD,ih,cN h t.pos,cv a b]
  show _=val w+(cV d * val d.2.1+bI (fun d=>cV d * val d.2.1) ways)
  grind
structure FW(share:Fr)(rows:List Rw)(X C:Int):Prop where
 pl:BF share rows
 n1:1≤rows.length
 hnd:∀k ds,Rw.doors k ds∈rows→aB k=true→∀d∈ds,d.2.2=[]
 pay:∀k ds,Rw.doors k ds∈rows→∃E,0 < E∧E≤X∧∀d∈ds,Nr E C d.2.1
 fin:∀p,Rw.fin p∈rows→∃E,0 < E∧E≤X∧Nr E C p
 x1:X≤10 ^ 36
 c9:9≤C
 c1:C≤10 ^ 30
def fwB(X C:Int):Int:=6 * C * (1000000000 * X)
def wsF(acc:Pl)(i:Nat):Rw→List DrG
 | .fin _=>[]
 | .doors k ds=>aN acc i (.doors k ds)
def gvF(acc:Pl)(i:Nat):Rw→Fr
 | .fin p=>p
 | .doors k ds=>ff (((aN acc i (.doors k ds)).map ai).zip ((aN acc i (.doors k ds)).map (·.2.1)))
def Ax(rows:List Rw)(i:Nat):Rw:=rows.getD i (.fin (0,1))
structure HY(n:Nat)(B E C:Int)(d:DrG):Prop where
 to:0≤d.1∧d.1 < n
 one:d.2.2=[ai d]
 ch:Ch B (ai d)
 py:Nr E C d.2.1
section
variable{share:Fr}{rows:List Rw}{X C:Int}{acc:Pl}
theorem FW.ways(fw:FW share rows X C)(dk:ji rows acc){i:Nat}{k:Str}{ds:List DrG}(hi:rows[i]? =some (.doors k ds)):(aN acc i (.doors k ds)).length≤6∧bI cV (aN acc i (.doors k ds))=1∧(∀d∈aN acc i (.doors k ds),0≤cV d)∧∃B E,0 < B∧B≤1000000∧0 < E∧E≤X∧∀d∈aN acc i (.doors k ds),HY rows.length B E C d:=by
 have rm:Rw.doors k ds∈rows:=aag hi
 have dr:=aQ fw.pl rm
 obtain ⟨E,e0,eX,hp⟩:=fw.pay k ds rm
 cases hh:aB k with
 | true=>
  obtain ⟨j,hj,jl⟩:=dk.hand i _ hi hh
  have jl:j < ds.length:=jl
  have gd:ds.getD j d0=ds[j]:=by rw [aab,aaa jl];rfl
  have dm:=aay jl
  have e:aN acc i (.doors k ds)=[(ds[j].1,ds[j].2.1,[(1,1)])]:=by
   unfold aN
   rw [hj]
   show [((ds.getD ((j:Int)).toNat d0).1,(ds.getD ((j:Int)).toNat d0).2.1,(ds.getD ((j:Int)).toNat d0).2.2++[(1,1)])]=_
   rw [abg,gd,fw.hnd k ds rm hh _ dm];rfl
  have v1:cV (ds[j].1,ds[j].2.1,[((1,1):Fr)])=1:=by
   show ((1:Int):Rat) / ((1:Int):Rat)=1
   grind
  rw [e]
  refine ⟨by simp, ?_,fun d hd=> ?_,1,E,by decide,by decide,e0,eX,fun d hd=> ?_⟩
  ·show cV (ds[j].1,ds[j].2.1,[(1,1)])+0=1
   rw [v1];grind
  ·rw [List.mem_singleton.mp hd,v1];grind
  ·rw [abL.mp hd]
   refine ⟨dr.to ds[j] dm,rfl, ?_,hp ds[j] dm⟩
   show Ch 1 ((1,1):Fr)
   exact ⟨by decide,⟨1,by decide⟩,⟨by decide,by decide⟩,dM (k:=2) ⟨by decide,by decide,by decide⟩ (by decide)⟩
 | false=>
  have hc:k="chance"∧Ef (ds.map ai):=by
   rcases dr.kd with z | ⟨_,z⟩
   ·rw [z] at hh;cases hh
   ·exact z
  obtain ⟨rfl,co⟩:=hc
  have e:aN acc i (.doors "chance" ds)=ds:=by
   unfold aN
   rw [dk.oth i _ hi hh];rfl
  obtain ⟨s1,s2⟩:=Bv co
  rw [e]
  refine ⟨dr.l6,s1,s2,dI (ds.map ai),E,co.b0,co.b1,e0,eX,fun d hd=> ?_⟩
  obtain ⟨a,b,c,f⟩:=xh co (aal.mpr ⟨d,hd,rfl⟩)
  exact ⟨dr.to d hd,(dr.ro.2.2.1 rfl).1 d hd,⟨a,mz b,c,f⟩,hp d hd⟩
theorem CZ{E C:Int}{p:Fr}(h:Nr E C p)(e0:0 < E)(e1:E≤10 ^ 36)(c0:0≤C)(c1:C≤10 ^ 30):Nb E C p:=yt h.red h.he h.ab ⟨e0,aan e1 (by decide),c0,aan c1 (by decide)⟩
theorem FW.sh(fw:FW share rows X C):0 < share.2∧share.2≤1000∧fh share∧0≤val share∧val share < 1∧1≤1000 * (1 - val share):=by
 have h:=fw.pl.sh
 obtain ⟨a,b,c⟩:=dt h
 unfold aW at h
 rw [aat,aat,decide_eq_true_iff,decide_eq_true_iff,decide_eq_true_iff] at h
 obtain ⟨h1,h2,h3⟩:=h
 have ev:val share * (share.2:Rat)=share.1:=by
  have:=aZ (show share.2≠0 by omega)
  unfold val
  generalize (share.1:Rat)=x at *
  generalize (share.2:Rat)=y at *
  grind
 have p:(0:Rat) < (share.2:Rat):=aaY.mpr a
 have q:(share.2:Rat)≤((1000:Int):Rat):=aaS.mpr b
 have r:(share.1:Rat)+((1:Int):Rat)≤(share.2:Rat):=by rw [←Rat.intCast_add];exact aaS.mpr (by omega)
 have q:(share.2:Rat)≤1000:=q
 have r:(share.1:Rat)+1≤(share.2:Rat):=r
 have lt:val share < 1:=by
  by_cases z:val share < 1
  ·exact z
  ·have:=Rat.mul_le_mul_of_nonneg_right (show 1≤val share by grind) (Rat.le_of_lt p)
   grind
 refine ⟨a,b,c,eB a h1,lt, ?_⟩
 have:=Rat.mul_le_mul_of_nonneg_right q (show 0≤1 - val share by grind)
 grind
theorem FW.plc(fw:FW share rows X C)(dk:ji rows acc){i:Nat}{r:Rw}(hi:rows[i]? =some r):∃E,um share rows.length E (6 * C) (wsF acc i r) (gvF acc i r)∧6 * C * E≤fwB X C∧SzE E (6 * C)∧(∀d∈wsF acc i r,∃c,d.2.2=[c])∧∀d∈wsF acc i r,Sz 300 (ai d):=by
 obtain ⟨s0,s1,su,_⟩:=fw.sh
 have c9:=fw.c9
 have c1:=fw.c1
 have x1:=fw.x1
 have rm:r∈rows:=aag hi
 have mulB:∀E,E≤1000000000 * X→6 * C * E≤fwB X C:=fun E h=>aar h (by omega)
 cases r with
 | fin p=>
  obtain ⟨E,e0,eX,hp⟩:=fw.fin p rm
  exact ⟨E,⟨⟨fun _ z=>(nomatch z),fun _ z=>(nomatch z),by show (0:Rat)≤1;grind⟩,fun _ z=>(nomatch z),vL hp (by omega),e0,by show 1+0≤6 * C;omega⟩,mulB E (by omega),⟨Int.lt_of_le_of_lt eX (by omega),by omega⟩,fun _ z=>(nomatch z),fun _ z=>(nomatch z)⟩
 | doors k ds=>
  obtain ⟨l6,one,pos,B,E,b0,b1,e0,eX,hw⟩:=fw.ways dk hi
  show∃E,um share rows.length E (6 * C) (aN acc i (.doors k ds)) (ff (((aN acc i (.doors k ds)).map ai).zip ((aN acc i (.doors k ds)).map (·.2.1))))∧6 * C * E≤fwB X C∧SzE E (6 * C)∧(∀d∈aN acc i (.doors k ds),∃c,d.2.2=[c])∧∀d∈aN acc i (.doors k ds),Sz 300 (ai d)
  generalize hws:aN acc i (.doors k ds)=ws at *
  have be0:0 < B * E:=aaq b0 e0
  have be1:B * E≤1000000 * X:=abr b1 eX (aah e0) (by decide)
  have se0:0 < share.2 * (B * E):=aaq s0 be0
  have se1:share.2 * (B * E)≤1000 * (1000000 * X):=abr s1 be1 (aah be0) (by decide)
  have nb:=gM (E:=E) (B:=B) (C:=C) b0 e0 (aan be1 (by omega)) (by omega) (by omega) ((ws.map ai).zip (ws.map (·.2.1))) (0,1) 0 (by rw [abl,aac,aac];omega) (by rw [abI,Int.zero_mul];exact zI) (fun p hp=>by
   obtain ⟨q1,q2⟩:=aaU hp
   obtain ⟨d1,m1,x1⟩:=aal.mp q1
   obtain ⟨d2,m2,x2⟩:=aal.mp q2
   exact ⟨by rw [←x1];exact (hw d1 m1).ch,by rw [←x2];exact CZ (hw d2 m2).py e0 (by omega) (by omega) c1⟩)
  have red:Red (ff ((ws.map ai).zip (ws.map (·.2.1)))):=lI _ _ ⟨by decide,by decide⟩ fun p hp=>by
   obtain ⟨q1,q2⟩:=aaU hp
   obtain ⟨d1,m1,x1⟩:=aal.mp q1
   obtain ⟨d2,m2,x2⟩:=aal.mp q2
   exact ⟨by rw [←x1];exact (hw d1 m1).ch.pos,by rw [←x2];exact (hw d2 m2).py.red.pos⟩
  refine ⟨share.2 * (B * E),⟨⟨fun d hd=>(hw d hd).to,pos,by rw [one];grind⟩,fun d hd=>⟨s0,su,(hw d hd).ch.pos,(hw d hd).ch.u, ?_⟩,⟨red, ?_, ?_⟩,se0,by omega⟩,mulB _ (by omega),⟨Int.lt_of_le_of_lt se1 (by omega),by omega⟩,fun d hd=>⟨_,(hw d hd).one⟩,fun d hd=>(hw d hd).ch.sz⟩
  ·have:=jd E (ir s0 (hw d hd).ch.pos (om share) (hw d hd).ch.he)
   rwa [Int.mul_assoc] at this
  ·have:=jd share.2 nb.he
   rwa [aaE] at this
  ·refine xt red.pos nb.ab ?_
   refine aaj ?_ (by omega)
   rw [abl,aac,aac];omega
theorem uZ{i:Nat}(h:i < rows.length):rows[i]? =some (Ax rows i):=by
 unfold Ax
 rw [aab,aaa h];rfl
abbrev wsA(rows:List Rw)(acc:Pl)(i:Nat):List DrG:=wsF acc i (Ax rows i)
abbrev gvA(rows:List Rw)(acc:Pl)(i:Nat):Fr:=gvF acc i (Ax rows i)
theorem FW.sys(fw:FW share rows X C)(dk:ji rows acc)(b1:1≤fwB X C):Sys share rows.length (fwB X C) (wsA rows acc) (gvA rows acc):=by
 obtain ⟨_,_,_,v0,v1,_⟩:=fw.sh
 refine ⟨fw.n1,v0,v1,b1,fun i hi=> ?_⟩
 obtain ⟨E,p,l,_⟩:=fw.plc dk (uZ hi)
 exact ⟨E,_,p,l⟩
structure Wth(share:Fr)(rows:List Rw)(acc:Pl)(tb:List Fr):Prop where
 tab:Tab share rows.length (wsA rows acc) (gvA rows acc) tb
 bot:∀i,i < rows.length→(tb.getD i (0,1)).2 < 2 ^ 1300
 cb:∃N,0 < N∧N < 2 ^ 1300∧∀i,i < rows.length→hV (tb.getD i (0,1)) N
end
def z7(A:Addr):DF:=fun as M q _=>∃share rows i r k acc X C,as=[aP A share rows, .int (i:Nat), .loc k]∧M[k]? =some (dP acc)∧rows[i]? =some r∧ji rows acc∧FW share rows X C∧∀E',q (ilD (pK share rows.length i (wsF acc i r) (gvF acc i r))) (M++E')
theorem pA:ar ["floor","place","doors","ways","paid"] ["floor","place","doors"] (ag jw):=⟨rfl,rfl,rfl,by decide+kernel,rfl,by decide+kernel,by decide+kernel⟩
theorem yo{f:Addr}{fd:FuncData}(F:Fun K "row_of" "row_of" jw f fd)(E:Ev K mg Co CF CN){fFloorKind:Addr}{dFloorKind:FuncData}(c_FloorKind:fj P w K mg base 1 Co "kind" ["self","place"] (oR Co) fFloorKind dFloorKind){fLedRow:Addr}{dLedRow:FuncData}(c_LedRow:bx P w K mg base 5 "led_row" ["floor","place","ways","share","given"] (G6 Co) fLedRow dLedRow){fFloorPay:Addr}{dFloorPay:FuncData}(c_FloorPay:fj P w K mg base 2 Co "pay" ["self","place"] (Er Co) fFloorPay dFloorPay){fFloorShare:Addr}{dFloorShare:FuncData}(c_FloorShare:fj P w K mg base 1 Co "share" ["self"] (z4 Co) fFloorShare dFloorShare){fWaysFrom:Addr}{dWaysFrom:FuncData}(c_WaysFrom:bx P w K mg base 3 "ways_from" ["floor","place","doors"] (BC Co) fWaysFrom dWaysFrom){fWeighed:Addr}{dWeighed:FuncData}(c_Weighed:bx P w K mg base 4 "weighed" ["chances","numbers"] mK fWeighed dWeighed):bA P w K mg base (CX1 P w) 6 f fd ["floor","place","doors"] (spD K (z7 Co)):=by
 refine F.okD pA (fun ds M q x h=> ?_) (fun cdv A outer s H E' hr=>⟨_,(ae (bc (eg hr (bZ c_FloorKind hr aj (jv 0) (aa (jv 1) af (hs:=ak))) g9) (ah (au (aV c_LedRow hr aj (aa (jv 0) (aa (jv 1) (aa (qt af) (aa (eY c_FloorShare hr aj (jv 0)) (aa (bZ c_FloorPay hr aj (jv 0) (aa (jv 1) af (hs:=ak))) af (hs:=aU)) (hs:=aU))) (hs:=ak)) (hs:=ak))))) aA)
   (ae (aq (i:=3) pA.nd rfl (Or.inl rfl) (aV c_WaysFrom hr aj (aa (jv 0) (aa (jv 1) (aa (jv 2) af (hs:=ak)) (hs:=ak)) (hs:=ak))))
   (ae (aq (i:=4) pA.nd rfl (Or.inl rfl) (aV c_Weighed hr aj (aa (e6 (ys:=[]) (caps:=[]) ⟨rfl,by decide+kernel,by decide+kernel,rfl,(by show∀p:Str×NameKind,p∈_→p.2=NameKind.free→List.lookup p.1 (ag jw).names=some .cell;decide+kernel),by decide+kernel,(by show∀q:Str×Nat,q∈_→(["floor","place","doors","ways","paid"]:List Str)[q.2]? =some q.1∧List.lookup q.1 (ag jw).names=some .cell∧_;decide+kernel),rfl⟩ (cD (jv 3)) (fun C s H fp=>(aD (jv 0) aw))) (aa (e6 (ys:=[]) (caps:=[]) ⟨rfl,by decide+kernel,by decide+kernel,rfl,(by show∀p:Str×NameKind,p∈_→p.2=NameKind.free→List.lookup p.1 (ag jw).names=some .cell;decide+kernel),by decide+kernel,(by show∀q:Str×Nat,q∈_→(["floor","place","doors","ways","paid"]:List Str)[q.2]? =some q.1∧List.lookup q.1 (ag jw).names=some .cell∧_;decide+kernel),rfl⟩ (cD (jv 3)) (fun C s H fp=>(aD (jv 0) aw))) af))))
   (ah (au (aV c_LedRow hr aj (aa (jv 0) (aa (jv 1) (aa (jv 3) (aa (eY c_FloorShare hr aj (jv 0)) (aa (jv 4) af (hs:=ak)) (hs:=aU)) (hs:=ak)) (hs:=ak)) (hs:=ak)))))))),fun ds M q x h=> ?_⟩)
 ·obtain ⟨share,rows,i,r,k,acc,X,C,rfl,_⟩:=h;rfl
 ·obtain ⟨share,rows,i,r,k,acc,X,C,rfl,hk,hi,dk,fw,h⟩:=h
  have il:=(aai.mp hi).1
  have l12:=fw.pl.len
  have rm:r∈rows:=aag hi
  have ro:=(fw.pl.row r rm).1
  obtain ⟨Ep,p,_,sz,one,szc⟩:=fw.plc dk hi
  have sl:∀{z:Nat},z≤1000→z≤sizeLine:=fun h=>aaz h (by decide)
  refine ⟨⟨_,_, .inl rfl,rfl⟩,share,rows,i,r,rfl,hi, ?_⟩
  cases r with
  | fin pp=>
   refine ⟨fun _=> ?_,fun z=>(nomatch z)⟩
   walk_at "vc"
   refine ⟨sl (by decide), ?_⟩
   refine ⟨⟨_,_, .inl rfl,rfl⟩,share,rows,rfl, ?_⟩
   refine ⟨⟨_,_, .inl rfl,rfl⟩,share,rows,i, .fin pp,rfl,hi,ro, ?_⟩
   exact ⟨share,rows,i,[],pp,Ep,6 * C,rfl,il,l12,fw.pl.sh,one,p,sz,szc,h⟩
  | doors kd ds=>
   refine ⟨fun z=>absurd (of_decide_eq_true z) ro.1,fun _=> ?_⟩
   obtain ⟨l6,_,_,B,E,b0,b1,e0,eX,hw⟩:=fw.ways dk hi
   have c9:=fw.c9
   have c1:=fw.c1
   have x1:=fw.x1
   have h:∀E',q (ilD (pK share rows.length i (aN acc i (.doors kd ds)) (ff (((aN acc i (.doors kd ds)).map ai).zip ((aN acc i (.doors kd ds)).map (·.2.1)))))) (M++E'):=h
   have p:um share rows.length Ep (6 * C) (aN acc i (.doors kd ds)) (ff (((aN acc i (.doors kd ds)).map ai).zip ((aN acc i (.doors kd ds)).map (·.2.1)))):=p
   have one:∀d∈aN acc i (.doors kd ds),∃c,d.2.2=[c]:=one
   have szc:∀d∈aN acc i (.doors kd ds),Sz 300 (ai d):=szc
   refine ⟨share,rows,i, .doors kd ds,k,acc,rfl,hk,hi,ro,dk, ?_⟩
   generalize aN acc i (.doors kd ds)=ws at *
   dsimp only [wY,iP]
   walk_at "vc"
   refine ⟨by rw [aac];exact sl (by omega), ?_⟩
   refine cL (F:=fun x d=>x=drG d∧d∈ws) (f:=fun d=>frD (ai d)) (as:=ws) trivial (fun x d hx qq hq=> ?_) (fS drG ws ws fun x hx=>hx) ?_
   ·obtain ⟨rfl,hd⟩:=hx
    walk_at "vc"
    exact Bo (hw d hd).one hq
   rw [aaI]
   refine ⟨by rw [aac];exact sl (by omega), ?_⟩
   refine cL (F:=fun x d=>x=drG d∧d∈ws) (f:=fun d=>frD d.2.1) (as:=ws) trivial (fun x d hx qq hq=> ?_) (fS drG ws ws fun x hx=>hx) ?_
   ·obtain ⟨rfl,hd⟩:=hx
    walk_at "vc"
    exact Bp hq
   rw [aaI]
   refine ⟨ws.map ai,ws.map (·.2.1),E,B,C,by rw [aaC,aaC];rfl,by rw [aac];exact l6,b0,e0, ?_,by omega,by omega,fun c hc=> ?_,fun c hc=> ?_, ?_⟩
   ·have:B * E≤1000000 * X:=abr b1 eX (aah e0) (by decide)
    exact aan this (by omega)
   ·obtain ⟨d,hd,rfl⟩:=aal.mp hc
    exact (hw d hd).ch
   ·obtain ⟨d,hd,rfl⟩:=aal.mp hc
    exact CZ (hw d hd).py e0 (by omega) (by omega) c1
   refine ⟨⟨_,_, .inl rfl,rfl⟩,share,rows,rfl, ?_⟩
   exact ⟨share,rows,i,ws,_,Ep,6 * C,rfl,il,l12,fw.pl.sh,one,p,sz,szc,h⟩
def GY(A:Addr):DF:=fun as M q _=>∃share rows k acc X C,as=[aP A share rows, .loc k]∧M[k]? =some (dP acc)∧ji rows acc∧FW share rows X C∧fwB X C≤2 ^ 450∧(12 * fwB X C) ^ rows.length < 2 ^ 1300∧∀tb,Wth share rows acc tb→q (.loc M.length) (M++[.lst (tb.map frD)])
theorem sZ:ar ["floor","doors"] ["floor","doors"] (ag fo):=⟨rfl,rfl,rfl,by decide+kernel,rfl,by decide+kernel,by decide+kernel⟩
theorem pU{f:Addr}{fd:FuncData}(F:Fun K "worths_by" "worths_by" fo f fd)(E:Ev K mg Co CF CN){fAnswerOf:Addr}{dAnswerOf:FuncData}(c_AnswerOf:bx P w K mg base 4 "answer_of" ["rows"] qN fAnswerOf dAnswerOf){fFloorSize:Addr}{dFloorSize:FuncData}(c_FloorSize:fj P w K mg base 1 Co "size" ["self"] (oQ Co) fFloorSize dFloorSize){fRowOf:Addr}{dRowOf:FuncData}(c_RowOf:bx P w K mg base 6 "row_of" ["floor","place","doors"] (z7 Co) fRowOf dRowOf):bA P w K mg base (CX1 P w) 7 f fd ["floor","doors"] (spD K (GY Co)):=by
 refine F.okD sZ (fun ds M q x h=> ?_) (fun cdv A outer s H E' hr=>⟨_,(ah (au (aV c_AnswerOf hr aj (aa (wu (ys:=["floor","doors"]) (caps:=[0,1]) ⟨rfl,by decide+kernel,by decide+kernel,rfl,(by show∀p:Str×NameKind,p∈_→p.2=NameKind.free→List.lookup p.1 (ag fo).names=some .cell;decide+kernel),by decide+kernel,(by show∀q:Str×Nat,q∈_→(["floor","doors"]:List Str)[q.2]? =some q.1∧List.lookup q.1 (ag fo).names=some .cell∧_;decide+kernel),rfl⟩ (bq E.n_range (aa (eY c_FloorSize hr aj (jv 0)) af (hs:=aU))) (fun C s H fp=>(eh (aV c_RowOf hr (dU (P:=P) (w:=w)) (aa (jv 1) (aa (jv 0) (aa (jv 2) af (hs:=ak)) (hs:=ak)) (hs:=ak)))))) af)))),fun ds M q x h=> ?_⟩)
 ·obtain ⟨share,rows,k,acc,X,C,rfl,_⟩:=h;rfl
 ·obtain ⟨share,rows,k,acc,X,C,rfl,hk,dk,fw,b450,bsz,h⟩:=h
  have l12:=fw.pl.len
  have n1:=fw.n1
  have b1:1≤fwB X C:=by
   obtain ⟨E,p,l,_⟩:=fw.plc dk (uZ (show 0 < rows.length by omega))
   have c9:=fw.c9
   have:=aar (show 1≤E by have:=p.e0;omega) (show 0≤6 * C by omega)
   omega
  have S:=fw.sys dk b1
  obtain ⟨tb,z,N,sol,n0,cross,tab,bot,nb1,nb2⟩:=S.ex l12
  have sl:∀{z:Nat},z≤1000→z≤sizeLine:=fun h=>aaz h (by decide)
  walk_at "vc"
  dsimp only [wZ]
  walk_at "vc"
  refine ⟨⟨_,_, .inl rfl,rfl⟩,share,rows,rfl, ?_⟩
  refine ⟨⟨by omega,by omega⟩,by rw [bR];exact sl (by omega), ?_⟩
  refine fH (f:=fun x=>match x with | .int j=>ilD ((kg share rows.length (wsA rows acc) (gvA rows acc)).getD j.toNat []) | _=> .non) _ _ (fun x hxm q' hq=> ?_) ?_
  ·obtain ⟨j,hj,rfl⟩:=gU hxm
   have hj:j < rows.length:=by omega
   rw [Int.zero_add] at hq⊢
   have hq:q' (ilD ((kg share rows.length (wsA rows acc) (gvA rows acc)).getD j [])) M:=hq
   have e:(kg share rows.length (wsA rows acc) (gvA rows acc)).getD j []=pK share rows.length j (wsA rows acc j) (gvA rows acc j):=by
    unfold kg
    rw [aab,aaf,aaB hj];rfl
   rw [e] at hq
   exact ⟨share,rows,j,Ax rows j,k,acc,X,C,rfl,hk,uZ hj,dk,fw,fun E'=>kR (.old (qy _)) hq⟩
  have er:=pL (kg share rows.length (wsA rows acc) (gvA rows acc)) [] ilD
  rw [hX] at er
  rw [aaI,show ((rows.length:Int)).toNat=rows.length by omega]
  refine (fun (key:∀l,l=(kg share rows.length (wsA rows acc) (gvA rows acc)).map ilD→qN [.lst l] M q _)=>key _ er) fun l hl=> ?_
  subst hl
  have ln:∀r∈kg share rows.length (wsA rows acc) (gvA rows acc),r.length=rows.length+1:=fun r hr'=>by
   unfold kg at hr'
   obtain ⟨i,hi,rfl⟩:=aal.mp hr'
   obtain ⟨E,p,_⟩:=fw.plc dk (uZ (abB.mp hi))
   exact (u7 (abB.mp hi) p).1
  have bd:=S.bd
  refine ⟨kg share rows.length (wsA rows acc) (gvA rows acc),rows.length,fwB X C,tb,z,N,rfl,⟨by rw [hX];exact n1,by rw [hX];exact l12,l12,ln,by rw [hX];exact bd,b450⟩,n1,tab.len,by rw [hX];exact sol,n0,fun i hi=>⟨(tab.red i hi).pos,(tab.red i hi).low,cross i hi⟩,by rw [hX];exact S.ker, ?_⟩
  refine h tb ⟨tab,fun i hi=>aan (bot i hi) bsz, ?_⟩
  rcases abP 0 N with z0 | z0
  ·exact ⟨N,z0,by omega,fun i hi=>⟨z i,by rw [aaE];exact cross i hi⟩⟩
  ·exact ⟨-N,by omega,by omega,fun i hi=>⟨-z i,by have:=cross i hi;grind⟩⟩
def xw(A:Addr):DF:=fun as M q _=>∃share rows k1 k2 p1 p2 X C,as=[aP A share rows, .loc k1, .loc k2]∧M[k1]? =some (dP p1)∧M[k2]? =some (dP p2)∧FW share rows X C∧fwB X C≤2 ^ 450∧(12 * fwB X C) ^ rows.length < 2 ^ 1300∧(∀i,i < rows.length→cF rows p1 p2 i=true)∧∀tb,Wth share rows (fY rows p1 p2 rows.length) tb→∀m1 m2,q (.loc (M.length+2)) (M++[m1,m2, .lst (tb.map frD)])
theorem sY:ar ["floor","plan_one","plan_other"] ["floor","plan_one","plan_other"] (ag js):=⟨rfl,rfl,rfl,by decide+kernel,rfl,by decide+kernel,by decide+kernel⟩
theorem pT{f:Addr}{fd:FuncData}(F:Fun K "worths_of" "worths_of" js f fd)(E:Ev K mg Co CF CN){fWorthsBy:Addr}{dWorthsBy:FuncData}(c_WorthsBy:bx P w K mg base 7 "worths_by" ["floor","doors"] (GY Co) fWorthsBy dWorthsBy){fDoorsOf:Addr}{dDoorsOf:FuncData}(c_DoorsOf:bx P w K mg base 4 "doors_of" ["floor","plans"] (mO Co) fDoorsOf dDoorsOf):bA P w K mg base (CX1 P w) 8 f fd ["floor","plan_one","plan_other"] (spD K (xw Co)):=by
 refine F.okD sY (fun ds M q x h=> ?_) (fun cdv A outer s H E' hr=>⟨_,(ah (au (aV c_WorthsBy hr aj (aa (jv 0) (aa (aV c_DoorsOf hr aj (aa (jv 0) (aa (qv (jv 1) (jv 2)) af) (hs:=ak))) af (hs:=aU)) (hs:=ak))))),fun ds M q x h=> ?_⟩)
 ·obtain ⟨share,rows,k1,k2,p1,p2,X,C,rfl,_⟩:=h;rfl
 ·obtain ⟨share,rows,k1,k2,p1,p2,X,C,rfl,h1,h2,fw,b450,bsz,gd,h⟩:=h
  refine ⟨share,rows,M.length,p1,p2,rfl,⟨k1,k2,bo,bM h1,bM h2⟩,fw.pl,gd, ?_⟩
  refine ⟨share,rows,_,_,X,C,rfl,bo,yQ gd,fw,b450,bsz,fun tb wt=> ?_⟩
  have:=h tb wt (.dct [Sum.inr "one",Sum.inr "other"] [.loc k1, .loc k2]) (dP (fY rows p1 p2 rows.length))
  simpa [List.append_assoc] using this
def Pf(rows:List Rw)(acc:Pl)(f:Nat→Rat)(i:Nat):Rat:=match rows[i]? with
 | some (.doors k ds)=>bI (fun d=>cV d * f d.1.toNat) (aN acc i (.doors k ds))
 | _=>f i
def PfT(rows:List Rw)(acc:Pl):Nat→(Nat→Rat)→Nat→Rat
 | 0,f=>f
 | t+1,f=>PfT rows acc t (Pf rows acc f)
def xM(tl:List Fr)(f:Nat→Rat)(n:Nat):Rat:=gL (fun j=>val (tl.getD j (0,1)) * f j) n
theorem qW{tl:List Fr}{t n:Nat}{v:Fr}{f:Nat→Rat}(hl:tl.length=n)(ht:t < n):xM (tl.set t v) f n=xM tl f n+(val v - val (tl.getD t (0,1))) * f t:=by
 unfold xM
 rw [bQ (g:=fun j=>1 * (val (tl.getD j (0,1)) * f j) - (val (tl.getD t (0,1)) - val v) * ((if j=t then 1 else 0) * f j)) fun j hj=>by
  rw [lj (by omega)]
  by_cases e:j=t
  ·subst e;rw [if_pos rfl,if_pos rfl];grind
  ·rw [if_neg e,if_neg e];grind]
 rw [iX,gT f ht];grind
theorem fA(f:Nat→Rat)(n:Nat):gL f (n+1)=gL f n+f n:=rfl
theorem zo:∀{n:Nat} {f:Nat→Rat},(∀i,i < n→f i=0)→gL f n=0
 | 0,_,_=>rfl
 | n+1,f,h=>by
  rw [fA,zo fun i hi=>h i (Nat.lt_succ_of_lt hi),h n (Nat.lt_succ_self _)];grind
theorem BV{n m:Nat}{f:Nat→Rat}:xM (List.replicate n ((0,1):Fr)) f m=0:=zo fun i _=>by
 have:val ((List.replicate n ((0,1):Fr)).getD i (0,1))=0:=by
  rw [aab,abq]
  have:val ((0,1):Fr)=0:=by show ((0:Int):Rat) / ((1:Int):Rat)=0;grind
  split <;> exact this
 rw [this];grind
theorem rV(f:DrG→Rat):∀(l r:List DrG),bI f (l++r)=bI f l+bI f r
 | [],r=>by show bI f r=0+bI f r;grind
 | d::l,r=>by
  show f d+bI f (l++r)=f d+bI f l+bI f r
  rw [rV f l r];grind
theorem sT(p q:Fr):aG p q=aG q p:=by
 unfold aG
 rw [aaE p.1,aaE p.2]
structure D1(rows:List Rw)(B:Int)(w:DrG):Prop where
 ex:∃(t:Nat) (c:Fr),w.1=(t:Int)∧t < rows.length∧w.2.2=[c]∧Ch B c
theorem DR{B:Int}:Ch B (1,1):=⟨by decide,⟨B,by simp⟩,⟨by decide,by decide⟩,dM (k:=2) ⟨by decide,by decide,by decide⟩ (by decide)⟩
theorem Ak{share:Fr}{rows:List Rw}{E B:Int}{acc:Pl}(fl:Fl share rows E B)(dk:ji rows acc){i:Nat}{r:Rw}(hi:rows[i]? =some r)(hk:kindOf r≠"end"):(aN acc i r).length≤6∧∀w∈aN acc i r,D1 rows B w:=by
 have rm:r∈rows:=aag hi
 cases r with
 | fin p=>exact absurd rfl hk
 | doors k ds=>
  have dr:=aQ fl.pl rm
  cases hh:aB k with
  | true=>
   obtain ⟨j,hj,jl⟩:=dk.hand i _ hi hh
   have jl:j < ds.length:=jl
   have gd:ds.getD j d0=ds[j]:=by rw [aab,aaa jl];rfl
   have e:aN acc i (.doors k ds)=[(ds[j].1,ds[j].2.1,ds[j].2.2++[(1,1)])]:=by
    unfold aN
    rw [hj]
    show [((ds.getD ((j:Int)).toNat d0).1,(ds.getD ((j:Int)).toNat d0).2.1,(ds.getD ((j:Int)).toNat d0).2.2++[(1,1)])]=_
    rw [abg,gd]
   rw [e]
   refine ⟨by simp,fun w hw=> ?_⟩
   rw [abL.mp hw]
   obtain ⟨t0,t1⟩:=dr.to _ (aay jl)
   refine ⟨⟨ds[j].1.toNat,(1,1),(abW t0).symm,by omega, ?_,DR⟩⟩
   show ds[j].2.2++[(1,1)]=_
   rw [fl.hnd k ds rm hh _ (aay jl)];rfl
  | false=>
   have hc:k="chance":=by
    rcases dr.kd with z | ⟨_,z,_⟩
    ·rw [z] at hh;cases hh
    ·exact z
   subst hc
   have e:aN acc i (.doors "chance" ds)=ds:=by
    unfold aN
    rw [dk.oth i _ hi hh];rfl
   rw [e]
   refine ⟨dr.l6,fun w hw=> ?_⟩
   obtain ⟨t0,t1⟩:=dr.to w hw
   refine ⟨⟨w.1.toNat,ai w,(abW t0).symm,by omega,((dr.ro.2.2.1 rfl).1 w hw),fl.chs rm _ (aal.mpr ⟨w,hw,rfl⟩)⟩⟩
theorem wJ{P:Fr→Prop}{l:List Fr}{j:Nat}{v:Fr}(h:∀t∈l,P t)(hv:P v):∀t∈l.set j v,P t:=fun t ht=>by
 rcases List.mem_or_eq_of_mem_set ht with z | z
 ·exact h t z
 ·rw [z];exact hv
def D5(A:Addr):DF:=fun as M q _=>∃(share:Fr) (rows:List Rw) (k:Nat) (acc:Pl) (cs:List Fr) (E0 B E C:Int),as=[aP A share rows, .loc k, .lst (cs.map frD)]∧M[k]? =some (dP acc)∧ji rows acc∧Fl share rows E0 B∧cs.length=rows.length∧(∀c∈cs,Nb E C c∧0≤val c)∧0 < E∧E < 2 ^ 1450∧0≤C∧C < 2 ^ 200∧
 ∀cs':List Fr,cs'.length=rows.length→(∀c∈cs',Nb (B * E) (100 * C) c∧0≤val c)→(∀f,xM cs' f rows.length=gL (fun i=>val (cs.getD i (0,1)) * Pf rows acc f i) rows.length)→q (.loc M.length) (M++[.lst (cs'.map frD)])
theorem cB:ar ["floor","doors","chances","told","place","chance","way"] ["floor","doors","chances"] (ag fv):=⟨rfl,rfl,rfl,by decide+kernel,rfl,by decide+kernel,by decide+kernel⟩
theorem ko {f:Addr} {fd:FuncData} (F:Fun K "chances_next" "chances_next" fv f fd) (E:Ev K mg Co CF CN) {fFloorSize:Addr} {dFloorSize:FuncData} (c_FloorSize:fj P w K mg base 1 Co "size" ["self"] (oQ Co) fFloorSize dFloorSize) {fFloorKind:Addr} {dFloorKind:FuncData} (c_FloorKind:fj P w K mg base 1 Co "kind" ["self","place"] (oR Co) fFloorKind dFloorKind) {fPlus:Addr} {dPlus:FuncData} (c_Plus:bx P w K mg base 3 "plus" ["one","other"] yX fPlus dPlus) {fWaysFrom:Addr} {dWaysFrom:FuncData} (c_WaysFrom:bx P w K mg base 3 "ways_from" ["floor","place","doors"] (BC Co) fWaysFrom dWaysFrom) {fTimes:Addr} {dTimes:FuncData} (c_Times:bx P w K mg base 3 "times" ["one","other"] oP fTimes dTimes):bA P w K mg base (CX1 P w) 4 f fd ["floor","doors","chances"] (spD K (D5 Co)):=by
 refine F.okD cB (fun ds M q x h=> ?_) (fun cdv A outer s H E' hr=>⟨_,(ae (aq (i:=3) cB.nd rfl (Or.inl rfl) (r8 (eZ 3 (d:= .lst [.tup [.int 0, .int 1]]) (by rfl)) (eY c_FloorSize hr aj (jv 0))))
   (ae (dW (qr E.n_enumerate (aa (jv 2) af (hs:=ak))) (jN rfl (bL (aJ (i:=4) cB.nd rfl (Or.inl rfl)) (bL (aJ (i:=5) cB.nd rfl (Or.inl rfl)) gB))) kQ (ae (bc (eg hr (bZ c_FloorKind hr aj (jv 0) (aa (jv 4) af (hs:=ak))) g9) (ae (fU (jv 3) (jv 4) (aV c_Plus hr aj (aa (aD (jv 3) (jv 4)) (aa (jv 5) af (hs:=ak)) (hs:=aS))))
   (ah gG)) aA)
   (ah (dW (cD (eh (aV c_WaysFrom hr aj (aa (jv 0) (aa (jv 4) (aa (jv 1) af (hs:=ak)) (hs:=ak)) (hs:=ak))))) (aJ (i:=6) cB.nd rfl (Or.inl rfl)) bJ (ah (fU (jv 3) (aD (jv 6) aw) (aV c_Plus hr aj (aa (aD (jv 3) (aD (jv 6) aw)) (aa (aV c_Times hr aj (aa (jv 5) (aa (aD (jv 6) aw) af (hs:=aS)) (hs:=ak))) af (hs:=aU)) (hs:=aS)))))))))
   (ah (au (jv 3))))),fun ds M q x h=> ?_⟩)
 ·obtain ⟨share,rows,k,acc,cs,E0,B,E,C,rfl,_⟩:=h;rfl
 ·obtain ⟨share,rows,k,acc,cs,E0,B,Ec,C,rfl,hk,dk,fl,cl,hcs,e0,e1,c0,c1,h⟩:=h
  have l12:=fl.pl.len
  have sz:∀{z:Nat},z≤1000→z≤sizeLine:=fun h=>aaz h (by decide)
  obtain ⟨be0,be1⟩:=bG fl.b0 fl.b1 e0 e1
  have be1:B * Ec < 2 ^ 2200:=abm be1 (by decide)
  have bd:∀n:Nat,n≤100→Bd (B * Ec) (n * C):=fun n hn=>by
   have a:(n:Int) * C≤100 * C:=aaj (by omega) c0
   have b:0≤(n:Int) * C:=aaM (by omega) c0
   exact ⟨be0,be1,b,by omega⟩
  have add:∀(n:Nat) (t v:Fr),n+1≤100→Nb (B * Ec) (n * C) t→Nb (B * Ec) C v→Nb (B * Ec) ((n+1:Nat) * C) (bf t v):=fun n t v hn ht hv=>by
   have e:((n+1:Nat):Int) * C=n * C+C:=by rw [Int.natCast_add,Int.add_mul];simp
   have b:=bd (n+1) hn
   rw [e] at b⊢
   exact lT ht hv b
  walk_at "vc"
  refine ⟨⟨_,_, .inl rfl,rfl⟩,share,rows,rfl, ?_⟩
  refine ⟨[.tup [.int 0, .int 1]],(rows.length:Int),rfl,rfl,by omega,by omega, ?_, ?_⟩
  ·show 1 * ((rows.length:Int)).toNat≤sizeLine
   exact sz (by omega)
  rw [show ((rows.length:Int)).toNat=rows.length by omega,iZ,show List.replicate rows.length (Dt.tup [.int 0, .int 1])=(List.replicate rows.length ((0,1):Fr)).map frD by rw [List.map_replicate];rfl]
  refine ⟨.lst (cs.map frD),cs.map frD,fun _=>True,rfl,rfl, ?_⟩
  refine cQ (fun xs ρ M'=>∃(n:Nat) (rest:List Fr) (tl:List Fr) (o4 o5 o6:Option Dt),xs=iQ n (rest.map frD)∧n+rest.length=rows.length∧cs.drop n=rest∧tl.length=rows.length∧(∀t∈tl,Nb (B * Ec) ((6 * n:Nat) * C) t∧0≤val t)∧(∀f,xM tl f rows.length=gL (fun i=>val (cs.getD i (0,1)) * Pf rows acc f i) n)∧M'=M++[.lst (tl.map frD)]∧ρ=[some (aP Co share rows),some (.loc k),some (.lst (cs.map frD)),some (.loc M.length),o4,o5,o6]) (fun xs ρ M' hj=>trivial) (fun x xs ρ M' hj nxt=> ?_) (fun ρ M' hj=> ?_) _ _ _ ⟨0,cs,List.replicate rows.length (0,1),none,none,none,rfl,by omega,rfl,by simp,fun t ht=> ?_,fun f=>BV,rfl,rfl⟩
  ·obtain ⟨n,rest,tl,o4,o5,o6,ex,nl,hrest,tll,htl,hf,rfl,rfl⟩:=hj
   cases rest with
   | nil=>cases ex
   | cons c rest=>
    cases ex
    have nl:n+(rest.length+1)=rows.length:=nl
    have il:n < rows.length:=by omega
    have ncs:n < cs.length:=by omega
    have cd:=aaR ncs
    rw [hrest] at cd
    have ec:cs[n]=c:=(List.cons.inj cd).1.symm
    have erest:cs.drop (n+1)=rest:=(List.cons.inj cd).2.symm
    have cg:cs.getD n (0,1)=c:=by rw [aab,aaa ncs,ec];rfl
    obtain ⟨hc,c0v⟩:=hcs c (by rw [←ec];exact aay ncs)
    have hi:rows[n]? =some rows[n]:=aaa il
    generalize hr0:rows[n]=r at *
    have rm:r∈rows:=aag hi
    have ro:=(fl.pl.row r rm).1
    have wider:∀m:Nat,6 * n≤m→m≤6 * (n+1)→∀tl':List Fr,(∀t∈tl',Nb (B * Ec) ((m:Nat) * C) t∧0≤val t)→∀t∈tl',Nb (B * Ec) ((6 * (n+1):Nat) * C) t∧0≤val t:=fun m h1 h2 tl' ht t htt=>⟨lU (ht t htt).1 (aaj (by omega) c0),(ht t htt).2⟩
    refine ⟨⟨_,_, .inl rfl,rfl⟩,share,rows,n,r,rfl,hi, ?_⟩
    have hk':∀tl':List Fr,(M++[MO.lst (tl'.map frD)])[k]? =some (dP acc):=fun tl'=>bM hk
    have rd:∀(tl':List Fr) (j:Nat),j < tl'.length→∀q:DQ,q (frD (tl'.getD j (0,1))) (M++[MO.lst (tl'.map frD)])→fIx (.loc M.length) (.int (j:Int)) (M++[MO.lst (tl'.map frD)]) q:=fun tl' j hj q hq=>by
     refine ax (d:= .loc M.length) (iD bo) (Bj hj) ?_
     rwa [aab,aaa hj] at hq
    have gm:∀(tl':List Fr) (j:Nat),j < tl'.length→tl'.getD j (0,1)∈tl':=fun tl' j hj=>by rw [aab,aaa hj];exact aay _
    refine ⟨fun z=> ?_,fun z=> ?_⟩
    ·have hcB:Nb (B * Ec) C c:=by rw [aaE];exact nU B hc
     walk_at "vc"
     dsimp only [kF]
     walk_at "vc"
     refine rd tl n (by omega) _ ?_
     refine ⟨tl.getD n (0,1),c,2600,2600,rfl,(htl _ (gm tl n (by omega))).1.sz,hc.sz,by decide, ?_⟩
     refine ⟨M.length,(n:Int),_,n,rfl,rfl,bo,by rw [aac];exact kN (by omega), ?_⟩
     rw [dN,show ((tl.map frD).set n (frD (bf (tl.getD n (0,1)) c)))=(tl.set n (bf (tl.getD n (0,1)) c)).map frD by rw [List.map_set]]
     obtain ⟨ht1,ht2⟩:=htl _ (gm tl n (by omega))
     have vp:=cN ht1.pos hc.pos
     refine nxt _ _ ⟨n+1,rest,_,_,_,_,rfl,by omega,erest,by rw [abt];exact tll, ?_,fun f=> ?_,rfl,rfl⟩
     ·exact wider (6 * n+1) (by omega) (by omega) _ (wJ (fun t ht=>⟨lU (htl t ht).1 (Int.mul_le_mul_of_nonneg_right (by omega) c0),(htl t ht).2⟩) ⟨add (6 * n) _ _ (by omega) ht1 hcB,by rw [vp];grind⟩)
     ·have ep:Pf rows acc f n=f n:=by
       unfold Pf
       rw [hi]
       cases r with
       | fin p=>rfl
       | doors k' ds=>exact absurd (of_decide_eq_true z) ro.1
      rw [qW tll il,hf f,fA,cg,ep,vp];grind
    ·have hne:kindOf r≠"end":=of_decide_eq_false z
     obtain ⟨w6,wok⟩:=Ak fl dk hi hne
     dsimp only [x6,iP,dFz]
     walk_at "vc"
     refine ⟨share,rows,n,r,k,acc,rfl,hk' tl,hi,ro,dk,wH (fb _) ?_⟩
     refine cQ (fun xs ρ M'=>∃(don ws:List DrG) (m:Nat) (tl:List Fr) (o6:Option Dt),xs=ws.map drG∧aN acc n r=don++ws∧m+ws.length≤6∧(∀w∈ws,D1 rows B w)∧tl.length=rows.length∧(∀t∈tl,Nb (B * Ec) ((6 * n+m:Nat) * C) t∧0≤val t)∧(∀f,xM tl f rows.length=gL (fun i=>val (cs.getD i (0,1)) * Pf rows acc f i) n+val c * bI (fun d=>cV d * f d.1.toNat) don)∧M'=M++[.lst (tl.map frD)]∧ρ=[some (aP Co share rows),some (.loc k),some (.lst (cs.map frD)),some (.loc M.length),some (.int (n:Int)),some (frD c),o6]) (fun xs ρ M' hj=>trivial) (fun x xs ρ M' hj nxt2=> ?_) (fun ρ M' hj=> ?_) _ _ _ ⟨[],aN acc n r,0,tl,o6,rfl,rfl,by omega,wok,tll,htl,fun f=>by rw [hf f];show _=_+val c * 0;grind,rfl,rfl⟩
     ·obtain ⟨don,ws,m,tl,o6,ex,ew,ml,hws,tll,htl,hf,rfl,rfl⟩:=hj
      cases ws with
      | nil=>cases ex
      | cons v ws=>
       cases ex
       rw [aas] at ml
       obtain ⟨t,ch,et,tlt,ech,hch⟩:=(hws v aae).ex
       have i2:∀(M:Ms) (q:DQ),q (frD ch) M→fIx (drG v) (.int 2) M q:=fun M q hq=>ax (xs:= .int v.1::frD v.2.1::v.2.2.map frD) rfl (aI (j:=2) (by rw [ech];rfl)) hq
       have tv:Nb (B * Ec) C (aG c ch):=by rw [sT];exact i4 hch.pos hch.he hch.u hc (by have:=bd 1 (by decide);rwa [Int.natCast_one,Int.one_mul] at this)
       walk_at "vc"
       dsimp only [kF]
       walk_at "vc"
       refine ud ?_
       rw [et]
       refine rd tl t (by omega) _ ?_
       refine i2 _ _ ?_
       refine ⟨c,ch,2600,300,rfl,hc.sz,hch.sz,by decide, ?_⟩
       refine ⟨tl.getD t (0,1),aG c ch,2600,2600,rfl,(htl _ (gm tl t (by omega))).1.sz,tv.sz,by decide, ?_⟩
       refine ud ?_
       rw [et]
       refine ⟨M.length,(t:Int),_,t,rfl,rfl,bo,by rw [aac];exact kN (by omega), ?_⟩
       rw [dN,show ((tl.map frD).set t (frD (bf (tl.getD t (0,1)) (aG c ch))))=(tl.set t (bf (tl.getD t (0,1)) (aG c ch))).map frD by rw [List.map_set]]
       obtain ⟨ht1,ht2⟩:=htl _ (gm tl t (by omega))
       have vp:=cN ht1.pos tv.pos
       have vt:=cv hc.pos hch.pos
       have echo:ai v=ch:=by unfold ai;rw [ech];rfl
       have chv:0≤val ch:=eB hch.pos hch.u.1
       have tn:0≤val c * val ch:=Rat.mul_nonneg c0v chv
       refine nxt2 _ _ ⟨don++[v],ws,m+1,_,_,rfl,by rw [ew];simp,by omega,fun w hw=>hws w (List.mem_cons_of_mem _ hw),by rw [List.length_set];exact tll, ?_,fun f=> ?_,rfl,rfl⟩
       ·exact wJ (fun t ht=>⟨lU (htl t ht).1 (Int.mul_le_mul_of_nonneg_right (by omega) c0),(htl t ht).2⟩) ⟨add (6 * n+m) _ _ (by omega) ht1 tv,by rw [vp,vt];grind⟩
       ·rw [qW tll tlt,hf f,vp,vt,rV]
        have e1:bI (fun d=>cV d * f d.1.toNat) [v]=val ch * f t:=by
         show cV v * f v.1.toNat+0=_
         rw [et,Int.toNat_natCast,show cV v=val ch from congrArg val echo];grind
        rw [e1];grind
     ·obtain ⟨don,ws,m,tl,o6,ex,ew,ml,hws,tll,htl,hf,rfl,rfl⟩:=hj
      cases ws with
      | cons v ws=>cases ex
      | nil=>
       rw [aaT] at ew
       refine nxt _ _ ⟨n+1,rest,tl,_,_,_,rfl,by omega,erest,tll,wider (6 * n+m) (by omega) (by omega) _ htl,fun f=> ?_,rfl,rfl⟩
       have ep:Pf rows acc f n=bI (fun d=>cV d * f d.1.toNat) (aN acc n r):=by
        unfold Pf
        rw [hi]
        cases r with
        | fin p=>exact absurd rfl hne
        | doors k' ds=>rfl
       rw [hf f,fA,cg,ep,ew]
  ·obtain ⟨n,rest,tl,o4,o5,o6,ex,nl,hrest,tll,htl,hf,rfl,rfl⟩:=hj
   cases rest with
   | cons c rest=>cases ex
   | nil=>
    have nl:n+0=rows.length:=nl
    have en:n=rows.length:=by omega
    exact h tl tll (fun t ht=>⟨lU (htl t ht).1 (aaj (by omega) c0),(htl t ht).2⟩) (by rw [←en] at hf⊢;exact hf)
  ·rw [List.eq_of_mem_replicate ht]
   refine ⟨?_,by show (0:Rat)≤((0:Int):Rat) / ((1:Int):Rat);grind⟩
   show Nb (B * Ec) ((6 * 0:Nat) * C) (0,1)
   rw [show ((6 * 0:Nat):Int) * C=0 by simp]
   exact zI
def ef(share:Fr)(rows:List Rw)(acc:Pl):Nat→List Fr
 | 0=>cG rows
 | t+1=>cX share rows acc (ef share rows acc t)
theorem gX{b:Int}{m n:Nat}(hb:1≤b)(hmn:m≤n):b ^ m≤b ^ n:=by
 obtain ⟨c,rfl⟩:=Nat.exists_eq_add_of_le hmn
 rw [Int.pow_add]
 have p:0 < b ^ c:=abA (by omega)
 have q:0≤b ^ m:=abj (by omega)
 have:=aar (show 1≤b ^ c by omega) q
 omega
section
variable{share:Fr}{rows:List Rw}{E B F C:Int}{tb:List Fr}{acc:Pl}
theorem A2(fl:Fl share rows E B)(g:Gr F C)(ht:Tb rows (E * F) C tb)(dk:ji rows acc):Tb rows (E * (F * (share.2 * B))) (6 * (10 ^ 30+C)) (cX share rows acc tb):=by
 have c0:=g.c0
 refine ⟨by unfold cX;simp,fun t ht'=> ?_⟩
 unfold cX at ht'
 obtain ⟨i,hi,rfl⟩:=aal.mp ht'
 have il:=abB.mp hi
 have hi:rows[i]? =some rows[i]:=aaa il
 rw [hi]
 generalize rows[i]=r at *
 have rm:r∈rows:=aag hi
 dsimp only
 cases hh:aB (kindOf r) with
 | true=>
  obtain ⟨j,hj,jl⟩:=dk.hand i r hi hh
  rw [hj]
  cases r with
  | fin p=>exact absurd jl (abb _)
  | doors k ds=>
   have jl:j < ds.length:=jl
   have gd:ds.getD j d0=ds[j]:=by rw [aab,aaa jl];rfl
   show Nb _ _ (aO share tb (ds.getD ((j:Int)).toNat d0))
   rw [abg,gd]
   have:=nU B (iW fl g ht rm (aay jl))
   rw [show E * F * share.2 * B=E * (F * (share.2 * B)) by grind] at this
   exact lU this (by omega)
 | false=>
  rw [dk.oth i r hi hh]
  refine A4 fl g ht rm ?_
  cases r with
  | fin p=>exact .inr rfl
  | doors k' ds=>
   rcases (aQ fl.pl rm).kd with z | ⟨_,z,_⟩
   ·have hh:aB k'=false:=hh
    rw [z] at hh;cases hh
   ·exact .inl z
theorem yL(fl:Fl share rows E B):Tb rows (E * 1) (10 ^ 30) (cG rows):=by
 refine ⟨by unfold cG;simp,fun t ht=> ?_⟩
 unfold cG at ht
 obtain ⟨r,hr,rfl⟩:=aal.mp ht
 rw [Int.mul_one]
 cases r with
 | fin p=>exact fl.fin p hr
 | doors k ds=>exact lU zI (by decide)
end
structure ChT(rows:List Rw)(acc:Pl)(pl t:Nat)(E C:Int)(cs:List Fr):Prop where
 len:cs.length=rows.length
 nb:∀c∈cs,Nb E C c∧0≤val c
 sum:∀f,xM cs f rows.length=PfT rows acc t f pl
def D7(A:Addr):DF:=fun as M q _=>∃(share:Fr) (rows:List Rw) (k1 k2:Nat) (p1 p2:Pl) (pl tn:Nat) (E B:Int),as=[aP A share rows, .loc k1, .loc k2, .int (pl:Nat), .int (tn:Nat)]∧M[k1]? =some (dP p1)∧M[k2]? =some (dP p2)∧pl < rows.length∧tn≤12∧Fl share rows E B∧(share.2 * B) ^ 12 < 2 ^ 1400∧(∀i,i < rows.length→cF rows p1 p2 i=true)∧
 ∀(E':Ms) (cs:List Fr) (Ft C Ec Cc:Int),Tb rows (E * Ft) C (ef share rows (fY rows p1 p2 rows.length) tn)→0 < Ft→Ft < 2 ^ 1400→0≤C→C < 2 ^ 230→ChT rows (fY rows p1 p2 rows.length) pl tn Ec Cc cs→0 < Ec→Ec < 2 ^ 1400→0≤Cc→Cc < 2 ^ 130→q (.tup [frD ((ef share rows (fY rows p1 p2 rows.length) tn).getD pl (0,1)), .lst (cs.map frD)]) (M++E')
theorem eP:ar ["floor","plan_one","plan_other","place","turns","doors","means","chances","turn"] ["floor","plan_one","plan_other","place","turns"] (ag jx):=⟨rfl,rfl,rfl,by decide+kernel,rfl,by decide+kernel,by decide+kernel⟩
theorem vE{f:Addr}{fd:FuncData}(F:Fun K "mean_of" "mean_of" jx f fd)(E:Ev K mg Co CF CN){fDoorsOf:Addr}{dDoorsOf:FuncData}(c_DoorsOf:bx P w K mg base 4 "doors_of" ["floor","plans"] (mO Co) fDoorsOf dDoorsOf){fFirstMeans:Addr}{dFirstMeans:FuncData}(c_FirstMeans:bx P w K mg base 3 "first_means" ["floor"] (Ag Co) fFirstMeans dFirstMeans){fFloorSize:Addr}{dFloorSize:FuncData}(c_FloorSize:fj P w K mg base 1 Co "size" ["self"] (oQ Co) fFloorSize dFloorSize){fMoreMeans:Addr}{dMoreMeans:FuncData}(c_MoreMeans:bx P w K mg base 7 "more_means" ["floor","doors","means"] (D6 Co) fMoreMeans dMoreMeans){fChancesNext:Addr}{dChancesNext:FuncData}(c_ChancesNext:bx P w K mg base 4 "chances_next" ["floor","doors","chances"] (D5 Co) fChancesNext dChancesNext):bA P w K mg base (CX1 P w) 8 f fd ["floor","plan_one","plan_other","place","turns"] (spD K (D7 Co)):=by
 refine F.okD eP (fun ds M q x h=> ?_) (fun cdv A outer s H E' hr=>⟨_,(ae (aq (i:=5) eP.nd rfl (Or.inl rfl) (aV c_DoorsOf hr aj (aa (jv 0) (aa (qv (jv 1) (jv 2)) af) (hs:=ak))))
   (ae (aq (i:=6) eP.nd rfl (Or.inl rfl) (aV c_FirstMeans hr aj (aa (jv 0) af (hs:=ak))))
   (ae (kL (i:=7) eP.nd rfl (Or.inl rfl) (ys:=["place"]) (caps:=[3]) ⟨rfl,by decide+kernel,by decide+kernel,rfl,(by show∀p:Str×NameKind,p∈_→p.2=NameKind.free→List.lookup p.1 (ag jx).names=some .cell;decide+kernel),by decide+kernel,(by show∀q:Str×Nat,q∈_→(["floor","plan_one","plan_other","place","turns","doors","means","chances","turn"]:List Str)[q.2]? =some q.1∧List.lookup q.1 (ag jx).names=some .cell∧_;decide+kernel),rfl⟩ (bq E.n_range (aa (eY c_FloorSize hr aj (jv 0)) af (hs:=aU))) (fun C s H fp=>(yA (eg hr (jv 0) (jv 1)) (cJ (aa aw (aa aw af (hs:=bB)) (hs:=bB))) (cJ (aa aw (aa aw af (hs:=bB)) (hs:=bB))))))
   (ae (fg (bq E.n_range (aa (jv 4) af (hs:=ak))) (aJ (i:=8) eP.nd rfl (Or.inl rfl)) bJ (ae (aq (i:=6) eP.nd rfl (Or.inl rfl) (eh (aV c_MoreMeans hr aj (aa (jv 0) (aa (jv 5) (aa (jv 6) af (hs:=ak)) (hs:=ak)) (hs:=ak)))))
   (ah (aq (i:=7) eP.nd rfl (Or.inl rfl) (eh (aV c_ChancesNext hr aj (aa (jv 0) (aa (jv 5) (aa (jv 7) af (hs:=ak)) (hs:=ak)) (hs:=ak))))))))
   (ah (au (cJ (aa (aD (jv 6) (jv 3)) (aa (jv 7) af (hs:=ak)) (hs:=aS))))))))),fun ds M q x h=> ?_⟩)
 ·obtain ⟨share,rows,k1,k2,p1,p2,pl,tn,E,B,rfl,_⟩:=h;rfl
 ·obtain ⟨share,rows,k1,k2,p1,p2,pl,tn,Ep,B,rfl,h1,h2,pll,tn12,fl,sb12,gd,hg⟩:=h
  have l12:=fl.pl.len
  have sz:∀{z:Nat},z≤1000→z≤sizeLine:=fun h=>aaz h (by decide)
  obtain ⟨s0,s1,su⟩:=dt fl.pl.sh
  have b0:=fl.b0
  have ro:∀r∈rows,fZ r:=fun r hr=>(fl.pl.row r hr).1
  refine ⟨share,rows,M.length,p1,p2,rfl,⟨k1,k2,bo,bM h1,bM h2⟩,fl.pl,gd, ?_⟩
  have dk:=yQ gd
  generalize hacc:fY rows p1 p2 rows.length=acc at *
  generalize hM1:M++[MO.dct [Sum.inr "one",Sum.inr "other"] [.loc k1, .loc k2]]=M1 at *
  refine ⟨share,rows,rfl,l12,ro, ?_⟩
  dsimp only [wZ]
  walk_at "vc"
  refine ⟨⟨_,_, .inl rfl,rfl⟩,share,rows,rfl, ?_⟩
  refine ⟨⟨by omega,by omega⟩,by rw [bR];exact sz (by omega), ?_⟩
  refine fH (f:=fun x=>match x with | .int j=>frD (if j=(pl:Int) then (1,1) else (0,1)) | _=> .non) _ _ (fun x hxm q' hq=> ?_) ?_
  ·obtain ⟨j,hj,rfl⟩:=gU hxm
   rw [Int.zero_add] at hq⊢
   have hq:q' (frD (if (j:Int)=(pl:Int) then (1,1) else (0,1))) _:=hq
   refine ⟨fun z=> ?_,fun z=> ?_⟩
   ·have z:(j:Int)=(pl:Int):=of_decide_eq_true z
    rw [if_pos z] at hq
    exact ⟨sz (by decide),hq⟩
   ·have z:¬(j:Int)=(pl:Int):=of_decide_eq_false z
    rw [if_neg z] at hq
    exact ⟨sz (by decide),hq⟩
  obtain ⟨cs,hcs⟩:∃cs:List Fr,cs=(List.range rows.length).map fun j:Nat=>if (j:Int)=(pl:Int) then ((1,1):Fr) else (0,1):=⟨_,rfl⟩
  have er:∀g:Dt→Dt,(∀c:Nat,g (.int (0+(c:Int)))=frD (if (c:Int)=(pl:Int) then ((1,1):Fr) else (0,1)))→(fW 0 ((rows.length:Int)).toNat).map g=cs.map frD:=fun g hg=>by
   rw [show ((rows.length:Int)).toNat=rows.length by omega,hcs]
   unfold fW
   rw [aaC,aaC]
   exact aa8 fun c hc=>hg c
  rw [aaI,er _ fun c=>by show frD (if (0+(c:Int))=(pl:Int) then (1,1) else (0,1))=_;rw [Int.zero_add]]
  have v1:val ((1,1):Fr)=1:=by show ((1:Int):Rat) / ((1:Int):Rat)=1;grind
  have v0:val ((0,1):Fr)=0:=by show ((0:Int):Rat) / ((1:Int):Rat)=0;grind
  have ct0:ChT rows acc pl 0 1 1 cs:=by
   refine ⟨by rw [hcs];simp,fun c hc=> ?_,fun f=> ?_⟩
   ·rw [hcs] at hc
    obtain ⟨j,_,rfl⟩:=aal.mp hc
    split
    ·exact ⟨⟨by decide,⟨1,by decide⟩,⟨by decide,by decide⟩,dM (k:=2) ⟨by decide,by decide,by decide⟩ (by decide)⟩,by rw [v1];grind⟩
    ·exact ⟨lU zI (by decide),by rw [v0];grind⟩
   ·show xM cs f rows.length=f pl
    unfold xM
    rw [bQ (g:=fun x=>(if x=pl then 1 else 0) * f x) fun x hx=>by
     rw [hcs,aab,aaf,aaB hx]
     show val (if (x:Int)=(pl:Int) then ((1,1):Fr) else (0,1)) * f x=_
     by_cases e:x=pl
     ·rw [if_pos (by omega),if_pos e,v1]
     ·rw [if_neg (by omega),if_neg e,v0]]
    exact gT f pll
  clear er hcs
  refine ⟨by omega, ?_⟩
  rw [show ((tn:Int)).toNat=tn by omega]
  have sb1:1≤share.2 * B:=by have:=aaq s0 b0;omega
  have sbi:∀i,i≤12→(share.2 * B) ^ i < 2 ^ 1400:=fun i hi=>aan (gX sb1 hi) sb12
  have bi:∀i,i≤12→B ^ i < 2 ^ 1400:=fun i hi=>by
   refine aan ?_ (sbi i hi)
   rw [Int.mul_pow]
   have a:0≤B ^ i:=abj (by omega)
   have b:0 < share.2 ^ i:=abA s0
   have:=aaj (show 1≤share.2 ^ i by omega) a
   omega
  refine bU (fun zs ρ' M'=>∃(i m:Nat) (cs:List Fr) (C Cc:Int) (o8:Option Dt),zs=fW (i:Int) m∧i+m=tn∧M'=M1++[dP acc]∧Tb rows (Ep * (share.2 * B) ^ i) C (ef share rows acc i)∧0≤C∧C≤2 ^ (100+10 * i)∧ChT rows acc pl i (B ^ i) Cc cs∧0≤Cc∧Cc≤2 ^ (10 * i)∧ρ'=[some (aP Co share rows),some (.loc k1),some (.loc k2),some (.int (pl:Int)),some (.int (tn:Int)),some (.loc M1.length),some (.lst ((ef share rows acc i).map frD)),some (.lst (cs.map frD)),o8]) (fun x zs ρ' M' hj nxt=> ?_) (fun ρ' M' hj=> ?_) _ _ _ ⟨0,tn,cs,10 ^ 30,1,none,rfl,by omega,rfl,by rw [aa3];exact yL fl,by decide,by decide,by rw [aa3];exact ct0,by decide,by decide,rfl⟩
  ·obtain ⟨i,m,cs,C,Cc,o8,ex,im,rfl,ht,c0,c1,ct,cc0,cc1,rfl⟩:=hj
   obtain ⟨m',rfl,rfl,rfl⟩:=bC ex
   have i11:i≤11:=by omega
   have p1:∀{a b:Nat},a≤b→(2:Int) ^ a≤2 ^ b:=fun {a b} h=>gX (by decide) h
   have f0:0 < (share.2 * B) ^ i:=abA (by omega)
   have e0:0 < B ^ i:=abA b0
   have g:Gr ((share.2 * B) ^ i) C:=⟨f0,abE (sbi i (by omega)) (by decide),c0,aan c1 (aan (p1 (show 100+10 * i≤230 by omega)) (by decide))⟩
   refine ⟨share,rows,M1.length,acc,ef share rows acc i,Ep,B,(share.2 * B) ^ i,C,rfl,bo,dk,fl,g,ht,dY (mF _) ?_⟩
   refine ⟨share,rows,M1.length,acc,cs,Ep,B,B ^ i,Cc,rfl,bo,dk,fl,ct.len,ct.nb,e0,abE (bi i (by omega)) (by decide),cc0,aan cc1 (aan (p1 (show 10 * i≤120 by omega)) (by decide)),fun cs' cl' cn' cf'=>dY (mF _) ?_⟩
   refine nxt _ _ ⟨i+1,m',cs',6 * (10 ^ 30+C),100 * Cc,_,by rw [aa6];rfl,by omega,rfl, ?_,by omega, ?_, ?_,by omega, ?_,rfl⟩
   ·have:=A2 fl g ht dk
    rw [aaP];exact this
   ·have e:(2:Int) ^ (100+10 * (i+1))=2 ^ (100+10 * i) * 1024:=by
     rw [show 100+10 * (i+1)=100+10 * i+10 by omega,Int.pow_add];rfl
    have x:(2:Int) ^ 100≤2 ^ (100+10 * i):=p1 (by omega)
    rw [e]
    generalize (2:Int) ^ (100+10 * i)=X at *
    omega
   ·refine ⟨cl',fun c hc=> ?_,fun f=> ?_⟩
    ·have:=cn' c hc
     rw [aaP,aaE];exact this
    ·rw [cf' f]
     show gL (fun j=>val (cs.getD j (0,1)) * Pf rows acc f j) rows.length=PfT rows acc i (Pf rows acc f) pl
     rw [←ct.sum (Pf rows acc f)];rfl
   ·have e:(2:Int) ^ (10 * (i+1))=2 ^ (10 * i) * 1024:=by
     rw [show 10 * (i+1)=10 * i+10 by omega,Int.pow_add];rfl
    rw [e]
    generalize (2:Int) ^ (10 * i)=X at *
    omega
  ·obtain ⟨i,m,cs,C,Cc,o8,ex,im,rfl,ht,c0,c1,ct,cc0,cc1,rfl⟩:=hj
   have m0:m=0:=by
    have:=congrArg List.length ex
    rw [bR] at this;exact this.symm
   have ei:i=tn:=by omega
   subst ei
   have p1:∀{a b:Nat},a≤b→(2:Int) ^ a≤2 ^ b:=fun {a b} h=>gX (by decide) h
   have tl:pl < (ef share rows acc i).length:=by rw [ht.len];exact pll
   walk_at "vc"
   refine (ax (d:= .lst ((ef share rows acc i).map frD)) rfl (Bj tl) ?_:fIx (.lst ((ef share rows acc i).map frD)) (.int (pl:Int)) _ _)
   refine ⟨sz (by decide), ?_⟩
   rw [←hM1,List.append_assoc]
   have:=hg ([MO.dct [Sum.inr "one",Sum.inr "other"] [.loc k1, .loc k2]]++[dP acc]) cs _ C _ Cc ht (abA (by omega)) (sbi i tn12) c0 (aan c1 (aan (p1 (show 100+10 * i≤220 by omega)) (by decide))) ct (abA b0) (bi i tn12) cc0 (aan cc1 (aan (p1 (show 10 * i≤120 by omega)) (by decide)))
   rw [aab,aaa tl] at this
   exact this
def nth(ns:List Int)(k:Int):Int:=ns.getD k.toNat 0
theorem vK{ns:List Int}{k:Int}(h0:0≤k)(h2:k < ns.length):atI (ns.map Dt.int) k=some (.int (nth ns k)):=by
 have e:(ns.map Dt.int)[k.toNat]? =some (.int (nth ns k)):=by
  rw [aaf,aaa (show k.toNat < ns.length by omega)]
  unfold nth
  rw [aab,aaa (show k.toNat < ns.length by omega)]
  rfl
 have:=aI e
 rwa [show ((k.toNat:Nat):Int)=k by omega] at this
theorem AY{ns:List Int}{k:Int}(h:¬k < ns.length):nth ns k=0:=by
 unfold nth
 rw [aab,List.getElem?_eq_none (by omega)]
 rfl
def El(ns:List Int)(k:Int):Bool:=decide (k < ns.length)&&(decide (nth ns k < 0) || decide (nth ns k ≥ 10 ^ 18))
theorem A1{ns:List Int}{k:Int}(h:El ns k=false):0≤nth ns k∧nth ns k < 10 ^ 18:=by
 unfold El at h
 by_cases hk:k < ns.length
 ·rw [decide_eq_true hk,Bool.true_and,Bool.or_eq_false_iff,decide_eq_false_iff_not,decide_eq_false_iff_not] at h
  omega
 ·rw [AY hk];exact ⟨by decide,by decide⟩
theorem p18:y8 10 18:=⟨by decide,by decide,by decide⟩
theorem p64:y8 10 64:=⟨by decide,by decide,by decide⟩
theorem p8:y8 10 8:=⟨by decide,by decide,by decide⟩
theorem p6:y8 10 6:=⟨by decide,by decide,by decide⟩
theorem p22:y8 10 22:=⟨by decide,by decide,by decide⟩
theorem p30:y8 10 30:=⟨by decide,by decide,by decide⟩
def Nm(n:Int):Prop:=0≤n∧n < 10 ^ 128
theorem zH{n:Int}(h:Nm n):Big n:=BP (k:=440) h.1 (abm h.2 (by decide)) (by decide)
theorem nR{a m:Int}(h0:0 < m)(h1:m≤10 ^ 128):Nm (a % m):=⟨aaV _ (by omega),abm (aaQ _ h0) h1⟩
theorem zG{a m:Int}(h:Nm a)(h0:0 < m):Nm (a / m):=⟨Int.ediv_nonneg h.1 (by omega),aan (Int.ediv_le_self _ h.1) h.2⟩
def Ga:DF:=fun as M q _=>∃(ns:List Int) (k:Int),as=[.scr ns, .int k]∧0≤k∧q (.bl (El ns k)) M
theorem x5:ar ["_law_script","_law_k"] ["_law_script","_law_k"] (ag pI):=⟨rfl,rfl,rfl,by decide+kernel,rfl,by decide+kernel,by decide+kernel⟩
theorem vH{f:Addr}{fd:FuncData}(F:Fun K "_law_far" "_law_far" pI f fd)(E:Ev K mg Co CF CN):bA P w K mg base (CX1 P w) 1 f fd ["_law_script","_law_k"] (spD K Ga):=by
 refine F.okD x5 (fun ds M q x h=> ?_) (fun cdv A outer s H E' hr=>⟨_,(ah (au (gf (BK (jv 1) (dE E.n_len (aa (jv 0) af (hs:=ak)))) (iI (Ff (BK (aD (jv 0) (jv 1)) aw) (iI (HF (aD (jv 0) (jv 1)) (oh aw aw)))))))),fun ds M q x h=> ?_⟩)
 ·obtain ⟨ns,k,rfl,_⟩:=h;rfl
 ·obtain ⟨ns,k,rfl,hk,h⟩:=h
  unfold El at h
  walk_at "vc"
  refine (aL (d:= .scr ns) (xs:=ns.map .int) rfl ?_:j6 [.scr ns] M _)
  rw [aac]
  refine ⟨fun h1=> ?_,fun h1=> ?_⟩
  ·have h1:decide (k < ns.length)=true:=h1
   have h1':k < ns.length:=of_decide_eq_true h1
   rw [h1,Bool.true_and] at h
   refine (ax (d:= .scr ns) rfl (vK hk h1') ?_:fIx (.scr ns) (.int k) M _)
   refine ⟨fun h2=> ?_,fun h2=> ?_⟩
   ·have h2:decide (nth ns k < 0)=true:=h2
    rw [h2,Bool.true_or] at h
    exact h
   ·have h2:decide (nth ns k < 0)=false:=h2
    rw [h2,Bool.false_or] at h
    refine (ax (d:= .scr ns) rfl (vK hk h1') ?_:fIx (.scr ns) (.int k) M _)
    exact ⟨p18,h⟩
  ·have h1:decide (k < ns.length)=false:=h1
   rw [h1,Bool.false_and] at h
   exact h
def Ac:DF:=fun as M q _=>∃(ns:List Int) (k:Int),as=[.scr ns, .int k]∧0≤k∧k≤200∧∀n,Nm n→q (.int n) M
theorem zF(x:Int)(h0:0≤x)(h1:x < 2147483647):Big x∧Big (x % 65521+30011):=⟨bg (k:=40) (by omega),bg (k:=40) (by omega)⟩
theorem CY{k:Int}(h0:0≤k)(h1:k≤200):Big ((k+1) * (k+1)):=by
 have a:=abr (show k+1≤201 by omega) (show k+1≤201 by omega) (show 0≤k+1 by omega) (show (0:Int)≤201 by decide)
 have b:0≤(k+1) * (k+1):=aaM (by omega) (by omega)
 exact bg (k:=40) (by omega)
theorem gs:ar ["_law_script","_law_k","_law_cell","_law_number_here"] ["_law_script","_law_k"] (ag ia):=⟨rfl,rfl,rfl,by decide+kernel,rfl,by decide+kernel,by decide+kernel⟩
theorem nG{f:Addr}{fd:FuncData}(F:Fun K "_law_number" "_law_number" ia f fd)(E:Ev K mg Co CF CN){fLawFar:Addr}{dLawFar:FuncData}(c_LawFar:bx P w K mg base 1 "_law_far" ["_law_script","_law_k"] Ga fLawFar dLawFar):bA P w K mg base (CX1 P w) 2 f fd ["_law_script","_law_k"] (spD K Ac):=by
 refine F.okD gs (fun ds M q x h=> ?_) (fun cdv A outer s H E' hr=>⟨_,(ae (aq (i:=2) gs.nd rfl (Or.inl rfl) (yA (qp (jv 1) (dE E.n_len (aa (jv 0) af (hs:=ak)))) (aD (jv 0) (jv 1)) aw))
   (ae (bc (eG (aV c_LawFar hr aj (aa (jv 0) (aa (jv 1) af (hs:=ak)) (hs:=ak)))) (ah (au (cY (jv 2) (oh aw aw)))) aA)
   (ae (aq (i:=3) gs.nd rfl (Or.inl rfl) (cY (dc (bW (jv 2) aw) (bW (bW (dc (jv 1) aw) (dc (jv 1) aw)) aw)) aw))
   (ah (au (cY (dc (bW (jv 3) (dc (cY (jv 3) aw) aw)) (bW (dc (jv 1) aw) aw)) aw)))))),fun ds M q x h=> ?_⟩)
 ·obtain ⟨ns,k,rfl,_⟩:=h;rfl
 ·obtain ⟨ns,k,rfl,hk,k2,h⟩:=h
  have bk:=CY hk k2
  have b1:Big (k+1):=bg (k:=40) (by omega)
  have b3:Big (k+3):=bg (k:=40) (by omega)
  have cc:∀n:Int,n.natAbs < 2 ^ 20→Big n:=fun n hn=>bg hn
  walk_at "vc"
  refine (aL (d:= .scr ns) (xs:=ns.map .int) rfl ?_:j6 [.scr ns] M _)
  rw [aac]
  refine ⟨fun h1=> ?_,fun h1=> ?_⟩
  ·have h1':k < ns.length:=of_decide_eq_true h1
   refine (ax (d:= .scr ns) rfl (vK hk h1') ?_:fIx (.scr ns) (.int k) M _)
   refine ⟨ns,k,rfl,hk,fun h2=> ?_,fun h2=> ?_⟩
   ·exact ⟨p64,by decide,h _ (nR (by decide) (by decide))⟩
   ·obtain ⟨c0,c1⟩:=A1 h2
    refine ⟨⟨bg (k:=64) (by omega),cc _ (by decide)⟩,⟨b1,b1⟩,⟨bk,cc _ (by decide)⟩,by decide, ?_⟩
    exact ⟨by decide,zF _ (aaV _ (by decide)) (aaQ _ (by decide)),⟨b3,cc _ (by decide)⟩,by decide,h _ (nR (by decide) (by decide))⟩
  ·have h1':¬k < ns.length:=of_decide_eq_false h1
   refine ⟨ns,k,rfl,hk,fun h2=> ?_,fun h2=> ?_⟩
   ·exact ⟨p64,by decide,h _ (nR (by decide) (by decide))⟩
   ·refine ⟨⟨cc _ (by decide),cc _ (by decide)⟩,⟨b1,b1⟩,⟨bk,cc _ (by decide)⟩,by decide, ?_⟩
    exact ⟨by decide,zF _ (aaV _ (by decide)) (aaQ _ (by decide)),⟨b3,cc _ (by decide)⟩,by decide,h _ (nR (by decide) (by decide))⟩
theorem ni:ar ["_law_script","_law_k","_law_number_here"] ["_law_script","_law_k"] (ag lA):=⟨rfl,rfl,rfl,by decide+kernel,rfl,by decide+kernel,by decide+kernel⟩
theorem tH{f:Addr}{fd:FuncData}(F:Fun K "_law_rest" "_law_rest" lA f fd)(E:Ev K mg Co CF CN){fLawNumber:Addr}{dLawNumber:FuncData}(c_LawNumber:bx P w K mg base 2 "_law_number" ["_law_script","_law_k"] Ac fLawNumber dLawNumber){fLawFar:Addr}{dLawFar:FuncData}(c_LawFar:bx P w K mg base 1 "_law_far" ["_law_script","_law_k"] Ga fLawFar dLawFar):bA P w K mg base (CX1 P w) 3 f fd ["_law_script","_law_k"] (spD K Ac):=by
 refine F.okD ni (fun ds M q x h=> ?_) (fun cdv A outer s H E' hr=>⟨_,(ae (aq (i:=2) ni.nd rfl (Or.inl rfl) (aV c_LawNumber hr aj (aa (jv 0) (aa (jv 1) af (hs:=ak)) (hs:=ak))))
   (ae (bc (eG (aV c_LawFar hr aj (aa (jv 0) (aa (jv 1) af (hs:=ak)) (hs:=ak)))) (ah (au (fi (jv 2) (oh aw aw)))) aA)
   (ah (au (cY (bW (jv 2) aw) aw))))),fun ds M q x h=> ?_⟩)
 ·obtain ⟨ns,k,rfl,_⟩:=h;rfl
 ·obtain ⟨ns,k,rfl,hk,k2,h⟩:=h
  refine ⟨ns,k,rfl,hk,k2,fun n hn=> ?_⟩
  refine ⟨ns,k,rfl,hk,fun h2=> ?_,fun h2=> ?_⟩
  ·exact ⟨p8,⟨by decide,bg (k:=40) (by decide)⟩,h _ (zG hn (by decide))⟩
  ·exact ⟨⟨zH hn,bg (k:=20) (by decide)⟩,by decide,h _ (nR (by decide) (by decide))⟩
theorem E3{a b:Int}(h1: -(10 ^ 30)≤a)(h2:a≤10 ^ 30)(h3:b≤1000000):aX (a,b)=true:=by
 unfold aX
 have:(if a < 0 then -a else a)≤10 ^ 30:=by split <;> omega
 show (decide ((if a < 0 then -a else a)≤10 ^ 30)&&decide (b≤1000000))=true
 rw [decide_eq_true this,decide_eq_true h3];rfl
theorem vA{t b:Int}(h1: -(10 ^ 30)≤t)(h2:t≤10 ^ 30)(h0:0 < b)(h3:b≤1000000):aX (bK t b)=true:=by
 have l1:=mE (t:=t) (show b≠0 by omega)
 have l2:=hI (t:=t) (show b≠0 by omega)
 generalize bK t b=f at *
 obtain ⟨x,y⟩:=f
 have l1:x.natAbs≤t.natAbs:=l1
 have l2:y.natAbs≤b.natAbs:=l2
 exact E3 (by omega) (by omega) (by omega)
theorem sW{t b:Int}(t0:0≤t)(t1:t < b)(hb1:b≤1000):aW (bK t b)=true:=by
 have hb0:0 < b:=by omega
 have l2:=hI (t:=t) (show b≠0 by omega)
 have q0:=b6 (t:=t) (show b≠0 by omega)
 have hc:=bT (t:=t) (show b≠0 by omega)
 generalize bK t b=f at *
 obtain ⟨x,y⟩:=f
 have l2:y.natAbs≤b.natAbs:=l2
 have q0:0 < y:=q0
 have hc:t * y=b * x:=hc
 have x0:0≤x:=by
  rcases abP x 0 with z | z
  ·have:=abC hb0 z
   have:=aaM t0 (aah q0)
   omega
  ·exact z
 have x1:x < y:=by
  rcases abP x y with z | z
  ·exact z
  ·have h3:b * y≤b * x:=aar z (aah hb0)
   have h4:t * y < b * y:=Int.mul_lt_mul_of_pos_right t1 q0
   omega
 unfold aW
 show (decide (0≤x)&&(decide (x < y)&&decide (y≤1000)))=true
 rw [decide_eq_true x0,decide_eq_true x1,decide_eq_true (show y≤1000 by omega)];rfl
def BQ:DF:=fun as M q _=>∃t b:Int,as=[.int t, .int b]∧0 < b∧Big b∧q (frD (bK t b)) M
theorem eQ:ar ["_law_top","_law_bottom","_law_one","_law_other"] ["_law_top","_law_bottom"] (ag ic):=⟨rfl,rfl,rfl,by decide+kernel,rfl,by decide+kernel,by decide+kernel⟩
theorem nI{f:Addr}{fd:FuncData}(F:Fun K "_law_lowest" "_law_lowest" ic f fd)(E:Ev K mg Co CF CN):bA P w K mg base (CX1 P w) 1 f fd ["_law_top","_law_bottom"] (spD K BQ):=by
 refine F.okD eQ (fun ds M q x h=> ?_) (fun cdv A outer s H E' hr=>⟨_,(ae (aq (i:=2) eQ.nd rfl (Or.inl rfl) (qw E.n_abs (aa (jv 0) af (hs:=ak))))
   (ae (aq (i:=3) eQ.nd rfl (Or.inl rfl) (jv 1))
   (ae (rZ (mv hr (jv 3) aw) (ah (Dg (i:=2) (j:=3) eQ.nd rfl rfl (aa (jv 3) (aa (cY (jv 2) (jv 3)) af (hs:=bO)) (hs:=ak)))))
   (ah (au (cJ (aa (fi (jv 0) (jv 2)) (aa (fi (jv 1) (jv 2)) af (hs:=bO)) (hs:=bO)))))))),fun ds M q x h=> ?_⟩)
 ·obtain ⟨t,b,rfl,_⟩:=h;rfl
 ·obtain ⟨t,b,rfl,h0,h1,h⟩:=h
  have ga:g (if t < 0 then -t else t) b=g t b:=by
   have:=Du t b
   rwa [if_neg (show¬b < 0 by omega)] at this
  refine ⟨fun m ρ M'=>M'=M∧∃(x y:Int),ρ=[some (.int t),some (.int b),some (.int x),some (.int y)]∧0≤x∧0≤y∧g x y=g t b∧m=y.toNat,⟨_,rfl,_,_,rfl,by split <;> omega,by omega,ga,rfl⟩, ?_⟩
  rintro m ρ M' ⟨rfl,x,y,rfl,hx,hy,e,rfl⟩
  refine ⟨fun hb=> ?_,fun hb=> ?_⟩
  ·have hy0:y≠0:=by simpa using hb
   refine ⟨_,fun ρ' M2 h2=>h2, ?_⟩
   refine ⟨by omega,(x % y).toNat, ?_,rfl,y,x % y,rfl,hy,aaV _ hy0, ?_,rfl⟩
   ·have:=aaQ x (show 0 < y by omega)
    have:=aaV x hy0
    omega
   ·rw [←abv x hy,zS (by omega)];exact e
  ·have hy0:y=0:=by simpa using hb
   subst hy0
   rw [zR hx] at e
   subst e
   have hg:0 < g t b:=wG (by omega)
   have hle:g t b≤b:=abQ h0 (Int.gcd_dvd_right ..)
   have hb:Big (g t b):=aaO (show (g t b).natAbs≤b.natAbs by omega) h1
   have e:bK t b=(t / g t b,b / g t b):=by rw [Bi h0,abR _ (aah hg),abR _ (aah hg)]
   rw [e] at h
   exact ⟨⟨hg,hb⟩,⟨hg,hb⟩,(by show 2≤sizeLine;decide),h⟩
def BD:DF:=fun as M q _=>∃n:Int,as=[.int n]∧Nm n∧∀p,aX p=true→Red p→q (frD p) M
theorem x4:ar ["_law_number_here"] ["_law_number_here"] (ag pH):=⟨rfl,rfl,rfl,by decide+kernel,rfl,by decide+kernel,by decide+kernel⟩
theorem vG{f:Addr}{fd:FuncData}(F:Fun K "_law_pay" "_law_pay" pH f fd)(E:Ev K mg Co CF CN){fLawLowest:Addr}{dLawLowest:FuncData}(c_LawLowest:bx P w K mg base 1 "_law_lowest" ["_law_top","_law_bottom"] BQ fLawLowest dLawLowest):bA P w K mg base (CX1 P w) 2 f fd ["_law_number_here"] (spD K BD):=by
 refine F.okD x4 (fun ds M q x h=> ?_) (fun cdv A outer s H E' hr=>⟨_,(ae (bc (eg hr (cY (jv 0) aw) aw) (ah (au (aV c_LawLowest hr aj (aa (og (cY (bW (jv 0) (oh aw aw)) (dc (bW aw (oh aw aw)) aw)) (oh aw aw)) (aa (dc aw (cY (fi (jv 0) aw) (oh aw aw))) af (hs:=bO)) (hs:=bO))))) aA)
   (ah (au (aV c_LawLowest hr aj (aa (og (cY (fi (jv 0) aw) aw) aw) (aa (dc aw (cY (fi (jv 0) aw) aw)) af (hs:=bO)) (hs:=bO)))))),fun ds M q x h=> ?_⟩)
 ·obtain ⟨n,rfl,_⟩:=h;rfl
 ·obtain ⟨n,rfl,hn,h⟩:=h
  refine ⟨by decide,fun _=> ?_,fun _=> ?_⟩
  ·have hb6:0 < 1+n / 8 % 10 ^ (6:Int).toNat∧1+n / 8 % 10 ^ (6:Int).toNat≤1000000:=by
    show 0 < 1+n / 8 % 1000000∧1+n / 8 % 1000000≤1000000
    omega
   have hb7:Big (1+n / 8 % 10 ^ (6:Int).toNat):=BP (k:=20) (aah hb6.1) (aan hb6.2 (by decide)) (by decide)
   have b22:Big ((10:Int) ^ (22:Int).toNat):=bg (k:=110) (by decide)
   have b30:Big ((10:Int) ^ (30:Int).toNat):=bg (k:=110) (by decide)
   have m0:(0:Int) < 2 * 10 ^ (30:Int).toNat+1:=by decide
   have hm0:=aaV (n * 10 ^ (22:Int).toNat) (show (2 * 10 ^ (30:Int).toNat+1:Int)≠0 by decide)
   have hm1:=aaQ (n * 10 ^ (22:Int).toNat) m0
   refine ⟨p22,⟨zH hn,b22⟩,p30,⟨bg (k:=4) (by decide),b30⟩,m0,p30,⟨by decide,bg (k:=5) (by decide)⟩,p6,(by show (0:Int) < 1000000;decide),_,_,rfl,hb6.1,hb7,h _ (vA ?_ ?_ hb6.1 hb6.2) (aM (by omega))⟩
   ·show -(10 ^ 30)≤n * 10 ^ (22:Int).toNat % (2 * 10 ^ (30:Int).toNat+1) - 10 ^ 30
    omega
   ·have e:(10:Int) ^ (30:Int).toNat=10 ^ 30:=rfl
    rw [e] at hm1
    show n * 10 ^ (22:Int).toNat % (2 * 10 ^ 30+1) - 10 ^ 30≤10 ^ 30
    omega
  ·exact ⟨⟨by decide,bg (k:=4) (by decide)⟩,by decide,⟨by decide,bg (k:=8) (by decide)⟩,by decide,_,_,rfl,by omega,bg (k:=10) (by omega),h _ (vA (by omega) (by omega) (by omega) (by omega)) (aM (by omega))⟩
structure uq(kd:Str)(size:Int)(cs:List Fr)(ds:List DrG):Prop where
 fit:∀d∈ds,aR d.1 d.2.1 size=true∧0 < d.2.1.2
 cha:kd="chance"→(∀d∈ds,d.2.2=[ai d])∧ds.map ai=cs.take ds.length
 han:kd≠"chance"→∀d∈ds,d.2.2=[]
theorem uq.more{kd:Str}{size:Int}{cs:List Fr}{ds:List DrG}{d:DrG}(h:uq kd size cs ds)(h1:aR d.1 d.2.1 size=true)(h2:0 < d.2.1.2)(hl:ds.length < cs.length)(h3:kd="chance"→d.2.2=[cs[ds.length]])(h4:kd≠"chance"→d.2.2=[]):uq kd size cs (ds++[d]):=by
 refine ⟨fun e he=> ?_,fun hc=>⟨fun e he=> ?_, ?_⟩,fun hc e he=> ?_⟩
 ·rcases aaL.mp he with he | he
  ·exact h.fit e he
  ·have:e=d:=by simpa using he
   subst this;exact ⟨h1,h2⟩
 ·rcases aaL.mp he with he | he
  ·exact (h.cha hc).1 e he
  ·have:e=d:=by simpa using he
   subst this;unfold ai;rw [h3 hc];rfl
 ·rw [aaX,(h.cha hc).2,aap]
  show cs.take ds.length++[ai d]=cs.take (ds.length+1)
  rw [List.take_succ,aaa hl]
  unfold ai;rw [h3 hc];rfl
 ·rcases aaL.mp he with he | he
  ·exact h.han hc e he
  ·have:e=d:=by simpa using he
   subst this;exact h4 hc
theorem uq.good{kd:Str}{size:Int}{cs:List Fr}{ds:List DrG}(h:uq kd size cs ds)(hk:aB kd=true∨kd="chance")(h1:1≤ds.length)(h6:ds.length≤6)(hl:ds.length=cs.length)(hc:aE cs=true)(ho:Ok3 cs):mP size (.doors kd ds):=by
 by_cases hch:kd="chance"
 ·subst hch
  have e:ds.map ai=cs:=by rw [(h.cha rfl).2,hl,List.take_length]
  exact xg h1 h6 (fun d hd=>(h.fit d hd).1) (h.cha rfl).1 (by rw [e];exact hc) (by rw [e];exact ho) fun d hd=>(h.fit d hd).2
 ·exact Bb (hk.resolve_right hch) h1 h6 (fun d hd=>(h.fit d hd).1) fun d hd=>⟨h.han hch d hd,(h.fit d hd).2⟩
def RwG(size:Int)(r:Rw):Prop:=mP size r∧(∀k ds,r= .doors k ds→aB k=true→∀d∈ds,d.2.2=[])∧(∀p,r= .fin p→Red p)∧∀k ds,r= .doors k ds→∀d∈ds,Red d.2.1
theorem Bc{k:Str}(h:aB k=true):k≠"chance":=fun z=>by subst z;exact absurd h (by decide)
def xE:DF:=fun as M q _=>∃(ns:List Int) (a:Int) (kd:Str) (many:Nat) (size:Int),as=[.scr ns, .int a, .str kd, .int many, .int size]∧1≤a∧a≤150∧1≤many∧many≤6∧1≤size∧size≤12∧(aB kd=true∨kd="chance")∧∀ds,RwG size (.doors kd ds)→q (.loc M.length) (M++[.lst (ds.map drG)])
theorem cf:ar ["_law_script","_law_at","_law_kind","_law_many","_law_size","_law_numbers","_law_most","_law_weights","_law_doors_here","_law_k","_law_door"] ["_law_script","_law_at","_law_kind","_law_many","_law_size"] (ag dQ):=⟨rfl,rfl,rfl,by decide+kernel,rfl,by decide+kernel,by decide+kernel⟩
theorem p9{f:Addr}{fd:FuncData}(F:Fun K "_law_doors" "_law_doors" dQ f fd)(E:Ev K mg Co CF CN){fLawNumber:Addr}{dLawNumber:FuncData}(c_LawNumber:bx P w K mg base 2 "_law_number" ["_law_script","_law_k"] Ac fLawNumber dLawNumber){fLawPay:Addr}{dLawPay:FuncData}(c_LawPay:bx P w K mg base 2 "_law_pay" ["_law_number_here"] BD fLawPay dLawPay){fLawRest:Addr}{dLawRest:FuncData}(c_LawRest:bx P w K mg base 3 "_law_rest" ["_law_script","_law_k"] Ac fLawRest dLawRest){fLawLowest:Addr}{dLawLowest:FuncData}(c_LawLowest:bx P w K mg base 1 "_law_lowest" ["_law_top","_law_bottom"] BQ fLawLowest dLawLowest):bA P w K mg base (CX1 P w) 4 f fd ["_law_script","_law_at","_law_kind","_law_many","_law_size"] (spD K xE):=by
 refine F.okD cf (fun ds M q x h=> ?_) (fun cdv A outer s H E' hr=>⟨_,(ae (kL (i:=5) cf.nd rfl (Or.inl rfl) (ys:=["_law_script","_law_at"]) (caps:=[0,1]) ⟨rfl,by decide+kernel,by decide+kernel,rfl,(by show∀p:Str×NameKind,p∈_→p.2=NameKind.free→List.lookup p.1 (ag dQ).names=some .cell;decide+kernel),by decide+kernel,(by show∀q:Str×Nat,q∈_→(["_law_script","_law_at","_law_kind","_law_many","_law_size","_law_numbers","_law_most","_law_weights","_law_doors_here","_law_k","_law_door"]:List Str)[q.2]? =some q.1∧List.lookup q.1 (ag dQ).names=some .cell∧_;decide+kernel),rfl⟩ (bq E.n_range (aa (jv 3) af (hs:=ak))) (fun C s H fp=>(aV c_LawNumber hr (dU (P:=P) (w:=w)) (aa (jv 1) (aa (dc (jv 2) (jv 0)) af (hs:=bO)) (hs:=ak)))))
   (ae (aq (i:=6) cf.nd rfl (Or.inr rfl) (aD (eZ 3 (d:= .lst [.int 6, .int 997]) (by rfl)) (fi (cY (fi (aV c_LawNumber hr aj (aa (jv 0) (aa (og (jv 1) aw) af (hs:=bO)) (hs:=ak))) aw) aw) aw)))
   (ae (eW (i:=7) cf.nd rfl (Or.inl rfl) (ys:=["_law_most","_law_size"]) (caps:=[6,4]) ⟨rfl,by decide+kernel,by decide+kernel,rfl,(by show∀p:Str×NameKind,p∈_→p.2=NameKind.free→List.lookup p.1 (ag dQ).names=some .cell;decide+kernel),by decide+kernel,(by show∀q:Str×Nat,q∈_→(["_law_script","_law_at","_law_kind","_law_many","_law_size","_law_numbers","_law_most","_law_weights","_law_doors_here","_law_k","_law_door"]:List Str)[q.2]? =some q.1∧List.lookup q.1 (ag dQ).names=some .cell∧_;decide+kernel),rfl⟩ (cD (jv 5)) (fun C s H fp=>(dc aw (cY (fi (jv 0) (jv 2)) (jv 1)))))
   (ae (aq (i:=8) cf.nd rfl (Or.inl rfl) (kM af))
   (ae (fg (bq E.n_range (aa (jv 3) af (hs:=ak))) (aJ (i:=9) cf.nd rfl (Or.inl rfl)) bJ (ae (aq (i:=10) cf.nd rfl (Or.inl rfl) (cJ (aa (cY (aD (jv 5) (jv 9)) (jv 4)) (aa (aV c_LawPay hr aj (aa (aV c_LawRest hr aj (aa (jv 0) (aa (dc (jv 1) (jv 9)) af (hs:=bO)) (hs:=ak))) af (hs:=aU))) af (hs:=aU)) (hs:=bO))))
   (ae (iH (bc (eg hr (jv 2) g9) (ah (aq (i:=10) cf.nd rfl (Or.inl rfl) (dc (jv 10) (cJ (aa (aV c_LawLowest hr aj (aa (aD (jv 7) (jv 9)) (aa (Dh E.n_sum (aa (jv 7) af (hs:=ak))) af (hs:=aU)) (hs:=aS))) af (hs:=aU)))))) aA))
   (ah (gF (e7 (jv 8) (aa (jv 10) af (hs:=ak))))))))
   (ah (au (jv 8)))))))),fun ds M q x h=> ?_⟩)
 ·obtain ⟨ns,a,kd,many,size,rfl,_⟩:=h;rfl
 ·obtain ⟨ns,a,kd,many,size,rfl,a0,a1,n1,n6,s1,s12,hkd,h⟩:=h
  walk_at "vc"
  refine ⟨⟨by omega,by omega⟩,by rw [bR];exact aaz (show _≤6 by omega) (by decide), ?_⟩
  refine kU (f:=Dt.int) Nm _ [] (fun _ z=>(nomatch z)) (fun x hxm q' hq=> ?_) fun xs hlx hx=> ?_
  ·obtain ⟨k,hk,rfl⟩:=gU hxm
   have hk6:(k:Int) < 6:=by omega
   exact ⟨ns,a+(0+(k:Int)),rfl,by omega,by omega,hq⟩
  have hlx:xs.length=many:=by rw [hlx,bR];simp
  refine ⟨ns,a - 1,rfl,by omega,by omega,fun n hn=> ?_⟩
  refine ⟨⟨by decide,bg (k:=8) (by decide)⟩,by decide,⟨by decide,bg (k:=4) (by decide)⟩, ?_⟩
  obtain ⟨most,em,m0,m1⟩:∃most:Int,atI [Dt.int 6,Dt.int 997] (n / 42 % 4 / 3)=some (.int most)∧0 < most∧many * most≤1000000:=by
   have:n / 42 % 4 / 3=0∨n / 42 % 4 / 3=1:=by omega
   rcases this with e | e
   ·rw [e];exact ⟨6,dG,by decide,by omega⟩
   ·rw [e];exact ⟨997,aI (j:=1) rfl,by decide,by omega⟩
  refine ax (d:= .lst [Dt.int 6,Dt.int 997]) rfl em ?_
  show iP _ _ _ _ _
  refine dX (i:=5) (d:= .lst (xs.map .int)) rfl rfl ⟨by rw [aac,hlx];exact aaz n6 (by decide), ?_⟩
  refine cZ (f:=fun d=>match d with | .int n=> .int (1+n / size % most) | _=> .non) trivial (fun x hxm q' hq=> ?_) ?_
  ·obtain ⟨y,hy,rfl⟩:=aal.mp hxm
   exact ⟨⟨by omega,bg (k:=10) (by omega)⟩,m0,hq⟩
  rw [aaI,show (xs.map Dt.int).map (fun d=>match d with | .int n=> .int (1+n / size % most) | _=> .non)=(xs.map fun n=>1+n / size % most).map Dt.int by rw [aaC,aaC];rfl]
  generalize hws:(xs.map fun n=>1+n / size % most)=ws
  have wl:ws.length=many:=by rw [←hws,aac,hlx]
  have w0:∀w∈ws,0 < w∧w≤most:=fun w hw=>by
   rw [←hws] at hw
   obtain ⟨y,_,rfl⟩:=aal.mp hw
   have e0:=aaV (y / size) (show most≠0 by omega)
   have e1:=aaQ (y / size) m0
   omega
  have hS:ws.sum≤1000000:=by
   have:=zj fun w hwm=>(w0 w hwm).2
   rw [wl] at this
   omega
  have hne:ws≠[]:=fun z=>by rw [z] at wl;simp at wl;omega
  have Spos:=uK (fun w hw=>(w0 w hw).1) hne
  obtain ⟨c1,c2⟩:=ui (S:=ws.sum) rfl (fun w hwm=>(w0 w hwm).1) hne hS (by omega)
  have cl:(ws.map fun w=>bK w ws.sum).length=many:=by rw [aac,wl]
  have bS:Big ws.sum:=bg (k:=21) (by omega)
  clear hws
  refine ⟨by decide,⟨by omega,by omega⟩, ?_⟩
  refine bU (fun zs ρ M'=>∃(n k:Nat) (ds:List DrG) (o1 o2:Option Dt),zs=fW k n∧k+n=many∧ds.length=k∧uq kd size (ws.map fun w=>bK w ws.sum) ds∧(∀d∈ds,Red d.2.1)∧M'=M++[MO.lst (ds.map drG)]∧ρ=[some (.scr ns),some (.int a),some (.str kd),some (.int many),some (.int size),some (.lst (xs.map .int)),some (.int most),some (.lst (ws.map .int)),some (.loc M.length),o1,o2]) (fun x zs ρ M' hj nxt=> ?_) (fun ρ M' hj=> ?_) _ _ _ ⟨many,0,[],none,none,by simp,by simp,rfl,⟨fun _ z=>(nomatch z),fun _=>⟨fun _ z=>(nomatch z),rfl⟩,fun _ _ z=>(nomatch z)⟩,fun _ z=>(nomatch z),rfl,rfl⟩
  ·obtain ⟨n,k,ds,o1,o2,ex,hkn,hl,hd,hrd,rfl,rfl⟩:=hj
   obtain ⟨m,rfl,rfl,rfl⟩:=bC ex
   have k6:(k:Int) < 6:=by omega
   have kx:k < xs.length:=by omega
   have kw:k < ws.length:=by omega
   have atM:(M++[MO.lst (ds.map drG)])[M.length]? =some (.lst (ds.map drG)):=by simp
   have setM:∀y:DrG,(M++[MO.lst (ds.map drG)]).set M.length (.lst (ds.map drG++[drG y]))=M++[.lst ((ds++[y]).map drG)]:=fun y=>by simp
   have lt:(ds.map drG).length < sizeLine:=by rw [aac,hl];exact aaO (show k≤12 by omega) (by decide)
   walk_at "vc"
   refine (ax (d:= .lst (xs.map .int)) rfl (hG kx) ?_:fIx (.lst (xs.map .int)) (.int (k:Int)) _ _)
   refine ⟨by omega,ns,_,rfl,by omega,by omega,fun r hr2=>⟨r,rfl,hr2,fun p hp hpr=>⟨by show 2≤sizeLine;decide, ?_⟩⟩⟩
   have hp0:=hpr.pos
   have hfit:aR (xs[k] % size) p size=true:=Bq (aaV _ (by omega)) (aaQ _ (by omega)) hp
   refine ⟨fun ρ M2=>M2=M++[MO.lst (ds.map drG)]∧∃d:DrG,(aR d.1 d.2.1 size=true∧0 < d.2.1.2∧(kd="chance"→d.2.2=[bK ws[k] ws.sum])∧(kd≠"chance"→d.2.2=[])∧Red d.2.1)∧ρ=[some (.scr ns),some (.int a),some (.str kd),some (.int many),some (.int size),some (.lst (xs.map .int)),some (.int most),some (.lst (ws.map .int)),some (.loc M.length),some (.int (k:Int)),some (drG d)],⟨fun hc=> ?_,fun hc=> ?_⟩, ?_⟩
   ·have hc:kd="chance":=of_decide_eq_true hc
    walk_at "vc"
    refine (ax (d:= .lst (ws.map .int)) rfl (hG kw) ?_:fIx (.lst (ws.map .int)) (.int (k:Int)) _ _)
    exact ⟨ws,rfl,⟨_,_,rfl⟩,_,_,rfl,Spos,bS,(by show 1≤sizeLine;decide),⟨by simp,by show 3≤sizeLine;decide⟩,rfl,(xs[k] % size,p,[bK ws[k] ws.sum]),⟨hfit,hp0,fun _=>rfl,fun z=>absurd hc z,hpr⟩,rfl⟩
   ·have hc:kd≠"chance":=of_decide_eq_false hc
    exact ⟨rfl,(xs[k] % size,p,[]),⟨hfit,hp0,fun z=>absurd z hc,fun _=>rfl,hpr⟩,rfl⟩
   ·rintro ρ2 M2 ⟨rfl,d,⟨d1,d2,d3,d4,d5⟩,rfl⟩
    refine ⟨⟨M.length,_,rfl,atM⟩,M.length,_,_,rfl,rfl,atM,lt, ?_⟩
    rw [setM d]
    refine nxt _ _ ⟨m,k+1,ds++[d],_,_,by simp,by omega,by simp [hl],hd.more d1 d2 (by rw [cl];omega) (fun z=> ?_) d4,fun y hy=> ?_,rfl,rfl⟩
    ·rw [d3 z]
     simp [hl]
    ·rcases aaL.mp hy with z | z
     ·exact hrd y z
     ·rw [abL.mp z];exact d5
  ·obtain ⟨n,k,ds,o1,o2,ex,hkn,hl,hd,hrd,rfl,rfl⟩:=hj
   have hn:n=0:=by
    have:=congrArg List.length ex
    unfold fW at this
    simpa using this.symm
   exact h ds ⟨hd.good hkd (by omega) (by omega) (by rw [cl];omega) c1 c2,fun k' ds' e hk d hd'=>by cases e;exact hd.han (Bc hk) d hd',fun _ e=>(nomatch e),fun k' ds' e d hd'=>by cases e;exact hrd d hd'⟩
theorem yy{n:Int}:∃kd:Str,atI [Dt.str "one",Dt.str "chance",Dt.str "other",Dt.str "end",Dt.str "chance",Dt.str "one",Dt.str "other"] (n % 7)=some (.str kd)∧(aB kd=true∨kd="chance"∨kd="end"):=by
 have:n % 7=0∨n % 7=1∨n % 7=2∨n % 7=3∨n % 7=4∨n % 7=5∨n % 7=6:=by omega
 rcases this with e | e | e | e | e | e | e <;> rw [e]
 ·exact ⟨_,dG, .inl (by decide)⟩
 ·exact ⟨_,aI (j:=1) rfl, .inr (.inl rfl)⟩
 ·exact ⟨_,aI (j:=2) rfl, .inl (by decide)⟩
 ·exact ⟨_,aI (j:=3) rfl, .inr (.inr rfl)⟩
 ·exact ⟨_,aI (j:=4) rfl, .inr (.inl rfl)⟩
 ·exact ⟨_,aI (j:=5) rfl, .inl (by decide)⟩
 ·exact ⟨_,aI (j:=6) rfl, .inl (by decide)⟩
def z5:DF:=fun as M q _=>∃ns:List Int,as=[.scr ns, .int 5, .int 5]∧∀rows:List Rw,1≤rows.length→rows.length≤5→(∀r∈rows,RwG rows.length r)→q (.loc M.length) (M++[.lst (rows.map cj)])
theorem cR:ar ["_law_script","_law_most","_law_wide","_law_size","_law_rows_here","_law_place","_law_at","_law_first","_law_kind"] ["_law_script","_law_most","_law_wide"] (ag lz):=⟨rfl,rfl,rfl,by decide+kernel,rfl,by decide+kernel,by decide+kernel⟩
theorem tG{f:Addr}{fd:FuncData}(F:Fun K "_law_rows" "_law_rows" lz f fd)(E:Ev K mg Co CF CN){fLawNumber:Addr}{dLawNumber:FuncData}(c_LawNumber:bx P w K mg base 2 "_law_number" ["_law_script","_law_k"] Ac fLawNumber dLawNumber){fLawPay:Addr}{dLawPay:FuncData}(c_LawPay:bx P w K mg base 2 "_law_pay" ["_law_number_here"] BD fLawPay dLawPay){fLawDoors:Addr}{dLawDoors:FuncData}(c_LawDoors:bx P w K mg base 4 "_law_doors" ["_law_script","_law_at","_law_kind","_law_many","_law_size"] xE fLawDoors dLawDoors):bA P w K mg base (CX1 P w) 5 f fd ["_law_script","_law_most","_law_wide"] (spD K z5):=by
 refine F.okD cR (fun ds M q x h=> ?_) (fun cdv A outer s H E' hr=>⟨_,(ae (aq (i:=3) cR.nd rfl (Or.inl rfl) (dc aw (cY (aV c_LawNumber hr aj (aa (jv 0) (aa aw af (hs:=bB)) (hs:=ak))) (jv 1))))
   (ae (iH (aq (i:=2) cR.nd rfl (Or.inl rfl) (yA (Fe (jv 3) aw) aw (jv 2))))
   (ae (aq (i:=4) cR.nd rfl (Or.inl rfl) (kM af))
   (ae (fg (bq E.n_range (aa (jv 3) af (hs:=ak))) (aJ (i:=5) cR.nd rfl (Or.inl rfl)) bJ (ae (aq (i:=6) cR.nd rfl (Or.inl rfl) (dc aw (bW (jv 2) (jv 5))))
   (ae (aq (i:=7) cR.nd rfl (Or.inl rfl) (aV c_LawNumber hr aj (aa (jv 0) (aa (jv 6) af (hs:=ak)) (hs:=ak))))
   (ae (aq (i:=8) cR.nd rfl (Or.inl rfl) (aD (eZ 3 (d:= .lst [.str "one", .str "chance", .str "other", .str "end", .str "chance", .str "one", .str "other"]) (by rfl)) (cY (jv 7) aw)))
   (ah (bc (eg hr (jv 8) g9) (ah (gF (e7 (jv 4) (aa (cJ (aa g9 (aa (aV c_LawPay hr aj (aa (fi (jv 7) aw) af (hs:=bO))) af (hs:=aU)) (hs:=bB))) af (hs:=sV))))) (ah (gF (e7 (jv 4) (aa (cJ (aa (jv 8) (aa (eh (aV c_LawDoors hr aj (aa (jv 0) (aa (dc (jv 6) aw) (aa (jv 8) (aa (dc aw (cY (fi (jv 7) aw) (og (jv 2) aw))) (aa (jv 3) af (hs:=ak)) (hs:=bO)) (hs:=ak)) (hs:=bO)) (hs:=ak)))) af (hs:=aU)) (hs:=ak))) af (hs:=sV)))))))))))
   (ah (au (jv 4))))))),fun ds M q x h=> ?_⟩)
 ·obtain ⟨ns,rfl,_⟩:=h;rfl
 ·obtain ⟨ns,rfl,h⟩:=h
  refine ⟨ns,0,rfl,by decide,by decide,fun n0 hn0=>⟨by decide, ?_⟩⟩
  obtain ⟨sz,hz,z1,z6⟩:∃sz:Nat,1+n0 % 5=(sz:Int)∧1≤sz∧sz≤5:=⟨(1+n0 % 5).toNat,by omega,by omega,by omega⟩
  dsimp only [DD]
  rw [hz]
  refine ⟨fun ρ M'=>M'=M∧∃wd:Int,(wd=5∨wd=7)∧ρ=[some (.scr ns),some (.int 5),some (.int wd),some (.int sz),none,none,none,none,none],⟨fun _=>⟨rfl,7, .inr rfl,rfl⟩,fun _=>⟨rfl,5, .inl rfl,rfl⟩⟩, ?_⟩
  rintro ρ' M' ⟨rfl,wd,hwd,rfl⟩
  refine ⟨by decide,⟨by omega,by omega⟩, ?_⟩
  refine bU (fun zs ρ M2=>∃(n k:Nat) (rs:List Rw) (o1 o2 o3 o4:Option Dt),zs=fW k n∧k+n=sz∧rs.length=k∧(∀r∈rs,RwG sz r)∧M2=M'++[MO.lst (rs.map cj)]∧ρ=[some (.scr ns),some (.int 5),some (.int wd),some (.int sz),some (.loc M'.length),o1,o2,o3,o4]) (fun x zs ρ M2 hj nxt=> ?_) (fun ρ M2 hj=> ?_) _ _ _ ⟨sz,0,[],none,none,none,none,by simp,by simp,rfl,fun _ z=>(nomatch z),rfl,rfl⟩
  ·obtain ⟨n,k,rs,o1,o2,o3,o4,ex,hkn,hl,hd,rfl,rfl⟩:=hj
   obtain ⟨m,rfl,rfl,rfl⟩:=bC ex
   have k6:(k:Int) < 6:=by omega
   have hat:0≤2+wd * (k:Int)∧2+wd * (k:Int)≤100:=by rcases hwd with rfl | rfl <;> omega
   have bw:Big wd:=bg (k:=10) (by omega)
   have atM:(M'++[MO.lst (rs.map cj)])[M'.length]? =some (.lst (rs.map cj)):=by simp
   have setM:∀y:Rw,(M'++[MO.lst (rs.map cj)]).set M'.length (.lst (rs.map cj++[cj y]))=M'++[.lst ((rs++[y]).map cj)]:=fun y=>by simp
   have lt:(rs.map cj).length < sizeLine:=by rw [aac,hl];exact aaO (show k≤12 by omega) (by decide)
   have first:∃k' xs',Dt.loc M'.length= .loc k'∧(M'++[MO.lst (rs.map cj)])[k']? =some (.lst xs'):=⟨_,_,rfl,atM⟩
   have more:∀y,RwG sz y→∀r∈rs++[y],RwG sz r:=fun y hy r hr=>by
    rcases aaL.mp hr with hr | hr
    ·exact hd r hr
    ·have:r=y:=by simpa using hr
     rw [this];exact hy
   refine ⟨⟨bw,bg (k:=10) (by omega)⟩,ns,_,rfl,hat.1,by omega,fun f hf=>⟨by decide, ?_⟩⟩
   obtain ⟨kd,ek,hkd⟩:=yy (n:=f)
   refine ax rfl ek ?_
   refine ⟨fun z=> ?_,fun z=> ?_⟩
   ·refine ⟨first,⟨by decide,bg (k:=4) (by decide)⟩,_,rfl,zG hf (by decide),fun p hp hpr=>⟨by show 2≤sizeLine;decide,M'.length,_,_,rfl,rfl,atM,lt, ?_⟩⟩
    refine nxt _ _ ⟨m,k+1,rs++[Rw.fin p],_,_,_,_,by simp,by omega,by simp [hl],more (.fin p) ⟨⟨hpr.pos,hp⟩,fun _ _ e=>(nomatch e),fun _ e=>by cases e;exact hpr,fun _ _ e=>(nomatch e)⟩,setM (.fin p),rfl⟩
   ·have z:kd≠"end":=of_decide_eq_false z
    have hkd:aB kd=true∨kd="chance":=by
     rcases hkd with hk | hk | hk
     ·exact .inl hk
     ·exact .inr hk
     ·exact absurd hk z
    have w1:0 < wd - 1:=by omega
    have hm0:=aaV (f / 7) (show wd - 1≠0 by omega)
    have hm1:=aaQ (f / 7) w1
    refine ⟨first,⟨by decide,bg (k:=4) (by decide)⟩,w1,ns,_,kd,(1+f / 7 % (wd - 1)).toNat,sz,by rw [abW (by omega)],by omega,by omega,by omega,by omega,by omega,by omega,hkd,fun ds hds=>dY (fb ds) ?_⟩
    refine ⟨by show 2≤sizeLine;decide,M'.length,_,_,rfl,rfl,atM,lt, ?_⟩
    exact nxt _ _ ⟨m,k+1,rs++[Rw.doors kd ds],_,_,_,_,by simp,by omega,by simp [hl],more (.doors kd ds) hds,setM (.doors kd ds),rfl⟩
  ·obtain ⟨n,k,rs,o1,o2,o3,o4,ex,hkn,hl,hd,rfl,rfl⟩:=hj
   have hn:n=0:=by
    have:=congrArg List.length ex
    unfold fW at this
    simpa using this.symm
   have e:rs.length=sz:=by omega
   exact h rs (by omega) (by omega) (by rw [e];exact hd)
def xB:DF:=fun as M q _=>∃n:Int,as=[.int n]∧∀p,aW p=true→q (frD p) M
theorem kE:ar ["_law_number_here","_law_bottom"] ["_law_number_here"] (ag jA):=⟨rfl,rfl,rfl,by decide+kernel,rfl,by decide+kernel,by decide+kernel⟩
theorem pZ{f:Addr}{fd:FuncData}(F:Fun K "_law_share" "_law_share" jA f fd)(E:Ev K mg Co CF CN){fLawLowest:Addr}{dLawLowest:FuncData}(c_LawLowest:bx P w K mg base 1 "_law_lowest" ["_law_top","_law_bottom"] BQ fLawLowest dLawLowest):bA P w K mg base (CX1 P w) 2 f fd ["_law_number_here"] (spD K xB):=by
 refine F.okD kE (fun ds M q x h=> ?_) (fun cdv A outer s H E' hr=>⟨_,(ae (aq (i:=1) kE.nd rfl (Or.inl rfl) (aD (qt (aa aw (aa (dc aw (cY (jv 0) aw)) (aa aw af (hs:=bB)) (hs:=bO)) (hs:=bB))) (cY (fi (jv 0) aw) aw)))
   (ah (au (aV c_LawLowest hr aj (aa (cY (fi (jv 0) aw) (jv 1)) (aa (jv 1) af (hs:=ak)) (hs:=bO)))))),fun ds M q x h=> ?_⟩)
 ·obtain ⟨n,rfl,_⟩:=h;rfl
 ·obtain ⟨n,rfl,h⟩:=h
  refine ⟨by decide,(by show 3≤sizeLine;decide),⟨by decide,bg (k:=11) (by decide)⟩,by decide, ?_⟩
  obtain ⟨b,eb,b0,b1⟩:∃b:Int,atI [Dt.int 2, .int (1+n % 1000), .int 3] (n / 1000 % 3)=some (.int b)∧0 < b∧b≤1000:=by
   have:n / 1000 % 3=0∨n / 1000 % 3=1∨n / 1000 % 3=2:=by omega
   rcases this with e | e | e <;> rw [e]
   ·exact ⟨_,dG,by decide,by decide⟩
   ·exact ⟨_,aI (j:=1) rfl,by omega,by omega⟩
   ·exact ⟨_,aI (j:=2) rfl,by decide,by decide⟩
  refine ax rfl eb ?_
  exact ⟨⟨by decide,bg (k:=13) (by decide)⟩,b0,_,_,rfl,b0,bg (k:=11) (by omega),h _ (sW (aaV _ (by omega)) (aaQ _ b0) b1)⟩
def St3(M:Ms)(p1 p2:Pl):Ms:=M++[dP p1,dP p2, .dct [Sum.inr "one",Sum.inr "other"] [.loc M.length, .loc (M.length+1)]]
theorem Ap(M:Ms)(p1 p2:Pl):Two (St3 M p1 p2) (M.length+2) p1 p2:=by
 refine ⟨M.length,M.length+1, ?_, ?_, ?_⟩ <;> unfold St3
 ·rw [aam (by omega),show M.length+2 - M.length=2 by omega];rfl
 ·rw [aam (by omega),Nat.sub_self];rfl
 ·rw [aam (by omega),show M.length+1 - M.length=1 by omega];rfl
theorem EJ(M:Ms)(p1 p2:Pl)(E:Ms):(St3 M p1 p2++E)[M.length+2]? =some (.dct [Sum.inr "one",Sum.inr "other"] [.loc M.length, .loc (M.length+1)]):=by
 rw [List.getElem?_append_left (by unfold St3;simp)];unfold St3
 rw [aam (by omega),show M.length+2 - M.length=2 by omega];rfl
theorem EL(M:Ms)(p1 p2:Pl)(E:Ms):(St3 M p1 p2++E)[M.length]? =some (dP p1):=by
 rw [List.getElem?_append_left (by unfold St3;simp)];unfold St3
 rw [aam (by omega),Nat.sub_self];rfl
theorem EK(M:Ms)(p1 p2:Pl)(E:Ms):(St3 M p1 p2++E)[M.length+1]? =some (dP p2):=by
 rw [List.getElem?_append_left (by unfold St3;simp)];unfold St3
 rw [aam (by omega),show M.length+1 - M.length=1 by omega];rfl
theorem xY(M:Ms)(p1 p2 p:Pl)(E:Ms):(St3 M p1 p2++E).set M.length (dP p)=St3 M p p2++E:=by
 unfold St3;rw [List.append_assoc,List.append_assoc,List.set_append_right (h:=Nat.le_refl _),Nat.sub_self];rfl
theorem xX(M:Ms)(p1 p2 p:Pl)(E:Ms):(St3 M p1 p2++E).set (M.length+1) (dP p)=St3 M p1 p++E:=by
 unfold St3;rw [List.append_assoc,List.append_assoc,List.set_append_right (h:=by omega),show M.length+1 - M.length=1 by omega];rfl
def on1(k:Str)(f:Pl→Pl)(p:Pl):Pl:=if k="one" then f p else p
def on2(k:Str)(f:Pl→Pl)(p:Pl):Pl:=if k="one" then p else f p
theorem B5(M:Ms)(p1 p2:Pl)(E:Ms){k:Str}(h:aB k=true):∃(k':Nat) (p:Pl),dh [Sum.inr "one",Sum.inr "other"] [Dt.loc M.length,Dt.loc (M.length+1)] (Sum.inr k)=some (.loc k')∧(St3 M p1 p2++E)[k']? =some (dP p)∧bu p1 p2 k=some p∧∀f:Pl→Pl,(St3 M p1 p2++E).set k' (dP (f p))=St3 M (on1 k f p1) (on2 k f p2)++E:=by
 unfold aB at h
 rw [Bool.or_eq_true,beq_iff_eq,beq_iff_eq] at h
 rcases h with rfl | rfl
 ·exact ⟨M.length,p1,rfl,EL M p1 p2 E,rfl,fun f=>xY M p1 p2 (f p1) E⟩
 ·exact ⟨M.length+1,p2,rfl,EK M p1 p2 E,rfl,fun f=>xX M p1 p2 (f p2) E⟩
theorem vm{p1 p2:Pl}{k k':Str}{f:Pl→Pl}(h:aB k=true):bu (on1 k f p1) (on2 k f p2) k'=if k'=k then (bu p1 p2 k').map f else bu p1 p2 k':=by
 unfold aB at h
 rw [Bool.or_eq_true,beq_iff_eq,beq_iff_eq] at h
 unfold bu on1 on2
 rcases h with rfl | rfl
 ·rw [if_pos rfl,if_pos rfl]
  by_cases e:k'="one"
  ·subst e;rfl
  ·rw [if_neg e,if_neg e,if_neg e]
 ·have hne:¬(Str.ofString "other"=Str.ofString "one"):=by decide
  have hne':¬(Str.ofString "one"=Str.ofString "other"):=by decide
  rw [if_neg hne,if_neg hne]
  by_cases e:k'="one"
  ·subst e
   rw [if_pos rfl,if_neg hne',if_pos rfl]
  ·rw [if_neg e,if_neg e]
   by_cases e':k'="other"
   ·subst e'
    rw [if_pos rfl,if_pos rfl,if_pos rfl];rfl
   ·rw [if_neg e',if_neg e',if_neg e']
theorem Bf{rows:List Rw}{p1 p2:Pl}{k:Str}{f:Pl→Pl}{i:Nat}(h:aB k=true)(hf:∀p j,j≠(i:Int)→cK (f p) j=cK p j){j:Nat}(hj:j≠i):cF rows (on1 k f p1) (on2 k f p2) j=cF rows p1 p2 j:=by
 unfold cF
 cases hr:rows[j]? with
 | none=>rfl
 | some r=>
  show gH (on1 k f p1) (on2 k f p2) j r=gH p1 p2 j r
  unfold gH
  rw [vm h]
  by_cases e:kindOf r=k
  ·rw [if_pos e]
   cases hp:bu p1 p2 (kindOf r) with
   | none=>rfl
   | some p=>
    show df (f p) j _=df p j _
    unfold df
    rw [hf p j (by omega)]
  ·rw [if_neg e]
theorem Ds{rows:List Rw}{p1 p2:Pl}{f:Pl→Pl}{i:Nat}{r:Rw}{p:Pl}(hi:rows[i]? =some r)(h:aB (kindOf r)=true)(hp:bu p1 p2 (kindOf r)=some p):cF rows (on1 (kindOf r) f p1) (on2 (kindOf r) f p2) i=df (f p) i (aF r).length:=by
 unfold cF
 rw [hi]
 show gH _ _ i r=_
 unfold gH
 rw [vm h,if_pos rfl,hp];rfl
theorem E8{p1 p2:Pl}{k:Str}{f:Pl→Pl}(h1:NdP p1)(h2:NdP p2)(hf:∀p,NdP p→NdP (f p)):NdP (on1 k f p1)∧NdP (on2 k f p2):=by
 unfold on1 on2
 split
 ·exact ⟨hf _ h1,h2⟩
 ·exact ⟨h1,hf _ h2⟩
theorem gA{r:Rw}{M:Ms}{q:DQ}(h:q (.str (kindOf r)) M):fIx (cj r) (.int 0) M q:=by
 obtain ⟨e,er⟩:=zq (r:=r)
 rw [er]
 exact ax (xs:=[.str (kindOf r),e]) rfl dG h
theorem jK{rows:List Rw}{i:Nat}{r:Rw}(hi:rows[i]? =some r){M:Ms}{q:DQ}(h:q (cj r) M):fIx (.lst (rows.map cj)) (.int (i:Int)) M q:=ax (xs:=rows.map cj) rfl (aI (jJ hi)) h
theorem vM{k:Str}(h1:k≠"one")(h2:k≠"other"):aB k=false:=by
 unfold aB
 rw [Bool.or_eq_false_iff,beq_eq_false_iff_ne,beq_eq_false_iff_ne];exact ⟨h1,h2⟩
def Aa:DF:=fun as M q _=>∃(ns:List Int) (rows:List Rw),as=[.scr ns, .lst (rows.map cj), .int 34]∧rows.length≤12∧(∀k ds,Rw.doors k ds∈rows→1≤ds.length)∧∀p1 p2,NdP p1→NdP p2→p1.length≤12→p2.length≤12→(∀i,i < rows.length→cF rows p1 p2 i=true)→q (.loc (M.length+2)) (St3 M p1 p2)
theorem fP:ar ["_law_script","_law_rows_here","_law_at","_law_found","_law_place","_law_kind"] ["_law_script","_law_rows_here","_law_at"] (ag jC):=⟨rfl,rfl,rfl,by decide+kernel,rfl,by decide+kernel,by decide+kernel⟩
theorem p7{f:Addr}{fd:FuncData}(F:Fun K "_law_plans" "_law_plans" jC f fd)(E:Ev K mg Co CF CN){fLawNumber:Addr}{dLawNumber:FuncData}(c_LawNumber:bx P w K mg base 2 "_law_number" ["_law_script","_law_k"] Ac fLawNumber dLawNumber):bA P w K mg base (CX1 P w) 3 f fd ["_law_script","_law_rows_here","_law_at"] (spD K Aa):=by
 refine F.okD fP (fun ds M q x h=> ?_) (fun cdv A outer s H E' hr=>⟨_,(ae (aq (i:=3) fP.nd rfl (Or.inl rfl) (qv wk wk))
   (ae (fg (bq E.n_range (aa (dE E.n_len (aa (jv 1) af (hs:=ak))) af (hs:=aU))) (aJ (i:=4) fP.nd rfl (Or.inl rfl)) bJ (ae (aq (i:=5) fP.nd rfl (Or.inl rfl) (aD (aD (jv 1) (jv 4)) aw))
   (ah (bc (JW.jt (oa (eg hr (jv 5) g9) (iG (eg hr (jv 5) g9)))) (ah (wa hr (d7 hr (jv 3) (jv 5)) (jv 4) (cY (aV c_LawNumber hr aj (aa (jv 0) (aa (dc (jv 2) (jv 4)) af (hs:=bO)) (hs:=ak))) (dE E.n_len (aa (aD (aD (jv 1) (jv 4)) aw) af (hs:=aS)))))) aA))))
   (ah (au (jv 3))))),fun ds M q x h=> ?_⟩)
 ·obtain ⟨ns,rows,rfl,_⟩:=h;rfl
 ·obtain ⟨ns,rows,rfl,l12,hdr,h⟩:=h
  walk_at "vc"
  refine (aL (d:= .lst (rows.map cj)) (xs:=rows.map cj) rfl ?_:j6 [.lst (rows.map cj)] _ _)
  rw [aac]
  refine ⟨by omega, ?_⟩
  rw [show ((rows.length:Int)).toNat=rows.length by omega]
  have pl_len:∀{p1 p2:Pl} {k:Str} {n:Nat} {v:Int} {i:Int},p1.length≤n→p2.length≤n→(on1 k (fun p=>mR p i v) p1).length≤n+1∧(on2 k (fun p=>mR p i v) p2).length≤n+1:=fun {p1 p2 k n v i} h1 h2=>by
   have pp:∀p:Pl,p.length≤n→(mR p i v).length≤n+1:=fun p hp=>by
    unfold mR
    split
    ·rw [aac];omega
    ·rw [aap];exact Nat.succ_le_succ hp
   unfold on1 on2
   split
   ·exact ⟨pp _ h1,by omega⟩
   ·exact ⟨by omega,pp _ h2⟩
  refine bU (fun zs ρ' M'=>∃(i m:Nat) (p1 p2:Pl) (o4 o5:Option Dt),zs=fW (i:Int) m∧i+m=rows.length∧NdP p1∧NdP p2∧p1.length≤i∧p2.length≤i∧(∀j,j < i→cF rows p1 p2 j=true)∧M'=St3 M p1 p2∧ρ'=[some (.scr ns),some (.lst (rows.map cj)),some (.int 34),some (.loc (M.length+2)),o4,o5]) (fun x zs ρ' M' hj nxt=> ?_) (fun ρ' M' hj=> ?_) _ _ _ ⟨0,rows.length,[],[],none,none,rfl,by omega,List.nodup_nil,List.nodup_nil,by simp,by simp,fun j hj=>absurd hj (Nat.not_lt_zero _),by unfold St3;simp [kP,vP],by simp⟩
  ·obtain ⟨i,m,p1,p2,o4,o5,ex,im,n1,n2,pl1,pl2,gd,rfl,rfl⟩:=hj
   obtain ⟨m',rfl,rfl,rfl⟩:=bC ex
   have il:i < rows.length:=by omega
   have hi:rows[i]? =some rows[i]:=aaa il
   generalize hr0:rows[i]=r at *
   have rm:r∈rows:=aag hi
   walk_at "vc"
   refine jK hi (gA ?_)
   refine ⟨fun z=>⟨fun _=> ?_,fun y=>(nomatch y)⟩,fun z=>⟨fun z'=> ?_,fun z'=> ?_⟩⟩
   rotate_left 2
   ·have hh:=vM (of_decide_eq_false z) (of_decide_eq_false z')
    refine nxt _ _ ⟨i+1,m',p1,p2,_,_,by rw [aa6];rfl,by omega,n1,n2,by omega,by omega,fun j hj=> ?_,rfl,rfl⟩
    by_cases ej:j=i
    ·rw [ej];unfold cF;rw [hi]
     show gH p1 p2 i r=true
     unfold gH;rw [j4 hh]
    ·exact gd j (by omega)
   all_goals
    have hh:aB (kindOf r)=true:=by
     first
     | (have z':kindOf r="other":=of_decide_eq_true z';rw [z'];decide)
     | (have z:kindOf r="one":=of_decide_eq_true z;rw [z];decide)
    obtain ⟨k',p,g1,g2,g3,g4⟩:=B5 M p1 p2 [] hh
    rw [aaT] at g2 g4
    cases r with
    | fin p=>exact absurd hh (by show¬aB (Str.ofString "end")=true;decide)
    | doors k ds=>
     have d1:=hdr k ds rm
     dsimp only [uY,uf]
     walk_at "vc"
     refine ⟨ns,34+(i:Int),rfl,by omega,by omega,fun n hn=> ?_⟩
     refine jK hi (x8 ?_)
     refine (aL (d:= .lst (ds.map drG)) (xs:=ds.map drG) rfl ?_:j6 [.lst (ds.map drG)] _ _)
     rw [aac]
     refine ⟨by omega, ?_⟩
     have v0:=aaV n (show (ds.length:Int)≠0 by omega)
     have v1:=aaQ n (show 0 < (ds.length:Int) by omega)
     generalize n % (ds.length:Int)=v at *
     have dd:=EJ M p1 p2 []
     rw [aaT] at dd
     refine ⟨M.length+2,_,_,Sum.inr k,_,rfl,dd,rfl,g1, ?_⟩
     have plen:p.length≤i:=by
      have g3:bu p1 p2 k=some p:=g3
      unfold bu at g3
      split at g3
      ·rw [←aaw g3];exact pl1
      ·split at g3
       ·rw [←aaw g3];exact pl2
       ·cases g3
     refine ⟨k',_,_,Sum.inl (i:Int),rfl,g2,rfl,by unfold kP;rw [List.length_map];omega, ?_⟩
     rw [Ck (v:=v),Cp]
     have g5:=g4 fun p=>mR p i v
     rw [aaT] at g5
     rw [g5]
     obtain ⟨q1,q2⟩:=E8 (k:=kindOf (.doors k ds)) (f:=fun p=>mR p i v) n1 n2 fun p hp=>C2 hp
     obtain ⟨l1,l2⟩:=pl_len (k:=kindOf (.doors k ds)) (v:=v) (i:=(i:Int)) pl1 pl2
     refine nxt _ _ ⟨i+1,m',_,_,_,_,by rw [aa6];rfl,by omega,q1,q2,l1,l2,fun j hj=> ?_,rfl,rfl⟩
     by_cases ej:j=i
     ·rw [ej,Ds hi hh g3]
      unfold df
      rw [qz,if_pos rfl]
      show (decide (0≤v)&&decide (v < (ds.length:Int)))=true
      rw [decide_eq_true v0,decide_eq_true v1];rfl
     ·rw [Bf hh (fun p j hj=>by rw [qz,if_neg hj]) ej];exact gd j (by omega)
  ·obtain ⟨i,m,p1,p2,o4,o5,ex,im,n1,n2,pl1,pl2,gd,rfl,rfl⟩:=hj
   have m0:m=0:=by
    have:=congrArg List.length ex
    rw [bR] at this;exact this.symm
   have:i=rows.length:=by omega
   subst this
   exact h p1 p2 n1 n2 (by omega) (by omega) gd
theorem vi{a b:Int}(h0:0≤a)(h:a≤b):∀n:Nat,a ^ n≤b ^ n
 | 0=>by rw [aa3,aa3];exact Int.le_refl _
 | n+1=>by
  rw [aaP,aaP]
  exact abr (vi h0 h n) h h0 (abj (by omega))
def nD:Rw→List Fr
 | .fin p=>[p]
 | .doors _ ds=>ds.map (·.2.1)
def AN:List Rw→List Fr
 | []=>[]
 | r::rs=>nD r++AN rs
def chB:Rw→Int
 | .fin _=>1
 | .doors k ds=>if k="chance" then dI (ds.map ai) else 1
theorem pS{r:Rw}{p:Fr}(hp:p∈nD r):∀{rows:List Rw},r∈rows→p∈AN rows
 | s::rs,h=>by
  rcases aaJ.mp h with e | e
  ·subst e;exact abT _ hp
  ·exact aax _ (pS hp e)
theorem rL:∀{rows:List Rw},(∀r∈rows,(nD r).length≤6)→(AN rows).length≤6 * rows.length
 | [],_=>aak _
 | r::rs,h=>by
  have i:=rL fun s hs=>h s (aad _ hs)
  have:=h r aae
  show (nD r++AN rs).length≤_
  rw [aap,aas];omega
theorem rM{Q:Fr→Prop}:∀{rows:List Rw},(∀r∈rows,∀p∈nD r,Q p)→∀p∈AN rows,Q p
 | [],_,p,hp=>by cases hp
 | r::rs,h,p,hp=>by
  rcases aaL.mp hp with z | z
  ·exact h r aae p z
  ·exact rM (fun s hs=>h s (aad _ hs)) p z
theorem rQ{E:Int}{p:Fr}(hp:aX p=true)(p0:0 < p.2)(hd:p.2∣E):Nb E (10 ^ 30) p:=by
 refine ⟨p0,mz hd, ?_,dM (zi hp p0) (by decide)⟩
 unfold aX at hp
 rw [aat,decide_eq_true_iff,decide_eq_true_iff] at hp
 have h1:=hp.1
 have:10 ^ 30≤p.2 * 10 ^ 30:=by
  have:=aaj (show 1≤p.2 by omega) (show (0:Int)≤10 ^ 30 by decide)
  omega
 unfold dZ
 split at h1 <;> exact ⟨by omega,by omega⟩
theorem Fz{share:Fr}{rows:List Rw}(hs:aW share=true)(r6:rows.length≤5)(hg:∀r∈rows,RwG rows.length r):∃E B,Fl share rows E B∧(share.2 * B) ^ 12 < 2 ^ 1400:=by
 have pl:BF share rows:=⟨hs,by omega,fun r hr=>(hg r hr).1⟩
 have pr:∀r∈rows,∀p∈nD r,aX p=true∧0 < p.2:=fun r hr p hp=>by
  cases r with
  | fin p'=>
   have:p=p':=by simpa [nD] using hp
   subst this
   exact ⟨(hg _ hr).1.2,(hg _ hr).1.1⟩
  | doors k ds=>
   obtain ⟨d,hd,rfl⟩:=aal.mp hp
   exact (aQ pl hr).py d hd
 have prl:∀r∈rows,(nD r).length≤6:=fun r hr=>by
  cases r with
  | fin p=>show 1≤6;decide
  | doors k ds=>show (ds.map _).length≤6;rw [aac];exact (aQ pl hr).l6
 have pa:=rM pr
 have pa2:∀a∈(AN rows).map (·.2),0 < a∧a≤1000000:=fun a ha=>by
  obtain ⟨p,hp,rfl⟩:=aal.mp ha
  obtain ⟨f,p0⟩:=pa p hp
  unfold aX at f
  rw [aat,decide_eq_true_iff,decide_eq_true_iff] at f
  exact ⟨p0,f.2⟩
 have cb:∀a∈rows.map chB,0 < a∧a≤1000000:=fun a ha=>by
  obtain ⟨r,hr,rfl⟩:=aal.mp ha
  cases r with
  | fin p=>exact ⟨show (0:Int) < 1 by decide,show (1:Int)≤1000000 by decide⟩
  | doors k ds=>
   show 0 < (if k="chance" then dI (ds.map ai) else 1)∧(if k="chance" then dI (ds.map ai) else 1)≤1000000
   by_cases hk:k="chance"
   ·rw [if_pos hk]
    subst hk
    rcases (aQ pl hr).kd with z | ⟨_,_,o⟩
    ·exact absurd z (by decide)
    ·exact ⟨o.b0,o.b1⟩
   ·rw [if_neg hk];exact ⟨by decide,by decide⟩
 have pw:∀{a b:Nat},a≤b→(1000000:Int) ^ a≤1000000 ^ b:=fun {a b} h=>by
  have h:=abp (show 0 < 1000000 by decide) h
  have:((1000000 ^ a:Nat):Int)≤((1000000 ^ b:Nat):Int):=Int.ofNat_le.mpr h
  rw [abN,abN] at this
  exact this
 refine ⟨jM ((AN rows).map (·.2)),jM (rows.map chB),⟨pl,fR fun a ha=>(pa2 a ha).1, ?_,fR fun a ha=>(cb a ha).1, ?_,fun k ds hm d hd=> ?_,fun p hm=> ?_,fun k ds hm hk d hd=>(hg _ hm).2.1 k ds rfl hk d hd,fun ds hm d hd=> ?_⟩, ?_⟩
 ·have l:=rL prl
  have:=jL pa2
  rw [aac] at this
  exact aan (aa4 this (pw (show _≤30 by omega))) (by decide)
 ·have:=jL cb
  rw [aac] at this
  exact aan (aa4 this (pw r6)) (by decide)
 ·obtain ⟨f,p0⟩:=(aQ pl hm).py d hd
  exact rQ f p0 (gW (aal.mpr ⟨_,pS (r:= .doors k ds) (aal.mpr ⟨d,hd,rfl⟩) hm,rfl⟩))
 ·obtain ⟨f,p0⟩:=pr _ hm p aae
  exact rQ f p0 (gW (aal.mpr ⟨_,pS (r:= .fin p) aae hm,rfl⟩))
 ·rcases (aQ pl hm).kd with z | ⟨_,_,o⟩
  ·exact absurd z (by decide)
  ·obtain ⟨a,b,c,e⟩:=xh o (aal.mpr ⟨d,hd,rfl⟩)
   refine ⟨a,mz (Int.dvd_trans b ?_),c,e⟩
   have:chB (.doors "chance" ds)∣jM (rows.map chB):=gW (aal.mpr ⟨_,hm,rfl⟩)
   exact this
 ·obtain ⟨s0,s1,_⟩:=dt hs
  have b:=jL cb
  rw [aac] at b
  have b:=aa4 b (pw r6)
  have b0:=fR fun a ha=>(cb a ha).1
  have:=abr s1 b (aah b0) (show (0:Int)≤1000 by decide)
  exact aan (vi (aah (aaq s0 b0)) this 12) (by decide)
theorem Fw{share:Fr}{rows:List Rw}(hs:aW share=true)(n1:1≤rows.length)(r5:rows.length≤5)(hg:∀r∈rows,RwG rows.length r):FW share rows (10 ^ 36) (10 ^ 30):=by
 have pl:BF share rows:=⟨hs,by omega,fun r hr=>(hg r hr).1⟩
 have bot:∀{p:Fr},aX p=true→0 < p.2→0 < p.2∧p.2≤1000000:=fun {p} f p0=>by
  unfold aX at f
  rw [aat,decide_eq_true_iff,decide_eq_true_iff] at f
  exact ⟨p0,f.2⟩
 refine ⟨pl,n1,fun k ds hm hk d hd=>(hg _ hm).2.1 k ds rfl hk d hd,fun k ds hm=> ?_,fun p hm=> ?_,Int.le_refl _,by decide,Int.le_refl _⟩
 ·have dr:=aQ pl hm
  have pb:∀a∈ds.map (·.2.1.2),0 < a∧a≤1000000:=fun a ha=>by
   obtain ⟨d,hd,rfl⟩:=aal.mp ha
   exact bot (dr.py d hd).1 (dr.py d hd).2
  refine ⟨jM (ds.map (·.2.1.2)),fR fun a ha=>(pb a ha).1, ?_,fun d hd=> ?_⟩
  ·have:=jL pb
   rw [aac] at this
   have l:(1000000:Int) ^ ds.length≤1000000 ^ 6:=by
    have h:=abp (show 0 < 1000000 by decide) dr.l6
    have:((1000000 ^ ds.length:Nat):Int)≤((1000000 ^ 6:Nat):Int):=Int.ofNat_le.mpr h
    rw [abN,abN] at this
    exact this
   exact aa4 (aa4 this l) (by decide)
  ·have:=rQ (dr.py d hd).1 (dr.py d hd).2 (gW (l:=ds.map (·.2.1.2)) (aal.mpr ⟨d,hd,rfl⟩))
   exact ⟨(hg _ hm).2.2.2 k ds rfl d hd,this.he,this.ab⟩
 ·obtain ⟨p0,f⟩:=(hg _ hm).1
  have b:=bot f p0
  have:=rQ f p0 (Int.dvd_refl p.2)
  exact ⟨p.2,p0,aa4 b.2 (by decide),(hg _ hm).2.2.1 p rfl,this.he,this.ab⟩
theorem Fv{n:Nat}(h:n≤5):fwB (10 ^ 36) (10 ^ 30)≤2 ^ 450∧1≤fwB (10 ^ 36) (10 ^ 30)∧(12 * fwB (10 ^ 36) (10 ^ 30)) ^ n < 2 ^ 1300:=by
 refine ⟨by decide,by decide,aan (gX (show 1≤12 * fwB (10 ^ 36) (10 ^ 30) by decide) h) (by decide)⟩
theorem GO(p q:Fr):sA [.int p.1, .int p.2] [.int q.1, .int q.2]=decide (p=q):=by
 obtain ⟨a,b⟩:=p
 obtain ⟨c,d⟩:=q
 show ((a==c)&&((b==d)&&true))=_
 rw [Bool.and_true]
 by_cases h1:a=c
 ·by_cases h2:b=d
  ·subst h1 h2;simp
  ·simp [h1,h2]
 ·simp [h1]
theorem qL{p:Fr}{C:Int}(h:0 < p.2)(a:dZ p C):ab (val p)≤(C:Rat):=by
 have e:val p * (p.2:Rat)=p.1:=by
  have:=aZ (show p.2≠0 by omega)
  unfold val
  generalize (p.1:Rat)=x at *
  generalize (p.2:Rat)=y at *
  grind
 have p0:(0:Rat) < (p.2:Rat):=aaY.mpr h
 have a1:(p.1:Rat)≤(p.2:Rat) * (C:Rat):=by rw [←aaD];exact aaS.mpr a.1
 have a2: -((p.2:Rat) * (C:Rat))≤(p.1:Rat):=by rw [←aaD,←Rat.intCast_neg];exact aaS.mpr a.2
 refine hU.mpr ⟨?_, ?_⟩
 ·by_cases z: -(C:Rat)≤val p
  ·exact z
  ·have:=Rat.mul_pos (show 0 < -(C:Rat) - val p by grind) p0
   grind
 ·by_cases z:val p≤(C:Rat)
  ·exact z
  ·have:=Rat.mul_pos (show 0 < val p - (C:Rat) by grind) p0
   grind
theorem uA{p:Fr}{C:Int}(h:0 < p.2)(a:ab (val p)≤(C:Rat)):dZ p C:=by
 have e:val p * (p.2:Rat)=p.1:=by
  have:=aZ (show p.2≠0 by omega)
  unfold val
  generalize (p.1:Rat)=x at *
  generalize (p.2:Rat)=y at *
  grind
 have p0:(0:Rat)≤(p.2:Rat):=aaS.mpr (aah h)
 obtain ⟨a1,a2⟩:=hU.mp a
 have b1:=aa5 a1 p0
 have b2:=aa5 a2 p0
 constructor
 ·apply aaS.mp
  rw [Rat.intCast_mul];grind
 ·apply aaS.mp
  rw [Rat.intCast_neg,Rat.intCast_mul];grind
theorem Sys.abs{share:Fr}{n:Nat}{B:Int}{ws:Nat→List DrG}{gv:Nat→Fr}{tb:List Fr}{c:Rat}(S:Sys share n B ws gv)(h:Tab share n ws gv tb)(s3:1≤1000 * (1 - val share))(hg:∀i,i < n→ab (val (gv i))≤c):∀i,i < n→ab (val (tb.getD i (0,1)))≤1000 * c:=fun i hi=>by
 have s0:=S.s0
 have s1:=S.s1
 have:=zk (n:=n) (x:=fun x=>val (tb.getD x (0,1))) (c:=c) s1 (fun i hi m hm=>by
  obtain ⟨E,C,p,_⟩:=S.plc i hi
  have w:=hU.mp (pd p.wo (by omega) hm)
  have a:=aaF w.1 s0
  have b:=aaF w.2 s0
  have g:=hU.mp (hg i hi)
  rw [h.eq i hi]
  refine hU.mpr ⟨?_, ?_⟩ <;> grind) i hi
 have a0:=DZ (val (tb.getD i (0,1)))
 have:=aaF s3 a0
 grind
theorem lV{a b:Int}{j k:Nat}(h1:a.natAbs < 2 ^ j)(h2:b.natAbs < 2 ^ k):(a * b).natAbs < 2 ^ (j+k):=by
 rw [aaW];exact bD h1 h2
theorem md{share:Fr}{tb:List Fr}:∀ws:List DrG,bI (fun d=>cV d * (val d.2.1+val share * val (tb.getD d.1.toNat (0,1)))) ws=bI (fun d=>cV d * val d.2.1) ws+val share * bI (fun d=>cV d * val (tb.getD d.1.toNat (0,1))) ws
 | []=>by show (0:Rat)=0+val share * 0;grind
 | d::ws=>by
  have ih:=md (share:=share) (tb:=tb) ws
  show cV d * (val d.2.1+val share * val (tb.getD d.1.toNat (0,1)))+bI (fun d=>cV d * (val d.2.1+val share * val (tb.getD d.1.toNat (0,1)))) ws=(cV d * val d.2.1+bI (fun d=>cV d * val d.2.1) ws)+val share * (cV d * val (tb.getD d.1.toNat (0,1))+bI (fun d=>cV d * val (tb.getD d.1.toNat (0,1))) ws)
  rw [ih];grind
section
variable{share:Fr}{rows:List Rw}{X C:Int}{acc:Pl}{tb:List Fr}
theorem u0{i:Nat}{r:Rw}(hi:rows[i]? =some r):Ax rows i=r:=by
 unfold Ax
 rw [aab,hi];rfl
theorem Wth.fin(h:Wth share rows acc tb){i:Nat}{p:Fr}(hi:rows[i]? =some (.fin p)):val (tb.getD i (0,1))=val p:=by
 have e:=h.tab.eq i (aai.mp hi).1
 unfold wsA gvA at e
 rw [u0 hi] at e
 have e:val (tb.getD i (0,1))=val p+val share * 0:=e
 grind
theorem Wth.due(h:Wth share rows acc tb)(fw:FW share rows X C)(dk:ji rows acc){i:Nat}{k:Str}{ds:List DrG}(hi:rows[i]? =some (.doors k ds)):val (tb.getD i (0,1))=bI (fun d=>cV d * (val d.2.1+val share * val (tb.getD d.1.toNat (0,1)))) (aN acc i (.doors k ds)):=by
 have e:=h.tab.eq i (aai.mp hi).1
 unfold wsA gvA at e
 rw [u0 hi] at e
 obtain ⟨_,_,_,B,E,_,_,_,_,hw⟩:=fw.ways dk hi
 have v:=mX (aN acc i (.doors k ds)) (0,1) (by decide) fun d hd=>⟨(hw d hd).ch.pos,(hw d hd).py.red.pos⟩
 have e:val (tb.getD i (0,1))=val (((aN acc i (.doors k ds)).map ai |>.zip ((aN acc i (.doors k ds)).map (·.2.1))).foldl (fun w p=>bf w (aG p.1 p.2)) (0,1))+val share * bI (fun d=>cV d * val (tb.getD d.1.toNat (0,1))) (aN acc i (.doors k ds)):=e
 rw [e,v,md]
 have:val ((0,1):Fr)=0:=by show ((0:Int):Rat) / ((1:Int):Rat)=0;grind
 rw [this];grind
end
theorem qf{p:Fr}{M:Ms}{k:Bool→Ms→Prop}(h:k false M):Em (frD p) (frD p) M (fun d M1=>match d with | .bl b=>k b M1 | _=>False):=by
 show k (!sA [.int p.1, .int p.2] [.int p.1, .int p.2]) M
 rw [GO,decide_eq_true rfl];exact h
theorem Ey{c s:Fr}(hc:0 < c.2)(hs:0 < s.2):val (c.1 * s.1,c.2 * s.2)=val c * val s:=by
 have a:=aZ (show c.2≠0 by omega)
 have b:=aZ (show s.2≠0 by omega)
 unfold val
 simp only [Rat.intCast_mul]
 generalize (c.1:Rat)=x1 at *
 generalize (c.2:Rat)=x2 at *
 generalize (s.1:Rat)=y1 at *
 generalize (s.2:Rat)=y2 at *
 grind
theorem AH{w c s:Fr}(hw:0 < w.2)(hc:0 < c.2)(hs:0 < s.2):bf w (c.1 * s.1,c.2 * s.2)=bf w (aG c s):=by
 have t:Red (aG c s):=aM (aaH (aaq hc hs))
 refine jk (aM (aaH (aaq hw (aaq hc hs)))) (aM (aaH (aaq hw t.pos))) ?_
 rw [cN hw (aaq hc hs),cN hw t.pos,cv hc hs,Ey hc hs]
theorem szU{a b:Fr}{k l:Nat}(ha:Sz k a)(hb:Sz l b):Sz (k+l) (a.1 * b.1,a.2 * b.2):=⟨lV ha.1 hb.1,aaq ha.2.1 hb.2.1,lV ha.2.2 hb.2.2⟩
theorem qU(f:DrG→Fr):∀(ds:List DrG) (w:Fr),0 < w.2→(∀d∈ds,0 < (ai d).2∧0 < (f d).2)→val (((ds.map ai).zip (ds.map f)).foldl (fun w p=>bf w (aG p.1 p.2)) w)=val w+bI (fun d=>cV d * val (f d)) ds
 | [],w,_,_=>by show val w=val w+0;grind
 | d::ds,w,h,hp=>by
  obtain ⟨a,b⟩:=hp d aae
  have t:Red (aG (ai d) (f d)):=aM (aaH (aaq a b))
  have u:Red (bf w (aG (ai d) (f d))):=aM (aaH (aaq h t.pos))
  have ih:=qU f ds (bf w (aG (ai d) (f d))) u.pos fun x hx=>hp x (aad _ hx)
  rw [aaN,aaN,aa2,abD,ih,cN h t.pos,cv a b]
  show _=val w+(cV d * val (f d)+bI (fun d=>cV d * val (f d)) ds)
  grind
def mL:DF:=fun as M q _=>∃(a b:Fr) (k l:Nat),as=[frD a,frD b]∧Sz k a∧Sz l b∧k≤8000∧l≤8000∧q (frD (a.1 * b.1,a.2 * b.2)) M
theorem tj:ar ["_law_one","_law_other"] ["_law_one","_law_other"] (ag jy):=⟨rfl,rfl,rfl,by decide+kernel,rfl,by decide+kernel,by decide+kernel⟩
theorem pX{f:Addr}{fd:FuncData}(F:Fun K "_law_times" "_law_times" jy f fd)(E:Ev K mg Co CF CN):bA P w K mg base (CX1 P w) 1 f fd ["_law_one","_law_other"] (spD K mL):=by
 refine F.okD tj (fun ds M q x h=> ?_) (fun cdv A outer s H E' hr=>⟨_,(ah (au (cJ (aa (bW (aD (jv 0) aw) (aD (jv 1) aw)) (aa (bW (aD (jv 0) aw) (aD (jv 1) aw)) af (hs:=bO)) (hs:=bO))))),fun ds M q x h=> ?_⟩)
 ·obtain ⟨a,b,k,l,rfl,_⟩:=h;rfl
 ·obtain ⟨a,b,k,l,rfl,sa,sb,k8,l8,h⟩:=h
  walk_at "vc"
  refine (iy ?_:fIx (frD a) (.int 0) _ _)
  refine (iy ?_:fIx (frD b) (.int 0) _ _)
  refine ⟨⟨b8 sa k8,b8 sb l8⟩, ?_⟩
  refine (gI ?_:fIx (frD a) (.int 1) _ _)
  refine (gI ?_:fIx (frD b) (.int 1) _ _)
  exact ⟨⟨bj sa k8,bj sb l8⟩,by show 2≤sizeLine;decide,h⟩
def Ae:DF:=fun as M q _=>∃(a b:Fr) (k l:Nat),as=[frD a,frD b]∧Sz k a∧Sz l b∧k≤8000∧l≤8000∧q (.bl (decide (b.1 * a.2 < a.1 * b.2))) M
theorem uR:ar ["_law_one","_law_other"] ["_law_one","_law_other"] (ag lC):=⟨rfl,rfl,rfl,by decide+kernel,rfl,by decide+kernel,by decide+kernel⟩
theorem tJ{f:Addr}{fd:FuncData}(F:Fun K "_law_more" "_law_more" lC f fd)(E:Ev K mg Co CF CN):bA P w K mg base (CX1 P w) 1 f fd ["_law_one","_law_other"] (spD K Ae):=by
 refine F.okD uR (fun ds M q x h=> ?_) (fun cdv A outer s H E' hr=>⟨_,(ah (au (HE (bW (aD (jv 0) aw) (aD (jv 1) aw)) (bW (aD (jv 1) aw) (aD (jv 0) aw))))),fun ds M q x h=> ?_⟩)
 ·obtain ⟨a,b,k,l,rfl,_⟩:=h;rfl
 ·obtain ⟨a,b,k,l,rfl,sa,sb,k8,l8,h⟩:=h
  walk_at "vc"
  refine (iy ?_:fIx (frD a) (.int 0) _ _)
  refine (gI ?_:fIx (frD b) (.int 1) _ _)
  refine ⟨⟨b8 sa k8,bj sb l8⟩, ?_⟩
  refine (iy ?_:fIx (frD b) (.int 0) _ _)
  refine (gI ?_:fIx (frD a) (.int 1) _ _)
  exact ⟨⟨b8 sb l8,bj sa k8⟩,h⟩
def xD:DF:=fun as M q _=>∃(a b:Fr) (k l:Nat),as=[frD a,frD b]∧Sz k a∧Sz l b∧k+l≤8000∧q (frD (bf a b)) M
theorem uQ:ar ["_law_one","_law_other"] ["_law_one","_law_other"] (ag lB):=⟨rfl,rfl,rfl,by decide+kernel,rfl,by decide+kernel,by decide+kernel⟩
theorem tI{f:Addr}{fd:FuncData}(F:Fun K "_law_plus" "_law_plus" lB f fd)(E:Ev K mg Co CF CN){fLawLowest:Addr}{dLawLowest:FuncData}(c_LawLowest:bx P w K mg base 1 "_law_lowest" ["_law_top","_law_bottom"] BQ fLawLowest dLawLowest):bA P w K mg base (CX1 P w) 2 f fd ["_law_one","_law_other"] (spD K xD):=by
 refine F.okD uQ (fun ds M q x h=> ?_) (fun cdv A outer s H E' hr=>⟨_,(ah (au (aV c_LawLowest hr aj (aa (dc (bW (aD (jv 0) aw) (aD (jv 1) aw)) (bW (aD (jv 1) aw) (aD (jv 0) aw))) (aa (bW (aD (jv 0) aw) (aD (jv 1) aw)) af (hs:=bO)) (hs:=bO))))),fun ds M q x h=> ?_⟩)
 ·obtain ⟨a,b,k,l,rfl,_⟩:=h;rfl
 ·obtain ⟨a,b,k,l,rfl,sa,sb,kl,h⟩:=h
  have k8:k≤8000:=by omega
  have l8:l≤8000:=by omega
  walk_at "vc"
  refine (iy ?_:fIx (frD a) (.int 0) _ _)
  refine (gI ?_:fIx (frD b) (.int 1) _ _)
  refine ⟨⟨b8 sa k8,bj sb l8⟩, ?_⟩
  refine (iy ?_:fIx (frD b) (.int 0) _ _)
  refine (gI ?_:fIx (frD a) (.int 1) _ _)
  refine ⟨⟨b8 sb l8,bj sa k8⟩, ?_⟩
  dsimp only [DD]
  refine (gI ?_:fIx (frD a) (.int 1) _ _)
  refine (gI ?_:fIx (frD b) (.int 1) _ _)
  exact ⟨⟨bj sa k8,bj sb l8⟩,_,_,rfl,aaq sa.2.1 sb.2.1,bg (lV sa.2.2 sb.2.2) kl,h⟩
def xC:DF:=fun as M q _=>∃(a:Fr) (t:Nat),as=[frD a, .int (t:Nat)]∧t≤12∧Sz 10 a∧q (frD (a.1 ^ t,a.2 ^ t)) M
theorem fN:ar ["_law_some","_law_turns","_law_found","_law_k"] ["_law_some","_law_turns"] (ag jB):=⟨rfl,rfl,rfl,by decide+kernel,rfl,by decide+kernel,by decide+kernel⟩
theorem p5{f:Addr}{fd:FuncData}(F:Fun K "_law_power" "_law_power" jB f fd)(E:Ev K mg Co CF CN){fLawTimes:Addr}{dLawTimes:FuncData}(c_LawTimes:bx P w K mg base 1 "_law_times" ["_law_one","_law_other"] mL fLawTimes dLawTimes):bA P w K mg base (CX1 P w) 2 f fd ["_law_some","_law_turns"] (spD K xC):=by
 refine F.okD fN (fun ds M q x h=> ?_) (fun cdv A outer s H E' hr=>⟨_,(ae (aq (i:=2) fN.nd rfl (Or.inl rfl) (cJ (aa aw (aa aw af (hs:=bB)) (hs:=bB))))
   (ae (fg (bq E.n_range (aa (jv 1) af (hs:=ak))) (aJ (i:=3) fN.nd rfl (Or.inl rfl)) bJ (ah (aq (i:=2) fN.nd rfl (Or.inl rfl) (aV c_LawTimes hr aj (aa (jv 2) (aa (jv 0) af (hs:=ak)) (hs:=ak))))))
   (ah (au (jv 2))))),fun ds M q x h=> ?_⟩)
 ·obtain ⟨a,t,rfl,_⟩:=h;rfl
 ·obtain ⟨a,t,rfl,t12,sa,h⟩:=h
  walk_at "vc"
  refine ⟨by show 2≤sizeLine;decide,by omega, ?_⟩
  rw [show ((t:Int)).toNat=t by omega]
  refine bU (fun zs ρ' M'=>M'=M∧∃(i m:Nat) (o4:Option Dt),zs=fW (i:Int) m∧i+m=t∧Sz (10 * i+1) (a.1 ^ i,a.2 ^ i)∧ρ'=[some (frD a),some (.int (t:Int)),some (frD (a.1 ^ i,a.2 ^ i)),o4]) (fun x zs ρ' M' hj nxt=> ?_) (fun ρ' M' hj=> ?_) _ _ _ ⟨rfl,0,t,none,rfl,by omega,⟨by show (a.1 ^ 0).natAbs < _;rw [aa3];decide,by show 0 < a.2 ^ 0;rw [aa3];decide,by show (a.2 ^ 0).natAbs < _;rw [aa3];decide⟩,by rw [aa3,aa3];rfl⟩
  ·obtain ⟨rfl,i,m,o4,ex,im,si,rfl⟩:=hj
   obtain ⟨m',rfl,rfl,rfl⟩:=bC ex
   refine ⟨(a.1 ^ i,a.2 ^ i),a,_,_,rfl,si,sa,by omega,by omega, ?_⟩
   have s1:=dM (szU si sa) (show _≤10 * (i+1)+1 by omega)
   rw [show ((a.1 ^ i,a.2 ^ i):Fr).1 * a.1=a.1 ^ (i+1) from (aaP a.1 i).symm,show ((a.1 ^ i,a.2 ^ i):Fr).2 * a.2=a.2 ^ (i+1) from (aaP a.2 i).symm] at s1⊢
   exact nxt _ _ ⟨rfl,i+1,m',_,by rw [aa6];rfl,by omega,s1,rfl⟩
  ·obtain ⟨rfl,i,m,o4,ex,im,si,rfl⟩:=hj
   have m0:m=0:=by
    have:=congrArg List.length ex
    rw [bR] at this;exact this.symm
   have:i=t:=by omega
   subst this
   exact h
def Eb:DF:=fun as M q _=>∃(share:Fr) (rows:List Rw) (r:Rw) (tb:List Fr) (kt:Nat) (dd:Dt) (E B F C:Int),as=[cj r,dd,frD share, .loc kt]∧M[kt]? =some (.lst (tb.map frD))∧Fl share rows E B∧Gr F C∧Tb rows (E * F) C tb∧r∈rows∧(aB (kindOf r)=true→∃j:Nat,dd= .int (j:Int)∧j < (aF r).length∧q (frD (aO share tb ((aF r).getD j d0))) M)∧(aB (kindOf r)=false→q (frD (mh share tb r)) M)
theorem gQ:ar ["_law_row","_law_door","_law_some","_law_table_here","_law_seen","_law_found","_law_k"] ["_law_row","_law_door","_law_some","_law_table_here"] (ag jD):=⟨rfl,rfl,rfl,by decide+kernel,rfl,by decide+kernel,by decide+kernel⟩
theorem vI{f:Addr}{fd:FuncData}(F:Fun K "_law_due" "_law_due" jD f fd)(E:Ev K mg Co CF CN){fLawPlus:Addr}{dLawPlus:FuncData}(c_LawPlus:bx P w K mg base 2 "_law_plus" ["_law_one","_law_other"] xD fLawPlus dLawPlus){fLawTimes:Addr}{dLawTimes:FuncData}(c_LawTimes:bx P w K mg base 1 "_law_times" ["_law_one","_law_other"] mL fLawTimes dLawTimes):bA P w K mg base (CX1 P w) 3 f fd ["_law_row","_law_door","_law_some","_law_table_here"] (spD K Eb):=by
 refine F.okD gQ (fun ds M q x h=> ?_) (fun cdv A outer s H E' hr=>⟨_,(ae (bc (eg hr (aD (jv 0) aw) g9) (ah (au (aD (jv 0) aw))) aA)
   (ae (eW (i:=4) gQ.nd rfl (Or.inl rfl) (ys:=["_law_some","_law_table_here"]) (caps:=[2,3]) ⟨rfl,by decide+kernel,by decide+kernel,rfl,(by show∀p:Str×NameKind,p∈_→p.2=NameKind.free→List.lookup p.1 (ag jD).names=some .cell;decide+kernel),by decide+kernel,(by show∀q:Str×Nat,q∈_→(["_law_row","_law_door","_law_some","_law_table_here","_law_seen","_law_found","_law_k"]:List Str)[q.2]? =some q.1∧List.lookup q.1 (ag jD).names=some .cell∧_;decide+kernel),rfl⟩ (cD (aD (jv 0) aw)) (fun C s H fp=>(aV c_LawPlus hr (dU (P:=P) (w:=w)) (aa (aD (jv 0) aw) (aa (aV c_LawTimes hr (dU (P:=P) (w:=w)) (aa (jv 1) (aa (aD (jv 2) (aD (jv 0) aw)) af (hs:=aS)) (hs:=ak))) af (hs:=aU)) (hs:=aS)))))
   (ae (bc (mv hr (aD (jv 0) aw) g9) (ah (au (aD (jv 4) (jv 1)))) aA)
   (ae (aq (i:=5) gQ.nd rfl (Or.inl rfl) (cJ (aa aw (aa aw af (hs:=bB)) (hs:=bB))))
   (ae (fg (bq E.n_range (aa (dE E.n_len (aa (jv 4) af (hs:=ak))) af (hs:=aU))) (aJ (i:=6) gQ.nd rfl (Or.inl rfl)) bJ (ah (aq (i:=5) gQ.nd rfl (Or.inl rfl) (aV c_LawPlus hr aj (aa (jv 5) (aa (aV c_LawTimes hr aj (aa (aD (aD (aD (jv 0) aw) (jv 6)) aw) (aa (aD (jv 4) (jv 6)) af (hs:=aS)) (hs:=aS))) af (hs:=aU)) (hs:=ak))))))
   (ah (au (jv 5)))))))),fun ds M q x h=> ?_⟩)
 ·obtain ⟨share,rows,r,tb,kt,dd,E,B,F,C,rfl,_⟩:=h;rfl
 ·obtain ⟨share,rows,r,tb,kt,dd,E0,B,F0,C,rfl,hk,fl,g,ht,rm,hh,hc⟩:=h
  have sl:∀{z:Nat},z≤1000→z≤sizeLine:=fun h=>aaz h (by decide)
  obtain ⟨s0,s1,su⟩:=dt fl.pl.sh
  have ss10:Sz 10 share:=⟨by have:=su.1;have:=su.2;omega,s0,by omega⟩
  walk_at "vc"
  refine gA ?_
  cases r with
  | fin p=>
   refine ⟨fun _=> ?_,fun z=>(nomatch z)⟩
   exact x8 (hc rfl)
  | doors k ds=>
   have dr:=aQ fl.pl rm
   have l6:=dr.l6
   refine ⟨fun z=>absurd (of_decide_eq_true z) dr.ro.1,fun _=> ?_⟩
   refine sj (i:=0) (j:=1) rfl (aI (j:=1) rfl) rfl ?_
   refine ⟨by rw [aac];exact sl (by omega), ?_⟩
   refine cL (F:=fun x d=>x=drG d∧d∈ds) (f:=fun d=>frD (aO share tb d)) (as:=ds) trivial (fun x d hx qq hq=> ?_) (fS drG ds ds fun x hx=>hx) ?_
   ·obtain ⟨rfl,hd⟩:=hx
    obtain ⟨t0,t1⟩:=dr.to d hd
    obtain ⟨at_,tn⟩:=qZ ht t0 t1
    have pn:=fl.pay k ds rm d hd
    walk_at "vc"
    refine Bp ?_
    refine ud ?_
    refine (ax (d:= .loc kt) (iD hk) at_ ?_:fIx (.loc kt) (.int d.1) _ _)
    refine ⟨share,lg tb d.1,_,_,rfl,ss10,tn.sz,by decide,by decide, ?_⟩
    refine ⟨d.2.1,_,_,_,rfl,dM (zi (dr.py d hd).1 (dr.py d hd).2) (aak _),szU ss10 tn.sz,by decide, ?_⟩
    rw [AH pn.pos s0 tn.pos]
    exact hq
   rw [aaI]
   generalize hss:ds.map (fun d=>frD (aO share tb d))=ss
   have sat:∀{j:Nat} {d:DrG},ds[j]? =some d→atI ss (j:Int)=some (frD (aO share tb d)):=fun {j d} h=>aI (by rw [←hss,aaf,h];rfl)
   have ssl:ss.length=ds.length:=by rw [←hss,aac]
   refine gA (r:= .doors k ds) ?_
   refine ⟨fun z=> ?_,fun z=> ?_⟩
   ·have z:(!decide (k="chance"))=true:=z
    have z:k≠"chance":=by simpa using z
    have ih:aB k=true:=by
     rcases dr.kd with y | ⟨_,y,_⟩
     ·exact y
     ·exact absurd y z
    obtain ⟨j,rfl,jl,hq⟩:=hh ih
    have jl:j < ds.length:=jl
    have hj:ds[j]? =some ds[j]:=aaa jl
    have gd:(aF (.doors k ds)).getD j d0=ds[j]:=by show ds.getD j d0=_;rw [aab,hj];rfl
    rw [gd] at hq
    exact ax (d:= .lst ss) rfl (sat hj) hq
   ·have z:(!decide (k="chance"))=false:=z
    have z:k="chance":=by simpa using z
    subst z
    have hc:q (frD (ff ((ds.map ai).zip (ds.map (aO share tb))))) M:=hc (by show aB (Str.ofString "chance")=false;decide)
    obtain ⟨z1,z2⟩:=qk fl g
    have c0:=g.c0
    have c1:=g.c1
    generalize hps:(ds.map ai).zip (ds.map (aO share tb))=ps at *
    have pl:ps.length=ds.length:=by rw [←hps,abl,aac,aac];omega
    have pok:∀p∈ps,Ch B p.1∧Nb (E0 * F0 * share.2) (10 ^ 30+C) p.2:=fun p hp=>by
     rw [←hps] at hp
     refine ⟨fl.chs rm _ (aaU hp).1, ?_⟩
     obtain ⟨d,hd,e⟩:=aal.mp (aaU hp).2
     rw [←e];exact iW fl g ht rm hd
    have wn:∀i,Sz 2600 ((ps.take i).foldl (fun w p=>bf w (aG p.1 p.2)) (0,1)):=fun i=>
     (gM fl.b0 z1 z2 (show 0≤10 ^ 30+C by omega) (by omega) (ps.take i) (0,1) 0 (by rw [abH];omega) (by rw [abI,Int.zero_mul];exact zI) (fun p hp=>pok p (List.mem_of_mem_take hp))).sz
    refine ⟨by show 2≤sizeLine;decide, ?_⟩
    refine (aL (d:= .lst ss) (xs:=ss) rfl ?_:j6 [.lst ss] _ _)
    rw [ssl]
    refine ⟨by omega, ?_⟩
    rw [show ((ds.length:Int)).toNat=ds.length by omega]
    refine bU (fun zs ρ' M'=>M'=M∧∃(i m:Nat) (o7:Option Dt),zs=fW (i:Int) m∧i+m=ds.length∧ρ'=[some (cj (.doors "chance" ds)),some dd,some (frD share),some (.loc kt),some (.lst ss),some (frD ((ps.take i).foldl (fun w p=>bf w (aG p.1 p.2)) (0,1))),o7]) (fun x zs ρ' M' hj nxt=> ?_) (fun ρ' M' hj=> ?_) _ _ _ ⟨rfl,0,ds.length,none,rfl,by omega,rfl⟩
    ·obtain ⟨rfl,i,m,o7,ex,im,rfl⟩:=hj
     obtain ⟨m',rfl,rfl,rfl⟩:=bC ex
     have il:i < ds.length:=by omega
     have hi:ds[i]? =some ds[i]:=aaa il
     have hd:=aay il
     have ep:ps[i]? =some (ai ds[i],aO share tb ds[i]):=by
      rw [←hps,List.getElem?_zip_eq_some]
      exact ⟨by rw [aaf,hi];rfl,by rw [aaf,hi];rfl⟩
     have pm:=pok _ (aag ep)
     have tk1:ps.take (i+1)=ps.take i++[(ai ds[i],aO share tb ds[i])]:=by rw [List.take_succ,ep];rfl
     have w0:=wn i
     have nx:=nxt [some (cj (.doors "chance" ds)),some dd,some (frD share),some (.loc kt),some (.lst ss),some (frD ((ps.take (i+1)).foldl (fun w p=>bf w (aG p.1 p.2)) (0,1))),some (.int (i:Int))] M' ⟨rfl,i+1,m',_,by rw [aa6];rfl,by omega,rfl⟩
     rw [tk1,List.foldl_append] at nx
     generalize (ps.take i).foldl (fun w p=>bf w (aG p.1 p.2)) (0,1)=fd at *
     walk_at "vc"
     refine x8 (ax (d:= .lst (ds.map drG)) rfl (DG il) (Bo ((dr.ro.2.2.1 rfl).1 _ hd) ?_))
     refine (ax (d:= .lst ss) rfl (sat hi) ?_:fIx (.lst ss) (.int (i:Int)) _ _)
     refine ⟨ai ds[i],aO share tb ds[i],_,_,rfl,pm.1.sz,pm.2.sz,by decide,by decide, ?_⟩
     refine ⟨fd,_,_,_,rfl,w0,szU pm.1.sz pm.2.sz,by decide, ?_⟩
     rw [AH w0.2.1 pm.1.pos pm.2.pos]
     exact nx
    ·obtain ⟨rfl,i,m,o7,ex,im,rfl⟩:=hj
     have m0:m=0:=by
      have:=congrArg List.length ex
      rw [bR] at this;exact this.symm
     have e:ps.take i=ps:=abf (by omega)
     rw [e]
     exact hc
section
variable{share:Fr}{rows:List Rw}{E B F C X Y:Int}{tb:List Fr}{acc:Pl}
theorem lX{i:Nat}{r:Rw}(hi:rows[i]? =some r):(cX share rows acc tb).getD i (0,1)=match cK acc i with
 | some j=>aO share tb ((aF r).getD j.toNat d0)
 | none=>mh share tb r:=by
 have il:=(aai.mp hi).1
 unfold cX
 rw [aab,aaf,aaB il]
 show (match rows[i]? with | some r=>_ | none=>_)=_
 rw [hi];try rfl
theorem gP(fl:Fl share rows E B)(hp:∀j,j < rows.length→0 < (tb.getD j (0,1)).2){k:Str}{ds:List DrG}(hm:Rw.doors k ds∈rows){d:DrG}(hd:d∈ds):val (aO share tb d)=val d.2.1+val share * val (tb.getD d.1.toNat (0,1))∧Red (aO share tb d):=by
 obtain ⟨s0,s1,su⟩:=dt fl.pl.sh
 have dr:=aQ fl.pl hm
 obtain ⟨t0,t1⟩:=dr.to d hd
 have tp:0 < (tb.getD d.1.toNat (0,1)).2:=hp _ (by omega)
 have p0:=(dr.py d hd).2
 have t:Red (aG share (tb.getD d.1.toNat (0,1))):=aM (aaH (aaq s0 tp))
 refine ⟨?_,aM (aaH (aaq p0 t.pos))⟩
 show val (bf d.2.1 (aG share (tb.getD d.1.toNat (0,1))))=_
 rw [cN p0 t.pos,cv s0 tp]
theorem lW(fl:Fl share rows E B)(ht:∀j,j < rows.length→0 < (tb.getD j (0,1)).2)(dk:ji rows acc){i:Nat}{k:Str}{ds:List DrG}(hi:rows[i]? =some (.doors k ds)):val ((cX share rows acc tb).getD i (0,1))=bI (fun d=>cV d * (val d.2.1+val share * val (tb.getD d.1.toNat (0,1)))) (aN acc i (.doors k ds))∧Red ((cX share rows acc tb).getD i (0,1)):=by
 have rm:Rw.doors k ds∈rows:=aag hi
 have dr:=aQ fl.pl rm
 rw [lX hi]
 cases hh:aB k with
 | true=>
  obtain ⟨j,hj,jl⟩:=dk.hand i _ hi hh
  have jl:j < ds.length:=jl
  have gd:ds.getD j d0=ds[j]:=by rw [aab,aaa jl];rfl
  have dm:=aay jl
  have e:aN acc i (.doors k ds)=[(ds[j].1,ds[j].2.1,[(1,1)])]:=by
   unfold aN
   rw [hj]
   show [((ds.getD ((j:Int)).toNat d0).1,(ds.getD ((j:Int)).toNat d0).2.1,(ds.getD ((j:Int)).toNat d0).2.2++[(1,1)])]=_
   rw [abg,gd,fl.hnd k ds rm hh _ dm];rfl
  rw [e,hj]
  show val (aO share tb (ds.getD ((j:Int)).toNat d0))=_∧Red (aO share tb (ds.getD ((j:Int)).toNat d0))
  rw [abg,gd]
  obtain ⟨v,r⟩:=gP fl ht rm dm
  refine ⟨?_,r⟩
  rw [v]
  show _=cV (ds[j].1,ds[j].2.1,[((1,1):Fr)]) * (val ds[j].2.1+val share * val (tb.getD ds[j].1.toNat (0,1)))+0
  have:cV (ds[j].1,ds[j].2.1,[((1,1):Fr)])=1:=by show ((1:Int):Rat) / ((1:Int):Rat)=1;grind
  rw [this];grind
 | false=>
  have hc:k="chance":=by
   rcases dr.kd with z | ⟨_,z,_⟩
   ·rw [z] at hh;cases hh
   ·exact z
  subst hc
  have gn:=dk.oth i _ hi hh
  have e:aN acc i (.doors "chance" ds)=ds:=by
   unfold aN
   rw [gn];rfl
  rw [e,gn]
  show val (ff ((ds.map ai).zip (ds.map (aO share tb))))=_∧Red (ff ((ds.map ai).zip (ds.map (aO share tb))))
  have v:=qU (aO share tb) ds (0,1) (by decide) fun d hd=>⟨(fl.ch ds rm d hd).1,(gP fl ht rm hd).2.pos⟩
  refine ⟨?_,lI _ _ ⟨by decide,by decide⟩ fun p hp=> ?_⟩
  ·unfold ff
   rw [v,cI fun d hd=>by rw [(gP fl ht rm hd).1]]
   have:val ((0,1):Fr)=0:=by show ((0:Int):Rat) / ((1:Int):Rat)=0;grind
   rw [this];grind
  ·obtain ⟨q1,q2⟩:=aaU hp
   obtain ⟨d,hd,e⟩:=aal.mp q2
   exact ⟨(fl.chs rm _ q1).pos,by rw [←e];exact (gP fl ht rm hd).2.pos⟩
theorem lY(dk:ji rows acc){i:Nat}{p:Fr}(hi:rows[i]? =some (.fin p)):(cX share rows acc tb).getD i (0,1)=p:=by
 rw [lX hi,dk.oth i _ hi (show aB (Str.ofString "end")=false by decide)];rfl
theorem Wth.more(h:Wth share rows acc tb)(fw:FW share rows X Y)(fl:Fl share rows E B)(dk:ji rows acc){i:Nat}{r:Rw}(hi:rows[i]? =some r):(cX share rows acc tb).getD i (0,1)=tb.getD i (0,1):=by
 have il:=(aai.mp hi).1
 have rd:=h.tab.red i il
 cases r with
 | fin p=>
  rw [lY dk hi]
  obtain ⟨_,_,_,n⟩:=fw.fin p (aag hi)
  exact jk n.red rd (h.fin hi).symm
 | doors k ds=>
  obtain ⟨v,r⟩:=lW fl (fun j hj=>(h.tab.red j hj).pos) dk hi
  exact jk r rd (by rw [v,h.due fw dk hi])
theorem Wth.tbs(h:Wth share rows acc tb)(fw:FW share rows (10 ^ 36) (10 ^ 30))(dk:ji rows acc)(fl:Fl share rows E B):∃N,Gr N (1000 * (6 * 10 ^ 30))∧Tb rows (E * N) (1000 * (6 * 10 ^ 30)) tb∧N < 2 ^ 1300∧∀t∈tb,Red t∧hV t N∧dZ t (1000 * (6 * 10 ^ 30)):=by
 obtain ⟨N,n0,n1,hN⟩:=h.cb
 have S:=fw.sys dk (by decide)
 obtain ⟨_,_,_,_,_,s3⟩:=fw.sh
 have ln:=h.tab.len
 have ab:=S.abs h.tab s3 (c:=((6 * 10 ^ 30:Int):Rat)) fun i hi=>by
  obtain ⟨E,p,_⟩:=fw.plc dk (uZ hi)
  exact qL p.gn.red.pos p.gn.ab
 have gr:Gr N (1000 * (6 * 10 ^ 30)):=⟨n0,abE n1 (by decide),by decide,by decide⟩
 have key:∀t∈tb,Red t∧hV t N∧dZ t (1000 * (6 * 10 ^ 30)):=fun t ht=>by
  obtain ⟨i,hi,e⟩:=aa7 ht
  have hi':i < rows.length:=by omega
  have e:tb.getD i (0,1)=t:=by rw [aab,aaa hi,e];rfl
  have r:=h.tab.red i hi'
  have b:=hN i hi'
  have a:=ab i hi'
  rw [e] at r b a
  exact ⟨r,b,uA r.pos (by rw [aaD];exact a)⟩
 refine ⟨N,gr,⟨ln,fun t ht=> ?_⟩,n1,key⟩
 obtain ⟨r,b,a⟩:=key t ht
 refine yt r ?_ a (gr.bd fl)
 have:=jd E b
 rwa [aaE] at this
theorem yd{p1 p2 pl:Pl}{i:Nat}{r:Rw}{j:Nat}(gd:cF rows p1 p2 i=true)(hi:rows[i]? =some r)(hp:bu p1 p2 (kindOf r)=some pl)(hj:cK (fY rows p1 p2 rows.length) i=some (j:Int)):cK pl i=some (j:Int):=by
 have il:=(aai.mp hi).1
 rw [mI,if_pos il,hi] at hj
 have hj:Option.map (fun pl=>(cK pl i).getD 0) (bu p1 p2 (kindOf r))=some (j:Int):=hj
 rw [hp] at hj
 have hj:some ((cK pl i).getD 0)=some (j:Int):=hj
 unfold cF at gd
 rw [hi] at gd
 have gd:gH p1 p2 i r=true:=gd
 unfold gH at gd
 rw [hp] at gd
 have gd:df pl i (aF r).length=true:=gd
 unfold df at gd
 cases hv:cK pl i with
 | none=>rw [hv] at gd;cases gd
 | some v=>rw [hv] at hj;exact hj
end
def xy:DF:=fun as M q _=>∃(share:Fr) (rows:List Rw) (tb:List Fr) (kt kp:Nat) (p1 p2:Pl) (E B F C:Int),as=[.loc kt, .lst (rows.map cj),frD share, .loc kp]∧M[kt]? =some (.lst (tb.map frD))∧Two M kp p1 p2∧Fl share rows E B∧Gr F C∧Tb rows (E * F) C tb∧(∀i,i < rows.length→cF rows p1 p2 i=true)∧(∀i r,rows[i]? =some r→(cX share rows (fY rows p1 p2 rows.length) tb).getD i (0,1)=tb.getD i (0,1))∧q (.bl true) M
theorem fM:ar ["_law_found","_law_rows_here","_law_some","_law_plans_here","_law_place","_law_door"] ["_law_found","_law_rows_here","_law_some","_law_plans_here"] (ag jz):=⟨rfl,rfl,rfl,by decide+kernel,rfl,by decide+kernel,by decide+kernel⟩
theorem pY{f:Addr}{fd:FuncData}(F:Fun K "_law_table" "_law_table" jz f fd)(E:Ev K mg Co CF CN){fLawDue:Addr}{dLawDue:FuncData}(c_LawDue:bx P w K mg base 3 "_law_due" ["_law_row","_law_door","_law_some","_law_table_here"] Eb fLawDue dLawDue):bA P w K mg base (CX1 P w) 4 f fd ["_law_found","_law_rows_here","_law_some","_law_plans_here"] (spD K xy):=by
 refine F.okD fM (fun ds M q x h=> ?_) (fun cdv A outer s H E' hr=>⟨_,(ae (bc (JW.jt (oa (kK (eG (zN K E.n_isinstance (aa (jv 0) (aa (GJ E.n_list kX) af (hs:=ak)) (hs:=ak))))) (iG (mv hr (dE E.n_len (aa (jv 0) af (hs:=ak))) (dE E.n_len (aa (jv 1) af (hs:=ak))))))) (ah (au jbl)) aA)
   (ae (fg (bq E.n_range (aa (dE E.n_len (aa (jv 1) af (hs:=ak))) af (hs:=aU))) (aJ (i:=4) fM.nd rfl (Or.inl rfl)) bJ (ae (aq (i:=5) fM.nd rfl (Or.inl rfl) aw)
   (ae (iH (bc (JW.jt (oa (eg hr (aD (aD (jv 1) (jv 4)) aw) g9) (iG (eg hr (aD (aD (jv 1) (jv 4)) aw) g9)))) (ah (aq (i:=5) fM.nd rfl (Or.inl rfl) (d7 hr (d7 hr (jv 3) (aD (aD (jv 1) (jv 4)) aw)) (jv 4)))) aA))
   (ah (bc (JW.jt (oa (kK (eG (zN K E.n_isinstance (aa (aD (jv 0) (jv 4)) (aa (GJ E.n_tuple qH) af (hs:=ak)) (hs:=aS))))) (iG (mv hr (aD (jv 0) (jv 4)) (aV c_LawDue hr aj (aa (aD (jv 1) (jv 4)) (aa (jv 5) (aa (jv 2) (aa (jv 0) af (hs:=ak)) (hs:=ak)) (hs:=ak)) (hs:=aS))))))) (ah (au jbl)) aA)))))
   (ah (au jbl)))),fun ds M q x h=> ?_⟩)
 ·obtain ⟨share,rows,tb,kt,kp,p1,p2,E,B,F,C,rfl,_⟩:=h;rfl
 ·obtain ⟨share,rows,tb,kt,kp,p1,p2,E0,B,F0,C,rfl,hk,tw,fl,g,ht,gd,hm,h⟩:=h
  have hkind:yz M (.loc kt)=some (.type "list"):=vT (me hk)
  have l12:=fl.pl.len
  have dk:=yQ gd
  walk_at "vc"
  refine ⟨_,_,_,_,true,rfl,hkind,rfl,zJ,fun z=>(nomatch z),fun _=> ?_⟩
  refine (aL (d:= .loc kt) (iD hk) ?_:j6 [.loc kt] _ _)
  refine (aL (d:= .lst (rows.map cj)) (xs:=rows.map cj) rfl ?_:j6 [.lst (rows.map cj)] _ _)
  rw [aac,aac,ht.len]
  refine ⟨fun z=> ?_,fun _=> ?_⟩
  ·have z:(!decide ((rows.length:Int)=(rows.length:Int)))=true:=z
   rw [decide_eq_true rfl] at z;exact nomatch z
  refine (aL (d:= .lst (rows.map cj)) (xs:=rows.map cj) rfl ?_:j6 [.lst (rows.map cj)] _ _)
  rw [aac]
  refine ⟨by omega, ?_⟩
  rw [show ((rows.length:Int)).toNat=rows.length by omega]
  refine bU (fun zs ρ' M'=>M'=M∧∃(i m:Nat) (o4 o5:Option Dt),zs=fW (i:Int) m∧i+m=rows.length∧ρ'=[some (.loc kt),some (.lst (rows.map cj)),some (frD share),some (.loc kp),o4,o5]) (fun x zs ρ' M' hj nxt=> ?_) (fun ρ' M' hj=> ?_) _ _ _ ⟨rfl,0,rows.length,none,none,rfl,by omega,rfl⟩
  ·obtain ⟨rfl,i,m,o4,o5,ex,im,rfl⟩:=hj
   obtain ⟨m',rfl,rfl,rfl⟩:=bC ex
   have il:i < rows.length:=by omega
   have hi:rows[i]? =some rows[i]:=aaa il
   generalize hr0:rows[i]=r at *
   have rm:r∈rows:=aag hi
   have ti:=(qZ ht (t:=(i:Int)) (by omega) (by omega)).1
   have ti:atI (tb.map frD) (i:Int)=some (frD (tb.getD i (0,1))):=ti
   have hm:=hm i r hi
   rw [lX hi] at hm
   generalize hacc:fY rows p1 p2 rows.length=acc at *
   walk_at "vc"
   refine ⟨fun ρ M2=>M2=M'∧∃dd:Dt,(aB (kindOf r)=true→∃j:Nat,dd= .int (j:Int)∧cK acc i=some (j:Int))∧ρ=[some (.loc kt),some (.lst (rows.map cj)),some (frD share),some (.loc kp),some (.int (i:Int)),some dd], ?_, ?_⟩
   ·have go:aB (kindOf r)=true→∀(nx:Dt→Ms→Prop) (xx:DX),(∀j:Nat,cK acc i=some (j:Int)→nx (.int (j:Int)) M')→uf (uf (wX 3) (dOp fIx (dOp fIx (wX 1) (wX 4)) (dC (Dt.int 0)))) (wX 4) [some (.loc kt),some (.lst (rows.map cj)),some (frD share),some (.loc kp),some (.int (i:Int)),some (.int 0)] M' nx xx:=fun hh nx xx hn=>by
     obtain ⟨ks,ds,k',pl',g1,g2,g3,g4⟩:=uD tw hh
     obtain ⟨j,hj,jl⟩:=dk.hand i r hi hh
     have gp:=yd (gd i il) hi g3 (by rw [hacc];exact hj)
     have dg:dh (kP pl') (vP pl') (Sum.inl (i:Int))=some (.int (j:Int)):=by rw [uc,gp];rfl
     dsimp only [uf]
     walk_at "vc"
     refine jK hi (gA ?_)
     refine ⟨kp,ks,ds,Sum.inr (kindOf r),_,rfl,g1,rfl,g2, ?_⟩
     exact ⟨k',_,_,Sum.inl (i:Int),_,rfl,g4,rfl,dg,hn j hj⟩
    walk_at "vc"
    refine jK hi (gA ?_)
    refine ⟨fun z=>⟨fun _=> ?_,fun y=>(nomatch y)⟩,fun z=>jK hi (gA ⟨fun z'=> ?_,fun z'=> ?_⟩)⟩
    ·have z:kindOf r="one":=of_decide_eq_true z
     exact go (by rw [z];decide) _ _ fun j hj=>⟨rfl,_,fun _=>⟨j,rfl,hj⟩,rfl⟩
    ·have z':kindOf r="other":=of_decide_eq_true z'
     exact go (by rw [z'];decide) _ _ fun j hj=>⟨rfl,_,fun _=>⟨j,rfl,hj⟩,rfl⟩
    ·have hh:=vM (of_decide_eq_false z) (of_decide_eq_false z')
     exact ⟨rfl,_,fun y=>(by rw [hh] at y;cases y),rfl⟩
   rintro ρ2 M2 ⟨rfl,dd,hdd,rfl⟩
   walk_at "vc"
   refine (ax (d:= .loc kt) (iD hk) ti ?_:fIx (.loc kt) (.int (i:Int)) _ _)
   refine ⟨_,_,_,_,true,rfl,rfl,rfl,zJ,fun z=>(nomatch z),fun _=> ?_⟩
   refine (ax (d:= .loc kt) (iD hk) ti ?_:fIx (.loc kt) (.int (i:Int)) _ _)
   refine jK hi ?_
   refine ⟨share,rows,r,tb,kt,dd,E0,B,F0,C,rfl,hk,fl,g,ht,rm,fun hh=> ?_,fun hh=> ?_⟩
   ·obtain ⟨j,rfl,hj⟩:=hdd hh
    obtain ⟨j',hj',jl⟩:=dk.hand i r hi hh
    rw [hj] at hj' hm
    have e:j=j':=by have:=aaw hj';omega
    subst e
    have hm:aO share tb ((aF r).getD j d0)=tb.getD i (0,1):=hm
    refine ⟨j,rfl,jl, ?_⟩
    rw [hm]
    exact qf ⟨fun z=>(nomatch z),fun _=>nxt _ _ ⟨rfl,i+1,m',_,_,by rw [aa6];rfl,by omega,rfl⟩⟩
   ·rw [dk.oth i r hi hh] at hm
    have hm:mh share tb r=tb.getD i (0,1):=hm
    rw [hm]
    exact qf ⟨fun z=>(nomatch z),fun _=>nxt _ _ ⟨rfl,i+1,m',_,_,by rw [aa6];rfl,by omega,rfl⟩⟩
  ·obtain ⟨rfl,i,m,o4,o5,ex,im,rfl⟩:=hj
   exact h
section
variable{share:Fr}{rows:List Rw}{E B X Y:Int}{tb:List Fr}{acc:Pl}
theorem nC{f:Nat→Rat}{i:Nat}{p:Fr}(hi:rows[i]? =some (.fin p)):Pf rows acc f i=f i:=by
 unfold Pf;rw [hi]
theorem gY{f:Nat→Rat}{i:Nat}{k:Str}{ds:List DrG}(hi:rows[i]? =some (.doors k ds)):Pf rows acc f i=bI (fun d=>cV d * f d.1.toNat) (aN acc i (.doors k ds)):=by
 unfold Pf;rw [hi]
theorem pe(fw:FW share rows X Y)(dk:ji rows acc){i:Nat}{k:Str}{ds:List DrG}(hi:rows[i]? =some (.doors k ds)):xv rows.length (aN acc i (.doors k ds))∧bI cV (aN acc i (.doors k ds))=1:=by
 obtain ⟨_,o,c0,B,E,_,_,_,_,hw⟩:=fw.ways dk hi
 exact ⟨⟨fun d hd=>(hw d hd).to,c0,by rw [o];grind⟩,o⟩
theorem cU{i:Nat}(h:i < rows.length):(∃p,rows[i]? =some (.fin p))∨∃k ds,rows[i]? =some (.doors k ds):=by
 have hi:rows[i]? =some rows[i]:=aaa h
 cases hr:rows[i] with
 | fin p=>exact .inl ⟨p,by rw [hi,hr]⟩
 | doors k ds=>exact .inr ⟨k,ds,by rw [hi,hr]⟩
theorem Cz(fw:FW share rows X Y)(dk:ji rows acc){f g:Nat→Rat}(h:∀j,j < rows.length→f j=g j){i:Nat}(il:i < rows.length):Pf rows acc f i=Pf rows acc g i:=by
 rcases cU il with ⟨p,hi⟩ | ⟨k,ds,hi⟩
 ·rw [nC hi,nC hi,h i il]
 ·rw [gY hi,gY hi]
  refine cI fun d hd=> ?_
  have:=(pe fw dk hi).1.to d hd
  rw [h _ (by omega)]
theorem rT(c:Rat)(f:DrG→Rat):∀ds:List DrG,bI (fun d=>c * f d) ds=c * bI f ds
 | []=>by show (0:Rat)=c * 0;grind
 | d::ds=>by
  show c * f d+bI (fun d=>c * f d) ds=c * (f d+bI f ds)
  rw [rT c f ds];grind
theorem Cy(c:Rat)(f:Nat→Rat)(i:Nat):Pf rows acc (fun j=>c * f j) i=c * Pf rows acc f i:=by
 unfold Pf
 split
 ·rw [←rT]
  exact cI fun d _=>by grind
 ·rfl
theorem zx(fw:FW share rows X Y)(dk:ji rows acc):∀(t:Nat) {f g:Nat→Rat},(∀j,j < rows.length→f j=g j)→∀{i:Nat},i < rows.length→PfT rows acc t f i=PfT rows acc t g i
 | 0,f,g,h,i,il=>h i il
 | t+1,f,g,h,i,il=>by
  show PfT rows acc t (Pf rows acc f) i=PfT rows acc t (Pf rows acc g) i
  exact zx fw dk t (fun j hj=>Cz fw dk h hj) il
theorem rK:∀(t:Nat) (f:Nat→Rat),PfT rows acc t (Pf rows acc f)=Pf rows acc (PfT rows acc t f)
 | 0,_=>rfl
 | t+1,f=>by
  show PfT rows acc t (Pf rows acc (Pf rows acc f))=Pf rows acc (PfT rows acc t (Pf rows acc f))
  exact rK t (Pf rows acc f)
theorem vq(fw:FW share rows X Y)(dk:ji rows acc):∀(t:Nat) {i:Nat},i < rows.length→PfT rows acc t (fun _=>1) i=1
 | 0,_,_=>rfl
 | t+1,i,il=>by
  show PfT rows acc t (Pf rows acc fun _=>1) i=1
  rw [zx fw dk t (g:=fun _=>1) (fun j hj=> ?_) il,vq fw dk t il]
  rcases cU hj with ⟨p,hi⟩ | ⟨k,ds,hi⟩
  ·exact nC hi
  ·rw [gY hi]
   exact Eq.trans (cI (g:=cV) fun d _=>Rat.mul_one _) (pe fw dk hi).2
theorem zw(fw:FW share rows X Y)(dk:ji rows acc):∀(t:Nat) {f:Nat→Rat} {c:Rat},(∀j,j < rows.length→ab (f j)≤c)→∀{i:Nat},i < rows.length→ab (PfT rows acc t f i)≤c
 | 0,f,c,h,i,il=>h i il
 | t+1,f,c,h,i,il=>by
  show ab (PfT rows acc t (Pf rows acc f) i)≤c
  refine zw fw dk t (fun j hj=> ?_) il
  rcases cU hj with ⟨p,hi⟩ | ⟨k,ds,hi⟩
  ·rw [nC hi];exact h j hj
  ·rw [gY hi]
   exact pd (pe fw dk hi).1 (by omega) h
theorem rR(fl:Fl share rows E B)(dk:ji rows acc):∀(t:Nat) (j:Nat),j < rows.length→0 < ((ef share rows acc t).getD j (0,1)).2
 | 0,j,hj=>by
  show 0 < ((cG rows).getD j (0,1)).2
  unfold cG
  rw [aab,aaf]
  rcases cU hj with ⟨p,hi⟩ | ⟨k,ds,hi⟩
  ·rw [hi];exact (fl.fin p (aag hi)).pos
  ·rw [hi];show (0:Int) < 1;decide
 | t+1,j,hj=>by
  show 0 < ((cX share rows acc (ef share rows acc t)).getD j (0,1)).2
  rcases cU hj with ⟨p,hi⟩ | ⟨k,ds,hi⟩
  ·rw [lY dk hi];exact (fl.fin p (aag hi)).pos
  ·exact (lW fl (rR fl dk t) dk hi).2.pos
theorem l7(dk:ji rows acc){i:Nat}{p:Fr}(hi:rows[i]? =some (.fin p)):∀t:Nat,(ef share rows acc t).getD i (0,1)=p
 | 0=>by
  show (cG rows).getD i (0,1)=p
  unfold cG
  rw [aab,aaf,hi];rfl
 | t+1=>lY dk hi
def cw(rows:List Rw)(tb:List Fr)(j:Nat):Rat:=match rows[j]? with
 | some (.doors _ _)=>val (tb.getD j (0,1))
 | _=>0
theorem uB:val ((0,1):Fr)=0:=by show ((0:Int):Rat) / ((1:Int):Rat)=0;grind
theorem Wth.gap(h:Wth share rows acc tb)(fw:FW share rows X Y)(fl:Fl share rows E B)(dk:ji rows acc):∀(t:Nat) {i:Nat},i < rows.length→val (tb.getD i (0,1)) - val ((ef share rows acc t).getD i (0,1))=val share ^ t * PfT rows acc t (cw rows tb) i
 | 0,i,il=>by
  show _=val share ^ 0 * cw rows tb i
  rw [Rat.pow_zero,Rat.one_mul]
  rcases cU il with ⟨p,hi⟩ | ⟨k,ds,hi⟩
  ·rw [l7 dk hi,h.fin hi]
   unfold cw;rw [hi];show _=(0:Rat);grind
  ·have e:(ef share rows acc 0).getD i (0,1)=(0,1):=by
    show (cG rows).getD i (0,1)=(0,1)
    unfold cG
    rw [aab,aaf,hi];rfl
   rw [e,uB]
   unfold cw;rw [hi];show _=val (tb.getD i (0,1));grind
 | t+1,i,il=>by
  have ih:=fun {j:Nat} (hj:j < rows.length)=>h.gap fw fl dk t hj
  show _=val share ^ (t+1) * PfT rows acc t (Pf rows acc (cw rows tb)) i
  rw [rK,Rat.pow_succ]
  rcases cU il with ⟨p,hi⟩ | ⟨k,ds,hi⟩
  ·have e:=ih il
   rw [l7 dk hi,h.fin hi] at e
   rw [l7 dk hi,h.fin hi,nC hi]
   have:val share ^ t * PfT rows acc t (cw rows tb) i=0:=by rw [←e];grind
   rw [Rat.mul_comm (val share ^ t),Rat.mul_assoc,this];grind
  ·have e1:=h.due fw dk hi
   have e2:=(lW (tb:=ef share rows acc t) fl (rR fl dk t) dk hi).1
   rw [md] at e1 e2
   have e3:Pf rows acc (fun j=>val (tb.getD j (0,1)) - val ((ef share rows acc t).getD j (0,1))) i=Pf rows acc (fun j=>val share ^ t * PfT rows acc t (cw rows tb) j) i:=Cz fw dk (fun j hj=>ih hj) il
   rw [Cy,gY hi,cI (g:=fun d=>cV d * val (tb.getD d.1.toNat (0,1)) - cV d * val ((ef share rows acc t).getD d.1.toNat (0,1))) (fun d _=>by grind),rS] at e3
   show val (tb.getD i (0,1)) - val ((cX share rows acc (ef share rows acc t)).getD i (0,1))=_
   rw [e1,e2]
   generalize bI (fun d=>cV d * val d.2.1) (aN acc i (.doors k ds))=a at *
   generalize bI (fun d=>cV d * val (tb.getD d.1.toNat (0,1))) (aN acc i (.doors k ds))=b at *
   generalize bI (fun d=>cV d * val ((ef share rows acc t).getD d.1.toNat (0,1))) (aN acc i (.doors k ds))=c at *
   generalize val share ^ t=st at *
   generalize Pf rows acc (PfT rows acc t (cw rows tb)) i=y at *
   grind
end
theorem i7{a b:Fr}(ha:0 < a.2)(hb:0 < b.2):a.1 * b.2≤b.1 * a.2↔val a≤val b:=by
 have e1:val a * (a.2:Rat)=a.1:=by
  have:=aZ (show a.2≠0 by omega)
  unfold val
  generalize (a.1:Rat)=x at *
  generalize (a.2:Rat)=y at *
  grind
 have e2:val b * (b.2:Rat)=b.1:=by
  have:=aZ (show b.2≠0 by omega)
  unfold val
  generalize (b.1:Rat)=x at *
  generalize (b.2:Rat)=y at *
  grind
 have p1:(0:Rat) < (a.2:Rat):=aaY.mpr ha
 have p2:(0:Rat) < (b.2:Rat):=aaY.mpr hb
 have pp:=Rat.mul_pos p1 p2
 rw [←aaS,aaD,aaD,←e1,←e2]
 generalize (a.2:Rat)=y at *
 generalize (b.2:Rat)=z at *
 generalize val a=u at *
 generalize val b=v at *
 constructor
 ·intro h
  by_cases c:u≤v
  ·exact c
  ·have:=Rat.mul_pos (show 0 < u - v by grind) pp
   grind
 ·intro h
  have:=aa5 h (Rat.le_of_lt pp)
  grind
abbrev sH(t:Fr):Fr:=(if t.1 < 0 then -t.1 else t.1,t.2)
theorem fK{t:Fr}(h:0 < t.2):val (sH t)=ab (val t):=by
 have p:(0:Rat) < (t.2:Rat):=aaY.mpr h
 have e:val t * (t.2:Rat)=t.1:=by
  have:=aZ (show t.2≠0 by omega)
  unfold val
  generalize (t.1:Rat)=x at *
  generalize (t.2:Rat)=y at *
  grind
 unfold ab
 show ((if t.1 < 0 then -t.1 else t.1:Int):Rat) / (t.2:Rat)=_
 by_cases c:t.1 < 0
 ·have c':(t.1:Rat) < 0:=aaY.mpr c
  have v:val t < 0:=by
   by_cases z:val t < 0
   ·exact z
   ·have:=Rat.mul_nonneg (show 0≤val t by grind) (Rat.le_of_lt p)
    grind
  rw [if_pos c,if_pos v,Rat.intCast_neg]
  unfold val
  generalize (t.1:Rat)=x at *
  generalize (t.2:Rat)=y at *
  grind
 ·have v:0≤val t:=eB h (by omega)
  rw [if_neg c,if_neg (by grind)]
  rfl
theorem pk{k:Nat}{t:Fr}(h:Sz k t):Sz k (sH t):=by
 refine ⟨?_,h.2.1,h.2.2⟩
 have:=h.1
 show (if t.1 < 0 then -t.1 else t.1:Int).natAbs < _
 split <;> omega
abbrev cW:Int:=1000 * (6 * 10 ^ 30)
structure Lp(rows:List Rw)(tb cs:List Fr)(Ec Cc N:Int)(i:Nat)(w s z:Fr):Prop where
 wn:Nb Ec (i * Cc) w
 wr:Red w
 wv:val w=gL (fun j=>val (cs.getD j (0,1)) * 1) i
 sr:Red s
 sh:hV s (Ec * N)
 sa:dZ s (i * (Cc * cW))
 sv:val s=gL (fun j=>val (cs.getD j (0,1)) * cw rows tb j) i
 zs:Sz 1420 z
 z0:0≤val z
 zb:∀j,j < i→ab (val (tb.getD j (0,1)))≤val z
section
variable{rows:List Rw}{tb cs:List Fr}{Ec Cc N:Int}{i:Nat}{w s z c t:Fr}
theorem Lp.zero:Lp rows tb cs Ec Cc N 0 (0,1) (0,1) (0,1):=by
 refine ⟨by rw [Int.natCast_zero,Int.zero_mul];exact zI,⟨by decide,by decide⟩,uB,⟨by decide,by decide⟩,⟨0,by show (0:Int) * _=0 * 1;omega⟩, ?_,uB,dM (k:=1) ⟨by decide,by decide,by decide⟩ (by decide),by rw [uB];grind,fun j hj=>absurd hj (Nat.not_lt_zero _)⟩
 rw [abI,Int.zero_mul]
 exact ⟨by decide,by decide⟩
structure Es(rows:List Rw)(tb cs:List Fr)(Ec Cc N:Int)(i:Nat)(c t:Fr):Prop where
 ec:cs.getD i (0,1)=c
 et:tb.getD i (0,1)=t
 cn:Nb Ec Cc c
 c0:0≤val c
 tr:Red t
 th:hV t N
 ta:dZ t cW
 e0:0 < Ec
 e1:Ec < 2 ^ 1400
 d0:0≤Cc
 d1:Cc < 2 ^ 130
 n0:0 < N
 n1:N < 2 ^ 1300
theorem Es.tz(m:Es rows tb cs Ec Cc N i c t):Sz 1420 t:=xV (k:=1300) (m:=120) m.tr m.th m.n0 m.n1 m.ta (by decide) (by decide)
theorem Lp.sz(l:Lp rows tb cs Ec Cc N i w s z)(e0:0 < Ec)(e1:Ec < 2 ^ 1400)(d0:0≤Cc)(d1:Cc < 2 ^ 130)(n0:0 < N)(n1:N < 2 ^ 1300)(i5:i≤5):Sz 3000 s:=by
 obtain ⟨a,b⟩:=bG e0 e1 n0 n1
 have k0:0≤Cc * cW:=aaM d0 (by decide)
 have k1:Cc * cW≤2 ^ 130 * cW:=aaj (aah d1) (by decide)
 have k2:(i:Int) * (Cc * cW)≤5 * (Cc * cW):=aaj (by omega) k0
 exact xV (k:=1400+1300) (m:=300) l.sr l.sh a b l.sa (aaM (by omega) k0) (aan (aa4 k2 (aar k1 (by decide))) (by decide))
theorem C3{c t:Rat}{x y:Rat}(c0:0≤c)(cx:c≤x)(ht:ab t≤y):ab (c * t)≤x * y:=by
 obtain ⟨a,b⟩:=hU.mp ht
 have y0:0≤y:=by have:=DZ t;grind
 have h1:=aaF a c0
 have h2:=aaF b c0
 have h3:=aa5 cx y0
 refine hU.mpr ⟨?_, ?_⟩ <;> grind
theorem Lp.step(l:Lp rows tb cs Ec Cc N i w s z)(m:Es rows tb cs Ec Cc N i c t)(i5:i < 5){s' z':Fr}(hs:(s'=s∧cw rows tb i=0)∨(s'=bf s (c.1 * t.1,c.2 * t.2)∧cw rows tb i=val t))(hz:(z'=z∧ab (val t)≤val z)∨(z'=sH t∧val z≤ab (val t))):Lp rows tb cs Ec Cc N (i+1) (bf w c) s' z':=by
 have d0:=m.d0
 have d1:=m.d1
 have ci:((i+1:Nat):Int) * Cc=i * Cc+Cc:=by rw [Int.natCast_add];grind
 have l5:(i:Int) * Cc≤5 * Cc:=aaj (by omega) d0
 have l0:0≤(i:Int) * Cc:=aaM (by omega) d0
 have rw':Red (bf w c):=aM (aaH (aaq l.wr.pos m.cn.pos))
 have tt:Red (aG c t):=aM (aaH (aaq m.cn.pos m.tr.pos))
 have k0:0≤Cc * cW:=aaM d0 (by decide)
 have vz:val z'=val z∨val z'=ab (val t):=by
  rcases hz with ⟨e,_⟩ | ⟨e,_⟩
  ·exact .inl (by rw [e])
  ·exact .inr (by rw [e,fK m.tr.pos])
 have key:Red s'∧hV s' (Ec * N)∧dZ s' ((i+1:Nat) * (Cc * cW))∧val s'=val s+val c * cw rows tb i:=by
  have ck:((i+1:Nat):Int) * (Cc * cW)=i * (Cc * cW)+Cc * cW:=by rw [Int.natCast_add];grind
  rcases hs with ⟨rfl,e⟩ | ⟨rfl,e⟩
  ·refine ⟨l.sr,l.sh,xt l.sr.pos l.sa (by rw [ck];omega),by rw [e];grind⟩
  ·rw [AH l.sr.pos m.cn.pos m.tr.pos,e,ck]
   refine ⟨aM (aaH (aaq l.sr.pos tt.pos)),oo l.sr.pos tt.pos l.sh (ir m.cn.pos m.tr.pos m.cn.he m.th),sG l.sr.pos tt.pos l.sa (uA tt.pos ?_),by rw [cN l.sr.pos tt.pos,cv m.cn.pos m.tr.pos]⟩
   rw [cv m.cn.pos m.tr.pos,aaD]
   exact C3 m.c0 (hU.mp (qL m.cn.pos m.cn.ab)).2 (qL m.tr.pos m.ta)
 obtain ⟨k1,k2,k3,k4⟩:=key
 refine ⟨?_,rw', ?_,k1,k2,k3, ?_, ?_, ?_,fun j hj=> ?_⟩
 ·rw [ci]
  exact lT l.wn m.cn ⟨m.e0,abE m.e1 (by decide),by omega,by omega⟩
 ·rw [cN l.wr.pos m.cn.pos,fA,l.wv,m.ec];grind
 ·rw [k4,fA,l.sv,m.ec]
 ·rcases hz with ⟨e,_⟩ | ⟨e,_⟩
  ·rw [e];exact l.zs
  ·rw [e];exact pk m.tz
 ·rcases vz with e | e <;> rw [e]
  ·exact l.z0
  ·exact DZ _
 ·by_cases e:j=i
  ·rw [e,m.et]
   rcases hz with ⟨e,h⟩ | ⟨e,h⟩
   ·rw [e];exact h
   ·rw [e,fK m.tr.pos];grind
  ·have b:=l.zb j (by omega)
   rcases hz with ⟨e,h⟩ | ⟨e,h⟩
   ·rw [e];exact b
   ·rw [e,fK m.tr.pos];grind
end
theorem uy{a:Fr}(h:0 < a.2):∀n:Nat,val (a.1 ^ n,a.2 ^ n)=val a ^ n
 | 0=>by rw [Int.pow_zero,Int.pow_zero,Rat.pow_zero];show ((1:Int):Rat) / ((1:Int):Rat)=1;grind
 | n+1=>by
  have:=uy h n
  rw [aaP,aaP,Rat.pow_succ,←this]
  exact Ey (c:=(a.1 ^ n,a.2 ^ n)) (s:=a) (abA h) h
theorem zh{a:Fr}(h:Sz 10 a):∀n:Nat,Sz (10 * n+1) (a.1 ^ n,a.2 ^ n)
 | 0=>⟨by show (a.1 ^ 0).natAbs < _;rw [aa3];decide,by show 0 < a.2 ^ 0;rw [aa3];decide,by show (a.2 ^ 0).natAbs < _;rw [aa3];decide⟩
 | n+1=>by
  have s1:=dM (szU (zh h n) h) (show _≤10 * (n+1)+1 by omega)
  rwa [show ((a.1 ^ n,a.2 ^ n):Fr).1 * a.1=a.1 ^ (n+1) from (aaP a.1 n).symm,show ((a.1 ^ n,a.2 ^ n):Fr).2 * a.2=a.2 ^ (n+1) from (aaP a.2 n).symm] at s1
theorem zv{a:Rat}(h:0≤a):∀n:Nat,0≤a ^ n
 | 0=>by rw [Rat.pow_zero];grind
 | n+1=>by rw [Rat.pow_succ];exact Rat.mul_nonneg (zv h n) h
theorem DY{a b:Rat}(h:0≤a):ab (a * b)=a * ab b:=by
 unfold ab
 by_cases c:b < 0
 ·rw [if_pos c]
  have:=Rat.mul_nonneg h (show 0≤ -b by grind)
  split <;> grind
 ·have:=Rat.mul_nonneg h (show 0≤b by grind)
  rw [if_neg c,if_neg (by grind)]
theorem rD{M:Ms}:∀rs:List Rw,Paired (j9 M) (rs.map cj) rs
 | []=> .nil
 | r::rs=> .cons (Az _ r) (rD rs)
theorem yG{M:Ms}{q:DQ}{A:Addr}{share:Fr}{rows:List Rw}(h:q (aP A share rows) M):frzU M q (.loc M.length) ((M++[MO.ins A [] []]).set M.length (.ins A ["kept_share","kept_rows"] [frD share, .lst (rows.map cj)])):=by
 rw [dN]
 exact kR (d':=aP A share rows) (.newO (Nat.le_refl _) (by simp) (.cons (.old (ot share)) (.cons (.old (iY rows)) .nil))) h
theorem HS{M:Ms}{a b c:MO}:(M++[a,b,c])[M.length+2]? =some c:=by
 rw [aam (by omega),show M.length+2 - M.length=2 by omega];rfl
theorem Bm{p:Fr}{M:Ms}{q:DQ}(h:q (.bl true) M):DB (frD p) (frD p) M q:=by
 show q (.bl (sA [.int p.1, .int p.2] [.int p.1, .int p.2])) M
 rw [GO,decide_eq_true rfl];exact h
theorem eC:ar ["_law_script","_law_rows_here","_law_some","_law_floor","_law_plans_here","_law_place","_law_turns","_law_table_here","_law_mean","_law_there","_law_whole","_law_still","_law_size","_law_k","_law_power_here","_law_gap"] ["_law_script"] (ag EM):=⟨rfl,rfl,rfl,by decide+kernel,rfl,by decide+kernel,by decide+kernel⟩
theorem CW{f:Addr}{fd:FuncData}(F:Fun K "law" "law" EM f fd)(E:Ev K mg Co CF CN){fLawRows:Addr}{dLawRows:FuncData}(c_LawRows:bx P w K mg base 5 "_law_rows" ["_law_script","_law_most","_law_wide"] z5 fLawRows dLawRows){fLawShare:Addr}{dLawShare:FuncData}(c_LawShare:bx P w K mg base 2 "_law_share" ["_law_number_here"] xB fLawShare dLawShare){fLawNumber:Addr}{dLawNumber:FuncData}(c_LawNumber:bx P w K mg base 2 "_law_number" ["_law_script","_law_k"] Ac fLawNumber dLawNumber){fFloorInit:Addr}{dFloorInit:FuncData}(c_FloorInit:Gf P w K mg base 5 "Floor" Co ["self","share","rows"] (D9 Co) fFloorInit dFloorInit){fLawPlans:Addr}{dLawPlans:FuncData}(c_LawPlans:bx P w K mg base 3 "_law_plans" ["_law_script","_law_rows_here","_law_at"] Aa fLawPlans dLawPlans){fWorthsOf:Addr}{dWorthsOf:FuncData}(c_WorthsOf:bx P w K mg base 8 "worths_of" ["floor","plan_one","plan_other"] (xw Co) fWorthsOf dWorthsOf){fLawTable:Addr}{dLawTable:FuncData}(c_LawTable:bx P w K mg base 4 "_law_table" ["_law_found","_law_rows_here","_law_some","_law_plans_here"] xy fLawTable dLawTable){fMeanOf:Addr}{dMeanOf:FuncData}(c_MeanOf:bx P w K mg base 8 "mean_of" ["floor","plan_one","plan_other","place","turns"] (D7 Co) fMeanOf dMeanOf){fLawPlus:Addr}{dLawPlus:FuncData}(c_LawPlus:bx P w K mg base 2 "_law_plus" ["_law_one","_law_other"] xD fLawPlus dLawPlus){fLawMore:Addr}{dLawMore:FuncData}(c_LawMore:bx P w K mg base 1 "_law_more" ["_law_one","_law_other"] Ae fLawMore dLawMore){fLawTimes:Addr}{dLawTimes:FuncData}(c_LawTimes:bx P w K mg base 1 "_law_times" ["_law_one","_law_other"] mL fLawTimes dLawTimes){fLawPower:Addr}{dLawPower:FuncData}(c_LawPower:bx P w K mg base 2 "_law_power" ["_law_some","_law_turns"] xC fLawPower dLawPower){fLawLowest:Addr}{dLawLowest:FuncData}(c_LawLowest:bx P w K mg base 1 "_law_lowest" ["_law_top","_law_bottom"] BQ fLawLowest dLawLowest):bA P w K mg base (CX1 P w) 9 f fd ["_law_script"] (spD K FZ):=by
 refine F.okD eC (fun ds M q x h=> ?_) (fun cdv A outer s H E' hr=>⟨_,(ae (aq (i:=1) eC.nd rfl (Or.inl rfl) (eh (aV c_LawRows hr aj (aa (jv 0) (aa aw (aa aw af (hs:=bB)) (hs:=bB)) (hs:=ak)))))
   (ae (aq (i:=2) eC.nd rfl (Or.inl rfl) (aV c_LawShare hr aj (aa (aV c_LawNumber hr aj (aa (jv 0) (aa aw af (hs:=bB)) (hs:=ak))) af (hs:=aU))))
   (ae (aq (i:=3) eC.nd rfl (Or.inl rfl) (eh (Di c_FloorInit hr aj (aa (jv 2) (aa (eh (wj E.n_list (aa (jv 1) af (hs:=ak)))) af (hs:=aU)) (hs:=ak)))))
   (ae (aq (i:=4) eC.nd rfl (Or.inl rfl) (aV c_LawPlans hr aj (aa (jv 0) (aa (jv 1) (aa aw af (hs:=bB)) (hs:=ak)) (hs:=ak))))
   (ae (aq (i:=5) eC.nd rfl (Or.inl rfl) (cY (aV c_LawNumber hr aj (aa (jv 0) (aa aw af (hs:=bB)) (hs:=ak))) (dE E.n_len (aa (jv 1) af (hs:=ak)))))
   (ae (aq (i:=6) eC.nd rfl (Or.inl rfl) (cY (fi (aV c_LawNumber hr aj (aa (jv 0) (aa aw af (hs:=bB)) (hs:=ak))) aw) aw))
   (ae (iH (bc (eg hr (cY (aV c_LawNumber hr aj (aa (jv 0) (aa aw af (hs:=bB)) (hs:=ak))) aw) aw) (ah (aq (i:=6) eC.nd rfl (Or.inl rfl) (dc aw (cY (fi (aV c_LawNumber hr aj (aa (jv 0) (aa aw af (hs:=bB)) (hs:=ak))) aw) aw)))) aA))
   (ae (aq (i:=7) eC.nd rfl (Or.inl rfl) (aV c_WorthsOf hr aj (aa (jv 3) (aa (sd E.n_dict (aa (d7 hr (jv 4) g9) af (hs:=aS))) (aa (sd E.n_dict (aa (d7 hr (jv 4) g9) af (hs:=aS))) af (hs:=aU)) (hs:=aU)) (hs:=ak))))
   (ae (bc (kK (eG (aV c_LawTable hr aj (aa (jv 7) (aa (jv 1) (aa (jv 2) (aa (jv 4) af (hs:=ak)) (hs:=ak)) (hs:=ak)) (hs:=ak))))) (ah (au jbl)) aA)
   (ae (A8 (aV c_MeanOf hr aj (aa (jv 3) (aa (sd E.n_dict (aa (d7 hr (jv 4) g9) af (hs:=aS))) (aa (sd E.n_dict (aa (d7 hr (jv 4) g9) af (hs:=aS))) (aa (jv 5) (aa (jv 6) af (hs:=ak)) (hs:=ak)) (hs:=aU)) (hs:=aU)) (hs:=ak))) (jN rfl (bL (aJ (i:=8) eC.nd rfl (Or.inl rfl)) (bL (aJ (i:=9) eC.nd rfl (Or.inl rfl)) gB))))
   (ae (iH (aq (i:=10) eC.nd rfl (Or.inl rfl) (cJ (aa aw (aa aw af (hs:=bB)) (hs:=bB)))))
   (ae (aq (i:=11) eC.nd rfl (Or.inl rfl) (cJ (aa aw (aa aw af (hs:=bB)) (hs:=bB))))
   (ae (aq (i:=12) eC.nd rfl (Or.inl rfl) (cJ (aa aw (aa aw af (hs:=bB)) (hs:=bB))))
   (ae (fg (bq E.n_range (aa (dE E.n_len (aa (jv 1) af (hs:=ak))) af (hs:=aU))) (aJ (i:=13) eC.nd rfl (Or.inl rfl)) bJ (ae (bc (JW.jt (oa (qp (aD (aD (jv 9) (jv 13)) aw) aw) (iG (qp (aD (aD (jv 9) (jv 13)) aw) aw)))) (ah (au jbl)) aA)
   (ae (aq (i:=10) eC.nd rfl (Or.inl rfl) (aV c_LawPlus hr aj (aa (jv 10) (aa (aD (jv 9) (jv 13)) af (hs:=aS)) (hs:=ak))))
   (ae (iH (bc (eG (aV c_LawMore hr aj (aa (cJ (aa (qw E.n_abs (aa (aD (aD (jv 7) (jv 13)) aw) af (hs:=aS))) (aa (aD (aD (jv 7) (jv 13)) aw) af (hs:=aS)) (hs:=aU))) (aa (jv 12) af (hs:=ak)) (hs:=sV)))) (ah (aq (i:=12) eC.nd rfl (Or.inl rfl) (cJ (aa (qw E.n_abs (aa (aD (aD (jv 7) (jv 13)) aw) af (hs:=aS))) (aa (aD (aD (jv 7) (jv 13)) aw) af (hs:=aS)) (hs:=aU))))) aA))
   (ah (bc (mv hr (aD (aD (jv 1) (jv 13)) aw) g9) (ah (aq (i:=11) eC.nd rfl (Or.inl rfl) (aV c_LawPlus hr aj (aa (jv 11) (aa (aV c_LawTimes hr aj (aa (aD (jv 9) (jv 13)) (aa (aD (jv 7) (jv 13)) af (hs:=aS)) (hs:=aS))) af (hs:=aU)) (hs:=ak))))) aA))))))
   (ae (iH (aq (i:=14) eC.nd rfl (Or.inl rfl) (aV c_LawPower hr aj (aa (jv 2) (aa (jv 6) af (hs:=ak)) (hs:=ak)))))
   (ae (aq (i:=15) eC.nd rfl (Or.inl rfl) (aV c_LawPlus hr aj (aa (aD (jv 7) (jv 5)) (aa (cJ (aa (og aw (aD (jv 8) aw)) (aa (aD (jv 8) aw) af (hs:=aS)) (hs:=bO))) af (hs:=sV)) (hs:=aS))))
   (ae (bc (JW.jt (oa (mv hr (jv 10) (cJ (aa aw (aa aw af (hs:=bB)) (hs:=bB)))) (iG (eG (aV c_LawMore hr aj (aa (cJ (aa (qw E.n_abs (aa (aD (jv 15) aw) af (hs:=aS))) (aa (aD (jv 15) aw) af (hs:=aS)) (hs:=aU))) (aa (aV c_LawTimes hr aj (aa (jv 14) (aa (jv 12) af (hs:=ak)) (hs:=ak))) af (hs:=aU)) (hs:=sV))))))) (ah (au jbl)) aA)
   (ah (au (GK hr (jv 15) (aV c_LawLowest hr aj (aa (bW (aD (jv 14) aw) (aD (jv 11) aw)) (aa (bW (aD (jv 14) aw) (aD (jv 11) aw)) af (hs:=bO)) (hs:=bO))))))))))))))))))))))),fun ds M q x h=> ?_⟩)
 ·obtain ⟨ns,rfl,_⟩:=h;rfl
 ·obtain ⟨ns,rfl,hl,hq⟩:=h
  have sz:∀{z:Nat},z≤1000→z≤sizeLine:=fun h=>aaz h (by decide)
  refine ⟨ns,rfl,fun rows r1 r5 hg=>dY (iY rows) ?_⟩
  have hg1:∀r∈rows,fZ r∧e9 r rows.length=true:=fun r hr=>(hg r hr).1
  refine ⟨ns,1,rfl,by decide,by decide,fun n1 hn1=>⟨n1,rfl,fun share hs=> ?_⟩⟩
  have f:BF share rows:=⟨hs,by omega,hg1⟩
  obtain ⟨Ep,B,fl,sb12⟩:=Fz hs r5 hg
  have fw:=Fw hs r1 r5 hg
  obtain ⟨b450,b1,bsz⟩:=Fv r5
  walk_at "vc"
  refine Bg (iY rows) ?_
  refine ⟨M.length, .lst (rows.map cj),share,rows.map cj,rows,fun _=>True,rfl,bo,rfl,rD rows,hs,r1,by omega,hg1,rfl,yG ?_⟩
  refine ⟨ns,rows,rfl,by omega,fun k ds hm=>(aQ f hm).l1,fun p1 p2 np1 np2 pl1 pl2 gd=> ?_⟩
  obtain ⟨kp,hkp⟩:∃kp,kp=M.length+2:=⟨_,rfl⟩
  have tw:Two (St3 M p1 p2) kp p1 p2:=by rw [hkp];exact Ap M p1 p2
  rw [←hkp]
  generalize St3 M p1 p2=M0 at *
  have dk:=yQ gd
  refine ⟨ns,32,rfl,by decide,by decide,fun n hn=> ?_⟩
  refine (aL (d:= .lst (rows.map cj)) (xs:=rows.map cj) rfl ?_:j6 [.lst (rows.map cj)] _ _)
  rw [aac]
  refine ⟨by omega, ?_⟩
  obtain ⟨pl,hi0,hpl⟩:∃i:Nat,n % (rows.length:Int)=(i:Int)∧i < rows.length:=by
   have a:=aaV n (show (rows.length:Int)≠0 by omega)
   have b:=aaQ n (show (0:Int) < rows.length by omega)
   exact ⟨(n % (rows.length:Int)).toNat,by omega,by omega⟩
  rw [hi0]
  refine ⟨ns,33,rfl,by decide,by decide,fun n' hn'=>⟨⟨by decide,bg (k:=4) (by decide)⟩,by decide, ?_⟩⟩
  refine ⟨fun ρ M2=>M2=M0∧∃tn:Nat,tn≤12∧ρ=[some (.scr ns),some (.lst (rows.map cj)),some (frD share),some (aP Co share rows),some (.loc kp),some (.int (pl:Int)),some (.int (tn:Int)),none,none,none,none,none,none,none,none,none], ?_, ?_⟩
  ·have ht:n' / 8 % 7=((n' / 8 % 7).toNat:Int):=by omega
   refine ⟨ns,33,rfl,by decide,by decide,fun n2 hn2=>⟨by decide,fun _=> ?_,fun _=> ?_⟩⟩
   ·refine ⟨ns,33,rfl,by decide,by decide,fun n3 hn3=>⟨⟨by decide,bg (k:=4) (by decide)⟩,by decide, ?_⟩⟩
    have ht:7+n3 / 8 % 6=((7+n3 / 8 % 6).toNat:Int):=by omega
    refine ⟨rfl,(7+n3 / 8 % 6).toNat,by omega, ?_⟩
    rw [←ht];rfl
   ·refine ⟨rfl,(n' / 8 % 7).toNat,by omega, ?_⟩
    rw [←ht];rfl
  rintro ρ2 M2 ⟨rfl,tn,tn12,rfl⟩
  walk_at "vc"
  obtain ⟨k1,k2,ta,tb1,tb2⟩:=tw
  refine ⟨kp,_,_,Sum.inr "one",_,rfl,ta,rfl,rfl,k1,_,_,rfl,tb1, ?_⟩
  refine ⟨kp,_,_,Sum.inr "other",_,rfl,bM ta,rfl,rfl,k2,_,_,rfl,bM tb2, ?_⟩
  refine ⟨share,rows,_,_,p1,p2,10 ^ 36,10 ^ 30,rfl,bM bo,bo,fw,b450,bsz,gd,fun tb wt m1 m2=> ?_⟩
  have tw:Two (M2++[MO.dct (kP p1) (vP p1)]++[MO.dct (kP p2) (vP p2)]) kp p1 p2:=⟨k1,k2,bM (bM ta),bM (bM tb1),bM (bM tb2)⟩
  clear ta tb1 tb2
  generalize M2++[MO.dct (kP p1) (vP p1)]++[MO.dct (kP p2) (vP p2)]=Mx at *
  have hk:(Mx++[m1,m2, .lst (tb.map frD)])[Mx.length+2]? =some (.lst (tb.map frD)):=HS
  obtain ⟨kt,hkt⟩:∃kt,kt=Mx.length+2:=⟨_,rfl⟩
  rw [←hkt] at hk⊢
  have tw:Two (Mx++[m1,m2, .lst (tb.map frD)]) kp p1 p2:=tw.app
  generalize Mx++[m1,m2, .lst (tb.map frD)]=M1 at *
  obtain ⟨N,gr,htb,nlt,tok⟩:=wt.tbs fw dk fl
  have wm:∀i r,rows[i]? =some r→(cX share rows (fY rows p1 p2 rows.length) tb).getD i (0,1)=tb.getD i (0,1):=fun i r hi=>wt.more fw fl dk hi
  refine ⟨share,rows,tb,kt,kp,p1,p2,Ep,B,N,_,rfl,hk,tw,fl,gr,htb,gd,wm,fun z=>(nomatch z),fun _=> ?_⟩
  dsimp only [B8]
  walk_at "vc"
  obtain ⟨k1,k2,ta,tb1,tb2⟩:=tw
  refine ⟨kp,_,_,Sum.inr "one",_,rfl,ta,rfl,rfl,k1,_,_,rfl,tb1, ?_⟩
  refine ⟨kp,_,_,Sum.inr "other",_,rfl,bM ta,rfl,rfl,k2,_,_,rfl,bM tb2, ?_⟩
  refine ⟨share,rows,_,_,p1,p2,pl,tn,Ep,B,rfl,bM bo,bo,hpl,tn12,fl,sb12,gd,fun E2 cs Ft Cm Ec Cc tm f0 f1 c0 c1 ct e0 e1 cc0 cc1=> ?_⟩
  have hk:(M1++[MO.dct (kP p1) (vP p1)]++[MO.dct (kP p2) (vP p2)]++E2)[kt]? =some (.lst (tb.map frD)):=bM (bM (bM hk))
  clear ta tb1 tb2
  generalize M1++[MO.dct (kP p1) (vP p1)]++[MO.dct (kP p2) (vP p2)]++E2=M3 at *
  generalize hacc:fY rows p1 p2 rows.length=acc at *
  have gp:=wt.gap fw fl dk tn hpl
  have mn:=tm.nb ((ef share rows acc tn).getD pl (0,1)) (mC (by rw [tm.len];exact hpl))
  generalize (ef share rows acc tn).getD pl (0,1)=mean at *
  dsimp only
  refine ⟨fun ρ M4=>M4=M3∧ρ=[some (.scr ns),some (.lst (rows.map cj)),some (frD share),some (aP Co share rows),some (.loc kp),some (.int (pl:Int)),some (.int (tn:Int)),some (.loc kt),some (frD mean),some (.lst (cs.map frD)),some (frD (0,1)),none,none,none,none,none], ?_, ?_⟩
  ·exact ⟨by show 2≤sizeLine;decide,rfl,rfl⟩
  rintro ρ4 M4 ⟨rfl,rfl⟩
  walk_at "vc"
  refine ⟨by show 2≤sizeLine;decide,by show 2≤sizeLine;decide, ?_⟩
  refine (aL (d:= .lst (rows.map cj)) (xs:=rows.map cj) rfl ?_:j6 [.lst (rows.map cj)] _ _)
  rw [aac]
  refine ⟨by omega, ?_⟩
  rw [show ((rows.length:Int)).toNat=rows.length by omega]
  have tln:=htb.len
  have cln:=ct.len
  have nm:∀i,i < rows.length→Es rows tb cs Ec Cc N i (cs.getD i (0,1)) (tb.getD i (0,1)):=fun i hi=>by
   have cm:=ct.nb _ (mC (show i < cs.length by omega))
   have tm:=tok _ (mC (show i < tb.length by omega))
   exact ⟨rfl,rfl,cm.1,cm.2,tm.1,tm.2.1,tm.2.2,e0,e1,cc0,cc1,gr.f0,nlt⟩
  refine bU (fun zs ρ' M'=>M'=M4∧∃(i m:Nat) (w s z:Fr) (o13:Option Dt),zs=fW (i:Int) m∧i+m=rows.length∧Lp rows tb cs Ec Cc N i w s z∧ρ'=[some (.scr ns),some (.lst (rows.map cj)),some (frD share),some (aP Co share rows),some (.loc kp),some (.int (pl:Int)),some (.int (tn:Int)),some (.loc kt),some (frD mean),some (.lst (cs.map frD)),some (frD w),some (frD s),some (frD z),o13,none,none]) (fun x zs ρ' M' hj nxt=> ?_) (fun ρ' M' hj=> ?_) _ _ _ ⟨rfl,0,rows.length,(0,1),(0,1),(0,1),none,rfl,by omega,Lp.zero,rfl⟩
  ·obtain ⟨rfl,i,m,w,s,z,o13,ex,im,lp,rfl⟩:=hj
   obtain ⟨m',rfl,rfl,rfl⟩:=bC ex
   have il:i < rows.length:=by omega
   have hi:rows[i]? =some rows[i]:=aaa il
   have nmi:=nm i il
   have ci:atI (cs.map frD) (i:Int)=some (frD (cs.getD i (0,1))):=aI (by rw [aaf,aaa (by omega),aab,aaa (by omega)];rfl)
   have ti:atI (tb.map frD) (i:Int)=some (frD (tb.getD i (0,1))):=aI (by rw [aaf,aaa (by omega),aab,aaa (by omega)];rfl)
   have szs:=lp.sz e0 e1 cc0 cc1 gr.f0 nlt (by omega)
   generalize hc:cs.getD i (0,1)=c at *
   generalize ht:tb.getD i (0,1)=t at *
   have csz:=nmi.cn.sz
   have tsz:=nmi.tz
   have rc:∀(q:DQ),q (frD c) M'→fIx (.lst (cs.map frD)) (.int (i:Int)) M' q:=fun q hq=>ax (d:= .lst (cs.map frD)) rfl ci hq
   have rt:∀(q:DQ),q (frD t) M'→fIx (.loc kt) (.int (i:Int)) M' q:=fun q hq=>ax (d:= .loc kt) (iD hk) ti hq
   walk_at "vc"
   refine rc _ ((iy ?_:fIx (frD c) (.int 0) _ _))
   refine ⟨fun z=> ?_,fun _=> ?_⟩
   ·have z:c.1 < 0:=of_decide_eq_true z
    have:=(i7 (a:=(0,1)) (b:=c) (by decide) csz.2.1).mpr (by rw [uB];exact nmi.c0)
    have:0 * c.2≤c.1 * 1:=this
    omega
   refine rc _ ((gI ?_:fIx (frD c) (.int 1) _ _))
   refine ⟨fun z=> ?_,fun _=> ?_⟩
   ·have z:c.2 < 1:=of_decide_eq_true z
    have:=csz.2.1
    omega
   refine rc _ ?_
   refine ⟨w,c,_,_,rfl,lp.wn.sz,csz,by decide, ?_⟩
   refine ⟨fun ρ M5=>M5=M'∧∃z':Fr,((z'=z∧ab (val t)≤val z)∨(z'=sH t∧val z≤ab (val t)))∧ρ=[some (.scr ns),some (.lst (rows.map cj)),some (frD share),some (aP Co share rows),some (.loc kp),some (.int (pl:Int)),some (.int (tn:Int)),some (.loc kt),some (frD mean),some (.lst (cs.map frD)),some (frD (bf w c)),some (frD s),some (frD z'),some (.int (i:Int)),none,none], ?_, ?_⟩
   ·walk_at "vc"
    refine rt _ ((iy ?_:fIx (frD t) (.int 0) _ _))
    dsimp only [BO]
    refine rt _ ((gI ?_:fIx (frD t) (.int 1) _ _))
    refine ⟨by show 2≤sizeLine;decide, ?_⟩
    refine ⟨sH t,z,_,_,rfl,pk tsz,lp.zs,by decide,by decide,fun h=> ?_,fun h=> ?_⟩
    ·have h:z.1 * t.2 < (sH t).1 * z.2:=of_decide_eq_true h
     have le:=(i7 (a:=z) (b:=sH t) lp.zs.2.1 tsz.2.1).mp (aah h)
     rw [fK tsz.2.1] at le
     refine rt _ ((iy ?_:fIx (frD t) (.int 0) _ _))
     dsimp only [BO]
     refine rt _ ((gI ?_:fIx (frD t) (.int 1) _ _))
     exact ⟨by show 2≤sizeLine;decide,rfl,sH t, .inr ⟨rfl,le⟩,rfl⟩
    ·have h:¬z.1 * t.2 < (sH t).1 * z.2:=of_decide_eq_false h
     have le:=(i7 (a:=sH t) (b:=z) tsz.2.1 lp.zs.2.1).mp (Int.not_lt.mp h)
     rw [fK tsz.2.1] at le
     exact ⟨rfl,z, .inl ⟨rfl,le⟩,rfl⟩
   rintro ρ5 M5 ⟨rfl,z',hz,rfl⟩
   walk_at "vc"
   refine jK hi (gA ?_)
   cases hr:rows[i] with
   | fin p=>
    refine ⟨fun z=>(nomatch z),fun _=> ?_⟩
    exact nxt _ _ ⟨rfl,i+1,m',_,_,_,_,by rw [Int.natCast_add];rfl,by omega,lp.step nmi (by omega) (.inl ⟨rfl,by unfold cw;rw [hi,hr]⟩) hz,rfl⟩
   | doors k ds=>
    have ke:k≠"end":=(aQ f (aag (i:=i) (by rw [hi,hr]))).ro.1
    refine ⟨fun _=> ?_,fun z=> ?_⟩
    ·refine rc _ (rt _ ?_)
     refine ⟨c,t,_,_,rfl,csz,tsz,by decide,by decide, ?_⟩
     refine ⟨s,_,_,_,rfl,szs,szU csz tsz,by decide, ?_⟩
     exact nxt _ _ ⟨rfl,i+1,m',_,_,_,_,by rw [Int.natCast_add];rfl,by omega,lp.step nmi (by omega) (.inr ⟨rfl,by unfold cw;rw [hi,hr];exact congrArg val ht⟩) hz,rfl⟩
    ·have z:(!decide (k="end"))=false:=z
     have z:k="end":=by simpa using z
     exact absurd z ke
  ·obtain ⟨rfl,i,m,w,s,z,o13,ex,im,lp,rfl⟩:=hj
   have m0:m=0:=by
    have:=congrArg List.length ex
    rw [bR] at this;exact this.symm
   have:i=rows.length:=by omega
   subst this
   have v11:val ((1,1):Fr)=1:=by show ((1:Int):Rat) / ((1:Int):Rat)=1;grind
   have wv:val w=1:=lp.wv.trans ((ct.sum fun _=>1).trans (vq fw dk tn hpl))
   have w1:w=(1,1):=jk lp.wr ⟨by decide,by decide⟩ (wv.trans v11.symm)
   have sv:val s=PfT rows acc tn (cw rows tb) pl:=lp.sv.trans (ct.sum _)
   have szs:=lp.sz e0 e1 cc0 cc1 gr.f0 nlt r5
   have zb:ab (val s)≤val z:=by
    rw [sv]
    refine zw fw dk tn (fun j hj=> ?_) hpl
    rcases cU hj with ⟨p,hi⟩ | ⟨k,ds,hi⟩
    ·have:cw rows tb j=0:=by unfold cw;rw [hi]
     rw [this]
     exact hU.mpr ⟨by have:=lp.z0;grind,lp.z0⟩
    ·have:cw rows tb j=val (tb.getD j (0,1)):=by unfold cw;rw [hi]
     rw [this]
     exact lp.zb j hj
   have tsz:=(nm pl hpl).tz
   have ti:atI (tb.map frD) (pl:Int)=some (frD (tb.getD pl (0,1))):=aI (by rw [aaf,aaa (by omega),aab,aaa (by omega)];rfl)
   rw [←sv] at gp
   generalize tb.getD pl (0,1)=t at *
   obtain ⟨s0,s1,su⟩:=dt fl.pl.sh
   have ss10:Sz 10 share:=⟨by have:=su.1;have:=su.2;omega,s0,by omega⟩
   obtain ⟨pw,hpw⟩:∃pw:Fr,pw=(share.1 ^ tn,share.2 ^ tn):=⟨_,rfl⟩
   have psz:Sz 121 pw:=by rw [hpw];exact dM (zh ss10 tn) (by omega)
   have pv:val pw=val share ^ tn:=by rw [hpw];exact uy s0 tn
   have p0:0≤val pw:=by rw [pv];exact zv (eB s0 su.1) tn
   rw [←pv] at gp
   subst w1
   refine ⟨fun ρ M5=>M5=M'∧ρ=[some (.scr ns),some (.lst (rows.map cj)),some (frD share),some (aP Co share rows),some (.loc kp),some (.int (pl:Int)),some (.int (tn:Int)),some (.loc kt),some (frD mean),some (.lst (cs.map frD)),some (frD (1,1)),some (frD s),some (frD z),o13,some (frD pw),none], ?_, ?_⟩
   ·refine ⟨share,tn,rfl,tn12,ss10,rfl, ?_⟩
    rw [hpw];rfl
   rintro ρ5 M5 ⟨rfl,rfl⟩
   have msz:Sz 2600 ((0 - mean.1,mean.2):Fr):=⟨by show (0 - mean.1).natAbs < _;have:=mn.sz.1;omega,mn.sz.2.1,mn.sz.2.2⟩
   have gsz:=Am tsz msz
   have gv:val (bf t (0 - mean.1,mean.2))=val pw * val s:=by
    rw [cN tsz.2.1 msz.2.1,←gp]
    have:val ((0 - mean.1,mean.2):Fr)= - val mean:=by
     show ((0 - mean.1:Int):Rat) / (mean.2:Rat)= - ((mean.1:Rat) / (mean.2:Rat))
     rw [Int.zero_sub,Rat.intCast_neg];grind
    rw [this];grind
   have gr':Red (bf t (0 - mean.1,mean.2)):=aM (aaH (aaq tsz.2.1 msz.2.1))
   have ps0:0 < pw.2 * s.2:=aaq psz.2.1 szs.2.1
   have ge:bf t (0 - mean.1,mean.2)=bK (pw.1 * s.1) (pw.2 * s.2):=jk gr' (aM (aaH ps0)) (gv.trans (cv psz.2.1 szs.2.1).symm)
   have gl:val (sH (bf t (0 - mean.1,mean.2)))≤val (pw.1 * z.1,pw.2 * z.2):=by
    rw [fK gr'.pos,gv,DY p0,Ey psz.2.1 lp.zs.2.1]
    exact aaF zb p0
   walk_at "vc"
   refine (ax (d:= .loc kt) (iD hk) ti ?_:fIx (.loc kt) (.int (pl:Int)) _ _)
   refine (iy ?_:fIx (frD mean) (.int 0) _ _)
   dsimp only [BN]
   refine (gI ?_:fIx (frD mean) (.int 1) _ _)
   refine ⟨by show 2≤sizeLine;decide, ?_⟩
   refine ⟨t,(0 - mean.1,mean.2),_,_,rfl,tsz,msz,by decide, ?_⟩
   have gq:=(i7 (a:=sH (bf t (0 - mean.1,mean.2))) (b:=(pw.1 * z.1,pw.2 * z.2)) gr'.pos (aaq psz.2.1 lp.zs.2.1)).mpr gl
   generalize bf t (0 - mean.1,mean.2)=g at *
   refine ⟨by show 2≤sizeLine;decide, ?_⟩
   refine qf (p:=(1,1)) ⟨fun z=>(nomatch z),fun _=> ?_⟩
   refine (iy ?_:fIx (frD g) (.int 0) _ _)
   dsimp only [BO]
   refine (gI ?_:fIx (frD g) (.int 1) _ _)
   refine ⟨by show 2≤sizeLine;decide, ?_⟩
   refine ⟨pw,z,_,_,rfl,psz,lp.zs,by decide,by decide, ?_⟩
   refine ⟨sH g,(pw.1 * z.1,pw.2 * z.2),_,_,rfl,pk gsz,szU psz lp.zs,by decide,by decide,fun h=> ?_,fun _=> ?_⟩
   ·have h:pw.1 * z.1 * g.2 < (sH g).1 * (pw.2 * z.2):=of_decide_eq_true h
    exact absurd h (Int.not_lt.mpr gq)
   refine (iy ?_:fIx (frD pw) (.int 0) _ _)
   refine (iy ?_:fIx (frD s) (.int 0) _ _)
   refine ⟨⟨b8 psz (by decide),b8 szs (by decide)⟩, ?_⟩
   refine (gI ?_:fIx (frD pw) (.int 1) _ _)
   refine (gI ?_:fIx (frD s) (.int 1) _ _)
   refine ⟨⟨bj psz (by decide),bj szs (by decide)⟩, ?_⟩
   refine ⟨_,_,rfl,ps0,bg (lV psz.2.2 szs.2.2), ?_⟩
   rw [←ge]
   exact Bm (hq _)
structure FT(K:PySem.W.Frag)(f:Addr)(x:Str)(st:Stmt):Prop where
 a:PySem.W.nsIn K mainGlobals x=some (some (.ref f))
 e:∃fd,Fun K x x st f fd
structure FM(K:PySem.W.Frag)(C f:Addr)(m x:Str)(st:Stmt):Prop where
 a:PySem.W.findIn K (.ref C) m=some (some (.ref f))
 i:PySem.W.isFn K (.ref f)=true
 e:∃fd,Fun K m x st f fd
section
variable{K:PySem.W.Frag}{C f:Addr}{m x:Str}{st:Stmt}{oc:Value}{od an:Option Addr}{osl:Array (Option Value)}{kV doc pm cdv ct:Value}
theorem FT.of(a:PySem.W.nsIn K mainGlobals x=some (some (.ref f)))(l:K.lookup f=some ⟨oc,od, .func (PySem.W.fnOf x x (iA st) (fF st) (ag st) .none kV doc pm an cdv ct),osl⟩)(c:PySem.W.codeIn K cdv x=true)(k:PySem.W.keepIn K (.ref f)=true):FT K f x st:=⟨a,_,zT l c k⟩
theorem FM.of(a:PySem.W.findIn K (.ref C) m=some (some (.ref f)))(i:PySem.W.isFn K (.ref f)=true)(l:K.lookup f=some ⟨oc,od, .func (PySem.W.fnOf m x (iA st) (fF st) (ag st) .none kV doc pm an cdv ct),osl⟩)(c:PySem.W.codeIn K cdv x=true)(k:PySem.W.keepIn K (.ref f)=true):FM K C f m x st:=⟨a,i,_,zT l c k⟩
end
theorem gE{P:List Value→Prop}(h:∀a0:Value,P [a0]):∀us:List Value,us.length=1→P us
 | [a0],_=>h a0
theorem dz{P:List Value→Prop}(h:∀a0 a1:Value,P [a0,a1]):∀us:List Value,us.length=2→P us
 | [a0,a1],_=>h a0 a1
theorem ip{P:List Value→Prop}(h:∀a0 a1 a2:Value,P [a0,a1,a2]):∀us:List Value,us.length=3→P us
 | [a0,a1,a2],_=>h a0 a1 a2
theorem vV{P:List Value→Prop}(h:∀a0 a1 a2 a3:Value,P [a0,a1,a2,a3]):∀us:List Value,us.length=4→P us
 | [a0,a1,a2,a3],_=>h a0 a1 a2 a3
theorem A6{P:List Value→Prop}(h:∀a0 a1 a2 a3 a4:Value,P [a0,a1,a2,a3,a4]):∀us:List Value,us.length=5→P us
 | [a0,a1,a2,a3,a4],_=>h a0 a1 a2 a3 a4
theorem n8{K:PySem.W.Frag}(h:PySem.W.subIn K (.type "int") (.type "bool")=some false):PySem.W.kitOne K (.type "int") (.type "bool")=some false:=by
 unfold PySem.W.kitOne PySem.W.kitCls
 rw [if_neg (by decide+kernel)]
 show (if PySem.W.kitMeta "bool"=true then _ else _)=_
 rw [if_pos (by decide+kernel)]
 exact h
theorem qo{K:PySem.W.Frag}(h:PySem.W.subIn K (.type "int") (.type "str")=some false):PySem.W.kitOne K (.type "int") (.type "str")=some false:=by
 unfold PySem.W.kitOne PySem.W.kitCls
 rw [if_neg (by decide+kernel)]
 show (if PySem.W.kitMeta "str"=true then _ else _)=_
 rw [if_pos (by decide+kernel)]
 exact h
theorem mm{K:PySem.W.Frag}(h:PySem.W.subIn K (.type "tuple") (.type "str")=some false):PySem.W.kitOne K (.type "tuple") (.type "str")=some false:=by
 unfold PySem.W.kitOne PySem.W.kitCls
 rw [if_neg (by decide+kernel)]
 show (if PySem.W.kitMeta "str"=true then _ else _)=_
 rw [if_pos (by decide+kernel)]
 exact h
theorem mq{K:PySem.W.Frag}(h:PySem.W.subIn K (.type "tuple") (.type "int")=some false):PySem.W.kitOne K (.type "tuple") (.type "int")=some false:=by
 unfold PySem.W.kitOne PySem.W.kitCls
 rw [if_neg (by decide+kernel)]
 show (if PySem.W.kitMeta "int"=true then _ else _)=_
 rw [if_pos (by decide+kernel)]
 exact h
theorem nY{K:PySem.W.Frag}(h:PySem.W.subIn K (.type "list") (.type "str")=some false):PySem.W.kitOne K (.type "list") (.type "str")=some false:=by
 unfold PySem.W.kitOne PySem.W.kitCls
 rw [if_neg (by decide+kernel)]
 show (if PySem.W.kitMeta "str"=true then _ else _)=_
 rw [if_pos (by decide+kernel)]
 exact h
theorem nZ{K:PySem.W.Frag}(h:PySem.W.subIn K (.type "list") (.type "int")=some false):PySem.W.kitOne K (.type "list") (.type "int")=some false:=by
 unfold PySem.W.kitOne PySem.W.kitCls
 rw [if_neg (by decide+kernel)]
 show (if PySem.W.kitMeta "int"=true then _ else _)=_
 rw [if_pos (by decide+kernel)]
 exact h
theorem kq{K:PySem.W.Frag}(h:PySem.W.subIn K (.type "tuple") (.type "list")=some false):PySem.W.kitOne K (.type "tuple") (.type "list")=some false:=by
 unfold PySem.W.kitOne PySem.W.kitCls
 rw [if_neg (by decide+kernel)]
 show (if PySem.W.kitMeta "list"=true then _ else _)=_
 rw [if_pos (by decide+kernel)]
 exact h
theorem kr{K:PySem.W.Frag}(h:PySem.W.subIn K (.type "list") (.type "tuple")=some false):PySem.W.kitOne K (.type "list") (.type "tuple")=some false:=by
 unfold PySem.W.kitOne PySem.W.kitCls
 rw [if_neg (by decide+kernel)]
 show (if PySem.W.kitMeta "tuple"=true then _ else _)=_
 rw [if_pos (by decide+kernel)]
 exact h
open PySem.W in
theorem DW{l:OpenLaw}{w:World}{K:Frag}{h:Heap}{mg:Str→Option Value}{fa Cg Cn Co atHANDS f1 f2 f3 f4 f5 f6 f7 f8 f9 f10 f11 f12 f13 f14 f15 f16 f17 f18 f19 f20 f21 f22 f23 f24 f25 f26 f27 f28 f29 f30 f31 f32 f33 f34 f35 f36 f37 f38 f39 f40 f41 f42 f43 f44 f45 f46 f47 f48 f49 f50 f51 f52 f53 f54 f55 f56 f57 f58 f59 f60 f61:Addr}(X:K.In h)(G:h.Ns mainGlobals mg)(hfa:mg "law"=some (.ref fa))
  {tkMOST_DOORS tkMOST_BOTTOM tkMOST_PLACES tkMOST_SHARE_BOTTOM:Tok}
  (aENoFloor:nsIn K mainGlobals "NoFloor"=some (some (.ref Cg))) (xENoFloor:excIn K Cg [.type "ValueError", .type "Exception", .type "BaseException", .type "object"] "ValueError.__new__"=true)
  (aENoNumber:nsIn K mainGlobals "NoNumber"=some (some (.ref Cn))) (xENoNumber:excIn K Cn [.type "ValueError", .type "Exception", .type "BaseException", .type "object"] "ValueError.__new__"=true)
  (acMOST_DOORS:nsIn K mainGlobals "MOST_DOORS"=some (some (.int (6) tkMOST_DOORS)))
  (acMOST_BOTTOM:nsIn K mainGlobals "MOST_BOTTOM"=some (some (.int (1000000) tkMOST_BOTTOM)))
  (acMOST_PLACES:nsIn K mainGlobals "MOST_PLACES"=some (some (.int (12) tkMOST_PLACES)))
  (acMOST_SHARE_BOTTOM:nsIn K mainGlobals "MOST_SHARE_BOTTOM"=some (some (.int (1000) tkMOST_SHARE_BOTTOM)))
  (aCFloor:nsIn K mainGlobals "Floor"=some (some (.ref Co))) (pgFloor:plainGet K Co Str.empty=true) (hdFloor:hasDictIn K Co=true) (poFloor:plainOver K Co=true) (saFloor:findIn K (.ref Co) "__setattr__"=some (some (.builtin "object.__setattr__"))) (mkFloor:makesIn K Co=true) (kcFloor:keepIn K (.ref Co)=true)
  (nf_kept_rows:findIn K (.ref Co) "kept_rows"=some none)
  (nf_kept_share:findIn K (.ref Co) "kept_share"=some none)
  {ttHANDS0 ttHANDS1:Tok} {otdHANDS:Option Addr} {otsHANDS:Array (Option Value)} {otnHANDS:Nat} (at_HANDS:nsIn K mainGlobals "HANDS"=some (some (.ref atHANDS))) (lt_HANDS:K.lookup atHANDS=some ⟨.type "tuple",otdHANDS, .seq #[(.str "one" ttHANDS0),(.str "other" ttHANDS1)] otnHANDS,otsHANDS⟩)
  (ks_int_bool:subIn K (.type "int") (.type "bool")=some false)
  (ks_int_str:subIn K (.type "int") (.type "str")=some false)
  (ks_tuple_str:subIn K (.type "tuple") (.type "str")=some false)
  (ks_tuple_int:subIn K (.type "tuple") (.type "int")=some false)
  (ks_list_str:subIn K (.type "list") (.type "str")=some false)
  (ks_list_int:subIn K (.type "list") (.type "int")=some false)
  (ks_tuple_list:subIn K (.type "tuple") (.type "list")=some false)
  (ks_list_tuple:subIn K (.type "list") (.type "tuple")=some false)
  (t1:FT K f1 "_law_far" pI)
  (t2:FT K f2 "_law_number" ia)
  (t3:FT K f3 "_law_lowest" ic)
  (t4:FT K f4 "_law_pay" pH)
  (t5:FT K f5 "_law_rest" lA)
  (t6:FT K f6 "_law_doors" dQ)
  (t7:FT K f7 "_law_rows" lz)
  (t8:FT K f8 "_law_share" jA)
  (t9:FT K f9 "fits_share" ij)
  (t10:FT K f10 "fits_pay" lF)
  (t11:FT K f11 "fits_door" jH)
  (t12:FT K f12 "fits_doors" eF)
  (t13:FT K f13 "common_divisor" d9)
  (t14:FT K f14 "common_bottom" eU)
  (t15:FT K f15 "fits_chances" bP)
  (t16:FT K f16 "fits_row" gS)
  (t17:FT K f17 "copied_row" ik)
  (t18:FM K Co f18 "__init__" "Floor.__init__" eE)
  (t19:FT K f19 "_law_plans" jC)
  (t20:FT K f20 "with_weights" fq)
  (t21:FT K f21 "number_of_head" eT)
  (t22:FT K f22 "moved_ahead" gw)
  (t23:FT K f23 "cleared_line" cT)
  (t24:FT K f24 "cleared" eV)
  (t25:FT K f25 "fraction" jF)
  (t26:FT K f26 "quotients" h8)
  (t27:FT K f27 "answer_of" jI)
  (t28:FM K Co f28 "size" "Floor.size" ie)
  (t29:FM K Co f29 "kind" "Floor.kind" ig)
  (t30:FT K f30 "minus" uW)
  (t31:FT K f31 "times" uV)
  (t32:FT K f32 "whole_row" ft)
  (t33:FT K f33 "led_row" pG)
  (t34:FM K Co f34 "pay" "Floor.pay" jG)
  (t35:FM K Co f35 "share" "Floor.share" gy)
  (t36:FM K Co f36 "doors" "Floor.doors" gz)
  (t37:FT K f37 "ways_from" ju)
  (t38:FT K f38 "plus" Aw)
  (t39:FT K f39 "weighed" ly)
  (t40:FT K f40 "row_of" jw)
  (t41:FT K f41 "worths_by" fo)
  (t42:FT K f42 "has_door" lE)
  (t43:FT K f43 "doors_of" lG)
  (t44:FT K f44 "worths_of" js)
  (t45:FT K f45 "_law_plus" lB)
  (t46:FT K f46 "_law_times" jy)
  (t47:FT K f47 "_law_due" jD)
  (t48:FT K f48 "_law_table" jz)
  (t49:FT K f49 "first_means" dR)
  (t50:FM K Co f50 "shown" "Floor.shown" gx)
  (t51:FM K Co f51 "all_shown" "Floor.all_shown" bY)
  (t52:FT K f52 "under" uU)
  (t53:FT K f53 "greatest" jE)
  (t54:FT K f54 "least" uX)
  (t55:FM K Co f55 "look" "Floor.look" eD)
  (t56:FT K f56 "more_means" h9)
  (t57:FT K f57 "chances_next" fv)
  (t58:FT K f58 "mean_of" jx)
  (t59:FT K f59 "_law_more" lC)
  (t60:FT K f60 "_law_power" jB)
  (t61:FT K f61 "law" EM)
  (z_len:nsIn K mainGlobals "len"=some none)
  (z_abs:nsIn K mainGlobals "abs"=some none)
  (z_isinstance:nsIn K mainGlobals "isinstance"=some none)
  (z_int:nsIn K mainGlobals "int"=some none)
  (z_bool:nsIn K mainGlobals "bool"=some none)
  (z_str:nsIn K mainGlobals "str"=some none)
  (z_tuple:nsIn K mainGlobals "tuple"=some none)
  (z_list:nsIn K mainGlobals "list"=some none)
  (z_range:nsIn K mainGlobals "range"=some none)
  (z_enumerate:nsIn K mainGlobals "enumerate"=some none)
  (z_any:nsIn K mainGlobals "any"=some none)
  (z_all:nsIn K mainGlobals "all"=some none)
  (z_sum:nsIn K mainGlobals "sum"=some none)
  (z_zip:nsIn K mainGlobals "zip"=some none)
  (z_dict:nsIn K mainGlobals "dict"=some none)
  :∃fd:FuncData,(∀(s:Shared) (v:Value),BindsTo s fd ⟨[v],[]⟩ [("_law_script",v)])∧∀base:Heap,K.In base→base.Ns mainGlobals mg→bA l.prog w K mg base CX0 9 fa fd ["_law_script"] (uN K):=by
 obtain ⟨a1,_,F1⟩:=t1
 obtain ⟨a2,_,F2⟩:=t2
 obtain ⟨a3,_,F3⟩:=t3
 obtain ⟨a4,_,F4⟩:=t4
 obtain ⟨a5,_,F5⟩:=t5
 obtain ⟨a6,_,F6⟩:=t6
 obtain ⟨a7,_,F7⟩:=t7
 obtain ⟨a8,_,F8⟩:=t8
 obtain ⟨a9,_,F9⟩:=t9
 obtain ⟨a10,_,F10⟩:=t10
 obtain ⟨a11,_,F11⟩:=t11
 obtain ⟨a12,_,F12⟩:=t12
 obtain ⟨a13,_,F13⟩:=t13
 obtain ⟨a14,_,F14⟩:=t14
 obtain ⟨a15,_,F15⟩:=t15
 obtain ⟨a16,_,F16⟩:=t16
 obtain ⟨a17,_,F17⟩:=t17
 obtain ⟨a18,i18,_,F18⟩:=t18
 obtain ⟨a19,_,F19⟩:=t19
 obtain ⟨a20,_,F20⟩:=t20
 obtain ⟨a21,_,F21⟩:=t21
 obtain ⟨a22,_,F22⟩:=t22
 obtain ⟨a23,_,F23⟩:=t23
 obtain ⟨a24,_,F24⟩:=t24
 obtain ⟨a25,_,F25⟩:=t25
 obtain ⟨a26,_,F26⟩:=t26
 obtain ⟨a27,_,F27⟩:=t27
 obtain ⟨a28,i28,_,F28⟩:=t28
 obtain ⟨a29,i29,_,F29⟩:=t29
 obtain ⟨a30,_,F30⟩:=t30
 obtain ⟨a31,_,F31⟩:=t31
 obtain ⟨a32,_,F32⟩:=t32
 obtain ⟨a33,_,F33⟩:=t33
 obtain ⟨a34,i34,_,F34⟩:=t34
 obtain ⟨a35,i35,_,F35⟩:=t35
 obtain ⟨a36,i36,_,F36⟩:=t36
 obtain ⟨a37,_,F37⟩:=t37
 obtain ⟨a38,_,F38⟩:=t38
 obtain ⟨a39,_,F39⟩:=t39
 obtain ⟨a40,_,F40⟩:=t40
 obtain ⟨a41,_,F41⟩:=t41
 obtain ⟨a42,_,F42⟩:=t42
 obtain ⟨a43,_,F43⟩:=t43
 obtain ⟨a44,_,F44⟩:=t44
 obtain ⟨a45,_,F45⟩:=t45
 obtain ⟨a46,_,F46⟩:=t46
 obtain ⟨a47,_,F47⟩:=t47
 obtain ⟨a48,_,F48⟩:=t48
 obtain ⟨a49,_,F49⟩:=t49
 obtain ⟨a50,i50,_,F50⟩:=t50
 obtain ⟨a51,i51,_,F51⟩:=t51
 obtain ⟨a52,_,F52⟩:=t52
 obtain ⟨a53,_,F53⟩:=t53
 obtain ⟨a54,_,F54⟩:=t54
 obtain ⟨a55,i55,_,F55⟩:=t55
 obtain ⟨a56,_,F56⟩:=t56
 obtain ⟨a57,_,F57⟩:=t57
 obtain ⟨a58,_,F58⟩:=t58
 obtain ⟨a59,_,F59⟩:=t59
 obtain ⟨a60,_,F60⟩:=t60
 obtain ⟨a61,dL,F61⟩:=t61
 have e:=hfa.symm.trans (mg_of X G a61)
 cases e
 have mENoFloor:=mg_of X G aENoFloor
 have ENoFloor:iM K Cg _ _:=⟨xENoFloor⟩
 have mENoNumber:=mg_of X G aENoNumber
 have ENoNumber:iM K Cn _ _:=⟨xENoNumber⟩
 have mcMOST_DOORS:=mg_of X G acMOST_DOORS
 have mcMOST_BOTTOM:=mg_of X G acMOST_BOTTOM
 have mcMOST_PLACES:=mg_of X G acMOST_PLACES
 have mcMOST_SHARE_BOTTOM:=mg_of X G acMOST_SHARE_BOTTOM
 have n_len:=mg_none_of X G z_len
 have n_abs:=mg_none_of X G z_abs
 have n_isinstance:=mg_none_of X G z_isinstance
 have n_int:=mg_none_of X G z_int
 have n_bool:=mg_none_of X G z_bool
 have n_str:=mg_none_of X G z_str
 have n_tuple:=mg_none_of X G z_tuple
 have n_list:=mg_none_of X G z_list
 have n_range:=mg_none_of X G z_range
 have n_enumerate:=mg_none_of X G z_enumerate
 have n_any:=mg_none_of X G z_any
 have n_all:=mg_none_of X G z_all
 have n_sum:=mg_none_of X G z_sum
 have n_zip:=mg_none_of X G z_zip
 have n_dict:=mg_none_of X G z_dict
 have E:Ev K mg Co Cg Cn:={n_len:=n_len,n_abs:=n_abs,n_isinstance:=n_isinstance,n_int:=n_int,n_bool:=n_bool,n_str:=n_str,n_tuple:=n_tuple,n_list:=n_list,n_range:=n_range,n_enumerate:=n_enumerate,n_any:=n_any,n_all:=n_all,n_sum:=n_sum,n_zip:=n_zip,n_dict:=n_dict,ib:=n8 ks_int_bool,kis:=qo ks_int_str,kts:=mm ks_tuple_str,kti:=mq ks_tuple_int,kls:=nY ks_list_str,kli:=nZ ks_list_int,ktl:=kq ks_tuple_list,klt:=kr ks_list_tuple,mNoFloor:=mENoFloor,eNoFloor:=ENoFloor,mNoNumber:=mENoNumber,eNoNumber:=ENoNumber,clsFloor:=⟨pgFloor,hdFloor,poFloor,saFloor⟩,na_kept_rows:=nf_kept_rows,na_kept_share:=nf_kept_share,mHANDS:=⟨_,_,_,_,mg_of X G at_HANDS,lt_HANDS,rfl,rfl,(by show 2≤sizeLine;decide), .cons ⟨_,rfl⟩ (.cons ⟨_,rfl⟩ .nil)⟩,mMOST_DOORS:=⟨_,mcMOST_DOORS⟩,mMOST_BOTTOM:=⟨_,mcMOST_BOTTOM⟩,mMOST_PLACES:=⟨_,mcMOST_PLACES⟩,mMOST_SHARE_BOTTOM:=⟨_,mcMOST_SHARE_BOTTOM⟩}
 refine ⟨dL,fun s v=>by obtain ⟨_,_,_,_,_,_,_,_,_,rfl,_⟩:=F61.ex;exact .of_eq rfl,fun base _ _=> ?_⟩
 have mc:= @bx.mk l.prog w K mg base
 have c_LawFar:=mc (vH F1 E) (F1.binds fun _ _ _ _ _ _=>dz fun _ _=>rfl) (mg_of X G a1) F1.kp
 have c_LawNumber:=mc (nG F2 E c_LawFar) (F2.binds fun _ _ _ _ _ _=>dz fun _ _=>rfl) (mg_of X G a2) F2.kp
 have c_LawLowest:=mc (nI F3 E) (F3.binds fun _ _ _ _ _ _=>dz fun _ _=>rfl) (mg_of X G a3) F3.kp
 have c_LawPay:=mc (vG F4 E c_LawLowest) (F4.binds fun _ _ _ _ _ _=>gE fun _=>rfl) (mg_of X G a4) F4.kp
 have c_LawRest:=mc (tH F5 E c_LawNumber c_LawFar) (F5.binds fun _ _ _ _ _ _=>dz fun _ _=>rfl) (mg_of X G a5) F5.kp
 have c_LawDoors:=mc (p9 F6 E c_LawNumber c_LawPay c_LawRest c_LawLowest) (F6.binds fun _ _ _ _ _ _=>A6 fun _ _ _ _ _=>rfl) (mg_of X G a6) F6.kp
 have c_LawRows:=mc (tG F7 E c_LawNumber c_LawPay c_LawDoors) (F7.binds fun _ _ _ _ _ _=>ip fun _ _ _=>rfl) (mg_of X G a7) F7.kp
 have c_LawShare:=mc (pZ F8 E c_LawLowest) (F8.binds fun _ _ _ _ _ _=>gE fun _=>rfl) (mg_of X G a8) F8.kp
 have c_FitsShare:=mc (nN F9 E) (F9.binds fun _ _ _ _ _ _=>gE fun _=>rfl) (mg_of X G a9) F9.kp
 have c_FitsPay:=mc (tM F10 E) (F10.binds fun _ _ _ _ _ _=>gE fun _=>rfl) (mg_of X G a10) F10.kp
 have c_FitsDoor:=mc (qd F11 E c_FitsPay) (F11.binds fun _ _ _ _ _ _=>dz fun _ _=>rfl) (mg_of X G a11) F11.kp
 have c_FitsDoors:=mc (nO F12 E c_FitsDoor) (F12.binds fun _ _ _ _ _ _=>dz fun _ _=>rfl) (mg_of X G a12) F12.kp
 have c_CommonDivisor:=mc (iO F13 E) (F13.binds fun _ _ _ _ _ _=>dz fun _ _=>rfl) (mg_of X G a13) F13.kp
 have c_CommonBottom:=mc (jQ F14 E c_CommonDivisor) (F14.binds fun _ _ _ _ _ _=>gE fun _=>rfl) (mg_of X G a14) F14.kp
 have c_FitsChances:=mc (kj F15 E c_CommonBottom) (F15.binds fun _ _ _ _ _ _=>gE fun _=>rfl) (mg_of X G a15) F15.kp
 have c_FitsRow:=mc (tL F16 E c_FitsPay c_FitsDoors c_FitsChances) (F16.binds fun _ _ _ _ _ _=>dz fun _ _=>rfl) (mg_of X G a16) F16.kp
 have c_CopiedRow:=mc (nP F17 E) (F17.binds fun _ _ _ _ _ _=>gE fun _=>rfl) (mg_of X G a17) F17.kp
 have c_FloorInit:Gf l.prog w K mg base _ "Floor" Co _ _ _ _:=⟨nM F18 E c_FitsShare c_FitsRow c_CopiedRow,(F18.binds fun _ _ _ _ _ _=>ip fun _ _ _=>rfl),⟨mkFloor,a18,i18,kcFloor⟩,mg_of X G aCFloor⟩
 have c_LawPlans:=mc (p7 F19 E c_LawNumber) (F19.binds fun _ _ _ _ _ _=>ip fun _ _ _=>rfl) (mg_of X G a19) F19.kp
 have c_WithWeights:=mc (ki F20 E) (F20.binds fun _ _ _ _ _ _=>gE fun _=>rfl) (mg_of X G a20) F20.kp
 have c_NumberOfHead:=mc (jP F21 E) (F21.binds fun _ _ _ _ _ _=>ip fun _ _ _=>rfl) (mg_of X G a21) F21.kp
 have c_MovedAhead:=mc (lO F22 E) (F22.binds fun _ _ _ _ _ _=>ip fun _ _ _=>rfl) (mg_of X G a22) F22.kp
 have c_ClearedLine:=mc (kn F23 E) (F23.binds fun _ _ _ _ _ _=>vV fun _ _ _ _=>rfl) (mg_of X G a23) F23.kp
 have c_Cleared:=mc (tO F24 E c_WithWeights c_NumberOfHead c_MovedAhead c_ClearedLine) (F24.binds fun _ _ _ _ _ _=>dz fun _ _=>rfl) (mg_of X G a24) F24.kp
 have c_Fraction:=mc (qb F25 E c_CommonDivisor) (F25.binds fun _ _ _ _ _ _=>dz fun _ _=>rfl) (mg_of X G a25) F25.kp
 have c_Quotients:=mc (nE F26 E c_Fraction) (F26.binds fun _ _ _ _ _ _=>vV fun _ _ _ _=>rfl) (mg_of X G a26) F26.kp
 have c_AnswerOf:=mc (qe F27 E c_Cleared c_Quotients) (F27.binds fun _ _ _ _ _ _=>gE fun _=>rfl) (mg_of X G a27) F27.kp
 have c_FloorSize:fj l.prog w K mg base _ Co "size" _ _ _ _:=⟨nJ F28 E,(F28.binds fun _ _ _ _ _ _=>gE fun _=>rfl),⟨pgFloor,hdFloor,poFloor,saFloor⟩,⟨a28,i28,F28.kp⟩⟩
 have c_FloorKind:fj l.prog w K mg base _ Co "kind" _ _ _ _:=⟨nL F29 E,(F29.binds fun _ _ _ _ _ _=>dz fun _ _=>rfl),⟨pgFloor,hdFloor,poFloor,saFloor⟩,⟨a29,i29,F29.kp⟩⟩
 have c_Minus:=mc (yp F30 E c_Fraction) (F30.binds fun _ _ _ _ _ _=>dz fun _ _=>rfl) (mg_of X G a30) F30.kp
 have c_Times:=mc (yn F31 E c_Fraction) (F31.binds fun _ _ _ _ _ _=>dz fun _ _=>rfl) (mg_of X G a31) F31.kp
 have c_WholeRow:=mc (pV F32 E c_CommonBottom) (F32.binds fun _ _ _ _ _ _=>gE fun _=>rfl) (mg_of X G a32) F32.kp
 have c_LedRow:=mc (vF F33 E c_FloorSize c_Minus c_Times c_WholeRow) (F33.binds fun _ _ _ _ _ _=>A6 fun _ _ _ _ _=>rfl) (mg_of X G a33) F33.kp
 have c_FloorPay:fj l.prog w K mg base _ Co "pay" _ _ _ _:=⟨qc F34 E c_FloorKind,(F34.binds fun _ _ _ _ _ _=>dz fun _ _=>rfl),⟨pgFloor,hdFloor,poFloor,saFloor⟩,⟨a34,i34,F34.kp⟩⟩
 have c_FloorShare:fj l.prog w K mg base _ Co "share" _ _ _ _:=⟨lQ F35 E,(F35.binds fun _ _ _ _ _ _=>gE fun _=>rfl),⟨pgFloor,hdFloor,poFloor,saFloor⟩,⟨a35,i35,F35.kp⟩⟩
 have c_FloorDoors:fj l.prog w K mg base _ Co "doors" _ _ _ _:=⟨lR F36 E c_FloorKind,(F36.binds fun _ _ _ _ _ _=>dz fun _ _=>rfl),⟨pgFloor,hdFloor,poFloor,saFloor⟩,⟨a36,i36,F36.kp⟩⟩
 have c_WaysFrom:=mc (pW F37 E c_FloorDoors c_FloorKind) (F37.binds fun _ _ _ _ _ _=>ip fun _ _ _=>rfl) (mg_of X G a37) F37.kp
 have c_Plus:=mc (AU F38 E c_Fraction) (F38.binds fun _ _ _ _ _ _=>dz fun _ _=>rfl) (mg_of X G a38) F38.kp
 have c_Weighed:=mc (tF F39 E c_Plus c_Times) (F39.binds fun _ _ _ _ _ _=>dz fun _ _=>rfl) (mg_of X G a39) F39.kp
 have c_RowOf:=mc (yo F40 E c_FloorKind c_LedRow c_FloorPay c_FloorShare c_WaysFrom c_Weighed) (F40.binds fun _ _ _ _ _ _=>ip fun _ _ _=>rfl) (mg_of X G a40) F40.kp
 have c_WorthsBy:=mc (pU F41 E c_AnswerOf c_FloorSize c_RowOf) (F41.binds fun _ _ _ _ _ _=>dz fun _ _=>rfl) (mg_of X G a41) F41.kp
 have c_HasDoor:=mc (tK F42 E c_FloorDoors) (F42.binds fun _ _ _ _ _ _=>ip fun _ _ _=>rfl) (mg_of X G a42) F42.kp
 have c_DoorsOf:=mc (tN F43 E c_FloorSize c_FloorKind c_HasDoor) (F43.binds fun _ _ _ _ _ _=>dz fun _ _=>rfl) (mg_of X G a43) F43.kp
 have c_WorthsOf:=mc (pT F44 E c_WorthsBy c_DoorsOf) (F44.binds fun _ _ _ _ _ _=>ip fun _ _ _=>rfl) (mg_of X G a44) F44.kp
 have c_LawPlus:=mc (tI F45 E c_LawLowest) (F45.binds fun _ _ _ _ _ _=>dz fun _ _=>rfl) (mg_of X G a45) F45.kp
 have c_LawTimes:=mc (pX F46 E) (F46.binds fun _ _ _ _ _ _=>dz fun _ _=>rfl) (mg_of X G a46) F46.kp
 have c_LawDue:=mc (vI F47 E c_LawPlus c_LawTimes) (F47.binds fun _ _ _ _ _ _=>vV fun _ _ _ _=>rfl) (mg_of X G a47) F47.kp
 have c_LawTable:=mc (pY F48 E c_LawDue) (F48.binds fun _ _ _ _ _ _=>vV fun _ _ _ _=>rfl) (mg_of X G a48) F48.kp
 have c_FirstMeans:=mc (lS F49 E c_FloorSize c_FloorPay) (F49.binds fun _ _ _ _ _ _=>gE fun _=>rfl) (mg_of X G a49) F49.kp
 have c_FloorShown:fj l.prog w K mg base _ Co "shown" _ _ _ _:=⟨lP F50 E c_Plus c_Times,(F50.binds fun _ _ _ _ _ _=>vV fun _ _ _ _=>rfl),⟨pgFloor,hdFloor,poFloor,saFloor⟩,⟨a50,i50,F50.kp⟩⟩
 have c_FloorAllShown:fj l.prog w K mg base _ Co "all_shown" _ _ _ _:=⟨iN F51 E c_FloorDoors c_FloorShown,(F51.binds fun _ _ _ _ _ _=>ip fun _ _ _=>rfl),⟨pgFloor,hdFloor,poFloor,saFloor⟩,⟨a51,i51,F51.kp⟩⟩
 have c_Under:=mc (ym F52 E) (F52.binds fun _ _ _ _ _ _=>dz fun _ _=>rfl) (mg_of X G a52) F52.kp
 have c_Greatest:=mc (qa F53 E c_Under) (F53.binds fun _ _ _ _ _ _=>gE fun _=>rfl) (mg_of X G a53) F53.kp
 have c_Least:=mc (yq F54 E c_Under) (F54.binds fun _ _ _ _ _ _=>gE fun _=>rfl) (mg_of X G a54) F54.kp
 have c_FloorLook:fj l.prog w K mg base _ Co "look" _ _ _ _:=⟨nK F55 E c_FloorKind c_FloorPay c_Weighed c_FloorAllShown c_FloorDoors c_Greatest c_Least,(F55.binds fun _ _ _ _ _ _=>ip fun _ _ _=>rfl),⟨pgFloor,hdFloor,poFloor,saFloor⟩,⟨a55,i55,F55.kp⟩⟩
 have c_MoreMeans:=mc (nF F56 E c_FloorSize c_FloorShown c_FloorLook) (F56.binds fun _ _ _ _ _ _=>ip fun _ _ _=>rfl) (mg_of X G a56) F56.kp
 have c_ChancesNext:=mc (ko F57 E c_FloorSize c_FloorKind c_Plus c_WaysFrom c_Times) (F57.binds fun _ _ _ _ _ _=>ip fun _ _ _=>rfl) (mg_of X G a57) F57.kp
 have c_MeanOf:=mc (vE F58 E c_DoorsOf c_FirstMeans c_FloorSize c_MoreMeans c_ChancesNext) (F58.binds fun _ _ _ _ _ _=>A6 fun _ _ _ _ _=>rfl) (mg_of X G a58) F58.kp
 have c_LawMore:=mc (tJ F59 E) (F59.binds fun _ _ _ _ _ _=>dz fun _ _=>rfl) (mg_of X G a59) F59.kp
 have c_LawPower:=mc (p5 F60 E c_LawTimes) (F60.binds fun _ _ _ _ _ _=>dz fun _ _=>rfl) (mg_of X G a60) F60.kp
 exact C4 (CW F61 E c_LawRows c_LawShare c_LawNumber c_FloorInit c_LawPlans c_WorthsOf c_LawTable c_MeanOf c_LawPlus c_LawMore c_LawTimes c_LawPower c_LawLowest)
theorem Ha{l:PySem.W.OpenLaw}{q:Program}{loose:List Str}{XP:(Str→Option Value)→Heap→Prop}{YP:World→Heap→Prop}{d:DefRec}{K:Params→PySem.W.Frag}(hn:l.most=some 63)(hdf:d.params.defaults=[])
  (hY:∀(w:World) (h:Heap),YP w h→(K w.params).In h)
  (F:∀(w:World) (mg:Str→Option Value) (fa:Addr) (h:Heap),(K w.params).In h→h.Ns mainGlobals mg→mg d.name=some (.ref fa)→
   ∃fd:FuncData,(∀(s:Shared) (u:Value),BindsTo s fd ⟨[u],[]⟩ [("_law_script",u)])∧∀base:Heap,(K w.params).In base→base.Ns mainGlobals mg→bA l.prog w (K w.params) mg base CX0 9 fa fd ["_law_script"] (uN (K w.params))):
  PySem.W.WalkO q loose XP YP l.row.toRowW d [] (fun f vs=>PySem.call f vs):=
 L2.pf (n:=63) (k:=9) (x:="_law_script") (CX:=fun _=>CX0) (sp:=fun w=>uN (K w.params)) hn (by decide) hdf ⟨rfl,by decide,by decide⟩ hY F (fun _ _ a ns hl _ hS=>⟨a,ns,rfl,hS,hl,fun _=>rfl⟩) fun _ _ _ _ _ z=>z
end
end Pg
open PySem PySem.W PyProof.Rows
set_option maxRecDepth 100000 in
set_option maxHeartbeats 0 in
theorem PySem.Challenge.cw_chanceduel_k66_whole_means_and_worths_holds : PySem.Challenge.rw_chanceduel_k66_whole_means_and_worths.Holds := by
 w_on;o_law
 refine holds_open (q:=Hd.q) (loose:=[]) (Xt:=Hd.Xt) (XP:=XL Hd.q [])
  (Yf:=Hd.H.obs) (Ya:=Hd.H.val) (YP:=Hd.H.says) Hd.left Hd.H.of Hd.H.keeps
  (fun s e=>xl_of s (Bool.and_eq_true_iff.mp e).1) XL.keeps (by rfl) (by rfl) (by rfl)
  (fun s e=>recFacts_of (Bool.and_eq_true_iff.mp e).2) (by rfl) (by assumption) (by decide+kernel)
  ⟨rfl,rfl,rfl,rfl,rfl,by decide+kernel⟩ ?hw ?hc
 (case hw=>w_witness2)
 refine Pg.Ha (l:=PySem.Challenge.rw_chanceduel_k66_whole_means_and_worths) rfl rfl (fun w h Y=>PySem.W.kIn_of Y) ?F
 case F=>
  k_fill
  intro w mg fa h KX G hmg
  refine' Pg.DW KX G hmg ?_ ?_ ?_ ?_ ?_ ?_ ?_ ?_ ?_ ?_ ?_ ?_ ?_ ?_ ?_ ?_ ?_ ?_ ?_ ?_ ?_ ?_ ?_ ?_ ?_ ?_ ?_ ?_ ?_ ?_ ?_ ?_ ?_ ?_ ?_ ?_ ?_ ?_ ?_ ?_ ?_ ?_ ?_ ?_ ?_ ?_ ?_ ?_ ?_ ?_ ?_ ?_ ?_ ?_ ?_ ?_ ?_ ?_ ?_ ?_ ?_ ?_ ?_ ?_ ?_ ?_ ?_ ?_ ?_ ?_ ?_ ?_ ?_ ?_ ?_ ?_ ?_ ?_ ?_ ?_ ?_ ?_ ?_ ?_ ?_ ?_ ?_ ?_ ?_ ?_ ?_ ?_ ?_ ?_ ?_ ?_ ?_ ?_ ?_ ?_ ?_ ?_ ?_
  all_goals try first | (refine' Pg.FT.of ?_ ?_ ?_ ?_ <;> try k_is) | (refine' Pg.FM.of ?_ ?_ ?_ ?_ ?_ <;> try k_is) | k_is | k_exc | kernel_rfl
