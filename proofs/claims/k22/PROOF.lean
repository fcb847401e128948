import PyProof.Rows.All
import Wide.All
import OpenK.AllK
import Wide.FinOn
import Lean
import PyProof.EqAt
import PyProof.EqKinds
import PyProof.TupleCall
import PyProof.NeKinds
import PyProof.ZipIter
import PyProof.DictUpdate
import PyProof.FactsAll.dict_1
import PySem.Challenge.RW_chanceduel_k22_worths_of_two_plans
set_option Elab.async false
set_option linter.all false
set_option maxRecDepth 100000
set_option maxHeartbeats 4000000
def aaa:=@List.getElem?_eq_getElem
def aab:=@List.getD_eq_getElem?_getD
def aac:=@List.length_map
def aad:=@List.mem_cons_of_mem
def aae:=@List.mem_cons_self
def aaf:=@List.getElem?_eq_some_iff
def aag:=@Int.le_of_lt
def aah:=@Nat.le_refl
def aai:=@List.length_append
def aaj:=@List.mem_of_getElem?
def aak:=@List.getElem?_map
def aal:=@Option.some.inj
def aam:=@Nat.lt_of_lt_of_le
def aan:=@List.mem_map
def aao:=@Bool.and_eq_true
def aap:=@Int.mul_le_mul_of_nonneg_left
def aaq:=@Bool.false_ne_true
def aar:=@List.getElem?_append_left
def aas:=@List.size_toArray
def aat:=@List.length_cons
def aau:=@Nat.le_trans
def aav:=@List.mem_append_right
def aaw:=@List.getElem?_append_right
def aax:=@Int.lt_of_le_of_lt
def aay:=@Int.mul_le_mul_of_nonneg_right
def aaz:=@Nat.ne_of_lt
def aaA:=@List.getElem_mem
def aaB:=@Int.mul_pos
def aaC:=@Rat.intCast_mul
def aaD:=@List.map_map
def aaE:=@Int.eq_of_mul_eq_mul_left
def aaF:=@List.getElem?_range
def aaG:=@List.mem_cons
def aaH:=@Int.emod_lt_of_pos
def aaI:=@List.map_cons
def aaJ:=@Int.emod_nonneg
def aaK:=@List.length_replicate
def aaL:=@Int.mul_comm
def aaM:=@Nat.lt_of_le_of_lt
def aaN:=@List.mem_append
def aaO:=@Rat.mul_le_mul_of_nonneg_left
def aaP:=@List.nil_append
def aaQ:=@List.zip_cons_cons
def aaR:=@Int.mul_nonneg
def aaS:=@Int.natAbs_mul
def aaT:=@List.length_range
def aaU:=@List.drop_eq_getElem_cons
def aaV:=@Rat.intCast_le_intCast
def aaW:=@Nat.lt_irrefl
def aaX:=@List.replicate_succ
def aaY:=@List.length_zip
def aaZ:=@List.map_append
def aa0:=@List.mem_range
def aa1:=@Int.natAbs_of_nonneg
def aa2:=@List.ext_getElem
def aa3:=@List.getElem_of_mem
def aa4:=@Option.isSome_iff_exists
def aa5:=@Int.mul_ediv_cancel_left
def aa6:=@Int.mul_le_mul
def aa7:=@List.append_nil
def aa8:=@List.getElem?_set_ne
def aa9:=@Int.ne_of_gt
def aba:=@List.getElem?_set_self
def abb:=@List.flatten_cons
def abc:=@List.map_congr_left
def abd:=@List.of_mem_zip
def abe:=@Nat.not_lt_zero
def abf:=@Int.le_trans
def abg:=@Int.natCast_add
def abh:=@List.mem_singleton
def abi:=@Nat.lt_succ_self
def abj:=@List.length_drop
def abl:=@List.all_eq_true
def abm:=@List.drop_eq_nil_of_le
def abn:=@List.take_of_length_le
def abo:=@Int.fmod_eq_emod_of_nonneg
def abp:=@Array.getElem?_eq_some_iff
def abq:=@List.lookup_cons
def abr:=@Nat.le_add_right
def abt:=@List.all_cons
def abu:=@Int.pow_succ
def abv:=@Int.ofNat_lt
def abw:=@Int.pow_nonneg
def abx:=@Int.mul_neg_of_pos_of_neg
def aby:=@Nat.pow_le_pow_right
def abz:=@List.nodup_cons
def abA:=@List.length_set
def abB:=@Rat.mul_le_mul_of_nonneg_right
def abC:=@List.getElem?_replicate
def abD:=@List.any_cons
def abE:=@Int.le_of_dvd
def abF:=@List.range_succ_eq_map
def abG:=@Option.map_eq_some_iff
def abH:=@Rat.intCast_lt_intCast
def abI:=@List.mem_filterMap
def abJ:=@Nat.zero_le
def abK:=@List.foldl_cons
def abL:=@Int.toNat_natCast
def abM:=@Int.fdiv_eq_ediv_of_nonneg
def abN:=@PySem.F.excBase_ValueError
def abO:=@List.drop_zero
def abP:=@List.getElem?_zip_eq_some
def abQ:=@Array.getElem?_eq_getElem
def abR:=@Int.le_of_mul_le_mul_left
def abS:=@List.length_take
def abT:=@List.filterMap_cons
def abU:=@Nat.ne_of_gt
def abV:=@List.getElem?_take_of_lt
def abW:=@List.mem_of_mem_eraseIdx
def abX:=@Int.lt_or_le
def abY:=@Nat.min_eq_left
def abZ:=@List.map_take
def ab0:=@List.map_drop
def ab1:=@Nat.min_self
def ab2:=@Int.dvd_zero
def ab3:=@Int.lt_trans
namespace Hd
open PySem PySem.W PyProof.Rows
def at_(i:Nat):Stmt:=PySem.Challenge.pw_chanceduel_k22_worths_of_two_plans.main.body.getD i (.Pass ⟨0,0,0,0⟩)
def inC:Stmt→Nat→Stmt
  | .ClassDef _ _ _ b _ _ _ _ _ _ _,j=>b.getD j (.Pass ⟨0,0,0,0⟩)
  | s,_=>s
def dA:Stmt→Arguments
  | .FunctionDef _ a _ _ _ _ _ _ _ _=>a
  | _=>⟨[],[],none,[],[],none,[]⟩
def dB:Stmt→List Stmt
  | .FunctionDef _ _ b _ _ _ _ _ _ _=>b
  | _=>[]
def dS:Stmt→Scope
  | .FunctionDef _ _ _ _ _ _ c _ _ _=>c
  | _=>{kind:= .function,names:=[],isGenerator:=false,isCoroutine:=false}
abbrev row:=PySem.Challenge.rw_chanceduel_k22_worths_of_two_plans.row
abbrev en(P:Params)(x:Str)(t:Tok)(v:Value):DictEntry:=⟨PyData.keyHash P x, .str x t,v⟩
def q:Program:={PySem.Challenge.pw_chanceduel_k22_worths_of_two_plans with main:={PySem.Challenge.pw_chanceduel_k22_worths_of_two_plans.main with body:=[at_ 0,at_ 2,at_ 3,at_ 4,at_ 5,at_ 6,at_ 7,at_ 8,at_ 10,at_ 11,at_ 12,at_ 13,at_ 14,at_ 16,at_ 17,at_ 18,at_ 19,at_ 20,at_ 21,at_ 22,at_ 23,at_ 24,at_ 25,at_ 27,at_ 28,at_ 29,at_ 30,at_ 31,at_ 33,at_ 34,at_ 35,at_ 36,at_ 37,at_ 38,at_ 39,at_ 40,at_ 42,at_ 43,at_ 44,at_ 45,at_ 46,at_ 47,at_ 48,at_ 49,at_ 51,at_ 52,at_ 53,at_ 54,at_ 55,at_ 56,at_ 57,at_ 58,at_ 59,at_ 60,at_ 61,at_ 62,at_ 63,at_ 64,at_ 65,at_ 66,at_ 67,at_ 68,at_ 69]}}
abbrev cO(x q:Str)(t l n f a m:Nat):Obj:=⟨.type "code",none, .fields #[.str x t, .str q (t+1), .str "/claim/cut.py" (t+2), .int l 0, .int n 0, .int 0 0, .int 0 0, .int f 0, .ref a, .bool true, .int 181 0, .ref (a+1), .none, .ref (a+2), .ref (a+3), .ref (a+4), .int m 0, .int l 0, .str "/claim/cut.py" (m+1)], #[]⟩
abbrev dO(x q:Str)(t l n f a m:Nat):Obj:=⟨.type "code",none, .fields #[.str x t, .str q (t+1), .str "/claim/cut.py" (t+2), .int l 0, .int n 0, .int 0 0, .int 0 0, .int f 0, .ref a, .bool true, .int 181 0, .ref (a+1), .none, .none, .none, .ref (a+2), .int m 0, .int l 0, .str "/claim/cut.py" (m+1)], #[]⟩
abbrev eO(x:Str)(a d b t u:Nat):Obj:=⟨.type "type",none, .cls ⟨x,[.ref 31],[.ref a, .ref 31, .type "ValueError", .type "Exception", .type "BaseException", .type "object"],d,x,true,[],[],false,none,false⟩, #[some (.ref b),none,some (.str x t),some (.str x u),some (.builtin "ValueError.__new__"),some (.bool true)]⟩
abbrev fO(x q:Str)(s:Stmt)(m:Value)(c:Nat):Obj:=⟨.type "function",none, .func ⟨x,q,(dA s), .stmts (dB s),(dS s),3,[], .none, .none, .none,m,none, .ref c, .none,0⟩, #[]⟩
abbrev m0:Value:= .str "chanceduel.parts" 348
abbrev m1:Value:= .str "chanceduel.places" 394
abbrev m2:Value:= .str "chanceduel.floors" 452
abbrev m3:Value:= .str "chanceduel.rows" 585
abbrev m4:Value:= .str "chanceduel.plans" 661
abbrev m5:Value:= .str "law_chanceduel_k22_worths_of_two_plans" 733
def K:Params→Frag:=fun P=>
(nat_lit 2,⟨.none,none,(.dict #[] 0), #[]⟩)::
(nat_lit 3,⟨(.type "dict"),none,(.dict #[(en P "__name__" 165 m5),(en P "__doc__" 166 .none),(en P "__package__" 167 .none),(en P "__loader__" 168 (.builtin "__main__.__loader__#opaque")),(en P "__spec__" 169 .none),(en P "__annotations__" 170 (.ref 6)),(en P "__builtins__" 171 (.ref 4)),(en P "__file__" 173 (.str "/claim/cut.py" 172)),(en P "__cached__" 174 .none),(en P "_wall" 193 (.ref 21)),(en P "DuelError" 213 (.ref 31)),(en P "NoNumber" 229 (.ref 44)),(en P "NoFloor" 245 (.ref 56)),(en P "NoPlace" 270 (.ref 75)),(en P "NoAnswer" 295 (.ref 94)),(en P "ManyAnswers" 322 (.ref 113)),(en P "NoPlan" 347 (.ref 132)),(en P "common_divisor" 360 (.ref 141)),(en P "fraction" 369 (.ref 148)),(en P "plus" 377 (.ref 155)),(en P "minus" 385 (.ref 162)),(en P "times" 393 (.ref 169)),(en P "HANDS" 398 (.ref 170)),(en P "MOST_DOORS" 400 (.int 6 399)),(en P "MOST_BOTTOM" 402 (.int 1000000 401)),(en P "fits_pay" 409 (.ref 177)),(en P "fits_door" 417 (.ref 184)),(en P "common_bottom" 426 (.ref 191)),(en P "fits_chances" 432 (.ref 196)),(en P "fits_doors" 438 (.ref 201)),(en P "fits_row" 444 (.ref 206)),(en P "copied_row" 451 (.ref 213)),(en P "MOST_PLACES" 455 (.int 12 454)),(en P "MOST_SHARE_BOTTOM" 457 (.int 1000 456)),(en P "fits_share" 464 (.ref 220)),(en P "weighed" 475 (.ref 227)),(en P "Floor" 584 (.ref 310)),(en P "with_weights" 597 (.ref 321)),(en P "number_of_head" 607 (.ref 328)),(en P "moved_ahead" 616 (.ref 335)),(en P "cleared_line" 622 (.ref 340)),(en P "cleared" 628 (.ref 345)),(en P "quotients" 641 (.ref 352)),(en P "still_of" 647 (.ref 357)),(en P "answer_of" 660 (.ref 364)),(en P "has_door" 671 (.ref 371)),(en P "doors_of" 682 (.ref 378)),(en P "ways_from" 692 (.ref 385)),(en P "whole_row" 698 (.ref 390)),(en P "led_row" 711 (.ref 397)),(en P "row_of" 717 (.ref 402)),(en P "worths_by" 723 (.ref 407)),(en P "worths_of" 732 (.ref 414)),(en P "_law_at" 744 (.ref 421)),(en P "_law_stream" 755 (.ref 428)),(en P "_law_lowest" 765 (.ref 435)),(en P "_law_pay" 774 (.ref 442)),(en P "_law_doors" 780 (.ref 447)),(en P "_law_by_digits" 787 (.ref 454)),(en P "_law_things" 800 (.ref 461)),(en P "_law_share_of" 810 (.ref 468)),(en P "_law_floor" 829 (.ref 475)),(en P "_law_copy" 835 (.ref 480)),(en P "_law_plan" 851 (.ref 487)),(en P "_law_with_more" 862 (.ref 494)),(en P "_law_less" 870 (.ref 501)),(en P "_law_shown" 881 (.ref 508)),(en P "_law_due" 887 (.ref 513)),(en P "_law_whole" 894 (.ref 520)),(en P "_law_table" 903 (.ref 527)),(en P "_law_meets" 915 (.ref 534)),(en P "law" 936 (.ref 541))] 72), #[]⟩)::
(nat_lit 30,⟨(.type "dict"),none,(.dict #[(en P "__module__" 203 (.str "chanceduel.errors" 194)),(en P "__firstlineno__" 207 (.int 5 206)),(en P "__static_attributes__" 208 (.ref 29)),(en P "__weakref__" 210 (.ref 32)),(en P "__doc__" 211 .none)] 3), #[]⟩)::
(nat_lit 31,⟨(.type "type"),none,(.cls ⟨"DuelError",[(.type "ValueError")],[(.ref 31),(.type "ValueError"),(.type "Exception"),(.type "BaseException"),(.type "object")],30,"DuelError",true,[],[(.ref 44),(.ref 56),(.ref 75),(.ref 94),(.ref 113),(.ref 132)],false,none,false⟩), #[(some (.ref 22)),none,(some (.str "DuelError" 196)),(some (.str "DuelError" 204)),(some (.builtin "ValueError.__new__")),(some (.bool true))]⟩)::
(nat_lit 43,⟨(.type "dict"),none,(.dict #[(en P "__module__" 221 (.str "chanceduel.errors" 194)),(en P "__firstlineno__" 225 (.int 7 224)),(en P "__static_attributes__" 226 (.ref 42)),(en P "__doc__" 227 .none)] 2), #[]⟩)::
(nat_lit 44,eO "NoNumber" 44 43 35 214 222)::
(nat_lit 55,⟨(.type "dict"),none,(.dict #[(en P "__module__" 237 (.str "chanceduel.errors" 194)),(en P "__firstlineno__" 241 (.int 9 240)),(en P "__static_attributes__" 242 (.ref 54)),(en P "__doc__" 243 .none)] 2), #[]⟩)::
(nat_lit 56,eO "NoFloor" 56 55 47 230 238)::
(nat_lit 75,eO "NoPlace" 75 74 59 246 254)::
(nat_lit 94,eO "NoAnswer" 94 93 78 271 279)::
(nat_lit 113,eO "ManyAnswers" 113 112 97 296 304)::
(nat_lit 132,eO "NoPlan" 132 131 116 323 331)::
(nat_lit 140,cO "common_divisor" "common_divisor" 350 33 2 3 135 358)::
(nat_lit 141,fO "common_divisor" "common_divisor" (at_ 10) m0 140)::
(nat_lit 147,cO "fraction" "fraction" 361 41 2 3 142 367)::
(nat_lit 148,fO "fraction" "fraction" (at_ 11) m0 147)::
(nat_lit 154,cO "plus" "plus" 370 48 2 3 149 375)::
(nat_lit 155,fO "plus" "plus" (at_ 12) m0 154)::
(nat_lit 161,cO "minus" "minus" 378 50 2 3 156 383)::
(nat_lit 162,fO "minus" "minus" (at_ 13) m0 161)::
(nat_lit 168,cO "times" "times" 386 52 2 3 163 391)::
(nat_lit 169,fO "times" "times" (at_ 14) m0 168)::
(nat_lit 170,⟨(.type "tuple"),none,(.seq #[(.str "one" 396),(.str "other" 397)] 0), #[]⟩)::
(nat_lit 176,cO "fits_pay" "fits_pay" 403 58 1 3 171 407)::
(nat_lit 177,fO "fits_pay" "fits_pay" (at_ 19) m1 176)::
(nat_lit 183,cO "fits_door" "fits_door" 410 60 2 3 178 415)::
(nat_lit 184,fO "fits_door" "fits_door" (at_ 20) m1 183)::
(nat_lit 190,cO "common_bottom" "common_bottom" 418 62 1 3 185 424)::
(nat_lit 191,fO "common_bottom" "common_bottom" (at_ 21) m1 190)::
(nat_lit 195,dO "fits_chances" "fits_chances" 427 67 1 3 192 430)::
(nat_lit 196,fO "fits_chances" "fits_chances" (at_ 22) m1 195)::
(nat_lit 200,dO "fits_doors" "fits_doors" 433 73 2 3 197 436)::
(nat_lit 201,fO "fits_doors" "fits_doors" (at_ 23) m1 200)::
(nat_lit 205,dO "fits_row" "fits_row" 439 77 2 3 202 442)::
(nat_lit 206,fO "fits_row" "fits_row" (at_ 24) m1 205)::
(nat_lit 212,cO "copied_row" "copied_row" 445 86 1 3 207 449)::
(nat_lit 213,fO "copied_row" "copied_row" (at_ 25) m1 212)::
(nat_lit 219,cO "fits_share" "fits_share" 458 93 1 3 214 462)::
(nat_lit 220,fO "fits_share" "fits_share" (at_ 29) m2 219)::
(nat_lit 226,cO "weighed" "weighed" 465 95 2 3 221 473)::
(nat_lit 227,fO "weighed" "weighed" (at_ 30) m2 226)::
(nat_lit 238,dO "__init__" "Floor.__init__" 488 102 3 3 235 491)::
(nat_lit 239,fO "__init__" "Floor.__init__" (inC (at_ 31) 0) m2 238)::
(nat_lit 245,cO "size" "Floor.size" 494 113 1 3 240 498)::
(nat_lit 246,fO "size" "Floor.size" (inC (at_ 31) 1) m2 245)::
(nat_lit 252,cO "share" "Floor.share" 501 116 1 3 247 505)::
(nat_lit 253,fO "share" "Floor.share" (inC (at_ 31) 2) m2 252)::
(nat_lit 259,cO "kind" "Floor.kind" 508 119 2 3 254 513)::
(nat_lit 260,fO "kind" "Floor.kind" (inC (at_ 31) 3) m2 259)::
(nat_lit 266,cO "doors" "Floor.doors" 516 122 2 3 261 521)::
(nat_lit 267,fO "doors" "Floor.doors" (inC (at_ 31) 4) m2 266)::
(nat_lit 273,cO "pay" "Floor.pay" 524 127 2 3 268 529)::
(nat_lit 274,fO "pay" "Floor.pay" (inC (at_ 31) 5) m2 273)::
(nat_lit 309,⟨(.type "dict"),none,(.dict #[(en P "__module__" 483 m2),(en P "__firstlineno__" 487 (.int 100 486)),(en P "__init__" 493 (.ref 239)),(en P "size" 500 (.ref 246)),(en P "share" 507 (.ref 253)),(en P "kind" 515 (.ref 260)),(en P "doors" 523 (.ref 267)),(en P "pay" 531 (.ref 274)),(en P "rows" 537 (.ref 279)),(en P "shown" 547 (.ref 286)),(en P "all_shown" 556 (.ref 293)),(en P "look" 565 (.ref 300)),(en P "best" 574 (.ref 307)),(en P "__static_attributes__" 577 (.ref 308)),(en P "__dict__" 579 (.ref 311)),(en P "__weakref__" 581 (.ref 312)),(en P "__doc__" 582 .none)] 4), #[]⟩)::
(nat_lit 310,⟨(.type "type"),none,(.cls ⟨"Floor",[(.type "object")],[(.ref 310),(.type "object")],309,"Floor",true,[],[],false,none,false⟩), #[none,none,(some (.str "Floor" 476)),(some (.str "Floor" 484)),(some (.builtin "object.__new__")),(some (.bool true))]⟩)::
(nat_lit 320,cO "with_weights" "with_weights" 587 147 1 3 315 595)::
(nat_lit 321,fO "with_weights" "with_weights" (at_ 33) m3 320)::
(nat_lit 327,cO "number_of_head" "number_of_head" 598 154 3 3 322 605)::
(nat_lit 328,fO "number_of_head" "number_of_head" (at_ 34) m3 327)::
(nat_lit 334,cO "moved_ahead" "moved_ahead" 608 159 3 3 329 614)::
(nat_lit 335,fO "moved_ahead" "moved_ahead" (at_ 35) m3 334)::
(nat_lit 339,dO "cleared_line" "cleared_line" 617 161 4 3 336 620)::
(nat_lit 340,fO "cleared_line" "cleared_line" (at_ 36) m3 339)::
(nat_lit 344,dO "cleared" "cleared" 623 163 2 3 341 626)::
(nat_lit 345,fO "cleared" "cleared" (at_ 37) m3 344)::
(nat_lit 351,cO "quotients" "quotients" 629 180 4 3 346 639)::
(nat_lit 352,fO "quotients" "quotients" (at_ 38) m3 351)::
(nat_lit 363,cO "answer_of" "answer_of" 648 190 1 3 358 658)::
(nat_lit 364,fO "answer_of" "answer_of" (at_ 40) m3 363)::
(nat_lit 370,cO "has_door" "has_door" 663 203 3 3 365 669)::
(nat_lit 371,fO "has_door" "has_door" (at_ 42) m4 370)::
(nat_lit 377,cO "doors_of" "doors_of" 672 205 2 3 372 680)::
(nat_lit 378,fO "doors_of" "doors_of" (at_ 43) m4 377)::
(nat_lit 384,cO "ways_from" "ways_from" 683 215 3 3 379 690)::
(nat_lit 385,fO "ways_from" "ways_from" (at_ 44) m4 384)::
(nat_lit 389,dO "whole_row" "whole_row" 693 220 1 3 386 696)::
(nat_lit 390,fO "whole_row" "whole_row" (at_ 45) m4 389)::
(nat_lit 396,cO "led_row" "led_row" 699 223 5 3 391 709)::
(nat_lit 397,fO "led_row" "led_row" (at_ 46) m4 396)::
(nat_lit 401,dO "row_of" "row_of" 712 229 3 3 398 715)::
(nat_lit 402,fO "row_of" "row_of" (at_ 47) m4 401)::
(nat_lit 406,dO "worths_by" "worths_by" 718 235 2 3 403 721)::
(nat_lit 407,fO "worths_by" "worths_by" (at_ 48) m4 406)::
(nat_lit 413,cO "worths_of" "worths_of" 724 237 3 3 408 730)::
(nat_lit 414,fO "worths_of" "worths_of" (at_ 49) m4 413)::
(nat_lit 420,cO "_law_at" "_law_at" 735 240 2 3 415 742)::
(nat_lit 421,fO "_law_at" "_law_at" (at_ 51) m5 420)::
(nat_lit 427,cO "_law_stream" "_law_stream" 745 247 2 3 422 753)::
(nat_lit 428,fO "_law_stream" "_law_stream" (at_ 52) m5 427)::
(nat_lit 434,cO "_law_lowest" "_law_lowest" 756 254 2 3 429 763)::
(nat_lit 435,fO "_law_lowest" "_law_lowest" (at_ 53) m5 434)::
(nat_lit 441,cO "_law_pay" "_law_pay" 766 259 2 3 436 772)::
(nat_lit 442,fO "_law_pay" "_law_pay" (at_ 54) m5 441)::
(nat_lit 446,dO "_law_doors" "_law_doors" 775 264 4 3 443 778)::
(nat_lit 447,fO "_law_doors" "_law_doors" (at_ 55) m5 446)::
(nat_lit 453,cO "_law_by_digits" "_law_by_digits" 781 273 1 3 448 785)::
(nat_lit 454,fO "_law_by_digits" "_law_by_digits" (at_ 56) m5 453)::
(nat_lit 460,cO "_law_things" "_law_things" 788 275 4 3 455 798)::
(nat_lit 461,fO "_law_things" "_law_things" (at_ 57) m5 460)::
(nat_lit 467,cO "_law_share_of" "_law_share_of" 801 284 2 3 462 808)::
(nat_lit 468,fO "_law_share_of" "_law_share_of" (at_ 58) m5 467)::
(nat_lit 474,cO "_law_floor" "_law_floor" 811 288 1 3 469 827)::
(nat_lit 475,fO "_law_floor" "_law_floor" (at_ 59) m5 474)::
(nat_lit 479,dO "_law_copy" "_law_copy" 830 306 1 3 476 833)::
(nat_lit 480,fO "_law_copy" "_law_copy" (at_ 60) m5 479)::
(nat_lit 486,cO "_law_plan" "_law_plan" 836 308 4 3 481 849)::
(nat_lit 487,fO "_law_plan" "_law_plan" (at_ 61) m5 486)::
(nat_lit 493,cO "_law_with_more" "_law_with_more" 852 319 3 3 488 860)::
(nat_lit 494,fO "_law_with_more" "_law_with_more" (at_ 62) m5 493)::
(nat_lit 507,cO "_law_shown" "_law_shown" 871 329 3 3 502 879)::
(nat_lit 508,fO "_law_shown" "_law_shown" (at_ 64) m5 507)::
(nat_lit 512,dO "_law_due" "_law_due" 882 333 4 3 509 885)::
(nat_lit 513,fO "_law_due" "_law_due" (at_ 65) m5 512)::
(nat_lit 519,cO "_law_whole" "_law_whole" 888 352 1 3 514 892)::
(nat_lit 520,fO "_law_whole" "_law_whole" (at_ 66) m5 519)::
(nat_lit 526,cO "_law_table" "_law_table" 895 354 2 3 521 901)::
(nat_lit 527,fO "_law_table" "_law_table" (at_ 67) m5 526)::
(nat_lit 533,cO "_law_meets" "_law_meets" 904 363 4 3 528 913)::
(nat_lit 534,fO "_law_meets" "_law_meets" (at_ 68) m5 533)::
(nat_lit 540,cO "law" "law" 916 371 1 3 535 934)::
(nat_lit 541,fO "law" "law" (at_ 69) m5 540)::[]
abbrev H:Hook:=kHook K [2,3,30,31,43,44,55,56,75,94,113,132,140,141,147,148,154,155,161,162,168,169,170,176,177,183,184,190,191,195,196,200,201,205,206,212,213,219,220,226,227,238,239,245,246,252,253,259,260,266,267,273,274,309,310,320,321,327,328,334,335,339,340,344,345,351,352,363,364,370,371,377,378,384,385,389,390,396,397,401,402,406,407,413,414,420,421,427,428,434,435,441,442,446,447,453,454,460,461,467,468,474,475,479,480,486,487,493,494,507,508,512,513,519,520,526,527,533,534,540,541] (fun _=>by kernel_rfl)
abbrev Xt:Shared→Bool:=fun s=>xlAt q [] s&&recOk (RowW.records row.toRowW) s
theorem zG{A B C:Type}{o:Option C}{f:C→A}{g:C→B}{a:A}{b:B}(h:o.map f=some a)(k:o.map g=some b):o.map (fun s=>(f s,g s))=some (a,b):=by
  cases o with
  | none=>exact nomatch h
  | some c=>injection h with h;injection k with k;subst h;subst k;rfl
section
variable{A B C D E F G X:Type}{o:Option X}{f:X→A×B×C×D×E×F×G}{t:A×B×C×D×E×F×G}
def p1:A×B×C×D×E×F×G→A
  | (a,_,_,_,_,_,_)=>a
def p2:A×B×C×D×E×F×G→B×C
  | (_,b,c,_,_,_,_)=>(b,c)
def p3:A×B×C×D×E×F×G→D×E×F
  | (_,_,_,d,e,f,_)=>(d,e,f)
def p4:A×B×C×D×E×F×G→G
  | (_,_,_,_,_,_,g)=>g
theorem pr(h:o.map (fun x=>p1 (f x))=some t.1)(g:o.map (fun x=>p2 (f x))=some (t.2.1,t.2.2.1))(k:o.map (fun x=>p3 (f x))=some (t.2.2.2.1,t.2.2.2.2.1,t.2.2.2.2.2.1))(l:o.map (fun x=>p4 (f x))=some t.2.2.2.2.2.2):o.map f=some t:=by
  cases o with
  | none=>exact nomatch h
  | some x=>
    replace h:p1 (f x)=t.1:=aal h
    replace g:p2 (f x)=(t.2.1,t.2.2.1):=aal g
    replace k:p3 (f x)=(t.2.2.2.1,t.2.2.2.2.1,t.2.2.2.2.2.1):=aal k
    replace l:p4 (f x)=t.2.2.2.2.2.2:=aal l
    show some (f x)=some t
    revert h g k l
    generalize f x=u
    obtain ⟨a,b,c,d,e,f',y⟩:=u
    obtain ⟨a',b',c',d',e',f'',y'⟩:=t
    intro h g k l
    cases (h:a=a');cases (g:(b,c)=(b',c'));cases (k:(d,e,f')=(d',e',f''));cases (l:y=y');rfl
end
def goG{A B:Type}(o:Option A)(c:A→Bool)(T:A→Option B):Option (A×B):=o.bind fun a=>match c a with
  | true=>(T a).map fun b=>(a,b)
  | false=>none
def enG {A B:Type} (o:Option A) (c:A→Bool) (T:A→Option B) (k:A→B→Bool):Option B:=o.bind fun a=>match c a with
  | true=>(T a).bind fun b=>match k a b with
    | true=>some b
    | false=>none
  | false=>none
theorem bnd {A B C:Type} {o:Option A} {c:A→Bool} {T:A→Option B} {k:A→B→Bool} {g:B→C} {v:C} (h:(goG o c T).map (fun x=>k x.1 x.2)=some true) (l:(goG o c T).map (fun x=>g x.2)=some v):(enG o c T k).map g=some v:=by
  unfold goG at h l
  unfold enG
  cases o with
  | none=>exact nomatch h
  | some a=>
    dsimp only [Option.bind] at h l⊢
    cases hc:c a with
    | false=>rw [hc] at h;exact nomatch h
    | true=>
      rw [hc] at h l
      dsimp only at h l⊢
      cases hT:T a with
      | none=>rw [hT] at h;exact nomatch h
      | some b=>
        rw [hT] at h l
        injection h with h;injection l with l
        dsimp only [Option.bind]
        rw [show k a b=true from h];exact congrArg some l
noncomputable abbrev oA(p:Program)(w:World)(N:Nat):Option Shared:=(Fast.tw10274390034422433532 Fast.tw14364793385576792824 (opening p) w N (Fast.tw1435165496053646825 (opening p)).1 (Fast.tw1435165496053646825 (opening p)).2).bind (fenceModules? p)
abbrev cA(s:Shared):Bool:=s.heap.isNs mainGlobals&&s.gens.size==0
noncomputable abbrev tA(p:Program)(w:World)(N:Nat)(s₀:Shared):Option Shared:=Fast.tw14082659384304107361 Fast.tw14364793385576792824 p w s₀.heap.objs.size (s₀.heap.nsMap mainGlobals "__annotations__") N s₀ (topStub p)
abbrev kA(p:Program)(s₀ s₁:Shared):Bool:=staticsOk (importedModules p.main.body) s₀.heap s₁.heap&&namesBound p s₁.heap&&gensDone s₁&&laidKept s₀.heap s₁.heap
theorem oe(p:Program)(w:World)(N:Nat):openEnds treeTable p w N=enG (oA p w N) cA (tA p w N) (kA p):=by
  unfold openEnds fencedOpening topFrom enG oA tA
  rewrite [Fast.te14082659384304107361,Fast.te14364793385576792824,Fast.te10274390034422433532,Fast.te1435165496053646825]
  rfl
noncomputable abbrev go(w:World):=goG (oA row.prog w 7692) cA (tA row.prog w 7692)
abbrev gd:=openGood q []
noncomputable abbrev sn(x:Shared×Shared):=Fast.tw4187177175401517315 q [] (importedModules row.prog.main.body) Xt true x.2
theorem la(w:World):(go w).map (fun x=>p1 (sn x))=some gd.1:=by kernel_rfl
theorem lb(w:World):(go w).map (fun x=>p2 (sn x))=some (gd.2.1,gd.2.2.1):=by kernel_rfl
theorem lc(w:World):(go w).map (fun x=>p3 (sn x))=some (gd.2.2.2.1,gd.2.2.2.2.1,gd.2.2.2.2.2.1):=by kernel_rfl
theorem ld(w:World):(go w).map (fun x=>p4 (sn x))=some gd.2.2.2.2.2.2:=by kernel_rfl
theorem lk(w:World):(go w).map (fun x=>kA row.prog x.1 x.2)=some true:=by kernel_rfl
theorem lo(w:World):(go w).map (fun x=>H.obs x.2)=some (H.val w):=by kernel_rfl
theorem Fd(w:World):(openEnds treeTable row.prog w 7692).map (openSeen q [] (importedModules row.prog.main.body) Xt true)=some gd:=by
  rewrite [oe,Fast.te4187177175401517315]
  exact bnd (lk w) (pr (la w) (lb w) (lc w) (ld w))
theorem Fc(w:World):(openEnds treeTable row.prog w 7692).map H.obs=some (H.val w):=by
  rewrite [oe]
  exact bnd (lk w) (lo w)
theorem left:LeftO row.prog q [] Xt H.obs H.val 7692:=fun w=>zG (Fd w) (Fc w)
end Hd
namespace L2
open PySem PySem.Spec PyProof.Rows
abbrev Key:=Sum Int Str
def sS:Key→Value→Bool
 | .inl k,v=>Value.isInt k v
 | .inr x,v=>Value.isStrOf x v
def HG(w:World):Key→Int
 | .inl k=>hashInt k
 | .inr x=>hashStr w x
theorem bt:∀{k:Key} {v:Value},sS k v=true→(∃i t,k=Sum.inl i∧v=Value.int i t)∨(∃x t,k=Sum.inr x∧v=Value.str x t)
 | .inl i,v,h=>by
  obtain ⟨t,e⟩:=Value.isInt_shape (k:=i) (v:=v) h
  exact .inl ⟨i,t,rfl,e⟩
 | .inr x,v,h=>by
  obtain ⟨t,e⟩:=Value.isStrOf_shape (x:=x) (v:=v) h
  exact .inr ⟨x,t,rfl,e⟩
theorem vw(i:Int)(t:Tok):sS (.inl i) (.int i t)=true:=by simp [sS,Value.isInt]
theorem vv(x:Str)(t:Tok):sS (.inr x) (.str x t)=true:=by simp [sS,Value.isStrOf]
theorem CW(a b:Int):decide ((Sum.inl a:Key)=Sum.inl b)=(a==b):=by
 by_cases e:a=b
 ·subst e;simp
 ·have h:¬(Sum.inl a:Key)=Sum.inl b:=fun q=>e (Sum.inl.inj q)
  rw [decide_eq_false h]
  exact (beq_eq_false_iff_ne.mpr e).symm
theorem CT(a b:Str):decide ((Sum.inr a:Key)=Sum.inr b)=decide (a=b):=by
 by_cases e:a=b
 ·subst e;simp
 ·have h:¬(Sum.inr a:Key)=Sum.inr b:=fun q=>e (Sum.inr.inj q)
  rw [decide_eq_false h,decide_eq_false e]
theorem CV(a:Int)(b:Str):decide ((Sum.inl a:Key)=Sum.inr b)=false:=decide_eq_false (fun q=>nomatch q)
theorem CU(a:Str)(b:Int):decide ((Sum.inr a:Key)=Sum.inl b)=false:=decide_eq_false (fun q=>nomatch q)
def bD(prog:Program)(w:World):PySem.KeyKind prog w Key where
 is:=sS
 hash:=HG w
 inj:=fun v a b ha hb=>by
  rcases bt ha with ⟨i,t,rfl,rfl⟩ | ⟨x,t,rfl,rfl⟩
  ·rcases bt hb with ⟨j,u,rfl,e⟩ | ⟨y,u,rfl,e⟩
   ·injection e with e1 _;rw [e1]
   ·exact nomatch e
  ·rcases bt hb with ⟨j,u,rfl,e⟩ | ⟨y,u,rfl,e⟩
   ·exact nomatch e
   ·injection e with e1 _;rw [e1]
 byValue:=fun k v h=>by
  rcases bt h with ⟨i,t,rfl,rfl⟩ | ⟨x,t,rfl,rfl⟩ <;> rfl
 pyHash:=fun hv h=>by
  rcases bt hv with ⟨i,t,rfl,rfl⟩ | ⟨x,t,rfl,rfl⟩
  ·exact wpAny_pyHash_int h
  ·exact wpAny_pyHash_str h
 eqBool:=fun hu hv h=>by
  rcases bt hu with ⟨i,t,rfl,rfl⟩ | ⟨x,t,rfl,rfl⟩
  ·rcases bt hv with ⟨j,u,rfl,rfl⟩ | ⟨y,u,rfl,rfl⟩
   ·rw [CW] at h;exact wpAny_eqBool_int h
   ·rw [CV] at h;exact SeqAt.EqAt.int_str i t y u _ _ _ _ h
  ·rcases bt hv with ⟨j,u,rfl,rfl⟩ | ⟨y,u,rfl,rfl⟩
   ·rw [CU] at h;exact SeqAt.EqAt.str_int x t j u _ _ _ _ h
   ·rw [CT] at h;exact wpAny_eqBool_str h
 «strs»:=fun k x t v h=>by
  rcases bt h with ⟨i,u,rfl,e⟩ | ⟨y,u,rfl,e⟩
  ·exact nomatch e
  ·injection e with e1 _
   subst e1
   cases v <;> rfl
theorem pG(prog:Program)(w:World)(i:Int)(t:Tok):(bD prog w).is (.inl i) (.int i t)=true:=vw i t
theorem pF(prog:Program)(w:World)(x:Str)(t:Tok):(bD prog w).is (.inr x) (.str x t)=true:=vv x t
inductive V where
 | non | bl (b:Bool) | int (i:Int) | str (x:Str) | byt (b:Array UInt8) | flt (b:UInt64) | ref (a:Addr) | ty (n:String)
 deriving DecidableEq
def bx:V→Value→Prop
 | .non,u=>u=Value.none
 | .bl b,u=>u=Value.bool b
 | .int i,u=>∃t,u=Value.int i t
 | .str x,u=>∃t,u=Value.str x t
 | .byt b,u=>∃t,u=Value.bytes b t
 | .flt b,u=>∃t,u=Value.float b t
 | .ref a,u=>u=Value.ref a
 | .ty n,u=>u=Value.type n
abbrev bF:List V→List Value→Prop:=Paired bx
theorem bF.length{xs:List V}{us:List Value}(r:bF xs us):xs.length=us.length:=Paired.length r
theorem bF.get:∀{xs:List V} {us:List Value} {i:Nat} {x:V},bF xs us→xs[i]? =some x→∃u,us[i]? =some u∧bx x u
 | _,_,_,_, .nil,e=>by simp at e
 | _,_,0,_, .cons r _,e=>by simp at e;subst e;exact ⟨_,rfl,r⟩
 | _,_,i+1,x, .cons _ t,e=>by
  obtain ⟨u,h1,h2⟩:=bF.get (i:=i) (x:=x) t (by simpa using e)
  exact ⟨u,by simpa using h1,h2⟩
theorem bF.set{x:V}{u:Value}(r:bx x u):∀{xs:List V} {us:List Value} (i:Nat),bF xs us→bF (xs.set i x) (us.set i u)
 | _,_,_, .nil=> .nil
 | _,_,0, .cons _ t=> .cons r t
 | _,_,i+1, .cons q t=> .cons q (bF.set r i t)
theorem bF.append:∀{xs ys:List V} {us ws:List Value},bF xs us→bF ys ws→bF (xs++ys) (us++ws)
 | _,_,_,_, .nil,s=>s
 | _,_,_,_, .cons r t,s=> .cons r (bF.append t s)
theorem bF.take:∀{xs:List V} {us:List Value} (n:Nat),bF xs us→bF (xs.take n) (us.take n)
 | _,_,0,_=> .nil
 | _,_,_+1, .nil=> .nil
 | _,_,n+1, .cons r t=> .cons r (bF.take n t)
theorem bF.drop:∀{xs:List V} {us:List Value} (n:Nat),bF xs us→bF (xs.drop n) (us.drop n)
 | _,_,0,r=>r
 | _,_,_+1, .nil=> .nil
 | _,_,n+1, .cons _ t=>bF.drop n t
def mB:Option V→Option Value→Prop
 | some v,some u=>bx v u
 | none,none=>True
 | _,_=>False
def KV{κ:Type}:List (κ×V)→List (κ×Value)→Prop:=Paired fun (p:κ×V) (q:κ×Value)=>p.1=q.1∧bx p.2 q.2
def kV:Key→V
 | .inl i=> .int i
 | .inr x=> .str x
inductive HO where
 | lst (xs:List V)
 | tup (xs:List V)
 | dK (kvs:List (Key×V)) | dT (kvs:List (List Key×V))
 | set (S:Int→Bool) (n:Nat)
 | ins (C dx:Addr) (fs:List (Str×V))
 | own (x:Addr)
 | xd (fs:List (Str×V))
 | met (f x:Addr)
 | rng (lo hi:Int)
 | frz (o:Obj) (u:HO)
 | tbl (ps:Array Value)
 | ext (φ:Heap→Prop)
abbrev Hp:=Addr→Option HO
def upd(H:Hp)(a:Addr)(o:HO):Hp:=fun b=>if b=a then some o else H b
theorem aD{H:Hp}{a:Addr}{o:HO}:upd H a o a=some o:=by unfold upd;rw [if_pos rfl]
theorem aw{H:Hp}{a b:Addr}{o:HO}(h:b≠a):upd H a o b=H b:=by unfold upd;rw [if_neg h]
theorem E7{H:Hp}{a b:Addr}{o u:HO}(h:H a=some o)(h':H b=some u)(d:o≠u):a≠b:=by
 intro e;subst e;rw [h] at h';exact d (aal h')
theorem bA{H:Hp}{a b:Addr}{o:HO}(h:H a=some o)(h':H b=none):a≠b:=by
 intro e;subst e;rw [h] at h';cases h'
section
variable(P:Program)(w:World)
def cf(H:Hp)(h:Heap)(a:Addr):HO→Prop
 | .lst xs=>xs.length≤sizeLine∧∃(its:List Value) (n:Nat),bF xs its∧h.get? a=some {cls:= .type "list",data:= .seq its.toArray n}
 | .tup xs=>xs.length≤sizeLine∧∃its:List Value,bF xs its∧IsTup h a its.toArray
 | .dK kvs=>kvs.length≤sizeLine∧(a==sysModules)=false∧∃vs,KV kvs vs∧h.DictOf (bD P w) a vs
 | .dT kvs=>kvs.length≤sizeLine∧(a==sysModules)=false∧∃xs:List (List Key×Addr×Value),
   Paired (fun (p:List Key×V) (q:List Key×Addr×Value)=>p.1=q.1∧H q.2.1=some (.tup (p.1.map kV))∧bx p.2 q.2.2) kvs xs∧
   ∃o es ep,h.get? a=some o∧o.ExactDict∧o.data= .dict es ep∧es.toList=xs.map (entryOfKey (tupleKind (bD P w)))∧(xs.map (·.1)).Nodup
 | .set S n=>h.SetOf (intKind P w) a S n
 | .ins C dx fs=>H dx=some (.own a)∧fs.length≤1000∧dx≠a∧h.get? a=some (PySem.W.instObj C dx)∧
   ∃mA,h.Ns1 dx mA∧(∀f,mB (fs.lookup f) (mA f))∧PySem.Within mA (fs.map (·.1))
 | .own _=>∃o,h.get? a=some o
 | .xd fs=>∃mA,h.Ns1 a mA∧∀f,mB (fs.lookup f) (mA f)
 | .rng lo hi=>∃t u v,h.get? a=some {cls:= .type "range",data:= .fields #[.int lo t, .int hi u, .int 1 v]}
 | .frz o u=>h.get? a=some o∧cf H h a u
 | .tbl ps=>h.get? a=some {cls:= .none,data:= .fields ps}
 | .met f x=>h.get? a=some (PySem.W.methodObj (.ref f) (.ref x))
 | .ext φ=>φ h∧(∃o,h.get? a=some o)∧∀h1 h2:Heap,φ h1→(∀o,h1.get? a=some o→h2.get? a=some o)→φ h2
def HOk(H:Hp)(h:Heap):Prop:=∀a o,H a=some o→cf P w H h a o
end
section
variable{P:Program}{w:World}{H H':Hp}{h h':Heap}{a:Addr}{o:HO}
theorem cf.lt(x:cf P w H h a o):a < h.objs.size:=by
 cases o with
 | lst xs=>obtain ⟨_,_,_,_,e⟩:=x;exact Heap.lt_size e
 | tup xs=>obtain ⟨_,_,_,p⟩:=x;exact p.lt
 | dK kvs=>obtain ⟨_,_,_,_,o,_,_,e,_⟩:=x;exact Heap.lt_size e
 | dT kvs=>obtain ⟨_,_,_,_,o,_,_,e,_⟩:=x;exact Heap.lt_size e
 | set S n=>obtain ⟨o,_,_,_,e,_⟩:=x;exact Heap.lt_size e
 | ins C dx fs=>obtain ⟨_,_,_,e,_⟩:=x;exact Heap.lt_size e
 | own y=>obtain ⟨_,e⟩:=x;exact Heap.lt_size e
 | xd fs=>obtain ⟨_,⟨_,_,_,e,_⟩,_⟩:=x;exact Heap.lt_size e
 | rng lo hi=>obtain ⟨_,_,_,e⟩:=x;exact Heap.lt_size e
 | frz ob u=>obtain ⟨e,_⟩:=x;exact Heap.lt_size e
 | tbl ps=>exact Heap.lt_size (show h.get? a=some _ from x)
 | met f y=>exact Heap.lt_size (show h.get? a=some _ from x)
 | ext φ=>obtain ⟨_,⟨_,e⟩,_⟩:=x;exact Heap.lt_size e
theorem Paired.mapP{α β:Type}{F G:α→β→Prop}:∀{l₁:List α} {l₂:List β},Paired F l₁ l₂→(∀a b,F a b→G a b)→Paired G l₁ l₂
 | _,_, .nil,_=> .nil
 | _,_, .cons r t,f=> .cons (f _ _ r) (Paired.mapP t f)
theorem cf.stay(x:cf P w H h a o)(k:∀b u,(b=a∨H b=some (.own a))→h.get? b=some u→h'.get? b=some u)
  (ho:∀b,H b=some (.own a)→H' b=some (.own a)) (ht:∀b xs,H b=some (.tup xs)→H' b=some (.tup xs)):cf P w H' h' a o:=by
 induction o with
 | lst xs=>obtain ⟨z,its,n,r,e⟩:=x;exact ⟨z,its,n,r,k _ _ (.inl rfl) e⟩
 | tup xs=>obtain ⟨z,its,r,ob,e,c⟩:=x;exact ⟨z,its,r,ob,k _ _ (.inl rfl) e,c⟩
 | dK kvs=>obtain ⟨z,y,vs,r,ob,es,ep,e,c⟩:=x;exact ⟨z,y,vs,r,ob,es,ep,k _ _ (.inl rfl) e,c⟩
 | dT kvs=>
  obtain ⟨z,y,xs,r,ob,es,ep,e,c⟩:=x
  exact ⟨z,y,xs,Paired.mapP r fun p q z=>⟨z.1,ht _ _ z.2.1,z.2.2⟩,ob,es,ep,k _ _ (.inl rfl) e,c⟩
 | set S n=>obtain ⟨ob,es,ep,t,e,c⟩:=x;exact ⟨ob,es,ep,t,k _ _ (.inl rfl) e,c⟩
 | ins C dx fs=>
  obtain ⟨d,z,ne,e,mA,⟨od,es,ep,e2,c⟩,r⟩:=x
  exact ⟨ho _ d,z,ne,k _ _ (.inl rfl) e,mA,⟨od,es,ep,k _ _ (.inr d) e2,c⟩,r⟩
 | own y=>obtain ⟨ob,e⟩:=x;exact ⟨ob,k _ _ (.inl rfl) e⟩
 | xd fs=>obtain ⟨mA,⟨od,es,ep,e,c⟩,r⟩:=x;exact ⟨mA,⟨od,es,ep,k _ _ (.inl rfl) e,c⟩,r⟩
 | rng lo hi=>obtain ⟨t,u,v,e⟩:=x;exact ⟨t,u,v,k _ _ (.inl rfl) e⟩
 | frz ob u ih=>obtain ⟨e,q⟩:=x;exact ⟨k _ _ (.inl rfl) e,ih q⟩
 | tbl ps=>
  have e:h.get? a=some {cls:= .none,data:= .fields ps}:=x
  show h'.get? a=some {cls:= .none,data:= .fields ps}
  exact k a _ (.inl rfl) e
 | met f y=>
  have e:h.get? a=some (PySem.W.methodObj (.ref f) (.ref y)):=x
  show h'.get? a=some (PySem.W.methodObj (.ref f) (.ref y))
  exact k a _ (.inl rfl) e
 | ext φ=>obtain ⟨p,⟨o,e⟩,st⟩:=x;exact ⟨st _ _ p fun o q=>k _ _ (.inl rfl) q,⟨o,k _ _ (.inl rfl) e⟩,st⟩
theorem HOk.lt(x:HOk P w H h)(e:H a=some o):a < h.objs.size:=(x a o e).lt
theorem HOk.fresh(x:HOk P w H h)(e:h.objs.size≤a):H a=none:=by
 cases q:H a with
 | none=>rfl
 | some u=>exact absurd (aam (x.lt q) e) (aaW _)
theorem HOk.kept(x:HOk P w H h)(k:∀b u,h.get? b=some u→h'.get? b=some u):HOk P w H h':=fun a o e=>
 (x a o e).stay (fun b u _ q=>k b u q) (fun _ q=>q) fun _ _ q=>q
theorem HOk.laid(x:HOk P w H h)(k:∀b u,h.get? b=some u→h'.get? b=some u)(hp:h.objs.size≤a)(new:cf P w (upd H a o) h' a o):HOk P w (upd H a o) h':=fun b u e=>by
 have hn:=x.fresh hp
 by_cases hb:b=a
 ·subst hb;rw [aD] at e;cases e;exact new
 ·rw [aw hb] at e
  exact (x b u e).stay (fun c v _ q=>k c v q) (fun c q=>by rw [aw (bA q hn)];exact q) fun c xs q=>by rw [aw (bA q hn)];exact q
end
def Rd(H:Hp)(a:Addr)(u:HO):Prop:=H a=some u∨∃o,H a=some (.frz o u)
theorem Rd.ok{P:Program}{w:World}{H:Hp}{h:Heap}{a:Addr}{u:HO}(r:Rd H a u)(x:HOk P w H h):cf P w H h a u:=by
 rcases r with r | ⟨o,r⟩
 ·exact x a u r
 ·obtain ⟨_,q⟩:=x a _ r
  exact q
def Mut:Option HO→Prop
 | some (.lst _)=>True
 | some (.dK _)=>True
 | some (.dT _)=>True
 | some (.set _ _)=>True
 | some (.ins _ _ _)=>True
 | some (.ext _)=>True
 | _=>False
section
variable{P:Program}{w:World}{H:Hp}{h h':Heap}{x e:Addr}{o':HO}
theorem HOk.write(ok:HOk P w H h)(mu:Mut (H x))(he:e=x∨H e=some (.own x))(k:∀b u,b≠e→h.get? b=some u→h'.get? b=some u)(heo:∃u,h'.get? e=some u)
  (new:cf P w (upd H x o') h' x o'):HOk P w (upd H x o') h':=fun b u q=>by
 have nown:∀c y,H c=some (.own y)→c≠x:=fun c y r z=>by subst z;rw [r] at mu;exact mu
 have ntup:∀c xs,H c=some (.tup xs)→c≠x:=fun c xs r z=>by subst z;rw [r] at mu;exact mu
 by_cases hb:b=x
 ·subst hb;rw [aD] at q;cases q;exact new
 ·rw [aw hb] at q
  by_cases hbe:b=e
  ·have q':H b=some (.own x):=by
    rcases he with z | z
    ·exact absurd (hbe.trans z) hb
    ·rw [hbe];exact z
   rw [q] at q';cases q'
   obtain ⟨v,hv⟩:=heo
   exact ⟨v,by rw [hbe];exact hv⟩
  ·refine (ok b u q).stay (fun c v hc r=>k c v ?_ r) (fun c r=>by rw [aw (nown c b r)];exact r) fun c xs r=>by rw [aw (ntup c xs r)];exact r
   rcases hc with rfl | hc
   ·exact hbe
   ·rintro rfl
    rcases he with z | z
    ·exact nown c b hc z
    ·rw [hc] at z;cases z;exact hb rfl
end
structure Un(fs ex:List Addr)(H H':Hp)(h h':Heap):Prop where
 keep:∀b o,h.get? b=some o→H b=none→b∉fs→b∉ex→h'.get? b=some o
 slot:∀b o,h.get? b=some o→H b=none→b∈fs→b∉ex→∃sl,h'.get? b=some {o with slots:=sl}
 free:∀b o,h.get? b=some o→H b=none→b∉ex→H' b=none
 there:∀b o,h.get? b=some o→b∉ex→∃o',h'.get? b=some o'
 tups:∀b xs,H b=some (.tup xs)→H' b=some (.tup xs)
 frzs:∀b o u,H b=some (.frz o u)→H' b=some (.frz o u)
 tbls:∀b ps,H b=some (.tbl ps)→∃more,H' b=some (.tbl (ps++more))
section
variable{fs fs' ex ex':List Addr}{H H1 H2:Hp}{h h1 h2 h':Heap}{a x e:Addr}{o:HO}
theorem Un.any(u:Un fs ex H H1 h h1){b:Addr}{ob:Obj}(q:h.get? b=some ob)(n:H b=none)(hx:b∉ex):∃sl,h1.get? b=some {ob with slots:=sl}:=by
 by_cases hb:b∈fs
 ·exact u.slot b ob q n hb hx
 ·exact ⟨ob.slots,u.keep b ob q n hb hx⟩
theorem Un.kept(k:∀b u,h.get? b=some u→h'.get? b=some u):Un fs ex H H h h':=
 ⟨fun b ob q _ _ _=>k b ob q,fun b ob q _ _ _=>⟨ob.slots,k b ob q⟩,fun _ _ _ n _=>n,fun b ob q _=>⟨ob,k b ob q⟩,fun _ _ q=>q,fun _ _ _ q=>q,fun _ ps q=>⟨#[],by rw [q];simp⟩⟩
theorem Un.refl:Un fs ex H H h h:=Un.kept fun _ _ q=>q
theorem Un.laid(k:∀b u,h.get? b=some u→h'.get? b=some u)(hp:h.objs.size≤a)(hn:H a=none):Un fs ex H (upd H a o) h h' where
 keep:=fun b u q _ _ _=>k b u q
 slot:=fun b u q _ _ _=>⟨u.slots,k b u q⟩
 free:=fun b u q n _=>by rw [aw (aaz (aam (Heap.lt_size q) hp))];exact n
 there:=fun b u q _=>⟨u,k b u q⟩
 tups:=fun b xs q=>by rw [aw (bA q hn)];exact q
 frzs:=fun b u xs q=>by rw [aw (bA q hn)];exact q
 tbls:=fun b ps q=>⟨#[],by rw [aw (bA q hn),q];simp⟩
theorem Un.write(mu:Mut (H x))(he:e=x∨H e=some (.own x))(k:∀b u,b≠e→h.get? b=some u→h'.get? b=some u)(heo:∃u,h'.get? e=some u):Un fs ex H (upd H x o) h h':=by
 have hx:∀b,H b=none→b≠x:=fun b n z=>by subst z;rw [n] at mu;exact mu
 have hb:∀b,H b=none→b≠e:=fun b n z=>by
  subst z
  rcases he with r | r
  ·exact hx b n r
  ·rw [n] at r;cases r
 have hm:∀b u,H b=some u→¬Mut (some u)→b≠x:=fun b u q nm z=>by subst z;rw [q] at mu;exact nm mu
 refine ⟨fun b u q n _ _=>k b u (hb b n) q,fun b u q n _ _=>⟨u.slots,k b u (hb b n) q⟩,fun b u q n _=>by rw [aw (hx b n)];exact n,fun b u q _=> ?_,
  fun b xs q=>by rw [aw (hm b _ q fun z=>z)];exact q,fun b u xs q=>by rw [aw (hm b _ q fun z=>z)];exact q,fun b ps q=>⟨#[],by rw [aw (hm b _ q fun z=>z),q];simp⟩⟩
 by_cases hbe:b=e
 ·subst hbe;exact heo
 ·exact ⟨u,k b u hbe q⟩
end
def trk(h:Heap)(H:Hp):List Addr:=(List.range h.objs.size).filter fun a=>(H a).isSome
def yf(h:Heap)(H:Hp):Heap:=PySem.W.hideAll h (trk h H)
theorem vL(h:Heap)(H:Hp):(yf h H).objs.size=h.objs.size:=PySem.W.hideAll_size _ _
theorem ye{h:Heap}{H:Hp}{b:Addr}{o:Obj}(e:h.get? b=some o)(n:H b=none):(yf h H).get? b=some o:=
 PySem.W.hideAll_get _ e fun hm=>by
  have q:(H b).isSome=true:=(List.mem_filter.mp hm).2
  rw [n] at q;simp at q
theorem AK{h:Heap}{H:Hp}{b:Addr}{o:Obj}(e:(yf h H).get? b=some o):h.get? b=some o∧H b=none:=by
 have e':h.get? b=some o:=PySem.W.of_hideAll (trk h H) e
 refine ⟨e', ?_⟩
 cases q:H b with
 | none=>rfl
 | some x=>
  have hm:b∈trk h H:=List.mem_filter.mpr ⟨List.mem_range.mpr (Heap.lt_size e'),by simp [q]⟩
  have z:(yf h H).get? b=none:=PySem.W.hideAll_none (trk h H) hm
  rw [z] at e;cases e
structure Mod(K:PySem.W.Frag)(mg:Str→Option Value)(base:Heap):Prop where
 kin:K.In base
 glob:base.Ns mainGlobals mg
 blt:∃mb,base.Ns builtinsNs mb∧∀x:Str,x≠"__name__"→mb x=bootBuiltins x
 nolimit:base.NoLimit
structure Cx where
 prog:Program
 w:World
 K:PySem.W.Frag
 mg:Str→Option Value
 base:Heap
 A:Around
 N:List Str
 s₀:Shared
 H₀:Hp
 env:Env
 outer:List Env
 stack:List Env
 ex:List Addr
 fn:Str→Bool
 calm:Bool
 pn:List (Addr×Obj)
 xe:Value→Shared→Prop
def frs(l:List Env):List Addr:=l.filterMap (·.frame)
abbrev Cx.fs(X:Cx):List Addr:=frs X.outer
def Vis(sc:Scope)(x:Str):Prop:=sc.names.lookup x=some .local∨sc.names.lookup x=some .cell∨sc.names.lookup x=some .free
def Loc(sc:Scope)(x:Str):Prop:=sc.names.lookup x=some .local∨sc.names.lookup x=some .cell
def Ii(env:Env)(h:Heap)(m:Str→Option Value)(x:Str)(u:Value):Prop:=
 (env.kindOf x=some .local∧m x=some u)∨((env.kindOf x=some .cell∨env.kindOf x=some .free)∧∃c,env.cells.lookup x=some c∧h.IsCell c (some u))
structure Cx.Ok(X:Cx):Prop where
 mod:Mod X.K X.mg X.base
 kind:X.env.scope.kind= .function
 glob:X.env.globals=mainGlobals
 blt:X.env.builtins=builtinsNs
 above:X.s₀.heap.objs.size≤X.env.locals
 inj:∀x y c,X.env.cells.lookup x=some c→X.env.cells.lookup y=some c→x=y
 has:∀x,(X.env.kindOf x=some .cell∨X.env.kindOf x=some .free)→∃c,X.env.cells.lookup x=some c
 cab:∀x c,X.fn x=true→X.env.cells.lookup x=some c→X.s₀.heap.objs.size≤c
 hd:X.calm=true→X.A.handled=none
 frames:X.A.frames=some X.stack
 stk:X.stack=X.outer∨(X.stack=X.env::X.outer∧X.env.frame=some X.env.locals)
 exf:∀b∈X.ex,b≠X.env.locals∧∀x c,X.env.cells.lookup x=some c→c≠b
 bs:∀b o,X.base.get? b=some o→X.s₀.heap.get? b=some o∧X.H₀ b=none
 bsz:X.base.objs.size≤X.s₀.heap.objs.size
 noex:∀b o,X.base.get? b=some o→b∉X.ex
 exfs:∀b∈X.ex,b∉X.fs
 funs:X.s₀.heap.FunFrames X.base X.outer
 frf:∀b∈X.fs,X.H₀ b=none
structure Inv(X:Cx)(pins:List (Addr×Obj))(σ:List (Option V))(H:Hp)(s:Shared):Prop where
 ok:X.Ok
 os:s.os=X.s₀.os
 bare:AllBare s.gens
 base:Un X.fs X.ex X.H₀ H X.s₀.heap s.heap
 loc:∃m,s.heap.Ns X.env.locals m∧∀(i:Nat) (x:Str) (v:V),X.N[i]? =some x→σ[i]? =some (some v)→Vis X.env.scope x→∃u,bx v u∧Ii X.env s.heap m x u
 cell:∀x c,X.env.cells.lookup x=some c→∃v,s.heap.IsCell c v
 free:H X.env.locals=none
 freeC:∀x c,X.env.cells.lookup x=some c→H c=none
 pin:∀p∈X.pn++pins,s.heap.get? p.1=some p.2∧H p.1=none∧p.1≠X.env.locals∧p.1∉X.fs∧∀v,p.2.data≠ .cell v
 hok:HOk X.prog X.w H s.heap
 len:σ.length=X.N.length
section
variable{X:Cx}{pins:List (Addr×Obj)}{σ:List (Option V)}{H H':Hp}{s:Shared}{h':Heap}
theorem Cx.Ok.nofr(ok:X.Ok){b:Addr}{o:Obj}(e:X.base.get? b=some o):b∉X.fs:=fun hb=>by
 have:=(ok.funs.mem hb).1
 rw [e] at this;cases this
theorem Inv.bs(I:Inv X pins σ H s):∀b o,X.base.get? b=some o→s.heap.get? b=some o∧H b=none:=fun b o e=>
 ⟨I.base.keep b o (I.ok.bs b o e).1 (I.ok.bs b o e).2 (I.ok.nofr e) (I.ok.noex b o e),I.base.free b o (I.ok.bs b o e).1 (I.ok.bs b o e).2 (I.ok.noex b o e)⟩
theorem Inv.bk(I:Inv X pins σ H s):∀b o,X.base.get? b=some o→s.heap.get? b=some o:=fun b o e=>(I.bs b o e).1
theorem Inv.mod(I:Inv X pins σ H s):Mod X.K X.mg X.base:=I.ok.mod
theorem Inv.kIn(I:Inv X pins σ H s):X.K.In s.heap:=I.ok.mod.kin.keeps I.bk
theorem Inv.lt(I:Inv X pins σ H s):X.env.locals < s.heap.objs.size:=let ⟨_,hn,_⟩:=I.loc;hn.lt
theorem Inv.sz(I:Inv X pins σ H s):X.s₀.heap.objs.size≤s.heap.objs.size:=aau I.ok.above (Nat.le_of_lt I.lt)
theorem Inv.nofs(I:Inv X pins σ H s){a:Addr}(h:s.heap.objs.size≤a):a∉X.fs:=fun hb=>by
 obtain ⟨_,o,ho,_⟩:=I.ok.funs.mem hb
 exact absurd (aam (Heap.lt_size ho) (aau I.sz h)) (aaW _)
theorem Inv.cne(I:Inv X pins σ H s):∀x c,X.env.cells.lookup x=some c→c≠X.env.locals:=fun x c e z=>by
 obtain ⟨v,o,ho,hd⟩:=I.cell x c e
 obtain ⟨m,⟨o',es,ep,ho',hd',_⟩,_⟩:=I.loc
 rw [z,ho'] at ho;cases ho;rw [hd'] at hd;cases hd
theorem Inv.funs(I:Inv X pins σ H s):s.heap.FunFrames X.base X.outer:=by
 have all:∀(l:List Env),(∀b∈frs l,b∈X.fs)→X.s₀.heap.FunFrames X.base l→s.heap.FunFrames X.base l:=by
  intro l
  induction l with
  | nil=>intro _ _;trivial
  | cons env r ih=>
   intro hs hl
   obtain ⟨hk,⟨L,o,hf,hn,ho,hd⟩,hr⟩:=hl
   have hL:L∈X.fs:=hs L (by unfold frs;rw [List.filterMap_cons,hf];exact List.mem_cons_self)
   obtain ⟨sl,e⟩:=I.base.slot L o ho (I.ok.frf L hL) hL fun z=>I.ok.exfs L z hL
   exact ⟨hk,⟨L,_,hf,hn,e,hd⟩,ih (fun b hb=>hs b (by unfold frs;rw [List.filterMap_cons,hf];exact List.mem_cons_of_mem _ hb)) hr⟩
 exact all X.outer (fun _ hb=>hb) I.ok.funs
theorem Inv.stack(I:Inv X pins σ H s):s.heap.FunFrames X.base X.stack:=by
 rcases I.ok.stk with e | ⟨e,hf⟩
 ·rw [e];exact I.funs
 ·rw [e]
  obtain ⟨m,hn,_⟩:=I.loc
  refine .cons (by rw [I.ok.kind];decide) hf hn ?_ I.funs
  exact Heap.get?_none_of_le (aau I.ok.bsz I.ok.above)
theorem Inv.stkSub(I:Inv X pins σ H s):∀b∈frs X.stack,b∈X.env.locals::X.fs:=fun b hb=>by
 rcases I.ok.stk with e | ⟨e,hf⟩
 ·rw [e] at hb;exact aad _ hb
 ·rw [e] at hb
  unfold frs at hb
  rw [abT,hf] at hb
  exact hb
theorem Inv.stkFree(I:Inv X pins σ H s):∀b∈frs X.stack,H b=none:=fun b hb=>by
 rcases aaG.mp (I.stkSub b hb) with e | hb
 ·rw [e];exact I.free
 ·obtain ⟨_,o,ho,_⟩:=I.ok.funs.mem hb
  exact I.base.free b o ho (I.ok.frf b hb) fun z=>I.ok.exfs b z hb
theorem Inv.step{g':Array GenState}{t':Nat}{d':Drawn}{ch:List Addr}(I:Inv X pins σ H s)
  (hch:∀b∈ch,(b∈X.ex∨X.s₀.heap.objs.size≤b)∧b≠X.env.locals∧(∀x c,X.env.cells.lookup x=some c→c≠b)∧∀p∈X.pn++pins,p.1≠b)
  (keep:∀b o,b≠X.env.locals→b∉X.fs→b∉ch→s.heap.get? b=some o→H b=none→h'.get? b=some o)
  (slot:∀b o,b≠X.env.locals→b∈X.fs→b∉ch→s.heap.get? b=some o→H b=none→∃sl,h'.get? b=some {o with slots:=sl}) (free:∀b o,b∉ch→s.heap.get? b=some o→H b=none→H' b=none)
  (there:∀b o,b∉ch→s.heap.get? b=some o→∃o',h'.get? b=some o')
  (tups:∀b xs,H b=some (.tup xs)→H' b=some (.tup xs)) (frzs:∀b o u,H b=some (.frz o u)→H' b=some (.frz o u)) (tbls:∀b ps,H b=some (.tbl ps)→∃more,H' b=some (.tbl (ps++more)))
  (ns:∀m,s.heap.Ns X.env.locals m→h'.Ns X.env.locals m) (hok:HOk X.prog X.w H' h') (hg:AllBare g'):
  Inv X pins σ H' {s with heap:=h',gens:=g',drawn:=d',toks:=t'}:=by
 have neL:∀b o,X.s₀.heap.get? b=some o→b≠X.env.locals:=fun b o e=>aaz (aam (Heap.lt_size e) I.ok.above)
 have neC:∀b o,X.s₀.heap.get? b=some o→b∉X.ex→b∉ch:=fun b o e hx hb=>by
  rcases (hch b hb).1 with z | z
  ·exact hx z
  ·exact absurd (aam (Heap.lt_size e) z) (aaW _)
 have cellK:∀x c,X.env.cells.lookup x=some c→∀v,s.heap.IsCell c v→h'.IsCell c v:=fun x c e v ⟨o,ho,hd⟩=>by
  have nch:c∉ch:=fun z=>(hch c z).2.2.1 x c e rfl
  by_cases hc:c∈X.fs
  ·obtain ⟨sl,q⟩:=slot c o (I.cne x c e) hc nch ho (I.freeC x c e)
   exact ⟨_,q,hd⟩
  ·exact ⟨o,keep c o (I.cne x c e) hc nch ho (I.freeC x c e),hd⟩
 refine ⟨I.ok,I.os,hg,⟨fun b o e n hb hx=> ?_,fun b o e n hb hx=> ?_,fun b o e n hx=> ?_,fun b o e hx=> ?_,fun b xs e=>tups b xs (I.base.tups b xs e),fun b o xs e=>frzs b o xs (I.base.frzs b o xs e),fun b ps e=> ?_⟩, ?_,fun x c e=> ?_, ?_,fun x c e=> ?_,fun p hp=> ?_,hok,I.len⟩
 ·exact keep b o (neL b o e) hb (neC b o e hx) (I.base.keep b o e n hb hx) (I.base.free b o e n hx)
 ·obtain ⟨sl,e1⟩:=I.base.slot b o e n hb hx
  obtain ⟨sl',e2⟩:=slot b _ (neL b o e) hb (neC b o e hx) e1 (I.base.free b o e n hx)
  exact ⟨sl',e2⟩
 ·obtain ⟨o',e1⟩:=I.base.there b o e hx
  exact free b o' (neC b o e hx) e1 (I.base.free b o e n hx)
 ·obtain ⟨o',e1⟩:=I.base.there b o e hx
  exact there b o' (neC b o e hx) e1
 ·obtain ⟨m1,e1⟩:=I.base.tbls b ps e
  obtain ⟨m2,e2⟩:=tbls b _ e1
  exact ⟨m1++m2,by rw [e2,Array.append_assoc]⟩
 ·obtain ⟨m,hn,hl⟩:=I.loc
  refine ⟨m,ns m hn,fun i x v e1 e2 e3=> ?_⟩
  obtain ⟨u,r,l⟩:=hl i x v e1 e2 e3
  refine ⟨u,r, ?_⟩
  rcases l with l | ⟨k,c,e,z⟩
  ·exact .inl l
  ·exact .inr ⟨k,c,e,cellK x c e _ z⟩
 ·obtain ⟨v,z⟩:=I.cell x c e
  exact ⟨v,cellK x c e v z⟩
 ·obtain ⟨m,⟨o,_,_,ho,_⟩,_⟩:=I.loc
  exact free _ o (fun z=>(hch _ z).2.1 rfl) ho I.free
 ·obtain ⟨v,o,ho,hd⟩:=I.cell x c e
  exact free c o (fun z=>(hch c z).2.2.1 x c e rfl) ho (I.freeC x c e)
 ·obtain ⟨e,n,ne,nf,d⟩:=I.pin p hp
  have nch:p.1∉ch:=fun z=>(hch p.1 z).2.2.2 p hp rfl
  exact ⟨keep p.1 p.2 ne nf nch e n,free p.1 p.2 nch e n,ne,nf,d⟩
theorem Inv.un{t':Nat}(I:Inv X pins σ H s)(u:Un X.fs [] H H' s.heap h')(hok:HOk X.prog X.w H' h'):Inv X pins σ H' {s with heap:=h',toks:=t'}:=by
 obtain ⟨m,⟨o,es,ep,ho,r⟩,_⟩:=id I.loc
 obtain ⟨sl,hL⟩:=u.any ho I.free (by simp)
 exact I.step (g':=s.gens) (d':=s.drawn) (ch:=[]) (fun _ z=>nomatch z) (fun b o _ hb _ e n=>u.keep b o e n hb (by simp)) (fun b o _ hb _ e n=>u.slot b o e n hb (by simp)) (fun b o _ e n=>u.free b o e n (by simp)) (fun b o _ e=>u.there b o e (by simp)) u.tups u.frzs u.tbls (fun m' hm=>by
  obtain ⟨o',es',ep',ho',r'⟩:=hm
  rw [ho] at ho';cases ho'
  exact ⟨_,es',ep',hL,r'⟩) hok I.bare
theorem Inv.call{g':Array GenState}{t':Nat}{d':Drawn}{ch:List Addr}(I:Inv X pins σ H s)(u:Un (frs X.stack) ch H H' s.heap h')(hok:HOk X.prog X.w H' h')(hg:AllBare g')
  (hch:∀b∈ch,(b∈X.ex∨X.s₀.heap.objs.size≤b)∧b≠X.env.locals∧(∀x c,X.env.cells.lookup x=some c→c≠b)∧∀p∈X.pn++pins,p.1≠b):
  Inv X pins σ H' {s with heap:=h',gens:=g',drawn:=d',toks:=t'}:=by
 obtain ⟨m,⟨o,es,ep,ho,r⟩,_⟩:=id I.loc
 obtain ⟨sl,hL⟩:=u.any ho I.free fun z=>(hch _ z).2.1 rfl
 exact I.step (ch:=ch) hch (fun b o hL hb hc e n=>u.keep b o e n (fun z=>(aaG.mp (I.stkSub b z)).elim hL hb) hc) (fun b o _ _ hc e n=>u.any e n hc) (fun b o hc e n=>u.free b o e n hc) (fun b o hc e=>u.there b o e hc) u.tups u.frzs u.tbls (fun m' hm=>by
  obtain ⟨o',es',ep',ho',r'⟩:=hm
  rw [ho] at ho';cases ho'
  exact ⟨_,es',ep',hL,r'⟩) hok hg
theorem Inv.turned{t':Nat}{it:Addr}(I:Inv X pins σ H s)(k:∀b o,b≠it→s.heap.get? b=some o→h'.get? b=some o)(hn:H it=none)(hL:it≠X.env.locals)
  (h1:it∈X.ex∨X.s₀.heap.objs.size≤it) (h2:∀x c,X.env.cells.lookup x=some c→c≠it) (h3:∀p∈X.pn++pins,p.1≠it):Inv X pins σ H {s with heap:=h',toks:=t'}:=by
 have nit:∀b u,H b=some u→b≠it:=fun b u e z=>by rw [z,hn] at e;cases e
 refine I.step (g':=s.gens) (d':=s.drawn) (ch:=[it]) (fun b hb=> ?_) (fun b o _ _ hc e _=>k b o (fun z=>hc (by simp [z])) e) (fun b o _ _ hc e _=>⟨o.slots,k b o (fun z=>hc (by simp [z])) e⟩) (fun _ _ _ _ n=>n)
  (fun b o hc e=>⟨o,k b o (fun z=>hc (by simp [z])) e⟩) (fun _ _ e=>e) (fun _ _ _ e=>e) (fun b ps e=>⟨#[],by rw [e];simp⟩) (fun m hm=> ?_) (fun b u e=> ?_) I.bare
 ·have e:b=it:=by simpa using hb
  subst e
  exact ⟨h1,hL,h2,h3⟩
 ·obtain ⟨o,es,ep,ho,r⟩:=hm
  exact ⟨o,es,ep,k _ o (Ne.symm hL) ho,r⟩
 ·refine (I.hok b u e).stay (fun c v hc q=>k c v ?_ q) (fun _ q=>q) fun _ _ q=>q
  rcases hc with z | z
  ·rw [z];exact nit b u e
  ·exact nit c _ z
theorem Inv.tok(I:Inv X pins σ H s)(t:Nat):Inv X pins σ H {s with toks:=t}:=I.un (h':=s.heap) (t':=t) Un.refl I.hok
theorem Inv.kept{t':Nat}(I:Inv X pins σ H s)(k:∀b u,s.heap.get? b=some u→h'.get? b=some u):Inv X pins σ H {s with heap:=h',toks:=t'}:=I.un (Un.kept k) (I.hok.kept k)
theorem Inv.laid{a:Addr}{o:HO}{t':Nat}(I:Inv X pins σ H s)(k:∀b u,s.heap.get? b=some u→h'.get? b=some u)(hp:s.heap.objs.size≤a)(new:cf X.prog X.w (upd H a o) h' a o):
  Inv X pins σ (upd H a o) {s with heap:=h',toks:=t'}:=I.un (Un.laid k hp (I.hok.fresh hp)) (I.hok.laid k hp new)
theorem Inv.write{x e:Addr}{o:HO}{t':Nat}(I:Inv X pins σ H s)(mu:Mut (H x))(he:e=x∨H e=some (.own x))(k:∀b u,b≠e→s.heap.get? b=some u→h'.get? b=some u)(heo:∃u,h'.get? e=some u)
  (new:cf X.prog X.w (upd H x o) h' x o):Inv X pins σ (upd H x o) {s with heap:=h',toks:=t'}:=I.un (Un.write mu he k heo) (I.hok.write mu he k heo new)
theorem Inv.pins_of{pins':List (Addr×Obj)}(I:Inv X pins σ H s)(h:∀p∈pins',s.heap.get? p.1=some p.2∧H p.1=none∧p.1≠X.env.locals∧p.1∉X.fs∧∀v,p.2.data≠ .cell v):Inv X pins' σ H s:=
 ⟨I.ok,I.os,I.bare,I.base,I.loc,I.cell,I.free,I.freeC,fun p hp=>(aaN.mp hp).elim (fun z=>I.pin p (List.mem_append_left _ z)) (h p),I.hok,I.len⟩
theorem qN{N:List Str}(hN:N.Nodup){i j:Nat}{x:Str}(a:N[i]? =some x)(b:N[j]? =some x):i=j:=by
 obtain ⟨h1,e1⟩:=aaf.mp a
 obtain ⟨h2,e2⟩:=aaf.mp b
 exact (List.getElem_inj hN).mp (e1.trans e2.symm)
theorem mK{M:Model}{A:Around}{E:Value→Shared→Prop}{i:Nat}{x:Str}{v:V}{u:Value}{Q:Unit→Shared→Prop}(I:Inv X pins σ H s)(hN:X.N.Nodup)(hi:X.N[i]? =some x)(hx:Loc X.env.scope x)(r:bx v u)
  (h:∀s',Inv X pins (σ.set i (some v)) H s'→(∃a,Heap.SameBut a s.heap s'.heap∧(a=X.env.locals∨X.env.cells.lookup x=some a))→Q () s') (hf:X.fn x=true∨X.env.scope.names.lookup x=some .local:=by first | exact .inl rfl | exact .inr rfl | assumption):wpAny M A (storeName X.env x u) Q E s:=by
 obtain ⟨m,hn,hl⟩:=id I.loc
 have hcls:(X.env.scope.kind== .class || (X.env.scope.kind== .module&&X.env.locals != X.env.globals))=false:=by rw [I.ok.kind];rfl
 have hiσ:i < σ.length:=by rw [I.len];exact (aaf.mp hi).1
 have cne:=I.cne
 have tracked:∀{a:Addr} {h':Heap},(∃o,s.heap.get? a=some o∧H a=none)→Heap.SameBut a s.heap h'→HOk X.prog X.w H h':=fun {a h'} ha hs b ob e=>by
  obtain ⟨_,_,hfree⟩:=ha
  refine (I.hok b ob e).stay (fun c w' hc q=>(hs.2 c ?_).trans q) (fun _ q=>q) fun _ _ q=>q
  rintro rfl
  rcases hc with rfl | hc
  ·rw [hfree] at e;cases e
  ·rw [hfree] at hc;cases hc
 rcases hx with hk | hk
 ·refine wpAny_storeName_local hk hn (fun h' hn' hs=> ?_) hcls
  obtain ⟨oL,_,_,hoL,_⟩:=id hn
  refine h _ ⟨I.ok,I.os,I.bare,⟨fun b o e n hb hx=> ?_,fun b o e n hb hx=> ?_,I.base.free,fun b o e hx=> ?_,I.base.tups,I.base.frzs,I.base.tbls⟩,⟨_,hn',fun j y v' e1 e2 e3=> ?_⟩,fun y c e=> ?_,I.free,I.freeC,fun p hp=> ?_,tracked ⟨oL,hoL,I.free⟩ hs,by simpa using I.len⟩ ⟨_,hs, .inl rfl⟩
  ·exact (hs.2 b (aaz (aam (Heap.lt_size e) I.ok.above))).trans (I.base.keep b o e n hb hx)
  ·obtain ⟨sl,e1⟩:=I.base.slot b o e n hb hx
   exact ⟨sl,(hs.2 b (aaz (aam (Heap.lt_size e) I.ok.above))).trans e1⟩
  ·obtain ⟨o',e1⟩:=I.base.there b o e hx
   exact ⟨o',(hs.2 b (aaz (aam (Heap.lt_size e) I.ok.above))).trans e1⟩
  ·by_cases hj:j=i
   ·subst hj
    rw [hi] at e1;cases e1
    rw [aba hiσ] at e2
    cases e2
    exact ⟨u,r, .inl ⟨hk,by simp⟩⟩
   ·rw [aa8 (Ne.symm hj)] at e2
    obtain ⟨u',r',q⟩:=hl j y v' e1 e2 e3
    refine ⟨u',r', ?_⟩
    rcases q with ⟨k,e⟩ | ⟨k,c,e,z⟩
    ·refine .inl ⟨k, ?_⟩
     have:y≠x:=fun e=>hj (qN hN e1 (e▸hi))
     simp [this,e]
    ·exact .inr ⟨k,c,e,z.sameBut hs (cne y c e)⟩
  ·obtain ⟨w',z⟩:=I.cell y c e
   exact ⟨w',z.sameBut hs (cne y c e)⟩
  ·obtain ⟨e,n,ne,nf,d⟩:=I.pin p hp
   exact ⟨(hs.2 p.1 ne).trans e,n,ne,nf,d⟩
 ·have hfn:X.fn x=true:=by
   rcases hf with z | z
   ·exact z
   ·rw [z] at hk;cases hk
  obtain ⟨c,hc⟩:=I.ok.has x (.inl hk)
  obtain ⟨w',z⟩:=I.cell x c hc
  refine wpAny_storeName_cell I.ok.kind hk hc z (fun h' hc' hs=> ?_)
  obtain ⟨oc,hoc,hocd⟩:=id z
  refine h {s with heap:=h'} ⟨I.ok,I.os,I.bare,⟨fun b o e n hb hx=> ?_,fun b o e n hb hx=> ?_,I.base.free,fun b o e hx=> ?_,I.base.tups,I.base.frzs,I.base.tbls⟩,⟨m,hn.sameBut hs (Ne.symm (cne x c hc)),fun j y v' e1 e2 e3=> ?_⟩,fun y c' e=> ?_,I.free,I.freeC,fun p hp=> ?_,tracked ⟨oc,hoc,I.freeC x c hc⟩ hs,by simpa using I.len⟩ ⟨c,hs, .inr hc⟩
  ·exact (hs.2 b (aaz (aam (Heap.lt_size e) (I.ok.cab x c hfn hc)))).trans (I.base.keep b o e n hb hx)
  ·obtain ⟨sl,e1⟩:=I.base.slot b o e n hb hx
   exact ⟨sl,(hs.2 b (aaz (aam (Heap.lt_size e) (I.ok.cab x c hfn hc)))).trans e1⟩
  ·obtain ⟨o',e1⟩:=I.base.there b o e hx
   exact ⟨o',(hs.2 b (aaz (aam (Heap.lt_size e) (I.ok.cab x c hfn hc)))).trans e1⟩
  ·by_cases hj:j=i
   ·subst hj
    rw [hi] at e1;cases e1
    rw [aba hiσ] at e2
    cases e2
    exact ⟨u,r, .inr ⟨.inl hk,c,hc,hc'⟩⟩
   ·rw [aa8 (Ne.symm hj)] at e2
    obtain ⟨u',r',q⟩:=hl j y v' e1 e2 e3
    refine ⟨u',r', ?_⟩
    rcases q with q | ⟨k,c',e,z'⟩
    ·exact .inl q
    ·refine .inr ⟨k,c',e,z'.sameBut hs ?_⟩
     rintro rfl
     exact hj (qN hN e1 (I.ok.inj _ _ _ e hc▸hi))
  ·by_cases hcc:c'=c
   ·subst hcc;exact ⟨_,hc'⟩
   ·obtain ⟨w2,z2⟩:=I.cell y c' e
    exact ⟨w2,z2.sameBut hs hcc⟩
  ·obtain ⟨e,n,ne,nf,d⟩:=I.pin p hp
   refine ⟨(hs.2 p.1 ?_).trans e,n,ne,nf,d⟩
   intro q
   rw [q,hoc] at e
   have q':oc=p.2:=aal e
   exact d w' (by rw [←q'];exact hocd)
theorem ix{M:Model}{A:Around}{E:Value→Shared→Prop}{i:Nat}{x:Str}{v:V}{u:Value}{Q:Unit→Shared→Prop}(I:Inv X pins σ H s)(hN:X.N.Nodup)(hi:X.N[i]? =some x)(hx:Loc X.env.scope x)(r:bx v u)
  (h:∀s',Inv X pins (σ.set i (some v)) H s'→Q () s') (hf:X.fn x=true∨X.env.scope.names.lookup x=some .local:=by first | exact .inl rfl | exact .inr rfl | assumption):wpAny M A (storeName X.env x u) Q E s:=
 mK I hN hi hx r (fun s' I' _=>h s' I') hf
theorem Inv.call'{s':Shared}{ch:List Addr}(I:Inv X pins σ H s)(ho:s'.os=s.os)(u:Un (frs X.stack) ch H H' s.heap s'.heap)(hok:HOk X.prog X.w H' s'.heap)(hg:AllBare s'.gens)
  (hch:∀b∈ch,(b∈X.ex∨X.s₀.heap.objs.size≤b)∧b≠X.env.locals∧(∀x c,X.env.cells.lookup x=some c→c≠b)∧∀p∈X.pn++pins,p.1≠b):Inv X pins σ H' s':=by
 obtain ⟨h',g',d',t',o'⟩:=s'
 have e:o'=s.os:=ho
 subst e
 exact I.call (g':=g') (t':=t') (d':=d') u hok hg hch
end
abbrev XK:=Value→Option Addr→Hp→Prop
abbrev St:=List (Option V)
abbrev VK:=V→Hp→Prop
abbrev TE:=St→Hp→VK→Prop
abbrev TT:=St→Hp→(Bool→Hp→Prop)→Prop
abbrev TA:=St→Hp→(List V→Hp→Prop)→Prop
structure zT where
 nx:St→Hp→Prop
 rt:VK
 bk:St→Hp→Prop:=fun _ _=>False
 ct:St→Hp→Prop:=fun _ _=>False
abbrev TS:=zT→St→Hp→Prop
def EP(X:Cx)(pins:List (Addr×Obj))(σ:St)(Q:VK)(u:Value)(s':Shared):Prop:=∃v H',Inv X pins σ H' s'∧bx v u∧Q v H'
def TP(X:Cx)(pins:List (Addr×Obj))(σ:St)(Q:Bool→Hp→Prop)(b:Bool)(s':Shared):Prop:=∃H',Inv X pins σ H' s'∧Q b H'
def AP(X:Cx)(pins:List (Addr×Obj))(σ:St)(Q:List V→Hp→Prop)(us:List Value)(s':Shared):Prop:=∃vs H',Inv X pins σ H' s'∧bF vs us∧Q vs H'
def SP(X:Cx)(pins:List (Addr×Obj))(D:zT)(f:Flow)(s':Shared):Prop:=
 match f with
 | .next=>∃σ' H',Inv X pins σ' H' s'∧D.nx σ' H'
 | .brk=>∃σ' H',Inv X pins σ' H' s'∧D.bk σ' H'
 | .cont=>∃σ' H',Inv X pins σ' H' s'∧D.ct σ' H'
 | .ret u=>∃v σ' H',Inv X pins σ' H' s'∧bx v u∧D.rt v H'
def PE(X:Cx)(e:Expr)(t:TE):Prop:=
 ∀(pins:List (Addr×Obj)) (s:Shared) (σ:St) (H:Hp) (Q:VK),Inv X pins σ H s→t σ H Q→wpAny (model X.prog X.w) X.A (eval e X.env) (EP X pins σ Q) X.xe s
def PT(X:Cx)(e:Expr)(t:TT):Prop:=
 ∀(pins:List (Addr×Obj)) (s:Shared) (σ:St) (H:Hp) (Q:Bool→Hp→Prop),Inv X pins σ H s→t σ H Q→wpAny (model X.prog X.w) X.A (isTrue e X.env (eval e X.env)) (TP X pins σ Q) X.xe s
def PW(X:Cx)(e:Expr)(t:TT):Prop:=
 ∀(whole:Sem Value) (pins:List (Addr×Obj)) (s:Shared) (σ:St) (H:Hp) (Q:Bool→Hp→Prop),Inv X pins σ H s→t σ H Q→wpAny (model X.prog X.w) X.A (isTrue e X.env whole) (TP X pins σ Q) X.xe s
def PA(X:Cx)(es:List Expr)(t:TA):Prop:=
 ∀(pos:Pos) (pins:List (Addr×Obj)) (s:Shared) (σ:St) (H:Hp) (Q:List V→Hp→Prop),Inv X pins σ H s→t σ H Q→wpAny (model X.prog X.w) X.A (spliced (backTo pos (starEach es X.env))) (AP X pins σ Q) X.xe s
def PS(X:Cx)(st:Stmt)(t:TS):Prop:=
 ∀(pins:List (Addr×Obj)) (s:Shared) (σ:St) (H:Hp) (D:zT),Inv X pins σ H s→t D σ H→wpAny (model X.prog X.w) X.A (exec st X.env) (SP X pins D) X.xe s
def PSs(X:Cx)(st:List Stmt)(t:TS):Prop:=
 ∀(pins:List (Addr×Obj)) (s:Shared) (σ:St) (H:Hp) (D:zT),Inv X pins σ H s→t D σ H→wpAny (model X.prog X.w) X.A (execs st X.env) (SP X pins D) X.xe s
theorem thn{α:Type}{t:Sem α}{Q Q':α→Shared→Prop}{M:Model}{A:Around}{E:Value→Shared→Prop}{s:Shared}(h:wpAny M A t Q E s)(hQ:∀a s,Q a s→Q' a s):wpAny M A t Q' E s:=wpAny_mono h hQ fun _ _ x=>x
section
variable{X:Cx}
def Hg(i:Nat):TE:=fun σ H Q=>∃v,σ[i]? =some (some v)∧Q v H
def tC(v:V):TE:=fun _ H Q=>Q v H
theorem Co{i:Nat}{x:Str}{pos:Pos}(hN:X.N[i]? =some x)(hv:Vis X.env.scope x)(hd:(x==("__debug__":Str))=false:=by decide)(hcd:(x==("__classdict__":Str))=false:=by decide):PE X (.Name x pos) (Hg i):=by
 intro pins s σ H Q I h
 obtain ⟨v,e,h⟩:=h
 obtain ⟨m,hn,hl⟩:=I.loc
 obtain ⟨u,r,l⟩:=hl i x v hN e hv
 have fin:EP X pins σ Q u s:=⟨v,H,I,r,h⟩
 rcases l with ⟨hk,hm⟩ | ⟨hk,c,hc,hcell⟩
 ·exact wpAny_Name (wpAny_loadName_local I.ok.kind hk hn hm fin) hd
 ·rcases hk with hk | hk
  ·exact wpAny_Name (wpAny_loadName_cell I.ok.kind hk hc hcell fin) hd
  ·exact wpAny_Name (wpAny_loadName_free I.ok.kind hk hc hcell fin hcd) hd
theorem Ct{i j pos}:PE X (.Constant (.int i) j pos) (tC (.int i)):=fun _ _ _ H _ I h=>wpAny_Constant_int ⟨.int i,H,I.tok _,⟨_,rfl⟩,h⟩
theorem EY{b j pos}:PE X (.Constant (.bool b) j pos) (tC (.bl b)):=fun _ _ _ H _ I h=>Constant_bool ⟨.bl b,H,I,rfl,h⟩
theorem Cs{j pos}:PE X (.Constant .none j pos) (tC .non):=fun _ _ _ H _ I h=>Constant_none ⟨.non,H,I,rfl,h⟩
theorem y8{x j pos}:PE X (.Constant (.str x) j pos) (tC (.str x)):=fun _ _ _ H _ I h=>Calls.Constant_str ⟨.str x,H,I.tok _,⟨_,rfl⟩,h⟩
def Gl(X:Cx)(x:Str):Prop:=X.env.kindOf x=some .globalImplicit
theorem lS{E:Value→Shared→Prop}{pins:List (Addr×Obj)}{s:Shared}{σ:St}{H:Hp}{x:Str}{u:Value}{pos:Pos}{Q:Value→Shared→Prop}(I:Inv X pins σ H s)(hg:Gl X x)(hm:X.mg x=some u)(h:Q u s)
  (hd:(x==("__debug__":Str))=false:=by decide):wpAny (model X.prog X.w) X.A (eval (.Name x pos) X.env) Q E s:=
 Calls.Name_function_global I.ok.kind hg (Calls.loadGlobal_global (by rw [I.ok.glob];exact I.mod.glob.keeps I.bk) hm h) hd
theorem jg{E:Value→Shared→Prop}{pins:List (Addr×Obj)}{s:Shared}{σ:St}{H:Hp}{x:Str}{u:Value}{pos:Pos}{Q:Value→Shared→Prop}(I:Inv X pins σ H s)(hg:Gl X x)(hm:X.mg x=none)(hv:bootBuiltins x=some u)(h:Q u s)
  (hn:x≠"__name__":=by decide) (hd:(x==("__debug__":Str))=false:=by decide):wpAny (model X.prog X.w) X.A (eval (.Name x pos) X.env) Q E s:=by
 obtain ⟨mb,h1,h2⟩:=I.mod.blt
 exact Calls.Name_function_global I.ok.kind hg (Calls.loadGlobal_builtin (by rw [I.ok.glob];exact I.mod.glob.keeps I.bk) hm (by rw [I.ok.blt];exact h1.keeps I.bk) ((h2 x hn).trans hv) h) hd
theorem uV{x:Str}{v:V}{u:Value}{pos:Pos}(hg:Gl X x)(hm:X.mg x=some u)(r:bx v u)(hd:(x==("__debug__":Str))=false:=by decide):PE X (.Name x pos) (tC v):=
 fun _ _ _ H _ I h=>lS I hg hm ⟨v,H,I,r,h⟩ hd
theorem AA{x:Str}{v:V}{u:Value}{pos:Pos}(hg:Gl X x)(hm:X.mg x=none)(hv:bootBuiltins x=some u)(r:bx v u)(hn:x≠"__name__":=by decide)(hd:(x==("__debug__":Str))=false:=by decide):PE X (.Name x pos) (tC v):=
 fun _ _ _ H _ I h=>jg I hg hm hv ⟨v,H,I,r,h⟩ hn hd
variable{a b:Expr}{ta tb:TE}{pos:Pos}
def tB(t:TE):TT:=fun σ H Q=>t σ H fun x H1=>∃c,x= .bl c∧Q c H1
theorem Cd{e:Expr}{t:TE}(h:PE X e t)(he:∀whole,isTrue e X.env whole=(do let v←whole;standAt e.pos;holding [v] (truthy v)):=by intro _;rfl):PT X e (tB t):=by
 intro pins s σ H Q I hw
 refine isTrue_plain (thn (h pins s σ H _ I hw) fun v s1 ⟨x,H1,I1,r1,q1⟩=> ?_) (he _)
 obtain ⟨d,rfl,q⟩:=q1
 cases r1
 exact wpAny_truthy_bool ⟨H1,I1,q⟩
variable{tA tB':TT}{rest:List Expr}
def tOr(t u:TT):TT:=fun σ H Q=>t σ H fun c H1=>if c=true then Q true H1 else u σ H1 Q
def Hl(t:TT):TT:=fun σ H Q=>t σ H fun c H1=>Q (!c) H1
theorem Ca(ha:PT X a tA):PW X (.BoolOp .Or [a] pos) tA:=by
 intro wh pins s σ H Q I h
 refine isTrue_or (thn (ha pins s σ H Q I h) fun c s1 e=> ?_)
 cases c with
 | false=>exact isTrue_or_nil e
 | true=>exact e
theorem ER(ha:PT X a tA)(hb:PW X (.BoolOp .Or (b::rest) pos) tB'):PW X (.BoolOp .Or (a::b::rest) pos) (tOr tA tB'):=by
 intro wh pins s σ H Q I h
 refine isTrue_or (thn (ha pins s σ H _ I h) fun c s1 ⟨H1,I1,q1⟩=> ?_)
 cases c with
 | true=>exact ⟨H1,I1,q1⟩
 | false=>exact hb wh pins s1 σ H1 Q I1 q1
theorem Ce(ha:PT X a tA):PT X (.UnaryOp .Not a pos) (Hl tA):=by
 intro pins s σ H Q I h
 exact isTrue_not (ha pins s σ H (fun c H1=>Q (!c) H1) I h)
def EE(ta tb:TE):TE:=fun σ H Q=>ta σ H fun x H1=>∃c,x= .bl c∧if c=true then tb σ H1 Q else Q (.bl false) H1
def Eu(ta:TE):TE:=fun σ H Q=>ta σ H fun x H1=>∃c,x= .bl c∧Q (.bl (!c)) H1
theorem Cq{op}{t:TE}(h:PE X a t):PE X (.BoolOp op [a] pos) t:=fun pins s σ H Q I hw=>BoolOp_one (h pins s σ H Q I hw)
theorem Cv(ha:PE X a ta)(hb:PE X (.BoolOp .And (b::rest) pos) tb):PE X (.BoolOp .And (a::b::rest) pos) (EE ta tb):=by
 intro pins s σ H Q I h
 refine BoolOp_and (thn (ha pins s σ H _ I h) fun v s1 ⟨x,H1,I1,r1,q1⟩=> ?_)
 obtain ⟨c,rfl,q1⟩:=q1
 cases r1
 refine wpAny_truthy_bool ?_
 cases c with
 | true=>exact hb pins s1 σ H1 Q I1 q1
 | false=>exact ⟨.bl false,H1,I1,rfl,q1⟩
theorem Cr(ha:PE X a ta):PE X (.UnaryOp .Not a pos) (Eu ta):=by
 intro pins s σ H Q I h
 refine UnaryOp_ (thn (ha pins s σ H _ I h) fun v s1 ⟨x,H1,I1,r1,q1⟩=> ?_)
 obtain ⟨c,rfl,q1⟩:=q1
 cases r1
 exact not_of (wpAny_truthy_bool ⟨.bl (!c),H1,I1,rfl,q1⟩)
def tIf(t:TT)(ta tb:TE):TE:=fun σ H Q=>t σ H fun c H1=>if c=true then ta σ H1 Q else tb σ H1 Q
theorem xI{c:Expr}(hc:PT X c tA)(ha:PE X a ta)(hb:PE X b tb):PE X (.IfExp c a b pos) (tIf tA ta tb):=by
 intro pins s σ H Q I h
 refine wpAny_IfExp (thn (hc pins s σ H _ I h) fun d s1 ⟨H1,I1,q1⟩=> ?_)
 cases d with
 | true=>exact ha pins s1 σ H1 Q I1 q1
 | false=>exact hb pins s1 σ H1 Q I1 q1
end
def SqL(K:PySem.W.Frag)(H:Hp)(a:Addr)(xs:List V):Prop:=
 Rd H a (.lst xs)∨
  ∃(o:Obj) (its:Array Value) (n:Nat),K.lookup a=some o∧o.cls= .type "list"∧o.dict=none∧o.data= .seq its n∧its.size≤sizeLine∧bF xs its.toList
def SqT(K:PySem.W.Frag)(H:Hp)(a:Addr)(xs:List V):Prop:=
 Rd H a (.tup xs)∨
  ∃(o:Obj) (its:Array Value) (n:Nat),K.lookup a=some o∧o.cls= .type "tuple"∧o.data= .seq its n∧its.size≤sizeLine∧bF xs its.toList
def Ie:Value→Option V
 | .none=>some .non
 | .bool b=>some (.bl b)
 | .int i _=>some (.int i)
 | .str x _=>some (.str x)
 | .bytes b _=>some (.byt b)
 | .float b _=>some (.flt b)
 | .ref a=>some (.ref a)
 | .type n=>some (.ty n)
 | _=>none
theorem bx.abs{x:V}{u:Value}(r:bx x u):Ie u=some x:=by
 cases x with
 | non=>cases r;rfl
 | bl _=>cases r;rfl
 | int _=>obtain ⟨t,rfl⟩:=r;rfl
 | str _=>obtain ⟨t,rfl⟩:=r;rfl
 | byt _=>obtain ⟨t,rfl⟩:=r;rfl
 | flt _=>obtain ⟨t,rfl⟩:=r;rfl
 | ref _=>cases r;rfl
 | ty _=>cases r;rfl
theorem bx.inj{x y:V}{u:Value}(r:bx x u)(q:bx y u):x=y:=aal (r.abs.symm.trans q.abs)
theorem bF.inj:∀{xs ys:List V} {us:List Value},bF xs us→bF ys us→xs=ys
 | _,_,_, .nil, .nil=>rfl
 | _,_,_, .cons r t, .cons r' t'=>by rw [r.inj r',bF.inj t t']
section
variable{X:Cx}{pins:List (Addr×Obj)}{σ:St}{H:Hp}{s:Shared}{a:Addr}{xs ys:List V}
theorem SqL.of{K:PySem.W.Frag}(h:H a=some (.lst xs)):SqL K H a xs:= .inl (.inl h)
theorem SqT.of{K:PySem.W.Frag}(h:H a=some (.tup xs)):SqT K H a xs:= .inl (.inl h)
theorem Inv.list(I:Inv X pins σ H s)(h:SqL X.K H a xs):∃its:List Value,bF xs its∧PlainL s.heap a its.toArray∧xs.length≤sizeLine:=by
 rcases h with h | ⟨o,its,n,hk,hc,hd,hs,hz,r⟩
 ·obtain ⟨z,its,n,r,e⟩:=h.ok I.hok
  exact ⟨its,r,⟨_,n,e,rfl,rfl,rfl⟩,z⟩
 ·refine ⟨its.toList,r,⟨o,n,I.kIn a o hk,hc,hd,by simpa using hs⟩, ?_⟩
  have e:=r.length
  simp only [Array.length_toList] at e
  omega
theorem Inv.tuple(I:Inv X pins σ H s)(h:SqT X.K H a xs):∃its:List Value,bF xs its∧IsTup s.heap a its.toArray∧xs.length≤sizeLine:=by
 rcases h with h | ⟨o,its,n,hk,hc,hs,hz,r⟩
 ·obtain ⟨z,its,r,p⟩:=h.ok I.hok
  exact ⟨its,r,p,z⟩
 ·refine ⟨its.toList,r,⟨o,I.kIn a o hk,hc,n,by simpa using hs⟩, ?_⟩
  have e:=r.length
  simp only [Array.length_toList] at e
  omega
theorem Inv.list_inj(I:Inv X pins σ H s)(h:SqL X.K H a xs)(h':SqL X.K H a ys):xs=ys:=by
 obtain ⟨its,r,⟨o,n,e,_,_,d⟩,_⟩:=I.list h
 obtain ⟨its',r',⟨o',n',e',_,_,d'⟩,_⟩:=I.list h'
 rw [e] at e';cases e'
 rw [d] at d'
 injection d' with d1 _
 have:its=its':=by simpa using congrArg Array.toList d1
 subst this
 exact r.inj r'
theorem Inv.tuple_inj(I:Inv X pins σ H s)(h:SqT X.K H a xs)(h':SqT X.K H a ys):xs=ys:=by
 obtain ⟨its,r,⟨o,e,_,n,d⟩,_⟩:=I.tuple h
 obtain ⟨its',r',⟨o',e',_,n',d'⟩,_⟩:=I.tuple h'
 rw [e] at e';cases e'
 rw [d] at d'
 injection d' with d1 _
 have:its=its':=by simpa using congrArg Array.toList d1
 subst this
 exact r.inj r'
end
section
variable{X:Cx}{st:Stmt}{rest:List Stmt}{t u:TS}{e:Expr}{te:TE}{pos:Pos}
def Ew:TS:=fun D σ H=>D.nx σ H
def Hi(t u:TS):TS:=fun D σ H=>t {D with nx:=u D} σ H
theorem Ap:PSs X [] Ew:=fun _ _ σ H _ I h=>wpAny_execs_nil ⟨σ,H,I,h⟩
theorem xB(h1:PS X st t)(h2:PSs X rest u):PSs X (st::rest) (Hi t u):=by
 intro pins s σ H D I h
 refine wpAny_execs_cons (thn (h1 pins s σ H {D with nx:=u D} I h) fun f s1 q=> ?_)
 cases f with
 | next=>
  obtain ⟨σ',H',I',q⟩:=q
  exact h2 pins s1 σ' H' D I' q
 | ret v=>exact q
 | brk=>exact q
 | cont=>exact q
theorem Ao(h1:PS X st t):PSs X [st] t:=by
 intro pins s σ H D I h
 refine wpAny_execs_cons (thn (h1 pins s σ H D I h) fun f s1 q=> ?_)
 cases f with
 | next=>exact wpAny_execs_nil q
 | ret v=>exact q
 | brk=>exact q
 | cont=>exact q
def EC:TS:=fun D σ H=>D.ct σ H
theorem oY:PS X (.Continue pos) EC:=fun _ _ σ H _ I h=>wpAny_Continue ⟨σ,H,I,h⟩
theorem Inv.quiet{pins:List (Addr×Obj)}{σ:St}{H:Hp}{s:Shared}(I:Inv X pins σ H s):interactive X.env=false:=by simp [interactive,I.ok.kind]
def Ey(te:TE):TS:=fun D σ H=>te σ H fun _ H1=>D.nx σ H1
theorem Aq(he:PE X e te)(hs:swapsWith e none pos.line X.env=pure false:=by rfl):PS X (.Expr e pos) (Ey te):=by
 intro pins s σ H D I h
 exact wpAny_Expr_any (thn (he pins s σ H _ I h) fun v s1 ⟨x,H1,I1,r1,q1⟩=>⟨σ,H1,I1,q1⟩) I.quiet hs
def Hj(te:TE):TS:=fun D σ H=>te σ H D.rt
theorem Ci(he:PE X e te):PS X (.Return (some e) pos) (Hj te):=by
 intro pins s σ H D I h
 exact wpAny_Return_some (thn (he pins s σ H _ I h) fun v s1 ⟨x,H1,I1,r1,q1⟩=>⟨x,σ,H1,I1,r1,q1⟩)
def Hn(c:TT)(t u:TS):TS:=fun D σ H=>c σ H fun b H1=>if b=true then t D σ H1 else u D σ H1
theorem ES{c:Expr}{a b:List Stmt}{tc:TT}(hc:PT X c tc)(ha:PSs X a t)(hb:PSs X b u):PS X (.If c a b pos) (Hn tc t u):=by
 intro pins s σ H D I h
 refine wpAny_If (thn (hc pins s σ H _ I h) fun d s1 ⟨H1,I1,q1⟩=> ?_)
 cases d with
 | true=>exact ha pins s1 σ H1 D I1 q1
 | false=>exact hb pins s1 σ H1 D I1 q1
end
abbrev TG:=V→St→Hp→(St→Hp→Prop)→Prop
abbrev TGs:=List V→St→Hp→(St→Hp→Prop)→Prop
def PG(X:Cx)(target:Expr)(t:TG):Prop:=
 ∀(pins:List (Addr×Obj)) (s:Shared) (σ:St) (H:Hp) (v:V) (u:Value) (Q:St→Hp→Prop),Inv X pins σ H s→bx v u→t v σ H Q→
  wpAny (model X.prog X.w) X.A (assign target X.env u) (fun _ s'=>∃σ' H',Inv X pins σ' H' s'∧Q σ' H') X.xe s
def PGs(X:Cx)(ts:List Expr)(t:TGs):Prop:=
 ∀(pins:List (Addr×Obj)) (s:Shared) (σ:St) (H:Hp) (vs:List V) (us:List Value) (Q:St→Hp→Prop),Inv X pins σ H s→bF vs us→t vs σ H Q→
  wpAny (model X.prog X.w) X.A (assignInOrder ((assignEach ts X.env).map (·.2)) us) (fun _ s'=>∃σ' H',Inv X pins σ' H' s'∧Q σ' H') X.xe s
abbrev FX:=V→V→V→Hp→(Hp→Prop)→Prop
def Hc(X:Cx)(t:FX):Prop:=
 ∀(pins:List (Addr×Obj)) (s:Shared) (σ:St) (H:Hp) (o i v:V) (ov iv u:Value) (Q:Hp→Prop),Inv X pins σ H s→bx o ov→bx i iv→bx v u→t o i v H Q→
  wpAny (model X.prog X.w) X.A (setItem ov iv u) (fun _ s'=>∃H',Inv X pins σ H' s'∧Q H') X.xe s
section
variable{X:Cx}{pos:Pos}
def g8(i:Nat):TG:=fun v σ H Q=>Q (σ.set i (some v)) H
theorem aN{i:Nat}{x:Str}(hN:X.N.Nodup)(hi:X.N[i]? =some x)(hx:Loc X.env.scope x)(hf:X.fn x=true∨X.env.scope.names.lookup x=some .local:=by first | exact .inl rfl | exact .inr rfl | assumption):PG X (.Name x pos) (g8 i):=by
 intro pins s σ H v u Q I r h
 exact wpAny_assign_Name (ix I hN hi hx r (fun s' I'=>⟨_,H,I',h⟩) hf)
def Dm:TGs:=fun vs σ H Q=>vs=[]∧Q σ H
def ma(t:TG)(u:TGs):TGs:=fun vs σ H Q=>∃v r,vs=v::r∧t v σ H fun σ' H'=>u r σ' H' Q
theorem gY:PGs X [] Dm:=by
 intro pins s σ H vs us Q I r h
 obtain ⟨e,h⟩:=h
 subst e
 cases r
 exact assignInOrder_nil ⟨σ,H,I,h⟩
theorem bW{e:Expr}{es:List Expr}{t:TG}{u:TGs}(h1:PG X e t)(h2:PGs X es u)
  (hs:(assignEach (e::es) X.env).map (·.2)=assign e X.env::(assignEach es X.env).map (·.2):=by rfl):PGs X (e::es) (ma t u):=by
 intro pins s σ H vs us Q I r h
 obtain ⟨v,vr,e1,h⟩:=h
 subst e1
 cases r with
 | cons r rr=>
  rw [hs]
  refine assignInOrder_cons (thn (h1 pins s σ H _ _ _ I r h) fun _ s1 ⟨σ1,H1,I1,q1⟩=> ?_)
  exact h2 pins s1 σ1 H1 _ _ Q I1 rr q1
def Dk(K:PySem.W.Frag)(n:Nat)(t:TGs):TG:=fun v σ H Q=>∃a xs,v= .ref a∧SqT K H a xs∧xs.length=n∧t xs σ H Q
theorem kn{es:List Expr}{k:Nat}{t:TGs}{n:Nat}(hc:X.calm=true)(h:PGs X es t)
  (hn:(assignEach es X.env).length=n:=by rfl) (hst:(assignEach es X.env).findIdx? (·.1)=none:=by rfl):PG X (.Tuple es k pos) (Dk X.K n t):=by
 intro pins s σ H v u Q I r hw
 obtain ⟨a,xs,e1,hq,hl,hw⟩:=hw
 subst e1
 cases r
 obtain ⟨its,rv,ht,hz⟩:=I.tuple hq
 refine assign_Tuple_tuple (I.ok.hd hc) ht (by simp [hn,←hl,rv.length]) hst fun h' hx=> ?_
 have I1:Inv X pins σ H {s with heap:=h'}:=I.kept (t':=s.toks) fun b o e=>hx b o (aaz (Heap.lt_size e)) e
 exact h pins _ σ H xs _ Q I1 (by simpa using rv) hw
def HN(to ti:TE)(t:FX):TG:=fun v σ H Q=>to σ H fun o H1=>ti σ H1 fun i H2=>t o i v H2 fun H3=>Q σ H3
theorem Cn{o i:Expr}{to ti:TE}{t:FX}(ho:PE X o to)(hi:PE X i ti)(hs:Hc X t)
  (ha:∀v,assign (.Subscript o i pos) X.env v=(do
   let ov←holding [v] (eval o X.env)
   let iv←holding [v,ov] (eval i X.env)
   standAt pos
   holding [v,ov,iv] (setItem ov iv v)
   release [v,ov,iv] []):=by intro _;rfl):PG X (.Subscript o i pos) (HN to ti t):=by
 intro pins s σ H v u Q I r h
 rw [ha]
 refine wpAny_bind (wpAny_holding (thn (ho pins s σ H _ I h) fun ov s1 ⟨x,H1,I1,r1,q1⟩=> ?_))
 refine wpAny_bind (wpAny_holding (thn (hi pins s1 σ H1 _ I1 q1) fun iv s2 ⟨y,H2,I2,r2,q2⟩=> ?_))
 refine wpAny_bind (wpAny_standAt (wpAny_bind (wpAny_holding (thn (hs pins s2 σ H2 x y v ov iv u _ I2 r1 r2 r q2) fun _ s3 ⟨H3,I3,q3⟩=> ?_))))
 exact wpAny_release ⟨σ,H3,I3,q3⟩
def Gm(te:TE)(g:TG):TS:=fun D σ H=>te σ H fun x H1=>g x σ H1 D.nx
theorem y4{tg e:Expr}{te:TE}{g:TG}(he:PE X e te)(hg:PG X tg g)(hs:swapsWithSole [tg] e pos.line X.env=pure false:=by rfl)(hw:swappedStores [tg] e X.env=pure none:=by rfl)
  (h1:(assignEach [tg] X.env).map (·.2)=[assign tg X.env]:=by rfl):PS X (.Assign [tg] e pos) (Gm te g):=by
 intro pins s σ H D I h
 refine wpAny_Assign_stores (thn (he pins s σ H _ I h) fun v s1 ⟨x,H1,I1,r1,q1⟩=> ?_) hs hw
 rw [h1]
 exact thn (hg pins s1 σ H1 x v _ I1 r1 q1) fun _ s2 q=>q
theorem Cg{i:Nat}{x:Str}{e:Expr}{te:TE}{pos':Pos}(hN:X.N.Nodup)(hi:X.N[i]? =some x)(hx:Loc X.env.scope x)(he:PE X e te)(hs:swapsWith e (some (.Name x pos')) pos.line X.env=pure false:=by rfl)(hf:X.fn x=true∨X.env.scope.names.lookup x=some .local:=by first | exact .inl rfl | exact .inr rfl | assumption):
  PS X (.Assign [.Name x pos'] e pos) (Gm te (g8 i)):=by
 intro pins s σ H D I h
 refine wpAny_Assign_Name (thn (he pins s σ H _ I h) fun v s1 ⟨y,H1,I1,r1,q1⟩=> ?_) hs
 exact ix I1 hN hi hx r1 (fun s2 I2=>⟨_,H1,I2,q1⟩) hf
def Hk(i j:Nat)(ta:TA):TS:=fun D σ H=>ta σ H fun vs H1=>∃v w,vs=[v,w]∧D.nx ((σ.set i (some v)).set j (some w)) H1
theorem Cj{i j:Nat}{x y:Str}{a b:Expr}{ta:TA}{px py pt:Pos}{kt k2 pt2}(hc:X.calm=true)(hN:X.N.Nodup)(hi:X.N[i]? =some x)(hj:X.N[j]? =some y)(hij:i≠j)
  (hx:X.env.scope.names.lookup x=some .local) (hy:X.env.scope.names.lookup y=some .local) (ha:PA X [a,b] ta)
  (hw:swappedStores [.Tuple [.Name x px, .Name y py] kt pt] (.Tuple [a,b] k2 pt2) X.env=pure (some [x,y]))
  (hs:swapsWithSole [.Tuple [.Name x px, .Name y py] kt pt] (.Tuple [a,b] k2 pt2) pos.line X.env=pure false:=by rfl):
  PS X (.Assign [.Tuple [.Name x px, .Name y py] kt pt] (.Tuple [a,b] k2 pt2) pos) (Hk i j ta):=by
 intro pins s σ H D I h
 rw [exec_Assign_arm]
 refine wpAny_bind (wpAny_standAt ?_)
 rw [hs]
 refine wpAny_bind (wpAny_pure ?_)
 rw [if_neg (by decide)]
 refine wpAny_bind (Tuple_ (thn (ha _ pins s σ H _ I h) fun us s1 ⟨vs,H1,I1,r1,q1⟩=> ?_))
 obtain ⟨v,w,e1,q1⟩:=q1
 subst e1
 obtain ⟨u1,u2,rfl,rv,rw'⟩:∃u1 u2,us=[u1,u2]∧bx v u1∧bx w u2:=by
  cases r1 with
  | cons p q=>
   cases q with
   | cons p' q'=>
    cases q'
    exact ⟨_,_,rfl,p,p'⟩
 refine wpAny_newObj_type ?_ (by show 2≤sizeLine;decide)
 have I2:Inv X pins σ H1 {s1 with heap:=s1.heap.push {cls:= .type "tuple",data:= .seq [u1,u2].toArray}}:=I1.kept (t':=s1.toks) fun b o e=>Heap.get?_push_of_some _ e
 rw [hw]
 refine wpAny_bind (wpAny_pure ?_)
 show wpAny (model X.prog X.w) X.A (do rule "assign.swapped-stores";let items←unpackItems (.ref s1.heap.objs.size) 2 none;assignInOrder [fun v=>bindName X.env y v,fun v=>bindName X.env x v] items.reverse;pure Flow.next) _ _ _
 refine wpAny_bind (wpAny_rule (wpAny_bind (unpackItems_tuple (items:= #[u1,u2]) (I.ok.hd hc) (IsTup.new s1.heap _) fun h' hx'=> ?_)))
 have I3:=I2.kept (h':=h') (t':=s1.toks) fun b o e=>hx' b o (aaz (Heap.lt_size e)) e
 show wpAny _ _ (assignInOrder [fun v=>bindName X.env y v,fun v=>bindName X.env x v] [u2,u1] >>= fun _=>pure Flow.next) _ _ _
 refine wpAny_bind (assignInOrder_cons (wpAny_bindName (ix I3 hN hj (.inl hy) rw' (fun s2 I4=> ?_) (.inr hy))))
 refine assignInOrder_cons (wpAny_bindName (ix I4 hN hi (.inl hx) rv (fun s3 I5=>assignInOrder_nil (wpAny_pure ?_)) (.inr hx)))
 rw [List.set_comm _ _ (Ne.symm hij)] at I5
 exact ⟨_,H1,I5,q1⟩
end
section
variable{X:Cx}{pos:Pos}
def BO(c:TT)(tb:TS):TS:=fun D σ H=>∃W:Nat→St→Hp→Prop,(∃m,W m σ H)∧∀m σ H,W m σ H→
 c σ H fun b H1=>if b=true then∃N:St→Hp→Prop,(∀σ' H',N σ' H'→∃m',m' < m∧W m' σ' H')∧tb {D with nx:=N,ct:=N,bk:=D.nx} σ H1 else D.nx σ H1
theorem xC{c:Expr}{body:List Stmt}{tc:TT}{tb:TS}(hp:PassesOwn (model X.prog X.w) X.A X.env X.xe)(hc:PT X c tc)(hb:PSs X body tb):PS X (.While c body [] pos) (BO tc tb):=by
 intro pins s σ H D I h
 obtain ⟨W,⟨m0,w0⟩,turn⟩:=h
 refine wpAny_While (codeAny_whileLoop (fun n s'=>∃σ' H',Inv X pins σ' H' s'∧W n σ' H') ?_ m0 ⟨σ,H,I,w0⟩)
 rintro n s1 ⟨σ1,H1,I1,w1⟩
 refine wpAny_passesOwn hp (thn (hc pins s1 σ1 H1 _ I1 (turn n σ1 H1 w1)) fun b s2 ⟨H2,I2,q2⟩=> ?_)
 cases b with
 | true=>
  obtain ⟨N,hN,q2⟩:=q2
  rw [if_pos rfl]
  refine wpAny_passesOwn hp (thn (hb pins s2 σ1 H2 _ I2 q2) fun f s3 q3=> ?_)
  cases f with
  | next=>
   obtain ⟨σ3,H3,I3,n3⟩:=q3
   obtain ⟨m',hm,w3⟩:=hN σ3 H3 n3
   exact ⟨m',hm,σ3,H3,I3,w3⟩
  | cont=>
   obtain ⟨σ3,H3,I3,n3⟩:=q3
   obtain ⟨m',hm,w3⟩:=hN σ3 H3 n3
   exact ⟨m',hm,σ3,H3,I3,w3⟩
  | brk=>exact q3
  | ret v=>exact q3
 | false=>
  rw [if_neg aaq]
  exact wpAny_execs_nil ⟨σ1,H2,I2,q2⟩
end
structure It where
 go:Nat→Hp→Prop
 yld:Nat→Hp→V→Hp→Prop
 stop:Nat→Hp→Prop
def tG(X:Cx)(pins:List (Addr×Obj))(H:Hp)(b:Addr):Prop:=
 H b=none∧b≠X.env.locals∧b∉X.fs∧(b∈X.ex∨X.s₀.heap.objs.size≤b)∧(∀x c,X.env.cells.lookup x=some c→c≠b)∧∀p∈X.pn++pins,p.1≠b
theorem Inv.fpOk{X:Cx}{pins:List (Addr×Obj)}{σ:St}{H H':Hp}{s:Shared}{b:Addr}(I:Inv X pins σ H s)(hb:s.heap.objs.size≤b)(hn:H' b=none):tG X pins H' b:=by
 refine ⟨hn,abU (aam I.lt hb),I.nofs hb, .inr (aau I.sz hb),fun x c e z=> ?_,fun p hp z=> ?_⟩
 ·obtain ⟨v,q⟩:=I.cell x c e
  exact absurd (aam q.lt (by rw [z];exact hb)) (aaW _)
 ·exact absurd (aam (Heap.lt_size (I.pin p hp).1) (by rw [z];exact hb)) (aaW _)
structure dF(P:Program)(w:World)(K:PySem.W.Frag)(tg:Expr)(J:It)(fp:List Addr)(it:Addr)(tn:Nat→Heap→Prop):Prop where
 mem:it∈fp
 obj:∀i h,tn i h→∀b∈fp,∃o,h.get? b=some o∧∀v,o.data≠ .cell v
 keep:∀i h h',tn i h→(∀b∈fp,∀o,h.get? b=some o→h'.get? b=some o)→tn i h'
 item:∀(X:Cx),X.prog=P→X.w=w→X.K=K→X.calm=true→∀(i:Nat) (pins:List (Addr×Obj)) (s:Shared) (σ:St) (H:Hp) (E:Value→Shared→Prop),Inv X pins σ H s→(∀b∈fp,tG X pins H b)→tn i s.heap→J.go i H→
  wpAny (model P w) X.A (pyNext (.ref it)) (fun r s1=>∃u,r=some u∧
   wpAny (model P w) X.A (letOwnedTupleGo tg (.ref it) u) (fun _ s2=>∃x H',Inv X pins σ H' s2∧bx x u∧J.yld i H x H'∧tn (i+1) s2.heap∧∀b∈fp,H' b=none) E s1) E s
 done:∀(X:Cx),X.prog=P→X.w=w→X.K=K→X.calm=true→∀(i:Nat) (pins:List (Addr×Obj)) (s:Shared) (σ:St) (H:Hp) (E:Value→Shared→Prop),Inv X pins σ H s→(∀b∈fp,tG X pins H b)→tn i s.heap→J.stop i H→
  wpAny (model P w) X.A (pyNext (.ref it)) (fun r s1=>r=none∧Inv X pins σ H s1) E s
 self:∀(A:Around) (i:Nat) (s:Shared) (Q:Value→Shared→Prop) (E:Value→Shared→Prop),tn i s.heap→Q (.ref it) s→wpAny (model P w) A (pyIter (.ref it)) Q E s
abbrev TI:=St→Hp→(It→Hp→Prop)→Prop
def PIE(X:Cx)(pins:List (Addr×Obj))(σ:St)(tg:Expr)(R:It→Hp→Prop)(itv:Value)(s2:Shared):Prop:=
 ∃(it:Addr) (fp:List Addr) (tn:Nat→Heap→Prop) (J:It) (H':Hp),itv= .ref it∧Inv X pins σ H' s2∧dF X.prog X.w X.K tg J fp it tn∧tn 0 s2.heap∧(∀b∈fp,tG X pins H' b)∧R J H'
def PI(X:Cx)(tg iter:Expr)(wi:TI):Prop:=
 ∀(pins:List (Addr×Obj)) (s:Shared) (σ:St) (H:Hp) (R:It→Hp→Prop),Inv X pins σ H s→wi σ H R→
  wpAny (model X.prog X.w) X.A (eval iter X.env) (fun v s1=>wpAny (model X.prog X.w) X.A (pyIter v) (PIE X pins σ tg R) X.xe s1) X.xe s
theorem vR {M : Model} {A : Around} {E : Value → Shared → Prop} {s : Shared} {tg : Expr} {it : Addr} {u : Value} {o : Obj} {n : String} {vs : Array Value} {Q : Unit → Shared → Prop} (ho : s.heap.get? it = some o) (hc : o.cls = .type n) (hd : o.data = .fields vs)
    (hn : ["enumerate", "zip", "dict_itemiterator", "dict_reverseitemiterator", "odict_iterator", "itertools.zip_longest", "itertools.pairwise"].contains n = false) (hQ : Q () s) : wpAny M A (letOwnedTupleGo tg (.ref it) u) Q E s := by
  unfold letOwnedTupleGo
  cases tg <;> first
    | exact wpAny_pure hQ
    | (cases u <;> first
        | exact wpAny_pure hQ
        | (refine wpAny_bind (wpAny_load ho ?_)
           rw [hc, hd]
           show wpAny M A (if (["enumerate", "zip", "dict_itemiterator", "dict_reverseitemiterator", "odict_iterator", "itertools.zip_longest", "itertools.pairwise"].contains n && vs[0]? == some (rawInt _)) = true then _ else _) Q E s
           rw [if_neg (by intro h; rw [hn, Bool.false_and] at h; cases h)]
           exact wpAny_pure hQ))
def Itl(K:PySem.W.Frag)(a:Addr):It:=
 ⟨fun i H=>∃xs x,SqL K H a xs∧xs[i]? =some x,fun i H x H'=>H'=H∧∀xs,SqL K H a xs→xs[i]? =some x,fun i H=>∃xs,SqL K H a xs∧xs.length≤i⟩
def Itt(K:PySem.W.Frag)(a:Addr):It:=
 ⟨fun i H=>∃xs x,SqT K H a xs∧xs[i]? =some x,fun i H x H'=>H'=H∧∀xs,SqT K H a xs→xs[i]? =some x,fun i H=>∃xs,SqT K H a xs∧xs.length≤i⟩
def Itr(lo:Int)(n:Nat):It:=⟨fun i _=>i < n,fun i H x H'=>H'=H∧x= .int (lo+i),fun i _=>n≤i⟩
theorem tZ{P:Program}{w:World}{K:PySem.W.Frag}{tg:Expr}(a it:Addr):dF P w K tg (Itl K a) [it] it (fun i h=>h.IsListIter it a i) where
 mem:=by simp
 obj:=fun i h st b hb=>by
  have e:b=it:=by simpa using hb
  subst e
  obtain ⟨o,e,c,d⟩:=st
  exact ⟨o,e,fun v z=>by rw [d] at z;cases z⟩
 keep:=fun i h h' st k=>st.at fun o e=>k it (by simp) o e
 item:=by
  intro X hP hw hK hc i pins s σ H E I hf st hg
  subst hP hw hK
  obtain ⟨xs,x,hq,hx⟩:=hg
  obtain ⟨its,rv,p,hz⟩:=I.list hq
  obtain ⟨u,hu,ru⟩:=rv.get hx
  obtain ⟨f0,f1,f2,f3,f4,f5⟩:=hf it (by simp)
  refine wpAny_pyNext_list_item st p.isList (x:=u) (by simpa using hu) fun h' st' sb=> ?_
  have I1:Inv X pins σ H {s with heap:=h'}:=I.turned (t':=s.toks) (fun b o hb e=>(sb.2 b hb).trans e) f0 f1 f3 f4 f5
  obtain ⟨o,e,c,d⟩:=id st'
  exact ⟨u,rfl,vR (s:={s with heap:=h'}) e c d (by decide) ⟨x,H,I1,ru,⟨rfl,fun ys hy=>by rw [I.list_inj hy hq];exact hx⟩,st',fun b hb=>(hf b hb).1⟩⟩
 done:=by
  intro X hP hw hK hc i pins s σ H E I hf st hg
  subst hP hw hK
  obtain ⟨xs,hq,hx⟩:=hg
  obtain ⟨its,rv,p,hz⟩:=I.list hq
  obtain ⟨f0,f1,f2,f3,f4,f5⟩:=hf it (by simp)
  have hl:=rv.length
  exact wpAny_pyNext_list_end (I.ok.hd hc) st p.isList (by simp;omega) fun h' eb=>⟨rfl,I.turned (t':=s.toks) (fun b o hb e=>eb b o hb e) f0 f1 f3 f4 f5⟩
 self:=fun _ _ _ _ _ st h=>wpAny_pyIter_listiter st h
theorem rY{P:Program}{w:World}{K:PySem.W.Frag}{tg:Expr}(a it:Addr):dF P w K tg (Itt K a) [it] it (fun i h=>h.IsTupleIter it a i) where
 mem:=by simp
 obj:=fun i h st b hb=>by
  have e:b=it:=by simpa using hb
  subst e
  obtain ⟨o,e,c,d⟩:=st
  exact ⟨o,e,fun v z=>by rw [d] at z;cases z⟩
 keep:=fun i h h' st k=>st.at fun o e=>k it (by simp) o e
 item:=by
  intro X hP hw hK hc i pins s σ H E I hf st hg
  subst hP hw hK
  obtain ⟨xs,x,hq,hx⟩:=hg
  obtain ⟨its,rv,p,hz⟩:=I.tuple hq
  obtain ⟨u,hu,ru⟩:=rv.get hx
  obtain ⟨f0,f1,f2,f3,f4,f5⟩:=hf it (by simp)
  refine wpAny_pyNext_tuple_item st (show s.heap.IsTuple a its.toArray from p) (x:=u) (by simpa using hu) fun h' st' sb=> ?_
  have I1:Inv X pins σ H {s with heap:=h'}:=I.turned (t':=s.toks) (fun b o hb e=>(sb.2 b hb).trans e) f0 f1 f3 f4 f5
  obtain ⟨o,e,c,d⟩:=id st'
  exact ⟨u,rfl,vR (s:={s with heap:=h'}) e c d (by decide) ⟨x,H,I1,ru,⟨rfl,fun ys hy=>by rw [I.tuple_inj hy hq];exact hx⟩,st',fun b hb=>(hf b hb).1⟩⟩
 done:=by
  intro X hP hw hK hc i pins s σ H E I hf st hg
  subst hP hw hK
  obtain ⟨xs,hq,hx⟩:=hg
  obtain ⟨its,rv,p,hz⟩:=I.tuple hq
  obtain ⟨f0,f1,f2,f3,f4,f5⟩:=hf it (by simp)
  have hl:=rv.length
  exact wpAny_pyNext_tuple_end (I.ok.hd hc) st (show s.heap.IsTuple a its.toArray from p) (by simp;omega) fun h' eb=>⟨rfl,I.turned (t':=s.toks) (fun b o hb e=>eb b o hb e) f0 f1 f3 f4 f5⟩
 self:=fun _ _ _ _ _ st h=>wpAny_pyIter_tupleiter st h
theorem rZ{P:Program}{w:World}{K:PySem.W.Frag}{tg:Expr}(it:Addr)(lo:Int)(n:Nat):dF P w K tg (Itr lo n) [it] it (fun i h=>IsRangeIter h it (lo+(i:Nat) * 1) ((n:Int) - (i:Nat)) 1) where
 mem:=by simp
 obj:=fun i h st b hb=>by
  have e:b=it:=by simpa using hb
  subst e
  exact ⟨_,st,fun v z=>by
   have z':Data.fields _=Data.cell v:=z
   cases z'⟩
 keep:=fun i h h' st k=>k it (by simp) _ st
 item:=by
  intro X hP hw hK hc i pins s σ H E I hf st hg
  subst hP hw hK
  obtain ⟨f0,f1,f2,f3,f4,f5⟩:=hf it (by simp)
  have W:=Walks.range (prog:=X.prog) (w:=X.w) (I.ok.hd hc) it lo 1 n
  refine W.item i s _ _ hg st fun v h' tk hv st' kk=> ?_
  obtain ⟨t,rfl⟩:=hv
  have I1:Inv X pins σ H {s with heap:=h',toks:=tk}:=I.turned (fun b o hb e=>kk b o (by simpa using hb) e) f0 f1 f3 f4 f5
  refine ⟨_,rfl,vR (s:={s with heap:=h',toks:=tk}) (n:="range_iterator") st' rfl rfl (by decide) ⟨.int (lo+i),H,I1,⟨t, ?_⟩,⟨rfl,rfl⟩,st',fun b hb=>(hf b hb).1⟩⟩
  rw [Int.mul_one]
 done:=by
  intro X hP hw hK hc i pins s σ H E I hf st hg
  subst hP hw hK
  obtain ⟨f0,f1,f2,f3,f4,f5⟩:=hf it (by simp)
  exact wpAny_pyNext_range_end (I.ok.hd hc) st (by have:n≤i:=hg;omega) fun h' eb=>⟨rfl,I.turned (t':=s.toks) (fun b o hb e=>eb b o hb e) f0 f1 f3 f4 f5⟩
 self:=fun _ _ _ _ _ st h=>wpAny_pyIter_rangeiter st h
section
variable{X:Cx}{tg:Expr}
theorem qC{pins:List (Addr×Obj)}{σ:St}{H:Hp}{s:Shared}{R:It→Hp→Prop}{E:Value→Shared→Prop}{lo hi:Int}{t u v:Tok}{tk:Nat}(I:Inv X pins σ H s)(h1: -(2 ^ 62)≤lo)(h2:lo < 2 ^ 62)(h3: -(2 ^ 62)≤hi)(h4:hi < 2 ^ 62)
  (q:R (Itr lo (hi - lo).toNat) H):wpAny (model X.prog X.w) X.A (pyIter (.ref s.heap.objs.size)) (PIE X pins σ tg R) E {s with heap:=s.heap.push {cls:= .type "range",data:= .fields #[.int lo t, .int hi u, .int 1 v]},toks:=tk}:=by
 refine wpAny_pyIter_range (IsRange.new ..) (small_one h1 h2 h3 h4) ?_
 have I1:Inv X pins σ H {s with heap:=s.heap.push {cls:= .type "range",data:= .fields #[.int lo t, .int hi u, .int 1 v]},toks:=tk}:=I.kept fun b o e=>Heap.get?_push_of_some _ e
 refine ⟨(s.heap.push {cls:= .type "range",data:= .fields #[.int lo t, .int hi u, .int 1 v]}).objs.size,[(s.heap.push {cls:= .type "range",data:= .fields #[.int lo t, .int hi u, .int 1 v]}).objs.size],_,_,H,rfl,
  I1.kept (t':=tk) fun b o e=>Heap.get?_push_of_some _ e,rZ _ lo (hi - lo).toNat, ?_,fun b hb=> ?_,q⟩
 ·have e1:lo+((0:Nat):Int) * 1=lo:=by simp
  have e2:(((hi - lo).toNat:Nat):Int) - ((0:Nat):Int)=Builtin.Range.rangeSize lo hi 1:=by rw [rangeSize_one];split <;> omega
  show IsRangeIter _ _ (lo+((0:Nat):Int) * 1) ((((hi - lo).toNat:Nat):Int) - ((0:Nat):Int)) 1
  rw [e1,e2]
  exact Heap.get?_push_size _ rfl
 ·have e:b=(s.heap.push {cls:= .type "range",data:= .fields #[.int lo t, .int hi u, .int 1 v]}).objs.size:=by simpa using hb
  subst e
  exact I1.fpOk (aah _) (I1.hok.fresh (aah _))
def Fp(ta:TA):TI:=fun σ H R=>ta σ H fun vs H1=>∃j:Int,vs=[.int j]∧ -(2 ^ 62)≤j∧j < 2 ^ 62∧R (Itr 0 j.toNat) H1
def Fo(ta:TA):TI:=fun σ H R=>ta σ H fun vs H1=>∃i j:Int,vs=[.int i, .int j]∧(-(2 ^ 62)≤i∧i < 2 ^ 62∧ -(2 ^ 62)≤j∧j < 2 ^ 62)∧R (Itr i (j - i).toNat) H1
theorem uT{a:Expr}{ta:TA}{p pos:Pos}(hg:Gl X "range")(hm:X.mg "range"=none)(ha:PA X [a] ta)(hs:starEach [a] X.env=[(false,eval a X.env)]:=by rfl):PI X tg (.Call (.Name "range" p) [a] [] pos) (Fp ta):=by
 intro pins s σ H R I h
 refine Call_ (jg I hg hm boot_range (PyProof.Rows.callWith_type1 (thn (ha pos pins s σ H _ I h) fun us s1 ⟨vs,H1,I1,r1,q1⟩=> ?_) hs rfl))
 obtain ⟨j,e,q1,q2,q⟩:=q1
 subst e
 cases r1 with
 | cons r rr=>
  cases rr
  obtain ⟨t,rfl⟩:=r
  exact call_range_1 (qC I1 (by omega) (by omega) q1 q2 (by simpa using q))
theorem uS{a b:Expr}{ta:TA}{p pos:Pos}(hg:Gl X "range")(hm:X.mg "range"=none)(ha:PA X [a,b] ta)(hs:starEach [a,b] X.env=[(false,eval a X.env),(false,eval b X.env)]:=by rfl)(hs2:starEach [b] X.env=[(false,eval b X.env)]:=by rfl):
  PI X tg (.Call (.Name "range" p) [a,b] [] pos) (Fo ta):=by
 intro pins s σ H R I h
 refine Call_ (jg I hg hm boot_range (PyProof.Rows.callWith_type1 (thn (ha pos pins s σ H _ I h) fun us s1 ⟨vs,H1,I1,r1,q1⟩=> ?_) (by rw [hs,hs2]) (by rw [hs2];rfl)))
 obtain ⟨i,j,e,⟨q1,q2,q3,q4⟩,q⟩:=q1
 subst e
 cases r1 with
 | cons r rr=>
  cases rr with
  | cons r' rr=>
   cases rr
   obtain ⟨t,rfl⟩:=r
   obtain ⟨t',rfl⟩:=r'
   exact call_range_2 (qC I1 q1 q2 q3 q4 q)
def Ho(wi:TI)(g:TG)(tb:TS):TS:=fun D σ H=>wi σ H fun J H1=>∃W:Nat→Nat→St→Hp→Prop,(∃m,W 0 m σ H1)∧∀i m σ H,W i m σ H→
 (J.stop i H∧D.nx σ H)∨(J.go i H∧∃N:St→Hp→Prop,(∀σ' H',N σ' H'→∃m',m' < m∧W (i+1) m' σ' H')∧∀x H',J.yld i H x H'→g x σ H' fun σ2 H2=>tb {D with nx:=N,ct:=N,bk:=D.nx} σ2 H2)
def qJ(fp:List Addr)(h:Heap):List (Addr×Obj):=fp.filterMap fun b=>(h.get? b).map fun o=>(b,o)
theorem df{fp:List Addr}{h:Heap}{b:Addr}{o:Obj}(hb:b∈fp)(e:h.get? b=some o):(b,o)∈qJ fp h:=abI.mpr ⟨b,hb,by rw [e];rfl⟩
theorem ve{fp:List Addr}{h:Heap}{p:Addr×Obj}(hp:p∈qJ fp h):p.1∈fp∧h.get? p.1=some p.2:=by
 obtain ⟨b,hb,e⟩:=abI.mp hp
 cases q:h.get? b with
 | none=>rw [q] at e;cases e
 | some o=>
  rw [q] at e
  have e':(b,o)=p:=aal e
  subst e'
  exact ⟨hb,q⟩
theorem Inv.pinned{pins:List (Addr×Obj)}{σ:St}{H:Hp}{s:Shared}{fp:List Addr}(I:Inv X pins σ H s)(hf:∀b∈fp,tG X pins H b)(ho:∀b∈fp,∃o,s.heap.get? b=some o∧∀v,o.data≠ .cell v):Inv X (pins++qJ fp s.heap) σ H s:=
 I.pins_of fun p hp=>(aaN.mp hp).elim (fun z=>I.pin p (aav _ z)) fun z=>by
  obtain ⟨hb,e⟩:=ve z
  obtain ⟨f0,f1,f2,_⟩:=hf p.1 hb
  obtain ⟨o,e',d⟩:=ho p.1 hb
  rw [e] at e';cases e'
  exact ⟨e,f0,f1,f2,d⟩
theorem Inv.unpinned{pins pl:List (Addr×Obj)}{σ:St}{H:Hp}{s:Shared}(I:Inv X (pins++pl) σ H s):Inv X pins σ H s:=I.pins_of fun p hp=>I.pin p (aav _ (List.mem_append_left _ hp))
theorem y3{iter:Expr}{body:List Stmt}{wi:TI}{g:TG}{tb:TS}{pos:Pos}(hp:PassesOwn (model X.prog X.w) X.A X.env X.xe)(hc:X.calm=true)(hi:PI X tg iter wi)(hg:PG X tg g)(hb:PSs X body tb)
  (hs:∀x,foldedSetIterable iter X.env x=pure x:=by intro _;rfl):PS X (.For tg iter body [] pos) (Ho wi g tb):=by
 intro pins s σ H D I h
 refine wpAny_For (thn (hi pins s σ H _ I h) fun v s1 h1=>thn h1 fun itv s2 h2=> ?_) hs
 obtain ⟨it,fp,tn,J,H2,e,I2,T,st2,f2,W,⟨m0,w0⟩,turn⟩:=h2
 subst e
 have stat:∀{H':Hp},(∀b∈fp,H' b=none)→∀b∈fp,tG X pins H' b:=fun hn b hb=>⟨hn b hb,(f2 b hb).2⟩
 refine codeAny_forLoop_any (fun n s'=>∃i σ' H',Inv X pins σ' H' s'∧tn i s'.heap∧(∀b∈fp,H' b=none)∧W i n σ' H') ?_ m0 ⟨0,σ,H2,I2,st2,fun b hb=>(f2 b hb).1,w0⟩
 rintro n s3 ⟨i,σ3,H3,I3,st3,fr3,w3⟩
 rcases turn i n σ3 H3 w3 with ⟨stop,qn⟩ | ⟨go,N,hN,step⟩
 ·refine wpAny_passesOwn hp (thn (T.done X rfl rfl rfl hc i pins s3 σ3 H3 X.xe I3 (stat fr3) st3 stop) fun r s4 ⟨hr,I4⟩=> ?_)
  subst hr
  exact wpAny_execs_nil ⟨σ3,H3,I4,qn⟩
 ·refine wpAny_passesOwn hp (thn (T.item X rfl rfl rfl hc i pins s3 σ3 H3 X.xe I3 (stat fr3) st3 go) fun r s4 ⟨u,hr,h4⟩=> ?_)
  subst hr
  refine wpAny_passesOwn hp (thn h4 fun _ s5 ⟨x,H5,I5,r5,y5,st5,fr5⟩=> ?_)
  have I5':=I5.pinned (stat fr5) (T.obj _ _ st5)
  refine wpAny_passesOwn hp (thn (hg _ s5 σ3 H5 x u _ I5' r5 (step x H5 y5)) fun _ s6 ⟨σ6,H6,I6,q6⟩=> ?_)
  refine wpAny_passesOwn hp (thn (hb _ s6 σ6 H6 _ I6 q6) fun f s7 q7=> ?_)
  have again:∀{σ7:St} {H7:Hp},Inv X (pins++qJ fp s5.heap) σ7 H7 s7→N σ7 H7→∃m,m < n∧∃i σ' H',Inv X pins σ' H' s7∧tn i s7.heap∧(∀b∈fp,H' b=none)∧W i m σ' H':=fun {σ7 H7} I7 n7=>by
   obtain ⟨m',hm,w7⟩:=hN σ7 H7 n7
   refine ⟨m',hm,i+1,σ7,H7,I7.unpinned,T.keep _ _ _ st5 fun b hb o e=>(I7.pin (b,o) (aav _ (aav _ (df hb e)))).1,fun b hb=> ?_,w7⟩
   obtain ⟨o,e,d⟩:=T.obj _ _ st5 b hb
   exact (I7.pin (b,o) (aav _ (aav _ (df hb e)))).2.1
  cases f with
  | next=>obtain ⟨σ7,H7,I7,n7⟩:=q7;exact again I7 n7
  | cont=>obtain ⟨σ7,H7,I7,n7⟩:=q7;exact again I7 n7
  | brk=>obtain ⟨σ7,H7,I7,q7⟩:=q7;exact ⟨σ7,H7,I7.unpinned,q7⟩
  | ret v=>obtain ⟨x7,σ7,H7,I7,r7,q7⟩:=q7;exact ⟨x7,σ7,H7,I7.unpinned,r7,q7⟩
end
abbrev R2:=V→V→Hp→VK→Prop
def OpR(X:Cx)(f:Value→Value→Sem Value)(r:R2):Prop:=
 ∀(pins:List (Addr×Obj)) (s:Shared) (σ:St) (H:Hp) (x y:V) (v u:Value) (Q:VK),Inv X pins σ H s→bx x v→bx y u→r x y H Q→
  wpAny (model X.prog X.w) X.A (f v u) (EP X pins σ Q) X.xe s
def UnR(X:Cx)(f:Value→Sem Value)(r:V→Hp→VK→Prop):Prop:=
 ∀(pins:List (Addr×Obj)) (s:Shared) (σ:St) (H:Hp) (x:V) (v:Value) (Q:VK),Inv X pins σ H s→bx x v→r x H Q→
  wpAny (model X.prog X.w) X.A (f v) (EP X pins σ Q) X.xe s
def eS(X:Cx)(f:Value)(r:List V→Hp→VK→Prop):Prop:=
 ∀(pins:List (Addr×Obj)) (s:Shared) (σ:St) (H:Hp) (xs:List V) (us:List Value) (Q:VK),Inv X pins σ H s→bF xs us→r xs H Q→
  wpAny (model X.prog X.w) X.A (call f us) (EP X pins σ Q) X.xe s
def tOp(r:R2)(ta tb:TE):TE:=fun σ H Q=>ta σ H fun x H1=>tb σ H1 fun y H2=>r x y H2 Q
def tUn(r:V→Hp→VK→Prop)(ta:TE):TE:=fun σ H Q=>ta σ H fun x H1=>r x H1 Q
def rI(C:Int→Int→Prop)(g:Int→Int→V):R2:=fun x y H Q=>∃i j,x= .int i∧y= .int j∧C i j∧Q (g i j) H
def rI0(g:Int→Int→V):R2:=fun x y H Q=>∃i j,x= .int i∧y= .int j∧Q (g i j) H
def rU(g:Int→V):V→Hp→VK→Prop:=fun x H Q=>∃i,x= .int i∧Q (g i) H
section
variable{X:Cx}{a b c:Expr}{ta tb tc:TE}{pos:Pos}
theorem FR(ha:PE X a ta)(hb:PE X b tb){pins:List (Addr×Obj)}{s:Shared}{σ:St}{H:Hp}{R:V→V→Hp→Prop}(I:Inv X pins σ H s)
  (h:ta σ H fun x H1=>tb σ H1 fun y H2=>R x y H2) {Q:Value→Shared→Prop} {f:Value→Value→Sem Value}
  (hf:∀v u s2 x y H2,Inv X pins σ H2 s2→bx x v→bx y u→R x y H2→wpAny (model X.prog X.w) X.A (f v u) Q X.xe s2):
  wpAny (model X.prog X.w) X.A (eval a X.env) (fun v s₁=>wpAny (model X.prog X.w) X.A (eval b X.env) (fun u s₂=>wpAny (model X.prog X.w) X.A (f v u) Q X.xe s₂) X.xe s₁) X.xe s:=by
 refine thn (ha pins s σ H _ I h) fun v s1 ⟨x,H1,I1,r1,q1⟩=> ?_
 refine thn (hb pins s1 σ H1 _ I1 q1) fun u s2 ⟨y,H2,I2,r2,q2⟩=> ?_
 exact hf v u s2 x y H2 I2 r1 r2 q2
theorem EV{op:Operator}{r:R2}(ho:OpR X (binaryOp op) r)(ha:PE X a ta)(hb:PE X b tb):PE X (.BinOp a op b pos) (tOp r ta tb):=by
 intro pins s σ H Q I h
 exact wpAny_BinOp (FR ha hb I h fun v u s2 x y H2 I2 rx ry q=>ho pins s2 σ H2 x y v u Q I2 rx ry q)
theorem EU{op:UnaryOp}{r:V→Hp→VK→Prop}(ho:UnR X (unaryOp op) r)(ha:PE X a ta):PE X (.UnaryOp op a pos) (tUn r ta):=by
 intro pins s σ H Q I h
 exact UnaryOp_ (thn (ha pins s σ H _ I h) fun v s1 ⟨x,H1,I1,r1,q1⟩=>ho pins s1 σ H1 x v Q I1 r1 q1)
theorem opI{f:Value→Value→Sem Value}{C:Int→Int→Prop}{g:Int→Int→Int}
  (rule:∀(i j:Int) (t u:Tok) (s:Shared) (Q:Value→Shared→Prop) (E:Value→Shared→Prop),C i j→Q (.int (g i j) s.toks) {s with toks:=s.toks+1}→wpAny (model X.prog X.w) X.A (f (.int i t) (.int j u)) Q E s):
  OpR X f (rI C fun i j=> .int (g i j)):=by
 intro pins s σ H x y v u Q I rx ry h
 obtain ⟨i,j,rfl,rfl,hc,q⟩:=h
 obtain ⟨t,rfl⟩:=rx
 obtain ⟨t',rfl⟩:=ry
 exact rule i j t t' s _ _ hc ⟨.int (g i j),H,I.tok _,⟨_,rfl⟩,q⟩
theorem GB{f:Value→Value→Sem Value}{g:Int→Int→Int}
  (rule:∀(i j:Int) (t u:Tok) (s:Shared) (Q:Value→Shared→Prop) (E:Value→Shared→Prop),Q (.int (g i j) s.toks) {s with toks:=s.toks+1}→wpAny (model X.prog X.w) X.A (f (.int i t) (.int j u)) Q E s):
  OpR X f (rI0 fun i j=> .int (g i j)):=by
 intro pins s σ H x y v u Q I rx ry h
 obtain ⟨i,j,rfl,rfl,q⟩:=h
 obtain ⟨t,rfl⟩:=rx
 obtain ⟨t',rfl⟩:=ry
 exact rule i j t t' s _ _ ⟨.int (g i j),H,I.tok _,⟨_,rfl⟩,q⟩
theorem Ea{f:Value→Value→Sem Value}{g:Int→Int→Bool}
  (rule:∀(i j:Int) (t u:Tok) (s:Shared) (Q:Value→Shared→Prop) (E:Value→Shared→Prop),Q (.bool (g i j)) s→wpAny (model X.prog X.w) X.A (f (.int i t) (.int j u)) Q E s):
  OpR X f (rI0 fun i j=> .bl (g i j)):=by
 intro pins s σ H x y v u Q I rx ry h
 obtain ⟨i,j,rfl,rfl,q⟩:=h
 obtain ⟨t,rfl⟩:=rx
 obtain ⟨t',rfl⟩:=ry
 exact rule i j t t' s _ _ ⟨.bl (g i j),H,I,rfl,q⟩
def zU(i j:Int):Prop:=0≤j∧j≤1000000∧i.natAbs < 2 ^ 64
theorem CJ:OpR X (binaryOp .Add) (rI0 fun i j=> .int (i+j)):=GB fun _ _ _ _ _ _ _ q=>add_int q
theorem Cy:OpR X (binaryOp .Sub) (rI0 fun i j=> .int (i - j)):=GB fun _ _ _ _ _ _ _ q=>sub_int q
theorem CB:OpR X (binaryOp .Mod) (rI (fun _ j=>0 < j) fun i j=> .int (i % j)):=opI fun i j _ _ _ _ _ hc q=>by
 have h1:(0:Int) < j:=hc
 exact mod_int' (by omega) (by rw [abo i (by omega)];exact q)
theorem Cz:OpR X (binaryOp .Pow) (rI zU fun i j=> .int (i ^ j.toNat)):=opI fun _ _ _ _ _ _ _ hc q=>pow_int_small hc.1 hc.2.1 hc.2.2 q
theorem unI{f:Value→Sem Value}{g:Int→Int}
  (rule:∀(i:Int) (t:Tok) (s:Shared) (Q:Value→Shared→Prop) (E:Value→Shared→Prop),Q (.int (g i) s.toks) {s with toks:=s.toks+1}→wpAny (model X.prog X.w) X.A (f (.int i t)) Q E s):
  UnR X f (rU fun i=> .int (g i)):=by
 intro pins s σ H x v Q I rx h
 obtain ⟨i,rfl,q⟩:=h
 obtain ⟨t,rfl⟩:=rx
 exact rule i t s _ _ ⟨.int (g i),H,I.tok _,⟨_,rfl⟩,q⟩
theorem BL:UnR X (unaryOp .USub) (rU fun i=> .int (-i)):=unI fun _ _ _ _ _ q=>neg_int q
end
def Gn:V→V→Bool
 | .non, .non=>true | .non, .int _=>true | .int _, .non=>true | .non, .bl _=>true | .bl _, .non=>true | .non, .str _=>true | .str _, .non=>true
 | .int _, .int _=>true | .bl _, .bl _=>true | .str _, .str _=>true | .byt _, .byt _=>true
 | .int _, .str _=>true | .str _, .int _=>true | .bl _, .str _=>true | .str _, .bl _=>true
 | _,_=>false
def rEq:R2:=fun x y H Q=>Gn x y=true∧Q (.bl (decide (x=y))) H
def rNe:R2:=fun x y H Q=>Gn x y=true∧Q (.bl (!decide (x=y))) H
theorem wg{i j:Int}:decide (V.int i=V.int j)=(i==j):=by
 rw [Bool.eq_iff_iff]
 simp
theorem zC{i j:Bool}:decide (V.bl i=V.bl j)=(i==j):=by
 rw [Bool.eq_iff_iff]
 simp
theorem we{i j:Str}:decide (V.str i=V.str j)=(i==j):=by
 rw [Bool.eq_iff_iff]
 simp
theorem wj{i j:Array UInt8}:decide (V.byt i=V.byt j)=(i.toList==j.toList):=by
 rw [Bool.eq_iff_iff]
 cases i
 cases j
 simp
section
variable{X:Cx}{a b c:Expr}{ta tb tc:TE}{pos:Pos}
theorem aW{pins:List (Addr×Obj)}{σ:St}{H:Hp}{s:Shared}{Q:VK}{k k':Bool}(I:Inv X pins σ H s)(q:Q (.bl k) H)(e:k=k'):EP X pins σ Q (.bool k') s:=by
 subst e
 exact ⟨.bl k,H,I,rfl,q⟩
theorem CH:OpR X (compareOp .Eq) rEq:=by
 intro pins s σ H x y v u Q I rx ry h
 obtain ⟨hs,q⟩:=h
 cases x with
 | non=>
  cases rx
  cases y with
  | non=>cases ry;exact PySem.EqNone.eq_none_none (aW I q (by simp))
  | bl j=>cases ry;exact PySem.EqNone.eq_none_bool (aW I q (by simp))
  | int j=>obtain ⟨t',rfl⟩:=ry;exact PySem.EqNone.eq_none_int (aW I q (by simp))
  | str j=>obtain ⟨t',rfl⟩:=ry;exact PySem.EqNone.eq_none_str (aW I q (by simp))
  | _=>exact absurd (show false=true from hs) aaq
 | bl i=>
  cases rx
  cases y with
  | non=>cases ry;exact PySem.EqNone.eq_bool_none (aW I q (by simp))
  | bl j=>cases ry;exact eq_bool (aW I q zC)
  | str j=>obtain ⟨t',rfl⟩:=ry;exact PySem.EqMixed.eq_bool_str (aW I q (by simp))
  | _=>exact absurd (show false=true from hs) aaq
 | int i=>
  obtain ⟨t,rfl⟩:=rx
  cases y with
  | non=>cases ry;exact PySem.EqNone.eq_int_none (aW I q (by simp))
  | int j=>obtain ⟨t',rfl⟩:=ry;exact eq_int (aW I q wg)
  | str j=>obtain ⟨t',rfl⟩:=ry;exact PySem.EqMixed.eq_int_str (aW I q (by simp))
  | _=>exact absurd (show false=true from hs) aaq
 | str i=>
  obtain ⟨t,rfl⟩:=rx
  cases y with
  | non=>cases ry;exact PySem.EqNone.eq_str_none (aW I q (by simp))
  | bl j=>cases ry;exact PySem.EqMixed.eq_str_bool (aW I q (by simp))
  | int j=>obtain ⟨t',rfl⟩:=ry;exact PySem.EqMixed.eq_str_int (aW I q (by simp))
  | str j=>obtain ⟨t',rfl⟩:=ry;exact eq_str (aW I q we)
  | _=>exact absurd (show false=true from hs) aaq
 | byt i=>
  obtain ⟨t,rfl⟩:=rx
  cases y with
  | byt j=>obtain ⟨t',rfl⟩:=ry;exact PySem.W.eq_bytes (aW I q wj)
  | _=>exact absurd (show false=true from hs) aaq
 | _=>cases y <;> exact absurd (show false=true from hs) aaq
theorem E2:OpR X (compareOp .NotEq) rNe:=by
 intro pins s σ H x y v u Q I rx ry h
 obtain ⟨hs,q⟩:=h
 cases x with
 | non=>
  cases rx
  cases y with
  | non=>cases ry;exact PySem.EqNone.ne_none_none (aW I q (by simp))
  | bl j=>cases ry;exact PySem.EqNone.ne_none_bool (aW I q (by simp))
  | int j=>obtain ⟨t',rfl⟩:=ry;exact PySem.EqNone.ne_none_int (aW I q (by simp))
  | str j=>obtain ⟨t',rfl⟩:=ry;exact PySem.EqNone.ne_none_str (aW I q (by simp))
  | _=>exact absurd (show false=true from hs) aaq
 | bl i=>
  cases rx
  cases y with
  | non=>cases ry;exact PySem.EqNone.ne_bool_none (aW I q (by simp))
  | bl j=>cases ry;exact ne_bool (aW I q (congrArg not zC))
  | str j=>obtain ⟨t',rfl⟩:=ry;exact PySem.EqMixed.ne_bool_str (aW I q (by simp))
  | _=>exact absurd (show false=true from hs) aaq
 | int i=>
  obtain ⟨t,rfl⟩:=rx
  cases y with
  | non=>cases ry;exact PySem.EqNone.ne_int_none (aW I q (by simp))
  | int j=>obtain ⟨t',rfl⟩:=ry;exact ne_int (aW I q (congrArg not wg))
  | str j=>obtain ⟨t',rfl⟩:=ry;exact PySem.EqMixed.ne_int_str (aW I q (by simp))
  | _=>exact absurd (show false=true from hs) aaq
 | str i=>
  obtain ⟨t,rfl⟩:=rx
  cases y with
  | non=>cases ry;exact PySem.EqNone.ne_str_none (aW I q (by simp))
  | bl j=>cases ry;exact PySem.EqMixed.ne_str_bool (aW I q (by simp))
  | int j=>obtain ⟨t',rfl⟩:=ry;exact PySem.EqMixed.ne_str_int (aW I q (by simp))
  | str j=>obtain ⟨t',rfl⟩:=ry;exact ne_str (aW I q (congrArg not we))
  | _=>exact absurd (show false=true from hs) aaq
 | byt i=>
  obtain ⟨t,rfl⟩:=rx
  cases y with
  | byt j=>obtain ⟨t',rfl⟩:=ry;exact PySem.W.ne_bytes (aW I q (congrArg not wj))
  | _=>exact absurd (show false=true from hs) aaq
 | _=>cases y <;> exact absurd (show false=true from hs) aaq
theorem CC:OpR X (compareOp .Lt) (rI0 fun i j=> .bl (decide (i < j))):=Ea fun _ _ _ _ _ _ _ q=>lt_int q
theorem E3:OpR X (compareOp .LtE) (rI0 fun i j=> .bl (decide (i≤j))):=Ea fun _ _ _ _ _ _ _ q=>le_int q
theorem E4:OpR X (compareOp .Gt) (rI0 fun i j=> .bl (decide (j < i))):=Ea fun _ _ _ _ _ _ _ q=>gt_int q
theorem E5:OpR X (compareOp .GtE) (rI0 fun i j=> .bl (decide (j≤i))):=Ea fun _ _ _ _ _ _ _ q=>ge_int q
theorem CD:OpR X (compareOp .Is) (fun x y H Q=>y= .non∧Q (.bl (decide (x= .non))) H):=by
 intro pins s σ H x y v u Q I rx ry h
 obtain ⟨rfl,q⟩:=h
 cases ry
 refine is_none_gen (aW I q ?_)
 cases x <;> first
  | (cases rx;rfl)
  | (obtain ⟨t,rfl⟩:=rx;rfl)
theorem AF:OpR X (compareOp .IsNot) (fun x y H Q=>y= .non∧Q (.bl (!decide (x= .non))) H):=by
 intro pins s σ H x y v u Q I rx ry h
 obtain ⟨rfl,q⟩:=h
 cases ry
 refine isnot_none_gen (aW I q ?_)
 cases x <;> first
  | (cases rx;rfl)
  | (obtain ⟨t,rfl⟩:=rx;rfl)
theorem OpR.or{f:Value→Value→Sem Value}{r r':R2}(h:OpR X f r)(h':OpR X f r'):OpR X f (fun x y H Q=>r x y H Q∨r' x y H Q):=by
 intro pins s σ H x y v u Q I rx ry q
 rcases q with q | q
 ·exact h pins s σ H x y v u Q I rx ry q
 ·exact h' pins s σ H x y v u Q I rx ry q
theorem fL(b:Expr){op:CmpOp}(h:op≠ .In:=by decide)(h2:op≠ .NotIn:=by decide):behindInMarks op b=false:=by
 have e1:(op==CmpOp.In)=false:=by cases op <;> first | rfl | exact absurd rfl h
 have e2:(op==CmpOp.NotIn)=false:=by cases op <;> first | rfl | exact absurd rfl h2
 cases b <;> simp [behindInMarks,e1,e2]
theorem Az{op:CmpOp}{r:R2}(ho:OpR X (compareOp op) r)(ha:PE X a ta)(hb:PE X b tb)(hm:behindInMarks op b=false):PE X (.Compare a [op] [b] pos) (tOp r ta tb):=by
 intro pins s σ H Q I h
 exact wpAny_Compare1 (FR ha hb I h fun v u s2 x y H2 I2 rx ry q=>ho pins s2 σ H2 x y v u Q I2 rx ry q) hm
def Er(t:TE):TT:=fun σ H Q=>t σ H fun x H'=>∃k,x= .bl k∧Q k H'
theorem An{op:CmpOp}{r:R2}(ho:OpR X (compareOp op) r)(ha:PE X a ta)(hb:PE X b tb)(hm:behindInMarks op b=false):PT X (.Compare a [op] [b] pos) (Er (tOp r ta tb)):=by
 intro pins s σ H Q I h
 refine wpAny_isTrue_Compare1 (thn (ha pins s σ H _ I h) fun v s1 ⟨x,H1,I1,r1,q1⟩=>thn (hb pins s1 σ H1 _ I1 q1) fun u s2 ⟨y,H2,I2,r2,q2⟩=>
  thn (ho pins s2 σ H2 x y v u _ I2 r1 r2 q2) fun c s3 ⟨z,H3,I3,r3,k,e,q3⟩=> ?_) hm
 subst e
 cases r3
 exact wpAny_truthy_bool ⟨H3,I3,q3⟩
theorem ku:(sizeLine:Nat) < 2 ^ 63:=by rw [sizeLine_eq];decide
theorem sC:OpR X (binaryOp .Add) (fun x y H Q=>∃i j,x= .str i∧y= .str j∧i.length+j.length≤sizeLine∧Q (.str (i++j)) H):=by
 intro pins s σ H x y v u Q I rx ry h
 obtain ⟨i,j,rfl,rfl,hz,q⟩:=h
 obtain ⟨t,rfl⟩:=rx
 obtain ⟨t',rfl⟩:=ry
 exact add_str (fun t' tk=>⟨.str (i++j),H,I.tok _,⟨_,rfl⟩,q⟩) hz
theorem jO{x:V}{us:List Value}(r:bF [x] us):∃u,us=[u]∧bx x u:=by
 cases r with
 | cons r1 r2=>cases r2;exact ⟨_,rfl,r1⟩
theorem El{x y:V}{us:List Value}(r:bF [x,y] us):∃u w',us=[u,w']∧bx x u∧bx y w':=by
 cases r with
 | cons r1 r2=>
  cases r2 with
  | cons r3 r4=>cases r4;exact ⟨_,_,rfl,r1,r3⟩
theorem yz:eS X (.builtin "abs") (fun xs H Q=>∃i,xs=[.int i]∧Q (.int (if i < 0 then -i else i)) H):=by
 intro pins s σ H xs us Q I r h
 obtain ⟨i,rfl,q⟩:=h
 obtain ⟨u,rfl,t,rfl⟩:=jO r
 exact call_abs_int fun u tk=>⟨.int (if i < 0 then -i else i),H,I.tok _,⟨_,rfl⟩,q⟩
theorem wD:eS X (.type "int") (fun xs H Q=>(∃i,xs=[.int i]∧Q (.int i) H)∨∃k,xs=[.bl k]∧Q (.int (if k then 1 else 0)) H):=by
 intro pins s σ H xs us Q I r h
 rcases h with ⟨i,rfl,q⟩ | ⟨k,rfl,q⟩
 ·obtain ⟨u,rfl,t,rfl⟩:=jO r
  exact call_int_int ⟨.int i,H,I,⟨_,rfl⟩,q⟩
 ·obtain ⟨u,rfl,r1⟩:=jO r
  cases r1
  exact call_int_bool ⟨.int (if k then 1 else 0),H,I.tok _,⟨_,rfl⟩,q⟩
end
structure BE(h:Heap)(x dx C:Addr)(mA:Str→Option Value):Prop where
 obj:h.get? x=some (PySem.W.instObj C dx)
 ns:h.Ns1 dx mA
 ne:dx≠x
theorem vt{h:Heap}{dx:Addr}{mA:Str→Option Value}(n:h.Ns1 dx mA):∃od,h.get? dx=some od∧∀name,PySem.W.lookIn name od=some (mA name):=by
 obtain ⟨o,es,ep,ho,hd,hk,_,hm⟩:=n
 refine ⟨o,ho,fun name=> ?_⟩
 have e:=hm name
 unfold nsFind findBy at e
 rw [←Array.find?_toList] at e
 unfold PySem.W.lookIn
 rw [hd]
 dsimp only
 split
 ·rename_i y q
  rw [q] at e
  exact congrArg some e
 ·rename_i q
  rw [q] at e
  have a:es.toList.any (·.refKey)=false:=by
   rw [List.any_eq_false]
   intro y hy
   obtain ⟨z,t,hkey⟩:=hk y (Array.mem_toList_iff.mp hy)
   simp [DictEntry.refKey,hkey]
  have a':¬es.toList.any (·.refKey)=true:=by rw [a];exact aaq
  rw [if_neg a']
  exact congrArg some e
theorem BE.look{h:Heap}{x dx C:Addr}{mA:Str→Option Value}(I:BE h x dx C mA):∃od,PySem.W.InstAt h x (PySem.W.instObj C dx) C (some od)∧∀name,PySem.W.lookIn name od=some (mA name):=
 let ⟨od,ho,hl⟩:=vt I.ns
 ⟨od,⟨I.obj,rfl,rfl,ho⟩,hl⟩
section
variable{prog:Program}{w:World}{A:Around}{E:Value→Shared→Prop}{s:Shared}{K:PySem.W.Frag}{x dx C f:Addr}{mA:Str→Option Value}{name:Str}{v:Value}
theorem l7{expr:Bool}{Q:Value→Shared→Prop}(X:K.In s.heap)(I:BE s.heap x dx C mA)(hg:PySem.W.plainGet K C name=true)(hh:PySem.W.hasDictIn K C=true)
  (ha:PySem.W.findIn K (.ref C) name=some none) (hv:mA name=some v) (hv':PySem.W.handedIn v=true) (h:Q v {s with toks:=s.toks+1}):
  wpAny (model prog w) A (getAttr (.ref x) name expr) Q E s:=by
 obtain ⟨od,J,hl⟩:=I.look
 exact PySem.W.get_value X J (PySem.W.plainGet_of hg).1 (PySem.W.findObj_own hh ha rfl (by rw [hl,hv])) hv' h
theorem yh{pl:Sem Bool}{Q:Value×List Value→Shared→Prop}(X:K.In s.heap)(I:BE s.heap x dx C mA)(hg:PySem.W.plainGet K C name=true)
  (hf:PySem.W.findIn K (.ref C) name=some (some (.ref f))) (ht:PySem.W.isFn K (.ref f)=true) (hv:mA name=none) (h:Q (.ref f,[.ref x]) s):
  wpAny (model prog w) A (getMethod (.ref x) name pl) Q E s:=by
 obtain ⟨od,J,hl⟩:=I.look
 exact PySem.W.method_fn X J (PySem.W.plainGet_of hg).1 (PySem.W.plainGet_of hg).2 hf (beq_iff_eq.mp ht) (by show (PySem.W.lookIn name od).map (·.isSome)=some false;rw [hl,hv];rfl) h
theorem Ae{ns:List Str}{Q:Unit→Shared→Prop}(X:K.In s.heap)(I:BE s.heap x dx C mA)
  (hs:PySem.W.findIn K (.ref C) "__setattr__"=some (some (.builtin "object.__setattr__"))) (hp:PySem.W.plainOver K C=true) (ht:PySem.W.takerIn K C name=some none) (hh:PySem.W.hasDictIn K C=true)
  (hw:PySem.Within mA ns) (hsz:ns.length≤sizeLine)
  (h:∀h',BE h' x dx C (fun y=>if y=name then some v else mA y)→Heap.SameBut dx s.heap h'→Q () {s with heap:=h',toks:=s.toks+2}):
  wpAny (model prog w) A (setAttr (.ref x) name v) Q E s:=by
 obtain ⟨od,J,hl⟩:=I.look
 refine PySem.W.set_plain X J hs (PySem.W.osa_open (s:={s with toks:=s.toks+1}) (r:=none) X J hp ht fun b=> ?_)
 obtain ⟨cd,hc,hd'⟩:=PySem.W.any_some hh
 have hx:s.heap.get? x=some ⟨.ref C,some dx, .plain, #[]⟩:=I.obj
 refine wpAny_bind (wpAny_pure (wpAny_bind (wpAny_bind (wpAny_loadPart hx (wpAny_bind (PySem.W.Looks.here (s:={s with toks:=s.toks+1}) (PySem.W.looks_clsIn X hc) ?_))))))
 rw [hd']
 refine wpAny_pure (a:=some dx) (wpAny_bind (wpAny_pure (wpAny_bind ?_)))
 refine wpAny_nsSet1 (s:={s with toks:=s.toks+1}) I.ns fun h' hn2 hs2=> ?_
 obtain ⟨oD,esD,epD,hoD,hdD,hcD⟩:=hn2.count (PySem.Within.cons name v hw)
 refine wpAny_bind (wpAny_lookBehind hoD (by rw [hdD];exact pastItsLine_dict (aau hcD (by rw [aat];omega))) ?_)
 exact wpAny_pure (h _ ⟨(hs2.2 _ (Ne.symm I.ne)).trans I.obj,hn2,I.ne⟩ hs2)
theorem xX{R:Result→Shared→Prop}{vs:List Value}{kw:List (Str×Value)}(X:K.In s.heap)(hm:PySem.W.makesIn K C=true)
  (hi:PySem.W.findIn K (.ref C) "__init__"=some (some (.ref f))) (hf:PySem.W.typeIn K (.ref f)=some (.type "function"))
  (h:codeAny (model prog w) (A.under (.builtin "type.__call__" ⟨.ref C::vs,kw⟩)) (.call (.ref f) ⟨.ref (s.heap.objs.size+1)::vs,kw⟩) (PySem.W.InitBack (s.heap.objs.size+1) R)
   {s with heap:=(s.heap.push PySem.W.emptyDict).push (PySem.W.instObj C s.heap.objs.size)}):
  codeAny (model prog w) A (.call (.ref C) ⟨vs,kw⟩) R s:=by
 obtain ⟨hh,g,d,t,os⟩:=s
 exact PySem.W.make_core (PySem.W.makes_of X hm) (PySem.W.looks_findIn X hi) (fun self=>PySem.W.bind_fn X self hf) (.inl rfl) h
end
def my(f:Str)(v:V):List (Str×V)→List (Str×V)
 | []=>[(f,v)]
 | (g,x)::r=>if g=f then (g,v)::r else (g,x)::my f v r
theorem je(f g:Str)(v:V):∀fs:List (Str×V),(my f v fs).lookup g=if g=f then some v else fs.lookup g
 | []=>by
  show List.lookup g [(f,v)]=_
  by_cases h:g=f
  ·have hb:(g==f)=true:=beq_iff_eq.mpr h
   simp only [List.lookup,hb,if_pos h]
  ·have hb:(g==f)=false:=beq_eq_false_iff_ne.mpr h
   simp only [List.lookup,hb,if_neg h]
 | (k,x)::r=>by
  have ih:=je f g v r
  rw [show my f v ((k,x)::r)=(if k=f then (k,v)::r else (k,x)::my f v r) from rfl]
  by_cases hk:k=f
  ·rw [if_pos hk]
   by_cases h:g=k
   ·have hb:(g==k)=true:=beq_iff_eq.mpr h
    simp only [List.lookup,hb,if_pos (h.trans hk)]
   ·have hb:(g==k)=false:=beq_eq_false_iff_ne.mpr h
    simp only [List.lookup,hb,if_neg (fun e:g=f=>h (e.trans hk.symm))]
  ·rw [if_neg hk]
   by_cases h:g=k
   ·have hb:(g==k)=true:=beq_iff_eq.mpr h
    simp only [List.lookup,hb,if_neg (fun e:g=f=>hk (h.symm.trans e))]
   ·have hb:(g==k)=false:=beq_eq_false_iff_ne.mpr h
    simp only [List.lookup,hb]
    exact ih
theorem ji(f:Str)(v:V):∀fs:List (Str×V),f∈(my f v fs).map (·.1)∧∀g,g∈fs.map (·.1)→g∈(my f v fs).map (·.1)
 | []=>⟨by simp [my],fun g h=>by simp at h⟩
 | (k,x)::r=>by
  obtain ⟨i1,i2⟩:=ji f v r
  rw [show my f v ((k,x)::r)=(if k=f then (k,v)::r else (k,x)::my f v r) from rfl]
  by_cases hk:k=f
  ·rw [if_pos hk]
   subst hk
   exact ⟨by simp,fun g h=>by simpa using h⟩
  ·rw [if_neg hk]
   refine ⟨?_,fun g h=> ?_⟩
   ·rw [aaI]
    exact aad _ i1
   ·rw [aaI] at h⊢
    rcases aaG.mp h with e | e
    ·exact aaG.mpr (.inl e)
    ·exact aad _ (i2 g e)
theorem jf(f:Str)(v:V):∀fs:List (Str×V),(my f v fs).length≤fs.length+1
 | []=>by simp [my]
 | (k,x)::r=>by
  have ih:=jf f v r
  rw [show my f v ((k,x)::r)=(if k=f then (k,v)::r else (k,x)::my f v r) from rfl]
  by_cases hk:k=f
  ·rw [if_pos hk,aat,aat];omega
  ·rw [if_neg hk,aat,aat];omega
theorem mB.some_of{v:V}{o:Option Value}(r:mB (some v) o):∃u,o=some u∧bx v u:=by
 cases o with
 | none=>exact (show False from r).elim
 | some u=>exact ⟨u,rfl,r⟩
theorem mB.none_of{o:Option Value}(r:mB none o):o=none:=by
 cases o with
 | none=>rfl
 | some u=>exact (show False from r).elim
theorem vO{v:V}{u:Value}(r:bx v u):PySem.W.handedIn u=true:=by
 cases v with
 | non=>cases (show u=Value.none from r);rfl
 | bl b=>cases (show u=Value.bool b from r);rfl
 | int i=>obtain ⟨t,e⟩:=(show∃t,u=Value.int i t from r);cases e;rfl
 | str x=>obtain ⟨t,e⟩:=(show∃t,u=Value.str x t from r);cases e;rfl
 | byt b=>obtain ⟨t,e⟩:=(show∃t,u=Value.bytes b t from r);cases e;rfl
 | flt b=>obtain ⟨t,e⟩:=(show∃t,u=Value.float b t from r);cases e;rfl
 | ref a=>cases (show u=Value.ref a from r);rfl
 | ty n=>cases (show u=Value.type n from r);rfl
section
variable{P:Program}{w:World}{H H':Hp}{h h':Heap}{a C dx:Addr}{fs fs':List (Str×V)}
theorem lZ(hok:HOk P w H h)(e:H a=some (.ins C dx fs)):∃mA,BE h a dx C mA∧(∀f,mB (fs.lookup f) (mA f))∧PySem.Within mA (fs.map (·.1))∧fs.length≤1000∧H dx=some (.own a):=by
 obtain ⟨d,z,ne,ob,mA,n,r,q⟩:=(show cf P w H h a (.ins C dx fs) from hok a _ e)
 exact ⟨mA,⟨ob,n,ne⟩,r,q,z,d⟩
end
structure Cls(K:PySem.W.Frag)(C:Addr):Prop where
 pg:PySem.W.plainGet K C Str.empty=true
 hd:PySem.W.hasDictIn K C=true
 po:PySem.W.plainOver K C=true
 sa:PySem.W.findIn K (.ref C) "__setattr__"=some (some (.builtin "object.__setattr__"))
theorem Cls.get{K:PySem.W.Frag}{C:Addr}(c:Cls K C)(f:Str):PySem.W.plainGet K C f=true:=c.pg
def fQ(K:PySem.W.Frag)(C:Addr)(f:Str):Prop:=PySem.W.findIn K (.ref C) f=some none
theorem fQ.taker{K:PySem.W.Frag}{C:Addr}{f:Str}(n:fQ K C f):PySem.W.takerIn K C f=some none:=by
 unfold PySem.W.takerIn
 rw [show PySem.W.findIn K (.ref C) f=some none from n]
 rfl
structure Ej(K:PySem.W.Frag)(C:Addr)(m:Str)(f:Addr):Prop where
 at_:PySem.W.findIn K (.ref C) m=some (some (.ref f))
 fn:PySem.W.isFn K (.ref f)=true
 kp:PySem.W.keepIn K (.ref f)=true
section
variable{X:Cx}{pins:List (Addr×Obj)}{σ:St}{H:Hp}{s:Shared}{a C dx:Addr}{fs:List (Str×V)}{f:Str}{v:V}{A:Around}{E:Value→Shared→Prop}
theorem sW{b:Bool}{Q:Value→Shared→Prop}(I:Inv X pins σ H s)(e:H a=some (.ins C dx fs))(c:Cls X.K C)(n:fQ X.K C f)(l:fs.lookup f=some v)
  (h:∀u s',Inv X pins σ H s'→bx v u→Q u s'):wpAny (model X.prog X.w) A (getAttr (.ref a) f b) Q E s:=by
 obtain ⟨mA,O,r,_,_,_⟩:=lZ I.hok e
 obtain ⟨u,hu,ru⟩:=mB.some_of (v:=v) (o:=mA f) (by rw [←l];exact r f)
 exact l7 I.kIn O (c.get f) c.hd n hu (vO ru) (h u _ (I.tok _) ru)
theorem kD{m:Str}{g:Addr}{pl:Sem Bool}{Q:Value×List Value→Shared→Prop}(I:Inv X pins σ H s)(e:H a=some (.ins C dx fs))(c:Cls X.K C)(k:Ej X.K C m g)(l:fs.lookup m=none)
  (h:Q (.ref g,[.ref a]) s):wpAny (model X.prog X.w) A (getMethod (.ref a) m pl) Q E s:=by
 obtain ⟨mA,O,r,_,_,_⟩:=lZ I.hok e
 have hn:mA m=none:=mB.none_of (by rw [←l];exact r m)
 exact yh I.kIn O (c.get m) k.at_ k.fn hn h
theorem sf{y:V}{u:Value}{Q:Unit→Shared→Prop}(I:Inv X pins σ H s)(e:H a=some (.ins C dx fs))(c:Cls X.K C)(n:fQ X.K C f)(hl:fs.length < 1000)(ry:bx y u)
  (h:∀s',Inv X pins σ (upd H a (.ins C dx (my f y fs))) s'→Q () s'):wpAny (model X.prog X.w) A (setAttr (.ref a) f u) Q E s:=by
 obtain ⟨mA,O,r,wi,_,ho⟩:=lZ I.hok e
 have hz:(fs.map (·.1)).length≤sizeLine:=by rw [aac,sizeLine_eq];omega
 refine Ae I.kIn O c.sa c.po n.taker c.hd wi hz fun h' O' sb=>h _ ?_
 have hd:∃o,h'.get? dx=some o:=let ⟨o,_,_,e',_⟩:=O'.ns;⟨o,e'⟩
 refine I.write (x:=a) (e:=dx) (by rw [e];exact True.intro) (.inr ho) (fun b q hb z=>(sb.2 b hb).trans z) hd ?_
 refine ⟨by rw [aw O.ne];exact ho, ?_,O.ne,O'.obj,_,O'.ns,fun g=> ?_,fun g hg=> ?_⟩
 ·have:=jf f y fs;omega
 ·show mB ((my f y fs).lookup g) (if g=f then some u else mA g)
  rw [je]
  by_cases q:g=f
  ·rw [if_pos q,if_pos q];exact ry
  ·rw [if_neg q,if_neg q];exact r g
 ·by_cases q:g=f
  ·rw [q];exact (ji f y fs).1
  ·refine (ji f y fs).2 g (wi g fun z=>hg ?_)
   show (if g=f then some u else mA g)=none
   rw [if_neg q];exact z
theorem Inv.made(I:Inv X pins σ H s):Inv X pins σ (upd (upd H s.heap.objs.size (.own (s.heap.objs.size+1))) (s.heap.objs.size+1) (.ins C s.heap.objs.size []))
  {s with heap:=(s.heap.push PySem.W.emptyDict).push (PySem.W.instObj C s.heap.objs.size)}:=by
 have e1:(s.heap.push PySem.W.emptyDict).get? s.heap.objs.size=some PySem.W.emptyDict:=Heap.get?_push_size s.heap rfl
 have e2:((s.heap.push PySem.W.emptyDict).push (PySem.W.instObj C s.heap.objs.size)).get? (s.heap.objs.size+1)=some (PySem.W.instObj C s.heap.objs.size):=by
  have:=Heap.get?_push_size (s.heap.push PySem.W.emptyDict) (o:=PySem.W.instObj C s.heap.objs.size) rfl
  rwa [Heap.size_push] at this
 have e3:(s.heap.push PySem.W.emptyDict).Ns s.heap.objs.size (fun _=>none):=⟨PySem.W.emptyDict, #[],_,e1,rfl,(fun e he=>absurd he (by simp)),fun _=>rfl⟩
 have I1:=I.laid (a:=s.heap.objs.size) (o:= .own (s.heap.objs.size+1)) (h':=s.heap.push PySem.W.emptyDict) (t':=s.toks) (fun b u q=>Heap.get?_push_of_some _ q) (aah _) ⟨_,e1⟩
 refine I1.laid (a:=s.heap.objs.size+1) (o:= .ins C s.heap.objs.size []) (t':=s.toks) (fun b u q=>Heap.get?_push_of_some _ q) (Nat.le_of_eq (Heap.size_push _ _)) ?_
 have ne:s.heap.objs.size≠s.heap.objs.size+1:=aaz (abi _)
 refine ⟨by rw [aw ne,aD],abJ _,ne,e2,fun _=>none,(Heap.Ns1.of_empty e3).at fun o q=>Heap.get?_push_of_some _ q,fun _=>True.intro,fun y hy=>absurd rfl hy⟩
theorem Bx{prog:Program}{w:World}{env:Env}{e:Expr}{f:Str}{pos:Pos}{s:Shared}{Q:Value→Shared→Prop}(hb:attributeBase e f env (eval e env)=eval e env)
  (h:wpAny (model prog w) A (eval e env) (fun o s₁=>wpAny (model prog w) A (getAttr o f true) Q E s₁) E s):wpAny (model prog w) A (eval (.Attribute e f pos) env) Q E s:=
 Attribute_any_ h (by rw [arm_eval_Attribute,hb])
end
def Hq(K:PySem.W.Frag)(ta:TE)(f:Str):TE:=fun σ H Q=>ta σ H fun x H1=>∃a C dx fs v,x= .ref a∧H1 a=some (.ins C dx fs)∧Cls K C∧fQ K C f∧fs.lookup f=some v∧Q v H1
def Hu(K:PySem.W.Frag)(ta tv:TE)(f:Str):TS:=fun D σ H=>tv σ H fun y H1=>ta σ H1 fun x H2=>∃a C dx fs,x= .ref a∧H2 a=some (.ins C dx fs)∧Cls K C∧fQ K C f∧fs.length < 1000∧
 D.nx σ (upd H2 a (.ins C dx (my f y fs)))
section
variable{X:Cx}{o e value:Expr}{f:Str}{pos pos' tpos:Pos}{ta tv:TE}
theorem Cu(he:PE X e ta)(hb:attributeBase e f X.env (eval e X.env)=eval e X.env):PE X (.Attribute e f pos) (Hq X.K ta f):=by
 intro pins s σ H Q I h
 refine Bx hb (thn (he pins s σ H _ I h) fun u s1 ⟨x,H1,I1,rx,a,C,dx,fs,v,ex,ea,c,n,l,q⟩=> ?_)
 subst ex
 obtain rfl:u=Value.ref a:=rx
 exact sW I1 ea c n l fun u' s2 I2 ru=>⟨v,H1,I2,ru,q⟩
theorem Ck(ha:PE X o ta)(hv:PE X value tv)(hs:swapsWith value (some (.Attribute o f pos')) pos.line X.env=pure false):PS X (.Assign [.Attribute o f pos'] value pos) (Hu X.K ta tv f):=by
 intro pins s σ H D I h
 refine plainObj_wpAny_Assign_Attribute (thn (hv pins s σ H _ I h) fun u s1 ⟨y,H1,I1,ry,q⟩=>thn (ha pins s1 σ H1 _ I1 q) fun ov s2 ⟨x,H2,I2,rx,a,C,dx,fs,ex,ea,c,n,l,q2⟩=> ?_) hs
 subst ex
 obtain rfl:ov=Value.ref a:=rx
 exact sf I2 ea c n l ry fun s3 I3=>⟨σ,_,I3,q2⟩
end
section
variable{X:Cx}{pins:List (Addr×Obj)}{σ:St}{H:Hp}{s:Shared}{A:Around}{E:Value→Shared→Prop}{Q:Value→Shared→Prop}{c:Value}{b:Bool}
inductive oz(K:PySem.W.Frag)(H:Hp):V→Value→Prop where
 | non:oz K H .non (.type "NoneType")
 | bl (x:Bool):oz K H (.bl x) (.type "bool")
 | int (i:Int):oz K H (.int i) (.type "int")
 | str (x:Str):oz K H (.str x) (.type "str")
 | flt (x:UInt64):oz K H (.flt x) (.type "float")
 | lst {a:Addr} {xs:List V} (e:H a=some (.lst xs)):oz K H (.ref a) (.type "list")
 | frz {a:Addr} {o:Obj} {xs:List V} (e:H a=some (.frz o (.lst xs))):oz K H (.ref a) (.type "list")
 | tup {a:Addr} {xs:List V} (e:H a=some (.tup xs)):oz K H (.ref a) (.type "tuple")
 | dK {a:Addr} {kvs:List (Key×V)} (e:H a=some (.dK kvs)):oz K H (.ref a) (.type "dict")
 | dT {a:Addr} {kvs:List (List Key×V)} (e:H a=some (.dT kvs)):oz K H (.ref a) (.type "dict")
 | ins {a C dx:Addr} {fs:List (Str×V)} (e:H a=some (.ins C dx fs)) (cl:Cls K C) (ha:PySem.W.findIn K (.ref C) "__class__"=some (some (.builtin "object.__class__")))
   (hn:PySem.W.specialIn K (.builtin "object.__class__") "__get__"=some (some (.builtin "getset_descriptor.__get__"))) (htk:PySem.W.takesIn K (.builtin "object.__class__")=some true)
   (hm:PySem.W.mroIn K C (.type "object")=some true):oz K H (.ref a) (.ref C)
theorem vI{x:V}{u t:Value}(I:Inv X pins σ H s)(rx:bx x u)(ty:oz X.K H x t)(e:PySem.W.kitOne X.K t c=some b)(h:∀tk,Q (.bool b) {s with toks:=tk}):
  wpAny (model X.prog X.w) A (call (.builtin "isinstance") [u,c]) Q E s:=by
 cases ty with
 | non=>cases (show u=Value.none from rx);exact PySem.W.kia_one PySem.W.kitx_none I.kIn True.intro e (fun z=>nomatch z) h
 | bl y=>cases (show u=Value.bool y from rx);exact PySem.W.kia_one PySem.W.kitx_bool I.kIn True.intro e (fun z=>nomatch z) h
 | int i=>obtain ⟨t,q⟩:=(show∃t,u=Value.int i t from rx);cases q;exact PySem.W.kia_one PySem.W.kitx_int I.kIn True.intro e (fun z=>nomatch z) h
 | str y=>obtain ⟨t,q⟩:=(show∃t,u=Value.str y t from rx);cases q;exact PySem.W.kia_one PySem.W.kitx_str I.kIn True.intro e (fun z=>nomatch z) h
 | flt y=>obtain ⟨t,q⟩:=(show∃t,u=Value.float y t from rx);cases q;exact PySem.W.kia_one PySem.W.kitx_float I.kIn True.intro e (fun z=>nomatch z) h
 | @lst a xs ea=>
  cases (show u=Value.ref a from rx)
  obtain ⟨_,_,n,_,h1⟩:=(show cf X.prog X.w H s.heap a (.lst xs) from I.hok a _ ea)
  exact PySem.W.kia_one PySem.W.kitx_list I.kIn ⟨_,h1,rfl⟩ e (fun z=>nomatch z) h
 | @frz a ob xs ea=>
  cases (show u=Value.ref a from rx)
  obtain ⟨_,_,_,n,_,h1⟩:=(show cf X.prog X.w H s.heap a (.frz ob (.lst xs)) from I.hok a _ ea)
  exact PySem.W.kia_one PySem.W.kitx_list I.kIn ⟨_,h1,rfl⟩ e (fun z=>nomatch z) h
 | @tup a xs ea=>
  cases (show u=Value.ref a from rx)
  obtain ⟨_,_,_,p⟩:=(show cf X.prog X.w H s.heap a (.tup xs) from I.hok a _ ea)
  obtain ⟨o,h1,h2,_⟩:=p
  exact PySem.W.kia_one PySem.W.kitx_tuple I.kIn ⟨o,h1,h2⟩ e (fun z=>nomatch z) h
 | @dK a kvs ea=>
  cases (show u=Value.ref a from rx)
  obtain ⟨_,_,vs,_,p⟩:=(show cf X.prog X.w H s.heap a (.dK kvs) from I.hok a _ ea)
  obtain ⟨o,es,ep,h1,h2,_⟩:=p
  exact PySem.W.kia_one PySem.W.kitx_dict I.kIn ⟨o,h1,h2.1⟩ e (fun z=>nomatch z) h
 | @dT a kvs ea=>
  cases (show u=Value.ref a from rx)
  obtain ⟨_,_,xs,_,o,es,ep,h1,h2,_⟩:=(show cf X.prog X.w H s.heap a (.dT kvs) from I.hok a _ ea)
  exact PySem.W.kia_one PySem.W.kitx_dict I.kIn ⟨o,h1,h2.1⟩ e (fun z=>nomatch z) h
 | @ins a C dx fs ea cl ha hn htk hm=>
  cases (show u=Value.ref a from rx)
  obtain ⟨mA,O,_⟩:=lZ I.hok ea
  obtain ⟨od,J,_⟩:=O.look
  exact PySem.W.kia_one (PySem.W.kitx_own (cl.get _) cl.hd ha hn htk hm) I.kIn J e (fun z=>nomatch z) h
end
structure dN(k:Nat)(A:Around):Prop where
 hd:A.handled=none
 dp:A.depth+3 * k+5 < recursionLimit
 un:A.units+16 * k+200 < cLine
theorem dN.mono{j k:Nat}{A:Around}(r:dN k A)(h:j≤k):dN j A:=⟨r.hd,by have:=r.dp;omega,by have:=r.un;omega⟩
theorem dN.deeper{k:Nat}{A:Around}(r:dN (k+1) A)(env:Env):dN k (A.deeper env):=
 ⟨r.hd,by have:=r.dp;show A.depth+1+3 * k+5 < _;omega,by have:=r.un;show A.units+3+16 * k+200 < _;omega⟩
theorem sP{A:Around}{C:Addr}{us:List Value}{kw:List (Str×Value)}:(A.under (.builtin "type.__call__" ⟨.ref C::us,kw⟩)).depth=A.depth+1:=by
 first | rfl | simp [Around.under,Code.weight,Code.isCreation,Code.isGuard,Code.isCaller,Code.frames,Code.isFrame,guardIds]
theorem sO{A:Around}{C:Addr}{us:List Value}{kw:List (Str×Value)}:(A.under (.builtin "type.__call__" ⟨.ref C::us,kw⟩)).units=A.units+1:=by
 first | rfl | simp [Around.under,Code.cUnits,Code.frames,Code.isFrame]
theorem dN.make{k:Nat}{A:Around}(r:dN (k+1) A)(C:Addr)(us:List Value)(kw:List (Str×Value)):dN k (A.under (.builtin "type.__call__" ⟨.ref C::us,kw⟩)):=
 ⟨r.hd,by have:=r.dp;rw [sP];omega,by have:=r.un;rw [sO];omega⟩
theorem dN.depth{k:Nat}{A:Around}(r:dN k A):A.depth < recursionLimit:=by have:=r.dp;omega
theorem dN.units{k:Nat}{A:Around}(r:dN k A):A.units+64 < cLine:=by have:=r.un;omega
theorem dN.units0{k:Nat}{A:Around}(r:dN k A):A.units < cLine:=by have:=r.un;omega
def Gk:TA:=fun _ H Q=>Q [] H
def ED(ta:TE)(tr:TA):TA:=fun σ H Q=>ta σ H fun x H1=>tr σ H1 fun xs H2=>Q (x::xs) H2
section
variable{X:Cx}{e:Expr}{es:List Expr}{te:TE}{t:TA}{pos:Pos}
theorem Cw:PA X [] Gk:=fun _ _ _ _ H Q I h=>Calls.spliced_nil ⟨[],H,I, .nil,h⟩
theorem AD(ha:PE X e te)(hr:PA X es t)(hs:starEach (e::es) X.env=(false,eval e X.env)::starEach es X.env:=by rfl):PA X (e::es) (ED te t):=by
 intro pos pins s σ H Q I h
 rw [hs]
 show wpAny _ _ (spliced ((false,eval e X.env)::backTo pos (starEach es X.env))) _ _ s
 refine Calls.spliced_cons (thn (ha pins s σ H _ I h) fun u s1 ⟨x,H1,I1,r1,q1⟩=> ?_)
 exact thn (hr pos pins s1 σ H1 _ I1 q1) fun us s2 ⟨xs,H2,I2,r2,q2⟩=>⟨x::xs,H2,I2, .cons r1 r2,q2⟩
def Hh(t:TA):TE:=fun σ H Q=>t σ H fun xs H1=>xs.length≤sizeLine∧∀p,H1 p=none→Q (.ref p) (upd H1 p (.tup xs))
def Hm(t:TA):TE:=fun σ H Q=>t σ H fun xs H1=>xs.length≤sizeLine∧∀p,H1 p=none→Q (.ref p) (upd H1 p (.lst xs))
theorem Cp{x1}(h:PA X es t):PE X (.Tuple es x1 pos) (Hh t):=by
 intro pins s σ H Q I hq
 refine wpAny_Tuple_spliced (thn (h pos pins s σ H _ I hq) fun us s1 ⟨xs,H1,I1,r,z,q⟩=>⟨by rw [←r.length];exact z, ?_⟩)
 have hf:H1 s1.heap.objs.size=none:=I1.hok.fresh (aah _)
 refine ⟨.ref s1.heap.objs.size,upd H1 s1.heap.objs.size (.tup xs),I1.laid (t':=s1.toks) (fun b u e=>Heap.get?_push_of_some _ e) (aah _) ?_,rfl,q _ hf⟩
 exact ⟨z,us,r,⟨_,Heap.get?_push_size _ rfl,rfl,_,rfl⟩⟩
theorem y9(h:PA X es t):PE X (.List es pos) (Hm t):=by
 intro pins s σ H Q I hq
 refine wpAny_List_spliced (thn (h pos pins s σ H _ I hq) fun us s1 ⟨xs,H1,I1,r,z,q⟩=>⟨by rw [←r.length];exact z, ?_⟩)
 have hf:H1 s1.heap.objs.size=none:=I1.hok.fresh (aah _)
 refine ⟨.ref s1.heap.objs.size,upd H1 s1.heap.objs.size (.lst xs),I1.laid (t':=s1.toks) (fun b u e=>Heap.get?_push_of_some _ e) (aah _) ?_,rfl,q _ hf⟩
 exact ⟨z,us,0,r,Heap.get?_push_size _ rfl⟩
end
abbrev Sp:=List V→Hp→VK→XK→Prop
abbrev CXT:=List Env→Hp→Shared→XK→Value→Shared→Prop
structure BH(P:Program)(w:World)(K:PySem.W.Frag)(mg:Str→Option Value)(base:Heap)(A:Around)(outer:List Env)(s:Shared)(H:Hp):Prop where
 frames:A.frames=some outer
 mod:Mod K mg base
 bs:∀b o,base.get? b=some o→s.heap.get? b=some o∧H b=none
 bsz:base.objs.size≤s.heap.objs.size
 funs:s.heap.FunFrames base outer
 frf:∀b∈frs outer,H b=none
 hok:HOk P w H s.heap
 bare:AllBare s.gens
def CE(outer:List Env)(P:Program)(w:World)(H:Hp)(s:Shared)(Q:VK)(u:Value)(s':Shared):Prop:=
 ∃v H',s'.os=s.os∧AllBare s'.gens∧Un (frs outer) [] H H' s.heap s'.heap∧HOk P w H' s'.heap∧bx v u∧Q v H'
def CR(CX:CXT)(outer:List Env)(P:Program)(w:World)(H:Hp)(s:Shared)(Q:VK)(E:XK)(r:Result)(s':Shared):Prop:=
 match r with
 | .ok (.ret u)=>CE outer P w H s Q u s'
 | .ok _=>False
 | .error e=>CX outer H s E e s'
structure bK(P:Program)(w:World)(K:PySem.W.Frag)(mg:Str→Option Value)(base:Heap)(CX:CXT)(k:Nat)(f:Addr)(fd:FuncData)(ps:List Str)(sp:Sp):Prop where
 len:∀vs H Q E,sp vs H Q E→vs.length=ps.length
 run:∀(A:Around) (outer:List Env) (s:Shared) (H:Hp) (args:Args) (us:List Value) (vs:List V) (Q:VK) (E:XK),dN k A→BH P w K mg base A outer s H→BindsTo s fd args (ps.zip us)→bF vs us→sp vs H Q E→
  codeAny (model P w) A (.call (.ref f) args) (CR CX outer P w H s Q E) s
theorem BH.make{P:Program}{w:World}{K:PySem.W.Frag}{mg:Str→Option Value}{base:Heap}{A:Around}{outer:List Env}{s:Shared}{H:Hp}(e:BH P w K mg base A outer s H)(C:Addr)(us:List Value)(kw:List (Str×Value)):
  BH P w K mg base (A.under (.builtin "type.__call__" ⟨.ref C::us,kw⟩)) outer s H:=⟨by first | exact e.frames | (simpa [Around.under,Code.envs,Code.isFrame,pushEnvs] using e.frames),e.mod,e.bs,e.bsz,e.funs,e.frf,e.hok,e.bare⟩
section
variable{X:Cx}{pins:List (Addr×Obj)}{σ:St}{H:Hp}{s s':Shared}
theorem Inv.env0(I:Inv X pins σ H s):BH X.prog X.w X.K X.mg X.base X.A X.stack s H:=
 ⟨I.ok.frames,I.ok.mod,I.bs,aau I.ok.bsz I.sz,I.stack,I.stkFree,I.hok,I.bare⟩
theorem Inv.after{Q:VK}{u:Value}(I:Inv X pins σ H s)(h:CE X.stack X.prog X.w H s Q u s'):EP X pins σ Q u s':=by
 obtain ⟨v,H',os,bare,un,hok,r,q⟩:=h
 obtain ⟨hh,g,d,t,os'⟩:=s'
 obtain rfl:os'=s.os:=os
 exact ⟨v,H',I.call (h':=hh) (g':=g) (d':=d) (t':=t) (ch:=[]) un hok bare (fun b z=>absurd z (by simp)),r,q⟩
end
def ir(K:PySem.W.Frag)(fd:FuncData)(ps:List Str)(ds:List Value):Prop:=
 ∀(s:Shared) (us:List Value),K.In s.heap→(us++ds).length=ps.length→BindsTo s fd ⟨us,[]⟩ (ps.zip (us++ds))
theorem ir.all{K:PySem.W.Frag}{fd:FuncData}{ps:List Str}(h:∀us:List Value,us.length=ps.length→bindArgs fd ⟨us,[]⟩=pure (ps.zip us)):ir K fd ps []:=fun s us _ hl=>by
 rw [aa7] at hl⊢
 exact .of_eq (h us hl)
section
variable{X:Cx}{CX:CXT}{k:Nat}{f C:Addr}{fd:FuncData}{ps:List Str}{sp:Sp}{dvs:List V}{ds:List Value}{E:XK}{x m:Str}{p pos apos:Pos}{e o:Expr}{es:List Expr}{ta:TE}{t:TA}
structure Mk(K:PySem.W.Frag)(C f:Addr):Prop where
 makes:PySem.W.makesIn K C=true
 init:PySem.W.findIn K (.ref C) "__init__"=some (some (.ref f))
 fn:PySem.W.isFn K (.ref f)=true
 kp:PySem.W.keepIn K (.ref C)=true
end
structure ax(N P:List Str)(sc:Scope):Prop where
 kind:sc.kind= .function
 co:sc.isCoroutine=false
 gen:sc.isGenerator=false
 nd:N.Nodup
 pre:N.take P.length=P
 par:∀x∈P,sc.names.lookup x=some .local∨sc.names.lookup x=some .cell
 nofree:∀y∈sc.names,y.2≠ .free
theorem oj{kindOf:Str→Option NameKind}{x:Str}:∀{binds:List (Str×Value)} {m:Str→Option Value},(∀v,(x,v)∉binds)→bindL kindOf binds m x=m x
 | [],_,_=>rfl
 | (n,v)::r,m,h=>by
  unfold bindL
  rw [oj fun w hw=>h w (aad _ hw)]
  split
  ·have:x≠n:=by rintro rfl;exact h v aae
   simp [this]
  ·rfl
theorem oo{kindOf:Str→Option NameKind}{x:Str}:∀{binds:List (Str×Value)} {m:Str→Option Value},(∀v,(x,v)∉binds)→bindC kindOf binds m x=m x
 | [],_,_=>rfl
 | (n,v)::r,m,h=>by
  unfold bindC
  rw [oo fun w hw=>h w (aad _ hw)]
  split
  ·rfl
  ·have:x≠n:=by rintro rfl;exact h v aae
   simp [this]
theorem om{kindOf:Str→Option NameKind}{x:Str}{v:Value}:∀{P:List Str} {vs:List Value} {i:Nat} {m:Str→Option Value},P.Nodup→P[i]? =some x→vs[i]? =some v→kindOf x=some .local→
  bindL kindOf (P.zip vs) m x=some v
 | [],_,_,_,_,h,_,_=>by simp at h
 | _::_,[],_,_,_,_,h,_=>by simp at h
 | p::P,w::vs,0,m,nd,h1,h2,hk=>by
  simp at h1 h2;subst h1;subst h2
  show bindL kindOf ((p,w)::P.zip vs) m p=_
  unfold bindL
  rw [oj fun v hv=>(abz.mp nd).1 (abd hv).1,if_pos hk]
  simp
 | p::P,w::vs,i+1,m,nd,h1,h2,hk=>by
  show bindL kindOf ((p,w)::P.zip vs) m x=_
  unfold bindL
  exact om (i:=i) (List.nodup_cons.mp nd).2 (by simpa using h1) (by simpa using h2) hk
theorem oq{kindOf:Str→Option NameKind}{x:Str}{v:Value}:∀{P:List Str} {vs:List Value} {i:Nat} {m:Str→Option Value},P.Nodup→P[i]? =some x→vs[i]? =some v→kindOf x≠some .local→
  bindC kindOf (P.zip vs) m x=some v
 | [],_,_,_,_,h,_,_=>by simp at h
 | _::_,[],_,_,_,_,h,_=>by simp at h
 | p::P,w::vs,0,m,nd,h1,h2,hk=>by
  simp at h1 h2;subst h1;subst h2
  show bindC kindOf ((p,w)::P.zip vs) m p=_
  unfold bindC
  rw [oo fun v hv=>(abz.mp nd).1 (abd hv).1,if_neg hk]
  simp
 | p::P,w::vs,i+1,m,nd,h1,h2,hk=>by
  show bindC kindOf ((p,w)::P.zip vs) m x=_
  unfold bindC
  exact oq (i:=i) (List.nodup_cons.mp nd).2 (by simpa using h1) (by simpa using h2) hk
def start(N:List Str)(vs:List V):St:=vs.map some++List.replicate (N.length - vs.length) none
def p7(CX:CXT)(P:Program)(w:World)(K:PySem.W.Frag)(mg:Str→Option Value)(base:Heap)(N:List Str)(qual:Str)(scope:Scope)(f:Addr)(cd:Value)(A:Around)(outer:List Env)(s:Shared)(H:Hp)(E:XK):Cx where
 prog:=P
 w:=w
 K:=K
 mg:=mg
 base:=base
 A:=A.deeper (envOfC qual scope s.heap.objs.size f cd)
 N:=N
 s₀:=s
 H₀:=H
 env:=envOfC qual scope s.heap.objs.size f cd
 outer:=outer
 stack:=envOfC qual scope s.heap.objs.size f cd::outer
 ex:=[]
 calm:=true
 fn:=fun _=>true
 pn:=[]
 xe:=fun e s'=>wpAny (model P w) (A.deeper (envOfC qual scope s.heap.objs.size f cd)) (leaving (envOfC qual scope s.heap.objs.size f cd) e) (fun _ s''=>CX outer H s E e s'') (fun e' s''=>CX outer H s E e' s'') s'
theorem rN{sc:Scope}{n:Nat}{x:Str}(h:sc.names.lookup x=some .cell):∃c,(cellsFrom n sc.names []).lookup x=some c:=by
 have q:=PySem.W.cellsFrom_some sc.names n [] (.inl h)
 exact aa4.mp q
theorem vJ{CX:CXT}{P:Program}{w:World}{K:PySem.W.Frag}{mg:Str→Option Value}{base:Heap}{N ps:List Str}{qual:Str}{scope:Scope}{f:Addr}{cd:Value}{A:Around}{outer:List Env}{s s1:Shared}{H:Hp}{E:XK}{us:List Value}{vs:List V}
  (S:ax N ps scope) (hd:A.handled=none) (e0:BH P w K mg base A outer s H) (hl:vs.length=ps.length) (r:bF vs us)
  (x:InCallC s s.heap.objs.size (bindL (envOfC qual scope s.heap.objs.size f cd).kindOf (ps.zip us) fun _=>none) (cellsFrom (s.heap.objs.size+1) scope.names []) (bindC (envOfC qual scope s.heap.objs.size f cd).kindOf (ps.zip us) fun _=>none) s1):
  Inv (p7 CX P w K mg base N qual scope f cd A outer s H E) [] (start N vs) H s1:=by
 have hpl:ps.length≤N.length:=by have:=congrArg List.length S.pre;rw [abS] at this;omega
 obtain ⟨h1,tk,rfl,hk⟩:=x.done
 have noA:∀b:Addr,b∉(p7 CX P w K mg base N qual scope f cd A outer s H E).ex:=fun b z=>absurd (show b∈([]:List Addr) from z) (by simp)
 refine ⟨⟨e0.mod,S.kind,rfl,rfl,aah _,fun y z c h1 h2=> ?_,fun y hy=> ?_,fun y c _ h=> ?_,fun _=>hd,Around.frames_deeper e0.frames, .inr ⟨rfl,rfl⟩,fun b z=>absurd z (noA b),e0.bs,e0.bsz,fun b _ _=>noA b,fun b z=>absurd z (noA b),e0.funs,e0.frf⟩,
  rfl,e0.bare,Un.kept hk,⟨_,x.toInCall.ns,fun i y v h1 h2 h3=> ?_⟩,fun y c h=>⟨_,x.cell y c h⟩,e0.hok.fresh (Nat.le_refl _),fun y c h=> ?_,fun p hp=>absurd (show p∈([]:List (Addr×Obj)) from hp) (by simp),e0.hok.kept hk, ?_⟩
 ·exact name_of_addr x.apart (PySem.mem_of_lookup h1) (PySem.mem_of_lookup h2)
 ·have hy:scope.names.lookup y=some .cell∨scope.names.lookup y=some .free:=hy
  rcases hy with hy | hy
  ·exact rN hy
  ·exact absurd rfl (S.nofree _ (PySem.mem_of_lookup hy))
 ·exact Nat.le_of_lt (x.above y c (PySem.mem_of_lookup h))
 ·have hi:i < vs.length:=by
   unfold start at h2
   by_cases hi:i < vs.length
   ·exact hi
   ·rw [List.getElem?_append_right (by simpa using hi)] at h2
    rw [abC] at h2
    split at h2 <;> cases h2
  have ha:vs[i]? =some v:=by
   unfold start at h2
   rw [List.getElem?_append_left (by simpa using hi),List.getElem?_map] at h2
   cases e:vs[i]? with
   | none=>rw [e] at h2;cases h2
   | some a=>rw [e] at h2;cases h2;rfl
  obtain ⟨u,hu,rv⟩:=r.get ha
  have hp:ps[i]? =some y:=by
   rw [←S.pre,abV (by omega)];exact h1
  have ndP:ps.Nodup:=by rw [←S.pre];exact S.nd.sublist (List.take_sublist _ _)
  refine ⟨u,rv, ?_⟩
  rcases S.par y (aaj hp) with k | k
  ·exact .inl ⟨k,om ndP hp hu k⟩
  ·obtain ⟨c,e⟩:=rN (n:=s.heap.objs.size+1) k
   refine .inr ⟨.inl k,c,e, ?_⟩
   have q:=x.cell y c e
   rw [oq ndP hp hu (by show scope.names.lookup y≠_;rw [k];decide)] at q
   exact q
 ·exact e0.hok.fresh (Nat.le_of_lt (x.above y c (PySem.mem_of_lookup h)))
 ·unfold start
  show _=N.length
  rw [aai,aac,aaK]
  omega
theorem Ft{CX:CXT}{P:Program}{w:World}{K:PySem.W.Frag}{mg:Str→Option Value}{base:Heap}{k:Nat}{f:Addr}{name qual:Str}{params:Arguments}{body:List Stmt}{scope:Scope}{dV kV doc pm cdv ct oc:Value}{an od:Option Addr}
  {osl:Array (Option Value)} {N ps:List Str} {sp:Sp} (lk:K.lookup f=some ⟨oc,od, .func (PySem.W.fnOf name qual params body scope dV kV doc pm an cdv ct),osl⟩) (hcd:PySem.W.codeIn K cdv qual=true) (S:ax N ps scope)
  (len:∀vs H Q E,sp vs H Q E→vs.length=ps.length)
  (hbody:∀(A:Around) (outer:List Env) (s:Shared) (H:Hp) (vs:List V) (Q:VK) (E:XK),dN k (A.deeper (envOfC qual scope s.heap.objs.size f cdv))→sp vs H Q E→
   ∃t,PSs (p7 CX P w K mg base N qual scope f cdv A outer s H E) body t∧t {nx:=fun _ H'=>Q .non H',rt:=Q} (start N vs) H):
  bK P w K mg base CX (k+1) f (PySem.W.fnOf name qual params body scope dV kV doc pm an cdv ct) ps sp:=by
 refine ⟨len,fun A outer s H args us vs Q E hr e0 hb r hsp=> ?_⟩
 have hl:=len _ _ _ _ hsp
 have KX:K.In s.heap:=e0.mod.kin.keeps fun b o e=>(e0.bs b o e).1
 have lim:s.heap.NoLimit:=e0.mod.nolimit.keeps fun b o e=>(e0.bs b o e).1
 have hkind:∀y∈ps.zip us,scope.names.lookup y.1=some .local∨(scope.names.lookup y.1=some .cell∧((cellsFrom (s.heap.objs.size+1) scope.names []).lookup y.1).isSome=true):=fun ⟨n,v⟩ hy=>by
  rcases S.par n (abd hy).1 with q | q
  ·exact .inl q
  ·exact .inr ⟨q,PySem.W.cellsFrom_some _ _ _ (.inl q)⟩
 refine codeAny_call_function hr.depth (KX _ _ lk) rfl S.co S.gen rfl (PySem.W.codeRec_of KX hcd) (hb _ _ _ _ ?_)
 refine wpAny_newFunctionEnv_cells S.kind hkind fun env he s1 x=> ?_
 subst he
 refine ⟨lim.keeps x.toInCall.keep,codeAny_func ?_⟩
 obtain ⟨t,ht,hq⟩:=hbody A outer s H vs Q E (hr.deeper _) hsp
 have I:Inv (p7 CX P w K mg base N qual scope f cdv A outer s H E) [] (start N vs) H s1:=vJ S hr.hd e0 hl r x
 refine wpAny_mono (ht [] s1 (start N vs) H _ I hq) (fun fl s' hs=> ?_) fun e s' hs=>hs
 have fin:∀{σ':St} {H':Hp} {v:V} {u:Value},Inv (p7 CX P w K mg base N qual scope f cdv A outer s H E) [] σ' H' s'→bx v u→Q v H'→CE outer P w H s Q u s':=
  fun {σ' H' v u} J rv q=>⟨v,H',J.os,J.bare,J.base,J.hok,rv,q⟩
 cases fl with
 | ret u=>
  obtain ⟨v,σ',H',J,rv,q⟩:=hs
  exact fin J rv q
 | next=>
  obtain ⟨σ',H',J,q⟩:=hs
  exact fin (v:=V.non) (u:=Value.none) J rfl q
 | brk=>
  obtain ⟨_,_,_,q⟩:=hs
  exact False.elim q
 | cont=>
  obtain ⟨_,_,_,q⟩:=hs
  exact False.elim q
section
variable{X:Cx}{x:Str}{p pos:Pos}{e:Expr}{es:List Expr}{t:TA}{id T:String}{r:List V→Hp→VK→Prop}
def tCB(r:List V→Hp→VK→Prop)(t:TA):TE:=fun σ H Q=>t σ H fun vs H1=>r vs H1 Q
theorem xP(hc:eS X (.builtin id) r)(hg:Gl X x)(hm:X.mg x=none)(hv:bootBuiltins x=some (.builtin id))(ha:PA X (e::es) t)(hn:x≠"__name__":=by decide)(hdb:(x==("__debug__":Str))=false:=by decide)
  (he:starEach (e::es) X.env=(false,eval e X.env)::starEach es X.env:=by rfl) (hpl:(backTo pos (starEach es X.env)).any (·.1)=false:=by rfl):PE X (.Call (.Name x p) (e::es) [] pos) (tCB r t):=by
 intro pins s σ H Q I h
 refine wpAny_Call_Name_kw (jg I hg hm hv ?_ hn hdb)
 exact PyProof.Rows.callWith_builtin1 (thn (ha pos pins s σ H _ I h) fun us s1 ⟨vs,H1,I1,r1,q1⟩=>hc pins s1 σ H1 vs us Q I1 r1 q1) he hpl
theorem uX(hc:eS X (.type T) r)(hg:Gl X x)(hm:X.mg x=none)(hv:bootBuiltins x=some (.type T))(ha:PA X (e::es) t)(hn:x≠"__name__":=by decide)(hdb:(x==("__debug__":Str))=false:=by decide)
  (he:starEach (e::es) X.env=(false,eval e X.env)::starEach es X.env:=by rfl) (hpl:(backTo pos (starEach es X.env)).any (·.1)=false:=by rfl):PE X (.Call (.Name x p) (e::es) [] pos) (tCB r t):=by
 intro pins s σ H Q I h
 refine wpAny_Call_Name_kw (jg I hg hm hv ?_ hn hdb)
 exact PyProof.Rows.callWith_type1 (thn (ha pos pins s σ H _ I h) fun us s1 ⟨vs,H1,I1,r1,q1⟩=>hc pins s1 σ H1 vs us Q I1 r1 q1) he hpl
end
end L2
namespace HT
open PySem PyProof.Rows
section
variable{prog:Program}{w:World}{A:Around}{E:Value→Shared→Prop}{s:Shared}
theorem Bu{t b:Addr}{vs ws:List Value}{Q:Value→Shared→Prop}(ht:IsTup s.heap t vs.toArray)(hb:IsTup s.heap b ws.toArray)(hv:vs≠[])
  (h1:ws=[]→Q (.ref t) s) (h2:ws≠[]→Q (.ref s.heap.objs.size) {s with heap:=s.heap.push {cls:= .type "tuple",data:= .seq (vs++ws).toArray}})
  (hsz:vs.length+ws.length≤sizeLine):wpAny (model prog w) A (binaryOp .Add (.ref t) (.ref b)) Q E s:=by
 obtain ⟨⟨cls,dd,data,sl⟩,ho,hc,n,hd⟩:=id ht
 obtain ⟨⟨cls2,dd2,data2,sl2⟩,ho2,hc2,n2,hd2⟩:=id hb
 simp only at hc hd hc2 hd2
 subst hc hd hc2 hd2
 have e:vs.toArray++ws.toArray=(vs++ws).toArray:=by simp
 by_cases hw:ws=[]
 ·exact concat_meets ⟨_,ho,rfl⟩ ⟨_,ho2,rfl⟩ noFill_tuple_add seq_tuple_add PySem.F.slot_tuple_add PySem.F.entry_tuple_add (PySem.F.args_tuple_add_2 _ _)
   (tuple_addW1 t b vs.toArray ws.toArray n n2 dd dd2 sl sl2 (by simpa using hv) (by simp [hw])) ⟨ho,ho2,h1 hw⟩
 ·refine concat_meets ⟨_,ho,rfl⟩ ⟨_,ho2,rfl⟩ noFill_tuple_add seq_tuple_add PySem.F.slot_tuple_add PySem.F.entry_tuple_add (PySem.F.args_tuple_add_2 _ _)
   (tuple_addW2 t b vs.toArray ws.toArray n n2 dd dd2 sl sl2 (by simpa using hv) (by simpa using hw) (by rw [List.size_toArray,List.size_toArray];exact hsz)) ⟨ho,ho2, ?_⟩
  rw [e]
  exact h2 hw
def sIx(n d:Nat):Option Int→Nat
 | none=>d
 | some v=>if v < 0 then (v+(n:Int)).toNat else min v.toNat n
theorem qx(n d:Nat):sIx n d none=d:=rfl
theorem lg(n d k:Nat):sIx n d (some (k:Int))=min k n:=by
 show (if (k:Int) < 0 then ((k:Int)+(n:Int)).toNat else min (k:Int).toNat n)=min k n
 rw [if_neg (by omega),abL]
end
end HT
namespace L2
open PySem PySem.Spec PyProof.Rows
abbrev TO:=St→Hp→(Option Int→Hp→Prop)→Prop
def PO(X:Cx)(e:Option Expr)(t:TO):Prop:=
 ∀(pins:List (Addr×Obj)) (s:Shared) (σ:St) (H:Hp) (Q:Option Int→Hp→Prop),Inv X pins σ H s→t σ H Q→
  wpAny (model X.prog X.w) X.A (evalPart e X.env) (fun u s'=>∃o H',Inv X pins σ H' s'∧IsPart u o∧Q o H') X.xe s
def z7:TO:=fun _ H Q=>Q none H
def Et(t:TE):TO:=fun σ H Q=>t σ H fun x H1=>∃i,x= .int i∧Q (some i) H1
section
variable{X:Cx}{e:Expr}{te:TE}{lo hi:Option Expr}{tl th:TO}{pos p2:Pos}
theorem uP:PO X none z7:=by
 intro pins s σ H Q I h
 rw [evalPart_none]
 exact wpAny_pure ⟨none,H,I, .none,h⟩
theorem gW(h:PE X e te):PO X (some e) (Et te):=by
 intro pins s σ H Q I hw
 rw [evalPart_some]
 refine thn (h pins s σ H _ I hw) fun u s1 ⟨x,H1,I1,r1,q1⟩=> ?_
 obtain ⟨i,rfl,q⟩:=q1
 obtain ⟨t,rfl⟩:=r1
 exact ⟨some i,H1,I1, .int i t,q⟩
def SlR(X:Cx)(r:V→Option Int→Option Int→Hp→VK→Prop):Prop:=
 ∀(pins:List (Addr×Obj)) (s:Shared) (σ:St) (H:Hp) (x:V) (v vl vu:Value) (lo hi:Option Int) (sl:Addr) (Q:VK),Inv X pins σ H s→bx x v→s.heap.IsSliceOf sl vl vu .none→IsPart vl lo→IsPart vu hi→r x lo hi H Q→
  ∃T id,typeLookup (.type T) "__getitem__"=pure (some (.builtin id))∧s.TypeIs v T∧wpAny (model X.prog X.w) X.A (getItem v (.ref sl)) (EP X pins σ Q) X.xe s
def tSl(r:V→Option Int→Option Int→Hp→VK→Prop)(te:TE)(tl th:TO):TE:=fun σ H Q=>te σ H fun x H1=>tl σ H1 fun l H2=>th σ H2 fun u H3=>r x l u H3 Q
theorem lF{r:V→Option Int→Option Int→Hp→VK→Prop}(hr:SlR X r)(he:PE X e te)(hl:PO X lo tl)(hu:PO X hi th):PE X (.Subscript e (.Slice lo hi none p2) pos) (tSl r te tl th):=by
 intro pins s σ H Q I h
 refine Subscript_ (thn (he pins s σ H _ I h) fun v s1 ⟨x,H1,I1,r1,q1⟩=> ?_)
 refine wpAny_Slice (thn (hl pins s1 σ H1 _ I1 q1) fun vl s2 ⟨l,H2,I2,pl,q2⟩=>thn (hu pins s2 σ H2 _ I2 q2) fun vu s3 ⟨u,H3,I3,pu,q3⟩=> ?_)
 rw [evalPart_none]
 refine wpAny_pure ?_
 have I4:Inv X pins σ H3 {s3 with heap:=s3.heap.push {cls:= .type "slice",data:= .fields #[vl,vu, .none]}}:=I3.kept (t':=s3.toks) fun b ob q=>Heap.get?_push_of_some _ q
 obtain ⟨T,id,hT,ht,hg⟩:=hr pins {s3 with heap:=s3.heap.push {cls:= .type "slice",data:= .fields #[vl,vu, .none]}} σ H3 x v vl vu l u s3.heap.objs.size Q I4 r1 (Heap.IsSliceOf.new ..) pl pu q3
 show wpAny (model X.prog X.w) X.A (subscriptTail e (.Slice lo hi none p2) v (.ref s3.heap.objs.size)) (EP X pins σ Q) X.xe {s3 with heap:=s3.heap.push {cls:= .type "slice",data:= .fields #[vl,vu, .none]}}
 exact tail_any (ops:=[.ref s3.heap.objs.size,v]) ht hT hg (by with_unfolding_all rfl)
def xi(xs:List V)(lo hi:Option Int):List V:=(xs.drop (HT.sIx xs.length 0 lo)).take (HT.sIx xs.length xs.length hi - HT.sIx xs.length 0 lo)
theorem p8(xs:List V)(lo hi:Option Int):(xi xs lo hi).length≤xs.length:=by
 unfold xi
 rw [abS,abj]
 omega
def B9(K:PySem.W.Frag):R2:=fun x y H Q=>∃a b xs ys,x= .ref a∧y= .ref b∧SqT K H a xs∧SqT K H b ys∧xs≠[]∧xs.length+ys.length≤sizeLine∧
 (ys=[]→Q (.ref a) H)∧(ys≠[]→∀p,H p=none→Q (.ref p) (upd H p (.tup (xs++ys))))
theorem bF.nil_iff{xs:List V}{us:List Value}(r:bF xs us):us=[]↔xs=[]:=by
 cases r with
 | nil=>simp
 | cons _ _=>simp
theorem AI:OpR X (binaryOp .Add) (B9 X.K):=by
 intro pins s σ H x y v u Q I rx ry h
 obtain ⟨a,b,xs,ys,rfl,rfl,ha,hb,hx,hz,q1,q2⟩:=h
 cases rx
 cases ry
 obtain ⟨its,r1,p1,_⟩:=I.tuple ha
 obtain ⟨its2,r2,p2,_⟩:=I.tuple hb
 refine HT.Bu p1 p2 (fun z=>hx (r1.nil_iff.mp z)) (fun z=>⟨.ref a,H,I,rfl,q1 (r2.nil_iff.mp z)⟩) (fun z=> ?_) (by rw [←r1.length,←r2.length];exact hz)
 refine ⟨.ref s.heap.objs.size,_,I.laid (t':=s.toks) (o:= .tup (xs++ys)) (fun b ob q=>Heap.get?_push_of_some _ q) (aah _) ?_,rfl,q2 (fun w=>z (r2.nil_iff.mpr w)) _ (I.hok.fresh (aah _))⟩
 exact ⟨by rw [aai];exact hz,_,r1.append r2,IsTup.new _ _⟩
end
def ixN(n:Nat)(i:Int):Option Nat:=if 0≤i then (if i < n then some i.toNat else none) else if -(n:Int)≤i then some (i+n).toNat else none
def atI{α:Type}(xs:List α)(i:Int):Option α:=(ixN xs.length i).bind fun j=>xs[j]?
theorem vH{n:Nat}{i:Int}{j:Nat}(h:ixN n i=some j):seqIndex? i n=some j∧j < n∧ -(n:Int)≤i∧i < n:=by
 unfold ixN at h
 by_cases h0:0≤i
 ·rw [if_pos h0] at h
  by_cases h1:i < n
  ·rw [if_pos h1] at h
   have e:i.toNat=j:=aal h
   exact ⟨by rw [seqIndex_of h0 h1,e],by omega,by omega,h1⟩
  ·rw [if_neg h1] at h;cases h
 ·rw [if_neg h0] at h
  by_cases h1: -(n:Int)≤i
  ·rw [if_pos h1] at h
   have e:(i+n).toNat=j:=aal h
   exact ⟨by rw [seqIndex_neg (by omega) h1,e],by omega,h1,by omega⟩
  ·rw [if_neg h1] at h;cases h
theorem qc{α:Type}{xs:List α}{i:Int}{v:α}(h:atI xs i=some v):∃j,seqIndex? i xs.length=some j∧xs[j]? =some v∧j < xs.length∧ -(xs.length:Int)≤i∧i < xs.length:=by
 unfold atI at h
 cases e:ixN xs.length i with
 | none=>rw [e] at h;cases h
 | some j=>
  rw [e] at h
  obtain ⟨h1,h2,h3,h4⟩:=vH e
  exact ⟨j,h1,h,h2,h3,h4⟩
theorem aB{α:Type}{xs:List α}{j:Nat}{v:α}(h:xs[j]? =some v):atI xs (j:Int)=some v:=by
 have hj:j < xs.length:=(aaf.mp h).1
 have e:ixN xs.length (j:Int)=some j:=by
  unfold ixN
  rw [if_pos (by omega),if_pos (by omega)];simp
 unfold atI;rw [e];exact h
def qh(b:Expr):Prop:=∀o i,subscripted b false o i=operate [o,i] (getItem o i)
def IxR(X:Cx)(r:R2):Prop:=
 ∀(value slice:Expr) (pins:List (Addr×Obj)) (s:Shared) (σ:St) (H:Hp) (x y:V) (v u:Value) (Q:VK),Inv X pins σ H s→bx x v→bx y u→r x y H Q→
  subscripted slice false v u=operate [v,u] (getItem v u)→wpAny (model X.prog X.w) X.A (subscriptTail value slice v u) (EP X pins σ Q) X.xe s
def MtR(X:Cx)(id:String)(r:V→List V→Hp→VK→Prop):Prop:=
 ∀(pins:List (Addr×Obj)) (s:Shared) (σ:St) (H:Hp) (x:V) (xs:List V) (v:Value) (us:List Value) (Q:VK),Inv X pins σ H s→bx x v→bF xs us→r x xs H Q→
  wpAny (model X.prog X.w) X.A (call (.builtin id) (v::us)) (EP X pins σ Q) X.xe s
section
variable{X:Cx}{a b:Expr}{ta tb:TE}{pos:Pos}
theorem IxR.or{r r':R2}(h:IxR X r)(h':IxR X r'):IxR X (fun x y H Q=>r x y H Q∨r' x y H Q):=by
 intro value slice pins s σ H x y v u Q I rx ry q hs
 rcases q with q | q
 ·exact h value slice pins s σ H x y v u Q I rx ry q hs
 ·exact h' value slice pins s σ H x y v u Q I rx ry q hs
theorem EW{r:R2}(hr:IxR X r)(ha:PE X a ta)(hb:PE X b tb)(hs:qh b):PE X (.Subscript a b pos) (tOp r ta tb):=by
 intro pins s σ H Q I h
 exact Subscript_ (FR ha hb I h fun v u s2 x y H2 I2 rx ry q=>hr a b pins s2 σ H2 x y v u Q I2 rx ry q (hs _ _))
def Gw(K:PySem.W.Frag):R2:=fun x y H Q=>∃p xs i v,x= .ref p∧y= .int i∧SqL K H p xs∧atI xs i=some v∧Q v H
def Gu(K:PySem.W.Frag):R2:=fun x y H Q=>∃p xs i v,x= .ref p∧y= .int i∧SqT K H p xs∧atI xs i=some v∧Q v H
def Gv:R2:=fun x y H Q=>∃z i c,x= .str z∧y= .int i∧z.length≤sizeLine∧atI z.cps.toList i=some c∧Q (.str ⟨#[c]⟩) H
theorem A3:IxR X (Gw X.K):=by
 intro value slice pins s σ H x y v u Q I rx ry h hs
 obtain ⟨p,xs,i,z,rfl,rfl,hq,he,q⟩:=h
 cases rx
 obtain ⟨t,rfl⟩:=ry
 obtain ⟨its,r,pl,hz⟩:=I.list hq
 obtain ⟨j,h1,h2,h3,h4,h5⟩:=qc he
 obtain ⟨w,ew,rw'⟩:=r.get h2
 have hl:=r.length
 have hn:=ku
 have fin:EP X pins σ Q w s:=⟨z,H,I,rw',q⟩
 by_cases h0:0≤i
 ·have hj:i.toNat=j:=by
   rw [seqIndex_of h0 h5] at h1
   exact aal h1
  exact item_listR pl.isList h0 (by omega) (by rw [hj];simpa using ew) fin hs
 ·have hj:(i+(its.toArray.size:Int)).toNat=j:=by
   rw [seqIndex_neg (by omega) h4] at h1
   rw [aas,←hl]
   exact aal h1
  exact subscriptTail_builtinR (x:=w) pl.isList.typeIs slot_list_getitem.lookup
   (wpAny_getItem_list_neg (Q:=fun r s'=>r=w∧EP X pins σ Q r s') pl.isList (by omega) (by rw [List.size_toArray] <;> omega) (by omega) (by rw [hj];simpa using ew) ⟨rfl,fin⟩) hs
theorem C9:IxR X (Gu X.K):=by
 intro value slice pins s σ H x y v u Q I rx ry h hs
 obtain ⟨p,xs,i,z,rfl,rfl,hq,he,q⟩:=h
 cases rx
 obtain ⟨t,rfl⟩:=ry
 obtain ⟨its,r,pl,hz⟩:=I.tuple hq
 obtain ⟨j,h1,h2,h3,h4,h5⟩:=qc he
 obtain ⟨w,ew,rw'⟩:=r.get h2
 have hl:=r.length
 have hn:=ku
 have fin:EP X pins σ Q w s:=⟨z,H,I,rw',q⟩
 exact subscriptTail_builtinR (x:=w) pl.typeIs slot_tuple_getitem.lookup
  (getItem_tuple (j:=j) (Q:=fun r s'=>r=w∧EP X pins σ Q r s') pl (by omega) (by omega) (by rw [List.size_toArray,←hl];exact h1) (by simpa using ew) ⟨rfl,fin⟩) hs
theorem Dc:IxR X Gv:=by
 intro value slice pins s σ H x y v u Q I rx ry h hs
 obtain ⟨z,i,c,rfl,rfl,hz,he,q⟩:=h
 obtain ⟨t,rfl⟩:=rx
 obtain ⟨t',rfl⟩:=ry
 obtain ⟨j,h1,h2,h3,h4,h5⟩:=qc he
 have hl:z.cps.toList.length=z.length:=by simp [Str.length]
 rw [hl] at h1 h4 h5
 have hn:=ku
 exact tail_any (typeIs_str s z t) slot_str_getitem.lookup (getItem_str (c:=c) (by
  have e1:decide (i < -(2 ^ 63:Int))=false:=decide_eq_false (by omega)
  have e2:decide (i ≥ 2 ^ 63)=false:=decide_eq_false (by omega)
  rw [e1,e2,Bool.or_false]) (by rw [h1];simpa using h2) ⟨.str ⟨#[c]⟩,H,I.tok _,⟨_,rfl⟩,q⟩) hs
def rIx(K:PySem.W.Frag):R2:=fun x y H Q=>Gw K x y H Q∨Gu K x y H Q∨Gv x y H Q
theorem Dd:IxR X (rIx X.K):=A3.or (C9.or Dc)
theorem sN(its:List Value)(n j:Nat)(u:Value):Obj.mapSeq (·.setIfInBounds j u) {cls:= .type "list",data:= .seq its.toArray n}={cls:= .type "list",data:= .seq (its.set j u).toArray n}:=by
 simp [Obj.mapSeq]
theorem Inv.lst{pins:List (Addr×Obj)}{σ:St}{H:Hp}{s:Shared}{p:Addr}{xs:List V}(I:Inv X pins σ H s)(h:H p=some (.lst xs)):
  ∃(its:List Value) (n:Nat),bF xs its∧s.heap.get? p=some {cls:= .type "list",data:= .seq its.toArray n}∧xs.length≤sizeLine:=by
 obtain ⟨z,its,n,r,e⟩:=I.hok p _ h
 exact ⟨its,n,r,e,z⟩
theorem Inv.lstUpd{pins:List (Addr×Obj)}{σ:St}{H:Hp}{s:Shared}{p:Addr}{xs ys:List V}{its its':List Value}{n n':Nat}{f:Obj→Obj}(I:Inv X pins σ H s)(h:H p=some (.lst xs))
  (ho:s.heap.get? p=some {cls:= .type "list",data:= .seq its.toArray n}) (hf:f {cls:= .type "list",data:= .seq its.toArray n}={cls:= .type "list",data:= .seq its'.toArray n'}) (r:bF ys its') (hz:ys.length≤sizeLine) (t:Nat):
  Inv X pins σ (upd H p (.lst ys)) {s with heap:=s.heap.update p f,toks:=t}:=by
 have e:(s.heap.update p f).get? p=some {cls:= .type "list",data:= .seq its'.toArray n'}:=by
  rw [Heap.get?_update_self f ho (by rw [hf] <;> rfl),hf]
 refine I.write (x:=p) (e:=p) (by rw [h];trivial) (.inl rfl) (fun b u hb q=>(Heap.get?_update_other _ _ (Ne.symm hb)).trans q) ⟨_,e⟩ ?_
 exact ⟨hz,its',n',r,e⟩
def B7:V→V→V→Hp→(Hp→Prop)→Prop:=fun o i v H Q=>∃p xs k j,o= .ref p∧i= .int k∧H p=some (.lst xs)∧ixN xs.length k=some j∧Q (upd H p (.lst (xs.set j v)))
theorem xx:Hc X B7:=by
 intro pins s σ H o i v ov iv u Q I ro ri rv h
 obtain ⟨p,xs,k,j,rfl,rfl,hp,hj,q⟩:=h
 cases ro
 obtain ⟨t,rfl⟩:=ri
 obtain ⟨its,n,r,ho,hz⟩:=I.lst hp
 obtain ⟨h1,h2,h3,h4⟩:=vH hj
 have hl:=r.length
 have hn:=ku
 have I':Inv X pins σ (upd H p (.lst (xs.set j v))) {s with heap:=s.heap.update p (Obj.mapSeq (·.setIfInBounds j u))}:=
  I.lstUpd hp ho (sN its n j u) (r.set rv j) (by rw [abA];exact hz) s.toks
 by_cases h0:0≤k
 ·have hk:k.toNat=j:=by
   rw [seqIndex_of h0 h4] at h1
   exact aal h1
  exact PySem.W.ki_setAt ho h0 (by omega) (by rw [aas,←hl];exact h4) (by rw [hk];exact ⟨_,I',q⟩)
 ·have hk:(k+(its.toArray.size:Int)).toNat=j:=by
   rw [seqIndex_neg (by omega) h3] at h1
   rw [aas,←hl]
   exact aal h1
  exact PySem.W.ki_setBack ho (by omega) (by rw [aas,←hl];exact h3) (by omega) (by rw [hk];exact ⟨_,I',q⟩)
theorem mM(lo hi:Option Int)(n:Nat):(sliceBounds lo hi none n).1=((HT.sIx n 0 lo:Nat):Int)∧(sliceBounds lo hi none n).2.1=((HT.sIx n n hi:Nat):Int)∧(sliceBounds lo hi none n).2.2=1:=by
 refine ⟨?_, ?_,rfl⟩
 ·cases lo with
  | none=>simp [sliceBounds,HT.sIx]
  | some i=>
   simp only [sliceBounds,HT.sIx,Option.getD_none,show (1:Int) > 0 by decide,if_true]
   by_cases h:i < 0
   ·simp only [h,if_true] <;> omega
   ·simp only [h,if_false] <;> omega
 ·cases hi with
  | none=>simp [sliceBounds,HT.sIx]
  | some i=>
   simp only [sliceBounds,HT.sIx,Option.getD_none,show (1:Int) > 0 by decide,if_true]
   by_cases h:i < 0
   ·simp only [h,if_true] <;> omega
   ·simp only [h,if_false] <;> omega
theorem kR(its:List Value)(lo hi:Option Int):slicePick its.toArray lo hi none=((its.drop (HT.sIx its.length 0 lo)).take (HT.sIx its.length its.length hi - HT.sIx its.length 0 lo)).toArray:=by
 obtain ⟨h1,h2,h3⟩:=mM lo hi its.toArray.size
 unfold slicePick
 rw [h1,h2,h3]
 simp only [sliceRange_one,pick_run,List.size_toArray] <;> rfl
def Hw(K:PySem.W.Frag):V→Option Int→Option Int→Hp→VK→Prop:=fun x lo hi H Q=>∃a xs,x= .ref a∧SqL K H a xs∧∀p,H p=none→Q (.ref p) (upd H p (.lst (xi xs lo hi)))
theorem oI:SlR X (Hw X.K):=by
 intro pins s σ H x v vl vu lo hi sl Q I rx hs pl pu h
 obtain ⟨a,xs,rfl,hx,q⟩:=h
 cases rx
 obtain ⟨its,r,ht,hz⟩:=I.list hx
 have hlen:=r.length
 refine ⟨"list",_,slot_list_getitem.lookup,ht.isList.typeIs, ?_⟩
 refine wpAny_getItem_list_slice ht.isList hs pl pu .none (by simp) ?_ (by rw [List.size_toArray] <;> omega)
 rw [kR,←hlen]
 refine ⟨.ref s.heap.objs.size,_,I.laid (t':=s.toks) (o:= .lst (xi xs lo hi)) (fun b ob q=>Heap.get?_push_of_some _ q) (aah _) ?_,rfl,q _ (I.hok.fresh (aah _))⟩
 exact ⟨aau (p8 xs lo hi) hz,_,0,(r.drop (HT.sIx xs.length 0 lo)).take (HT.sIx xs.length xs.length hi - HT.sIx xs.length 0 lo),Heap.get?_push_size _ rfl⟩
def dJ:V→Bool
 | .non=>true
 | .bl _=>true
 | .int _=>true
 | .str _=>true
 | _=>false
def eqV:V→V→Bool
 | .non, .non=>true
 | .bl a, .bl b=>a==b
 | .bl a, .int b=>(if a then 1 else 0)==b
 | .int a, .bl b=>a==(if b then 1 else 0)
 | .int a, .int b=>a==b
 | .str a, .str b=>a==b
 | _,_=>false
theorem nQ{A:Around}{s:Shared}{y x:V}{u v:Value}(ry:bx y u)(rx:bx x v)(fy:dJ y=true)(fx:dJ x=true):SeqAt.EqAt A s u v (eqV y x):=by
 cases y with
 | non=>
  cases ry
  cases x with
  | non=>cases rx;exact SeqAt.EqAt.same _
  | bl b=>cases rx;exact SeqAt.EqAt.none_bool b
  | int b=>obtain ⟨t,rfl⟩:=rx;exact SeqAt.EqAt.none_int b t
  | str b=>obtain ⟨t,rfl⟩:=rx;exact SeqAt.EqAt.none_str b t
  | _=>exact absurd (show false=true from fx) aaq
 | bl a=>
  cases ry
  cases x with
  | non=>cases rx;exact SeqAt.EqAt.bool_none a
  | bl b=>cases rx;exact SeqAt.EqAt.bool_bool a b
  | int b=>obtain ⟨t,rfl⟩:=rx;exact SeqAt.EqAt.bool_int a b t
  | str b=>obtain ⟨t,rfl⟩:=rx;exact SeqAt.EqAt.bool_str a b t
  | _=>exact absurd (show false=true from fx) aaq
 | int a=>
  obtain ⟨t',rfl⟩:=ry
  cases x with
  | non=>cases rx;exact SeqAt.EqAt.int_none a t'
  | bl b=>cases rx;exact SeqAt.EqAt.int_bool a t' b
  | int b=>obtain ⟨t,rfl⟩:=rx;exact SeqAt.EqAt.int_int a t' b t
  | str b=>obtain ⟨t,rfl⟩:=rx;exact SeqAt.EqAt.int_str a t' b t
  | _=>exact absurd (show false=true from fx) aaq
 | str a=>
  obtain ⟨t',rfl⟩:=ry
  cases x with
  | non=>cases rx;exact SeqAt.EqAt.str_none a t'
  | bl b=>cases rx;exact SeqAt.EqAt.str_bool a t' b
  | int b=>obtain ⟨t,rfl⟩:=rx;exact SeqAt.EqAt.str_int a t' b t
  | str b=>obtain ⟨t,rfl⟩:=rx;exact SeqAt.EqAt.str_str a t' b t
  | _=>exact absurd (show false=true from fx) aaq
 | _=>exact absurd (show false=true from fy) aaq
def eqU(x:V)(u:Value):Bool:=match u with
 | .none=>eqV .non x
 | .bool b=>eqV (.bl b) x
 | .int i _=>eqV (.int i) x
 | .str z _=>eqV (.str z) x
 | _=>false
theorem zA{x y:V}{u:Value}(r:bx y u)(f:dJ y=true):eqU x u=eqV y x:=by
 cases y with
 | non=>cases r;rfl
 | bl b=>cases r;rfl
 | int i=>obtain ⟨t,rfl⟩:=r;rfl
 | str z=>obtain ⟨t,rfl⟩:=r;rfl
 | _=>exact absurd (show false=true from f) aaq
theorem qd{x:V}:∀{xs:List V} {us:List Value},bF xs us→xs.all dJ=true→us.any (eqU x)=xs.any fun y=>eqV y x
 | _,_, .nil,_=>rfl
 | y::xs,u::us, .cons r t,f=>by
  rw [abt,aao] at f
  rw [abD,abD,zA r f.1,qd t f.2]
theorem lO{A:Around}{s:Shared}{x:V}{v:Value}(rx:bx x v)(fx:dJ x=true):∀{xs:List V} {us:List Value},bF xs us→xs.all dJ=true→∀u∈us,SeqAt.EqAt A s u v (eqU x u)
 | _,_, .nil,_=>fun u hu=>by cases hu
 | y::xs,u::us, .cons r t,f=>fun u' hu=>by
  rw [abt,aao] at f
  rcases aaG.mp hu with rfl | hu
  ·rw [zA r f.1];exact nQ r rx f.1 fx
  ·exact lO rx fx t f.2 u' hu
def inV(x:V)(xs:List V):Bool:=xs.any fun y=>eqV y x
def rIn(K:PySem.W.Frag)(neg:Bool):R2:=fun x y H Q=>∃p xs,y= .ref p∧(SqL K H p xs∨SqT K H p xs)∧dJ x=true∧xs.all dJ=true∧Q (.bl (if neg then !inV x xs else inV x xs)) H
theorem u7:OpR X (compareOp .In) (rIn X.K false):=by
 intro pins s σ H x y v u Q I rx ry h
 obtain ⟨p,xs,rfl,hq,fx,fs,q⟩:=h
 cases ry
 rcases hq with hq | hq
 ·obtain ⟨its,r,pl,hz⟩:=I.list hq
  refine SeqAt.in_listAt (eqU x) pl.isList (fun w hw=>lO rx fx r fs w (by simpa using hw)) ⟨.bl _,H,I,rfl, ?_⟩
  rw [show its.toArray.any (eqU x)=its.any (eqU x) by simp,qd r fs]
  exact q
 ·obtain ⟨its,r,pl,hz⟩:=I.tuple hq
  refine SeqAt.in_tupleAt (eqU x) pl (fun w hw=>lO rx fx r fs w (by simpa using hw)) ⟨.bl _,H,I,rfl, ?_⟩
  rw [show its.toArray.any (eqU x)=its.any (eqU x) by simp,qd r fs]
  exact q
theorem oa:eS X (.builtin "len") (fun xs H Q=>∃p ys,xs=[.ref p]∧(SqL X.K H p ys∨SqT X.K H p ys)∧Q (.int ys.length) H):=by
 intro pins s σ H xs us Q I r h
 obtain ⟨p,ys,rfl,hq,q⟩:=h
 obtain ⟨u,rfl,rx⟩:=jO r
 cases rx
 have hn:=ku
 rcases hq with hq | hq
 ·obtain ⟨its,r',pl,hz⟩:=I.list hq
  have hlen:=r'.length
  exact Calls.call_len_list pl.isList (by simp only [List.size_toArray] <;> omega) ⟨.int ys.length,H,I.tok _,⟨s.toks+1,by rw [List.size_toArray,hlen]⟩,q⟩
 ·obtain ⟨its,r',pl,hz⟩:=I.tuple hq
  have hlen:=r'.length
  exact len_tuple pl (by simp only [List.size_toArray] <;> omega) ⟨.int ys.length,H,I.tok _,⟨s.toks+1,by rw [List.size_toArray,hlen]⟩,q⟩
theorem n9:eS X (.builtin "len") (fun xs H Q=>∃z,xs=[.str z]∧z.length≤sizeLine∧Q (.int z.length) H):=by
 intro pins s σ H xs us Q I r h
 obtain ⟨z,rfl,hz,q⟩:=h
 obtain ⟨u,rfl,t,rfl⟩:=jO r
 have hn:=ku
 exact len_str (by omega) ⟨.int z.length,H,I.tok _,⟨_,rfl⟩,q⟩
theorem eS.or{f:Value}{r r':List V→Hp→VK→Prop}(h:eS X f r)(h':eS X f r'):eS X f (fun xs H Q=>r xs H Q∨r' xs H Q):=by
 intro pins s σ H xs us Q I rs q
 rcases q with q | q
 ·exact h pins s σ H xs us Q I rs q
 ·exact h' pins s σ H xs us Q I rs q
theorem n8:eS X (.type "list") (fun xs H Q=>∃p ys,xs=[.ref p]∧(SqL X.K H p ys∨SqT X.K H p ys)∧∀l,H l=none→Q (.ref l) (upd H l (.lst ys))):=by
 intro pins s σ H xs us Q I r h
 obtain ⟨p,ys,rfl,hq,q⟩:=h
 obtain ⟨u,rfl,rx⟩:=jO r
 cases rx
 have fin:∀(its:List Value),bF ys its→ys.length≤sizeLine→∀(h':Heap) (c':Nat),(∀b o',s.heap.get? b=some o'→h'.get? b=some o')→
   h'.get? s.heap.objs.size=some {cls:= .type "list",dict:=none,data:= .seq its.toArray c',slots:= #[]}→EP X pins σ Q (.ref s.heap.objs.size) {s with heap:=h'}:=fun its r' hz h' c' kp e=>
  ⟨.ref s.heap.objs.size,_,I.laid (t':=s.toks) kp (aah _) (show cf X.prog X.w _ h' _ (.lst ys) from ⟨hz,its,c',r',e⟩),rfl,q _ (I.hok.fresh (aah _))⟩
 rcases hq with hq | hq
 ·obtain ⟨its,r',pl,hz⟩:=I.list hq
  have hlen:=r'.length
  obtain ⟨o,ho,hc,n,hd⟩:=pl.isList
  exact call_list_seq p (.inl rfl) ho hc hd (fun h' c' kp e=>fin its r' hz h' c' kp e) (by simp only [List.size_toArray] <;> omega)
 ·obtain ⟨its,r',pl,hz⟩:=I.tuple hq
  have hlen:=r'.length
  obtain ⟨o,ho,hc,n,hd⟩:=pl
  exact call_list_seq p (.inr rfl) ho hc hd (fun h' c' kp e=>fin its r' hz h' c' kp e) (by simp only [List.size_toArray] <;> omega)
def tyV(K:PySem.W.Frag)(T:String)(x:V)(H:Hp):Prop:=match x with
 | .str _=>T="str"
 | .int _=>T="int"
 | .ref p=>(T="list"∧∃xs,SqL K H p xs)∨(T="tuple"∧∃o,K.lookup p=some o∧o.cls= .type "tuple"∧o.dict=none)∨
   (T="dict"∧((∃kvs,H p=some (.dK kvs))∨∃kvs,H p=some (.dT kvs)))∨(T="set"∧∃S n,H p=some (.set S n))
 | _=>False
theorem BM{pins:List (Addr×Obj)}{σ:St}{H:Hp}{s:Shared}{T:String}{x:V}{v:Value}(I:Inv X pins σ H s)(r:bx x v)(ty:tyV X.K T x H):
  s.TypeIs v T∧∀a,v= .ref a→∃ob,s.heap.get? a=some ob∧ob.dict=none:=by
 cases x with
 | str z=>
  obtain ⟨t,rfl⟩:=r
  cases (show T="str" from ty)
  exact ⟨typeIs_str s z t,fun _ e=>nomatch e⟩
 | int i=>
  obtain ⟨t,rfl⟩:=r
  cases (show T="int" from ty)
  exact ⟨typeIs_int s i t,fun _ e=>nomatch e⟩
 | ref p=>
  cases r
  rcases ty with ⟨rfl,xs,hq⟩ | ⟨rfl,o,hk,hc,hd⟩ | ⟨rfl,hk⟩ | ⟨rfl,S,n,hk⟩
  ·obtain ⟨its,_,pl,_⟩:=I.list hq
   refine ⟨pl.isList.typeIs,fun a e=> ?_⟩
   cases e
   obtain ⟨o,n,e,c,hd,_⟩:=pl
   exact ⟨o,e,hd⟩
  ·refine ⟨⟨o,I.kIn p o hk,hc⟩,fun a e=> ?_⟩
   cases e
   exact ⟨o,I.kIn _ o hk,hd⟩
  ·have z:∃o,s.heap.get? p=some o∧o.ExactDict:=by
    rcases hk with ⟨kvs,hk⟩ | ⟨kvs,hk⟩
    ·obtain ⟨_,_,_,_,o,_,_,e,ex,_⟩:=I.hok p _ hk
     exact ⟨o,e,ex⟩
    ·obtain ⟨_,_,_,_,o,_,_,e,ex,_⟩:=I.hok p _ hk
     exact ⟨o,e,ex⟩
   obtain ⟨o,e,ex⟩:=z
   refine ⟨⟨o,e,ex.1⟩,fun a e2=> ?_⟩
   cases e2
   exact ⟨o,e,ex.2.1⟩
  ·obtain ⟨o,_,_,_,e,ex,_⟩:=I.hok p _ hk
   refine ⟨⟨o,e,ex.1⟩,fun a e2=> ?_⟩
   cases e2
   exact ⟨o,e,ex.2.1⟩
 | _=>exact False.elim ty
def tBM(K:PySem.W.Frag)(T:String)(r:V→List V→Hp→VK→Prop)(to:TE)(t:TA):TE:=fun σ H Q=>to σ H fun x H1=>tyV K T x H1∧t σ H1 fun xs H2=>r x xs H2 Q
variable{o e:Expr}{es:List Expr}{to:TE}{t:TA}{name:Str}{apos cpos:Pos}{T id:String}{r:V→List V→Hp→VK→Prop}
theorem EX(pa:PlainAttrs T)(slot:Slot T name id)(hty:typeOf (.builtin id)=pure (.type "method_descriptor"))(hm:MtR X id r)(ho:PE X o to)(ha:PA X (e::es) t)
  (hbase:attributeBase o name X.env (eval o X.env)=eval o X.env:=by rfl)
  (hfew:((backTo cpos (starEach (e::es) X.env)).all (fun x=> !x.1)&&(backToKw cpos (keywordEach [] X.env)).all (fun x=>x.1.isSome)
   &&decide ((e::es).length+([]:List Keyword).length+(if ([]:List Keyword).isEmpty then 0 else 1) < 30))=true:=by rfl)
  (hline:(apos.endLine==cpos.line)=true:=by rfl) (hs:starEach (e::es) X.env=(false,eval e X.env)::starEach es X.env:=by rfl) (hplain:(backTo cpos (starEach es X.env)).any (·.1)=false:=by rfl):
  PE X (.Call (.Attribute o name apos) (e::es) [] cpos) (tBM X.K T r to t):=by
 intro pins s σ H Q I h
 refine wpAny_Call_method_late hbase hfew hline rfl (thn (ho pins s σ H _ I h) fun v s1 ⟨x,H1,I1,r1,ty,q1⟩=> ?_)
 obtain ⟨h1,h2⟩:=BM I1 r1 ty
 refine ⟨T,id,pa,slot,hty,h1,h2, ?_⟩
 have hA:=ha cpos pins s1 σ H1 _ I1 q1
 rw [hs] at hA⊢
 refine Calls.callWith_builtin (by show (false || (backTo cpos (starEach es X.env)).any (·.1))=false;rw [hplain] <;> rfl) (Calls.evalArgs_plain ?_)
 exact thn hA fun us s2 ⟨vs,H2,I2,r2,q2⟩=>hm pins s2 σ H2 x vs v us Q I2 r1 r2 q2
/- xs.append(e),list.index on a module's tuple .. are MtR facts of 06m -/
end
def MtM(X:Cx)(id:String)(r:V→List V→Hp→VK→Prop):Prop:=
 ∀(pins:List (Addr×Obj)) (s:Shared) (σ:St) (H:Hp) (x:V) (xs:List V) (v:Value) (us:List Value) (Q:VK),Inv X pins σ H s→bx x v→bF xs us→r x xs H Q→
  wpAny (model X.prog X.w) X.A (call (.builtin id) (v::us)) (EP X pins σ Q) X.xe s
theorem bF.one:∀{x:V} {us:List Value},bF [x] us→∃u,us=[u]∧bx x u
 | _,_, .cons r .nil=>⟨_,rfl,r⟩
theorem bF.rep{xs:List V}{us:List Value}(h:bF xs us):∀k:Nat,bF (List.replicate k xs).flatten (List.replicate k us).flatten
 | 0=> .nil
 | k+1=>by
  rw [aaX,aaX,abb,abb]
  exact bF.append h (bF.rep h k)
theorem nP(its:List Value):∀(k:Nat) (acc:List Value),
  List.foldl (fun x1 x2=>x1++x2) acc.toArray (List.replicate k its.toArray)=(acc++(List.replicate k its).flatten).toArray
 | 0,acc=>by simp
 | k+1,acc=>by
  have e:acc.toArray++its.toArray=(acc++its).toArray:=by simp
  have e2:(acc++its)++(List.replicate k its).flatten=acc++(List.replicate (k+1) its).flatten:=by
   rw [aaX,abb,List.append_assoc]
  rw [←e2,←nP its k (acc++its),←e,aaX,abK]
section
variable{X:Cx}{pins:List (Addr×Obj)}{σ:St}{H:Hp}{s:Shared}{l b:Addr}{xs ys zs:List V}
theorem Inv.lset{its its':List Value}{n:Nat}{f:Array Value→Array Value}{t':Nat}(I:Inv X pins σ H s)(hH:H l=some (.lst xs))
  (e:s.heap.get? l=some {cls:= .type "list",data:= .seq its.toArray n}) (hf:f its.toArray=its'.toArray) (hv:bF ys its') (hz:ys.length≤sizeLine):
  Inv X pins σ (upd H l (.lst ys)) {s with heap:=s.heap.update l (Obj.mapSeq f),toks:=t'}:=by
 have q:=PySem.IsL.update e f
 rw [hf] at q
 refine I.write (x:=l) (e:=l) (by rw [hH];exact trivial) (.inl rfl) (fun b' u hb hu=>(Heap.get?_update_other s.heap (Obj.mapSeq f) (Ne.symm hb)).trans hu) ⟨_,q⟩ ?_
 exact ⟨hz,its',_,hv,q⟩
theorem Inv.lnew{its:List Value}{t':Nat}(I:Inv X pins σ H s)(hv:bF ys its)(hz:ys.length≤sizeLine):
  Inv X pins σ (upd H s.heap.objs.size (.lst ys)) {s with heap:=s.heap.push {cls:= .type "list",data:= .seq its.toArray},toks:=t'}:=
 I.laid (fun _ _ q=>Heap.get?_push_of_some _ q) (aah _) ⟨hz,its,0,hv,Heap.get?_push_size _ rfl⟩
theorem Inv.fresh(I:Inv X pins σ H s):H s.heap.objs.size=none:=I.hok.fresh (aah _)
theorem Inv.lstM(I:Inv X pins σ H s)(hH:H l=some (.lst xs)):xs.length≤sizeLine∧∃(its:List Value) (n:Nat),bF xs its∧xs.length=its.length∧s.heap.get? l=some {cls:= .type "list",data:= .seq its.toArray n}:=by
 obtain ⟨z,its,n,r,e⟩:=I.hok l _ hH
 exact ⟨z,its,n,r,r.length,e⟩
theorem xV{n:Nat}(h:n≤sizeLine):Builtin.List.listTooLong n=false:=by
 unfold Builtin.List.listTooLong
 exact decide_eq_false (by omega)
end
section
variable{X:Cx}
def uH:V→List V→Hp→VK→Prop:=fun x vs H Q=>∃l xs y,x= .ref l∧vs=[y]∧H l=some (.lst xs)∧xs.length < sizeLine∧Q .non (upd H l (.lst (xs++[y])))
theorem jd:MtM X "list.append" uH:=by
 intro pins s σ H x vs v us Q I rx rv h
 obtain ⟨l,xs,y,rfl,rfl,hH,hz,q⟩:=h
 cases rx
 obtain ⟨u,rfl,ru⟩:=rv.one
 obtain ⟨z,its,n,r,hl,e⟩:=I.lstM hH
 refine call_meets F.slot_list_append ⟨_,e,rfl⟩ F.entry_list_append (F.args_list_append_2 _ _) (PySem.list_append l its.toArray n u (by rw [aas];omega)) ⟨e, ?_⟩
 refine ⟨.non,_,I.lset (its':=its++[u]) hH e (by simp) (r.append (.cons ru .nil)) ?_,rfl,q⟩
 rw [aai,List.length_singleton]
 omega
def EO:R2:=fun x y H Q=>∃l b xs zs,x= .ref l∧y= .ref b∧H l=some (.lst xs)∧H b=some (.lst zs)∧xs.length+zs.length≤sizeLine∧∀p,H p=none→Q (.ref p) (upd H p (.lst (xs++zs)))
theorem zc:OpR X (binaryOp .Add) EO:=by
 intro pins s σ H x y v u Q I rx ry h
 obtain ⟨l,b,xs,zs,rfl,rfl,hH,hB,hz,q⟩:=h
 cases rx
 cases ry
 obtain ⟨z,its,n,r,hl,e⟩:=I.lstM hH
 obtain ⟨z2,its2,n2,r2,hl2,e2⟩:=I.lstM hB
 refine PySem.P.add_list e e2 ?_ (by rw [aas,aas];omega)
 have ea:its.toArray++its2.toArray=(its++its2).toArray:=by simp
 rw [ea]
 exact ⟨.ref _,_,I.lnew (t':=s.toks) (r.append r2) (by rw [aai];omega),rfl,q _ I.fresh⟩
def EN:R2:=fun x y H Q=>∃l k xs,x= .ref l∧y= .int k∧H l=some (.lst xs)∧ -(2 ^ 63)≤k∧k < 2 ^ 63∧xs.length * k.toNat≤sizeLine∧
 ∀p,H p=none→Q (.ref p) (upd H p (.lst (List.replicate k.toNat xs).flatten))
theorem AV{α:Type}(xs:List α)(k:Nat):(List.replicate k xs).flatten.length=k * xs.length:=by
 induction k with
 | zero=>simp
 | succ k ih=>rw [aaX,abb,aai,ih,Nat.succ_mul,Nat.add_comm]
theorem za:OpR X (binaryOp .Mult) EN:=by
 intro pins s σ H x y v u Q I rx ry h
 obtain ⟨l,k,xs,rfl,rfl,hH,h1,h2,hz,q⟩:=h
 cases rx
 obtain ⟨t,rfl⟩:=ry
 obtain ⟨z,its,n,r,hl,e⟩:=I.lstM hH
 have hlen:its.toArray.size * k.toNat≤sizeLine:=by rw [aas,←hl];exact hz
 have hcap:¬its.toArray.size * k.toNat > (2 ^ 63 - 1) / 8:=by
  have:(sizeLine:Nat)≤(2 ^ 63 - 1) / 8:=by decide
  omega
 have hfit:¬(!Builtin.List.listFitsIndex k)=true:=by
  rw [fitsIndex_both h1 h2]
  exact aaq
 have hlong:¬Builtin.List.listTooLong (its.toArray.size * k.toNat)=true:=by
  rw [xV hlen]
  exact aaq
 have hnew:List.foldl (fun x1 x2=>x1++x2) #[] (List.replicate (if its.toArray.isEmpty=true then 0 else k.toNat) its.toArray)=(List.replicate k.toNat its).flatten.toArray:=by
  have f0:∀m:Nat,List.foldl (fun x1 x2=>x1++x2) #[] (List.replicate m its.toArray)=(List.replicate m its).flatten.toArray:=fun m=>by
   have:=nP its m []
   rw [aaP] at this
   exact this
  rw [f0]
  cases its with
  | nil=>simp
  | cons a r'=>rw [if_neg (by simp)]
 refine wpAny_binaryOp_repeat_ref (T:="list") (U:="int") (by decide) ⟨_,e,rfl⟩ (fun s'=>typeIs_int s' k t) noFill_list_mul F.fills_int_mul F.slot_int_rmul repeat_list F.slot_int_index.lookup
  (call_meets F.slot_int_rmul (typeIs_int s k t) F.entry_int_rmul (F.args_int_rmul_2 _ _) (int___rmul___int_list k t l its.toArray n)
   ⟨e,rfl,⟨_,e,rfl⟩,call_meets F.slot_list_mul ⟨_,e,rfl⟩ F.entry_list_mul (F.args_list_mul_2 _ _) (AutoListH.list___mul___list_int_3 l its.toArray n k t hfit hcap hlong) ⟨e, ?_⟩⟩)
 rw [hnew]
 exact ⟨.ref _,_,I.lnew (t':=s.toks) (r.rep k.toNat) (by rw [AV,Nat.mul_comm];exact hz),rfl,q _ I.fresh⟩
end
end L2
namespace Att
open PySem PySem.W PySem.Calls PyProof.Rows
theorem jw{P:Params}{h:Heap}:∀(ns:List Int) (vs:List Value),WellAll P h vs (ns.map WData.int)→IntsAre vs ns:=by
 intro ns
 induction ns with
 | nil=>
  intro vs w
  rw [List.map_nil] at w
  cases w
  exact .nil
 | cons n ns ih=>
  intro vs w
  rw [aaI] at w
  cases w with
  | cons a b=>
   cases a
   exact .cons _ _ (ih _ b)
theorem uj{l:OpenLaw}{n:Nat}(hn:l.most=some n){P:Params}{h:Heap}{args:List WData}{vals:List Value}
  (hpre:l.row.toRowW.claim.pre args=true) (hwl:WellAll P h vals args):
  ∃a vs ns,vals=[Value.ref a]∧args=[WData.list (ns.map WData.int)]∧h.get? a=some {cls:= .type "list",data:= .seq vs.toArray}∧IntsAre vs ns∧ns.length≤n:=by
 have hsh:WShape.hasAll [] args [.list .int]=true:=(pre_splitW hpre).1
 have hc:l.pre.holds [] {args:=args}=true:=(pre_splitW hpre).2
 obtain ⟨d,r,rfl,h1,h2⟩:=hasAllW_cons hsh
 obtain rfl:=hasAllW_nil h2
 obtain ⟨xs,rfl,h3⟩:=hasW_list h1
 obtain ⟨ns,rfl⟩:=items_int h3
 have hlen:ns.length≤n:=by
  unfold OpenLaw.pre at hc
  have h4:(WTm.not (.lt (.lit (.int (n:Int))) (.len (.arg 0)))).holds [] {args:=[.list (ns.map .int)]}=true:=by
   have h4:=(holds_andW hc).1
   rw [hn] at h4
   exact h4
  have h5:=condW_of h4 (w_not (w_lt w_lit (w_len_list (w_arg rfl))))
  rw [aac] at h5
  refine Nat.le_of_not_lt fun q=> ?_
  have q':(n:Int) < ((ns.length:Nat):Int):=by omega
  first
   | (rw [decide_eq_true q'] at h5;exact absurd h5 (by decide))
   | (simp at h5;omega)
 cases hwl with
 | cons w1 w2=>
  cases w2
  cases w1 with
  | list ho hall=>exact ⟨_,_,ns,rfl,rfl,ho,jw ns _ hall,hlen⟩
theorem uO(l:OpenLaw)(args:List WData):l.row.toRowW.claim.post args (.bool true) args=true:=
 postW_of (r:=l.row.toRowW) (X:=(true==true))
  (show WShape.has [] (.bool true) .bool=true by first | rfl | decide | simp [WShape.has,WShape.arms,WShape.armsAll])
  (show (WTm.eq .res (.lit (.bool true))).value [] {args:=args,res:=some (.bool true),after:=args}=some (.bool (true==true)) from w_eq_bool (w_res rfl) w_lit) rfl
theorem qb{l:OpenLaw}{n:Nat}{q:Program}{loose:List Str}{XP:(Str→Option Value)→Heap→Prop}{YP:World→Heap→Prop}{d:DefRec}
  (hn:l.most=some n) (hdf:d.params.defaults=[])
  (call:∀(w:World) (s₀ s₁:Shared) (mg mb:Str→Option Value) (fa:Addr) (o:Obj) (pm cd doc:Value) (a:Addr) (vs:List Value) (ns:List Int),
   Ground q loose [] XP w s₀ mg mb s₁.heap→YP w s₁.heap→
   s₁.heap.get? fa=some o→o.data= .func (docDef d.name d.params d.body d.scope pm cd doc)→s₁.heap.CodeRec cd d.name→mg d.name=some (.ref fa)→
   s₁.heap.get? a=some {cls:= .type "list",data:= .seq vs.toArray}→IntsAre vs ns→ns.length≤n→s₁.gens= #[]→
   codeAny (model l.prog w) callerA (.call (.ref fa) ⟨[.ref a],[]⟩) (fun r s'=>r= .ok (.ret (.bool true))∧OldK s₁.heap s'.heap∧s'.os=s₁.os∧AllBare s'.gens) s₁):
  WalkO q loose XP YP l.row.toRowW d [] (fun f vs=>PySem.call f vs):=by
 intro w s₀ s₁ mg mb G Y fa o pm cd doc dV kV ho hd hcd hD hmg hg args vals as hpre hlay hrd hwl hlo
 obtain rfl:dV= .none:=Dflts.none hD hdf
 obtain rfl:kV= .none:=Dflts.noKw hD
 obtain ⟨a,vs,ns,rfl,rfl,hobj,hints,hlen⟩:=uj hn hpre hwl
 refine enter_call (codeAny_mono (call w s₀ s₁ mg mb fa o pm cd doc a vs ns G Y ho (fd_plain hd) hcd hmg hobj hints hlen hg) fun r s' hq=> ?_)
 obtain ⟨rfl,h2,h3,h4⟩:=hq
 exact ⟨.inl ⟨.bool true, .bool true,[],rfl,fun _=>rfl, .bool true,uO l _,fun _=>⟨List.Pairwise.nil,fun _ hm=>(nomatch hm)⟩⟩,h2,h3,h4⟩
end Att
namespace L2
open PySem PySem.Spec PyProof.Rows
theorem mC:∀{vs:List Value} {ns:List Int},IntsAre vs ns→bF (ns.map V.int) vs
 | _,_, .nil=> .nil
 | _,_, .cons n t h=> .cons ⟨t,rfl⟩ (mC h)
def Ga(H:Hp):Prop:=∀b,H b=none∨∃o xs,H b=some (.frz o (.lst xs))
theorem x8{P:Program}{w:World}{K:PySem.W.Frag}{mg mb:Str→Option Value}{CX:CXT}{k:Nat}{fa a:Addr}{fd:FuncData}{x:Str}{sp:Sp}{s₁:Shared}{vs:List Value}{ns:List Int}
  (KX:K.In s₁.heap) (hns:s₁.heap.Ns mainGlobals mg) (hb:s₁.heap.Ns builtinsNs mb) (hbb:∀x:Str,x≠"__name__"→mb x=bootBuiltins x) (hlim:s₁.heap.NoLimit) (hg:s₁.gens= #[])
  (ha:s₁.heap.get? a=some {cls:= .type "list",data:= .seq vs.toArray}) (hi:IntsAre vs ns) (hl:ns.length≤sizeLine) (hr:dN k callerA)
  (F:∀base:Heap,K.In base→base.Ns mainGlobals mg→bK P w K mg base CX k fa fd [x] sp) (hbind:∀(s:Shared) (u:Value),BindsTo s fd ⟨[u],[]⟩ [(x,u)])
  (hsp:∀H:Hp,Ga H→SqL K H a (ns.map V.int)→sp [.ref a] H (fun v _=>v= .bl true) fun _ _ _=>False)
  (hCX:∀H e s',CX [] H s₁ (fun _ _ _=>False) e s'→False):
  codeAny (model P w) callerA (.call (.ref fa) ⟨[.ref a],[]⟩) (fun r s'=>r= .ok (.ret (.bool true))∧OldK s₁.heap s'.heap∧s'.os=s₁.os∧AllBare s'.gens) s₁:=by
 have rv:=mC hi
 have lenV:=hi.length
 have core:∀H:Hp,Ga H→SqL K H a (ns.map V.int)→HOk P w H s₁.heap→(∀b,H b≠none→b=a)→(H a≠none→K.lookup a=none)→
   codeAny (model P w) callerA (.call (.ref fa) ⟨[.ref a],[]⟩) (fun r s'=>r= .ok (.ret (.bool true))∧OldK s₁.heap s'.heap∧s'.os=s₁.os∧AllBare s'.gens) s₁:=by
  intro H hO hS hok hA hK
  have base_of:∀{b:Addr} {o:Obj},s₁.heap.get? b=some o→H b=none→(yf s₁.heap H).get? b=some o:=fun e n=>ye e n
  have noA:∀{b:Addr} {o:Obj} {es:Array DictEntry} {ep:Nat},s₁.heap.get? b=some o→o.data= .dict es ep→H b=none:=fun {b o es ep} e d=>by
   cases q:H b with
   | none=>rfl
   | some u=>
    have e':b=a:=hA b (by rw [q];simp)
    subst e'
    rw [ha] at e;cases e
    have d':Data.seq vs.toArray _=Data.dict es ep:=d
    cases d'
  have nsK:∀{b:Addr} {m:Str→Option Value},s₁.heap.Ns b m→(yf s₁.heap H).Ns b m:=fun {b m} ⟨o,es,ep,e,d,r⟩=>⟨o,es,ep,base_of e (noA e d),d,r⟩
  have hKb:K.In (yf s₁.heap H):=fun b o e=>base_of (KX b o e) (by
   cases q:H b with
   | none=>rfl
   | some u=>
    have e':b=a:=hA b (by rw [q];simp)
    subst e'
    rw [hK (by rw [q];simp)] at e;cases e)
  have hM:Mod K mg (yf s₁.heap H):=⟨hKb,nsK hns,⟨mb,nsK hb,hbb⟩,let ⟨mc,h1,h2⟩:=hlim;⟨mc,nsK h1,h2⟩⟩
  have e0:BH P w K mg (yf s₁.heap H) callerA [] s₁ H:=⟨rfl,hM,fun b o e=>AK e,Nat.le_of_eq (vL _ _),trivial,fun b hb=>absurd (show b∈([]:List Addr) from hb) (by simp),hok, .of_eq hg⟩
  refine codeAny_mono ((F _ hKb (nsK hns)).run callerA [] s₁ H ⟨[.ref a],[]⟩ [.ref a] [.ref a] _ _ hr e0 (hbind s₁ (.ref a)) (.cons rfl .nil) (hsp H hO hS)) fun r s' h=> ?_
  cases r with
  | error e=>exact (hCX H e s' h).elim
  | ok fl=>
   cases fl with
   | next=>exact False.elim h
   | brk=>exact False.elim h
   | cont=>exact False.elim h
   | ret u=>
    obtain ⟨v,H',os,bare,un,hok',r',q⟩:=h
    have q':v= .bl true:=q
    subst q'
    obtain rfl:u=Value.bool true:=r'
    refine ⟨rfl,OldK.of_keep fun b o e=> ?_,os,bare⟩
    cases q:H b with
    | none=>exact un.keep b o e q (by intro z;exact absurd (show b∈([]:List Addr) from z) (by simp)) (by simp)
    | some u=>
     rcases hO b with z | ⟨ob,xs,z⟩
     ·rw [q] at z;cases z
     ·have z2:=un.frzs b ob _ z
      obtain ⟨e1,_⟩:=hok b _ z
      obtain ⟨e2,_⟩:=hok' b _ z2
      rw [e] at e1;cases e1
      exact e2
 cases hk:K.lookup a with
 | some o=>
  have e:=KX a o hk
  rw [ha] at e
  cases e
  refine core (fun _=>none) (fun _=> .inl rfl) (.inr ⟨_,vs.toArray,_,hk,rfl,rfl,rfl,by rw [List.size_toArray,lenV];exact hl,by simpa using rv⟩) (fun b u z=>by have z':(none:Option HO)=some u:=z;cases z') (fun b z=>absurd rfl z) fun z=>absurd rfl z
 | none=>
  refine core (fun b=>if b=a then some (.frz {cls:= .type "list",data:= .seq vs.toArray} (.lst (ns.map V.int))) else none) (fun b=> ?_) (.inl (.inr ⟨{cls:= .type "list",data:= .seq vs.toArray},if_pos rfl⟩)) (fun b u z=> ?_) (fun b z=> ?_) fun _=>hk
  ·by_cases hb:b=a
   ·exact .inr ⟨_,_,if_pos hb⟩
   ·exact .inl (if_neg hb)
  ·by_cases hb:b=a
   ·have z':=(if_pos hb).symm.trans z
    cases z'
    subst hb
    exact ⟨ha,by rw [aac];exact hl,vs,_,rv,ha⟩
   ·have z':=(if_neg hb).symm.trans z
    cases z'
  ·by_cases hb:b=a
   ·exact hb
   ·exact absurd (if_neg hb) z
theorem oE{l:PySem.W.OpenLaw}{n k:Nat}{q:Program}{loose:List Str}{XP:(Str→Option Value)→Heap→Prop}{YP:World→Heap→Prop}{d:DefRec}{K:Params→PySem.W.Frag}{CX:World→CXT}{sp:World→Sp}{x:Str}
  (hn:l.most=some n) (hn2:n≤sizeLine) (hdf:d.params.defaults=[]) (hr:dN k callerA)
  (hY:∀(w:World) (h:Heap),YP w h→(K w.params).In h)
  (F:∀(w:World) (mg:Str→Option Value) (fa:Addr) (h:Heap),(K w.params).In h→h.Ns mainGlobals mg→mg d.name=some (.ref fa)→
   ∃fd:FuncData,(∀(s:Shared) (u:Value),BindsTo s fd ⟨[u],[]⟩ [(x,u)])∧
    ∀base:Heap,(K w.params).In base→base.Ns mainGlobals mg→bK l.prog w (K w.params) mg base (CX w) k fa fd [x] (sp w))
  (hsp:∀(w:World) (H:Hp) (a:Addr) (ns:List Int),ns.length≤n→Ga H→SqL (K w.params) H a (ns.map V.int)→sp w [.ref a] H (fun v _=>v= .bl true) fun _ _ _=>False)
  (hCX:∀(w:World) (H:Hp) (s:Shared) (e:Value) (s':Shared),CX w [] H s (fun _ _ _=>False) e s'→False):
  PySem.W.WalkO q loose XP YP l.row.toRowW d [] (fun f vs=>PySem.call f vs):=by
 refine Att.qb hn hdf fun w s₀ s₁ mg mb fa o pm cd doc a vs ns G Y ho hd hcd hmg hobj hints hlen hg=> ?_
 have KX:=hY w _ Y
 obtain ⟨fd,hb,hF⟩:=F w mg fa _ KX G.T.g hmg
 exact x8 KX G.T.g G.T.b G.T.builtins G.T.nolimit hg hobj hints (aau hlen hn2) hr hF hb (fun H hO hS=>hsp w H a ns hlen hO hS) fun H e s'=>hCX w H s₁ e s'
end L2
/- THE LAST THEOREM (shape;LID,My.* are yours):
  My.Adr:a structure of the addresses that your layer names (classes,functions);My.Txt K t:a structure (Prop) of the equations tK K;
  My.txt_mk:{K} {implicit addresses ..} (e1:nsIn K mainGlobals "law"=some (some (.ref f))) (e2:K.lookup f=some ⟨oc,od, .func (fnOf "law" "law" params body scope dV kV doc pm an cdv ct),sl⟩) (e3:codeIn K cdv "law"=true) .. :∃t,My.Txt K t
set_option maxRecDepth 100000 in
set_option maxHeartbeats 0 in
theorem PySem.Challenge.cw_LID_holds : PySem.Challenge.rw_LID.Holds := by
 w_on;o_law;k_head;(case hw=>w_witness2)
 k_fill
 refine L2.oE (l:=PySem.Challenge.rw_LID) (n:=63) (k:=40) (x:="script") (CX:=fun w=> ..) (sp:=fun _=>My.sp_law) rfl (by decide) rfl ⟨rfl,by decide,by decide⟩ (fun w h Y=>PySem.W.kIn_of Y) ?F ?S ?C
 case F=>
  intro w mg fa h KX G hmg
  have T:∃t,My.Txt (L2.KOf KX) t:=by
   dsimp only [L2.KOf] -- K must stand as «<heap const> w.params» for k_is
   refine' My.txt_mk ?e1 ?e2 ?e3 ..
   (case e1=>PySem.W.k_is) -- in the order:a name->its address->its object->its parts
   (case e2=>PySem.W.k_is)
   ..
  obtain ⟨t,T⟩:=T
  have e0:=hmg.symm.trans (PySem.W.mg_of KX G T.law)
  cases e0 -- fa is the law's own address
  exact ⟨_,fun s u=> .of_eq rfl,fun base kb nb=>My.law_fn T kb nb⟩ -- if «.of_eq rfl» comes too early:refine' ⟨_, ?b,fun base kb nb=>My.law_fn T kb nb⟩;exact fun s u=> .of_eq rfl
 case S=>exact fun w H a ns hl hO hS=> ..
 case C=>exact ..
(the tactic k_is has no namespace:write k_is) -/
namespace L2
open PySem PySem.Spec PyProof.Rows
def hI(s:Stmt):Arguments:=match s with
 | .FunctionDef _ a _ _ _ _ _ _ _ _=>a
 | _=>{posonlyargs:=[],args:=[],vararg:=none,kwonlyargs:=[],kw_defaults:=[],kwarg:=none,defaults:=[]}
def ft(s:Stmt):List Stmt:=match s with
 | .FunctionDef _ _ b _ _ _ _ _ _ _=>b
 | _=>[]
def ah(s:Stmt):Scope:=match s with
 | .FunctionDef _ _ _ _ _ _ sc _ _ _=>sc
 | _=>{kind:= .function,names:=[],isGenerator:=false,isCoroutine:=false}
abbrev CX0:CXT:=fun _ _ _ _ _ _=>False
abbrev E0:XK:=fun _ _ _=>False
structure Fun(K:PySem.W.Frag)(x qual:Str)(st:Stmt)(f:Addr)(fd:FuncData):Prop where
 ex:∃(oc:Value) (od:Option Addr) (kV doc pm:Value) (an:Option Addr) (cdv ct:Value) (osl:Array (Option Value)),
  fd=PySem.W.fnOf x qual (hI st) (ft st) (ah st) .none kV doc pm an cdv ct∧K.lookup f=some ⟨oc,od, .func fd,osl⟩∧PySem.W.codeIn K cdv qual=true
 kp:PySem.W.keepIn K (.ref f)=true
section
variable{P:Program}{w:World}{K:PySem.W.Frag}{mg:Str→Option Value}{base:Heap}
theorem Fun.binds{x qual:Str}{st:Stmt}{f:Addr}{fd:FuncData}{ps:List Str}(F:Fun K x qual st f fd)
  (h:∀(kV doc pm:Value) (an:Option Addr) (cdv ct:Value) (us:List Value),us.length=ps.length→bindArgs (PySem.W.fnOf x qual (hI st) (ft st) (ah st) .none kV doc pm an cdv ct) ⟨us,[]⟩=pure (ps.zip us)):ir K fd ps []:=by
 obtain ⟨oc,od,kV,doc,pm,an,cdv,ct,osl,rfl,lk,hcd⟩:=F.ex
 exact .all (h kV doc pm an cdv ct)
theorem zw{x qual:Str}{st:Stmt}{f:Addr}{oc:Value}{od an:Option Addr}{osl:Array (Option Value)}{kV doc pm cdv ct:Value}(l:K.lookup f=some ⟨oc,od, .func (PySem.W.fnOf x qual (hI st) (ft st) (ah st) .none kV doc pm an cdv ct),osl⟩)
  (c:PySem.W.codeIn K cdv qual=true) (k:PySem.W.keepIn K (.ref f)=true):Fun K x qual st f (PySem.W.fnOf x qual (hI st) (ft st) (ah st) .none kV doc pm an cdv ct):=⟨⟨oc,od,kV,doc,pm,an,cdv,ct,osl,rfl,l,c⟩,k⟩
end
theorem vK{A:Around}{k:Nat}(hr:dN k A):A.units+1 < cLine:=aaM (Nat.add_le_add_left (by decide:1≤64) _) hr.units
theorem Dg{A B:Prop}(h:B):if false=true then A else B:=by
 rw [if_neg aaq]
 exact h
theorem Df{A B:Prop}(h:A):if true=true then A else B:=by
 rw [if_pos rfl]
 exact h
def gf(H H':Hp):Prop:=∀b o,H b=some o→H' b=some o
theorem gf.refl(H:Hp):gf H H:=fun _ _ h=>h
theorem gf.trans{H H1 H2:Hp}(a:gf H H1)(b:gf H1 H2):gf H H2:=fun c o h=>b c o (a c o h)
theorem gf.free{H H':Hp}(e:gf H H'){l:Addr}(h:H' l=Option.none):H l=Option.none:=by
 cases q:H l with
 | none=>rfl
 | some o=>
  rw [e l o q] at h
  cases h
theorem gf.seq{K:PySem.W.Frag}{H H':Hp}{a:Addr}{xs:List V}(e:gf H H')(h:SqL K H a xs):SqL K H' a xs:=by
 rcases h with (h | ⟨o,h⟩) | h
 ·exact .inl (.inl (e _ _ h))
 ·exact .inl (.inr ⟨o,e _ _ h⟩)
 ·exact .inr h
section
variable{P:Program}{w:World}
theorem cf.here{H:Hp}{h:Heap}{a:Addr}{o:HO}(x:cf P w H h a o):∃ob,h.get? a=some ob:=by
 cases o with
 | lst xs=>obtain ⟨_,_,_,_,e⟩:=x;exact ⟨_,e⟩
 | tup xs=>obtain ⟨_,_,_,ob,e,_⟩:=x;exact ⟨ob,e⟩
 | dK kvs=>obtain ⟨_,_,_,_,ob,_,_,e,_⟩:=x;exact ⟨ob,e⟩
 | dT kvs=>obtain ⟨_,_,_,_,ob,_,_,e,_⟩:=x;exact ⟨ob,e⟩
 | set S n=>obtain ⟨ob,_,_,_,e,_⟩:=x;exact ⟨ob,e⟩
 | ins C dx fs=>obtain ⟨_,_,_,e,_⟩:=x;exact ⟨_,e⟩
 | own y=>exact x
 | xd fs=>obtain ⟨_,⟨ob,_,_,e,_⟩,_⟩:=x;exact ⟨ob,e⟩
 | rng lo hi=>obtain ⟨_,_,_,e⟩:=x;exact ⟨_,e⟩
 | frz ob u=>obtain ⟨e,_⟩:=x;exact ⟨_,e⟩
 | tbl ps=>exact ⟨_,show h.get? a=some _ from x⟩
 | met f y=>exact ⟨_,show h.get? a=some _ from x⟩
 | ext φ=>obtain ⟨_,z,_⟩:=x;exact z
def FlA(B:Heap)(l:List Env)(x:Addr)(o:Obj)(fl:Value)(h:Heap):Prop:=
 B.StaysIn h∧B.get? x=none∧h.FunFrames B l∧∃(vs:Array Value) (T:Addr) (oT:Obj) (ts:Array Value),h.get? x=some {o with data:= .fields vs}∧vs[2]? =some .none∧vs[1]? =some (.ref T)∧
  B.get? T=none∧T≠x∧h.get? T=some oT∧oT.data= .fields ts∧ts[3]? =some fl
section
variable{M:Model}{A:Around}{E:Value→Shared→Prop}{s:Shared}{B:Heap}{env:Env}{outer l:List Env}{L x:Addr}{o:Obj}{vs:Array Value}{Q:Unit→Shared→Prop}
theorem j6{h h':Heap}{T:Addr}{oT:Obj}{ts:Array Value}(hT:h.get? T=some oT)(hd:oT.data= .fields ts)(k:∀b,b≠T→h'.get? b=h.get? b):h.UpToSlots h':=fun b ob e hn=>
 ⟨ob.slots,(k b fun z=>by rw [z,hT] at e;cases e;exact hn _ hd).trans e⟩
theorem nN{h h':Heap}(hl:h.FunFrames B l)(u:h.UpToSlots h'):h'.FunFrames B l:=hl.of_keeps fun b ob e hn=>by
 obtain ⟨sl,q⟩:=u b ob e hn
 exact ⟨_,q,rfl⟩
theorem rB{head:Value}{had:Bool}(hfr:A.frames=some (env::outer))(hf:env.frame=some L)(hB:B.StaysIn s.heap)(hn:B.get? x=none)(hl:s.heap.FunFrames B (env::outer))(hx:s.heap.get? x=some {o with data:= .fields vs})(h1:1 < vs.size)(h2:vs[2]? =some .none)
  (h:∀h',FlA B (env::outer) x o (rawInt L) h'→s.heap.UpToSlots h'→Q () {s with heap:=h'}):
  wpAny M A (do let a←frameOf env;let pl←entryPlaceOf L had;let n←EntryCells.newEntry head a .none (rawInt L) .none pl;setField (.ref x) 1 n) Q E s:=by
 refine wpAny_bind (wpAny_frameOf_fun hfr hl hf fun g1 S1=>wpAny_bind (wpAny_entryPlaceOf fun pl hpl=> ?_))
 have nx:x∉(env::outer).filterMap (·.frame):=fun z=>by
  obtain ⟨_,ob,e,d⟩:=hl.mem z
  rw [hx] at e;cases e
  exact d _ rfl
 have hx1:g1.get? x=some {o with data:= .fields vs}:=(S1.2.1 x nx).trans hx
 unfold EntryCells.newEntry newFields
 refine wpAny_bind (wpAny_newObj_type ?_ (hpl.sizeOk5 _ _ _ _ _))
 have hx2:=Heap.get?_push_of_some (h:=g1) {cls:= .type "traceback",dict:=none,data:= .fields ([head, .ref L, .none,rawInt L, .none]++(if pl.isEmpty then List.replicate 6 Value.none else pl)).toArray} hx1
 refine wpAny_setField hx2 rfl h1 (h _ ?_ ?_)
 ·have up1:∀b ob,b≠x→g1.get? b=some ob→((g1.push {cls:= .type "traceback",dict:=none,data:= .fields ([head, .ref L, .none,rawInt L, .none]++(if pl.isEmpty then List.replicate 6 Value.none else pl)).toArray}).update x (Obj.mapFields (·.setIfInBounds 1 (Value.ref g1.objs.size)))).get? b=some ob:=fun b ob nb e=>
   (Heap.get?_update_other _ _ (Ne.symm nb)).trans (Heap.get?_push_of_some _ e)
  have neT:g1.objs.size≠x:=abU (Heap.lt_size hx1)
  refine ⟨fun b ob e=>up1 b ob (fun z=>by rw [z,hn] at e;cases e) ((S1.2.1 b fun z=>by rw [(hl.mem z).1] at e;cases e).trans (hB b ob e)),hn,hl.of_keeps fun b ob e d=> ?_,vs.setIfInBounds 1 (.ref g1.objs.size),g1.objs.size,_,_,Heap.get?_update_self _ hx2 rfl,by rw [Array.getElem?_setIfInBounds_ne (by decide)];exact h2,by simp [h1], ?_,neT,
   (Heap.get?_update_other _ _ (Ne.symm neT)).trans (Heap.get?_push_size g1 rfl),rfl, ?_⟩
  ·obtain ⟨sl,q⟩:=S1.2.2 b ob e
   exact ⟨_,up1 b _ (fun z=>by rw [z,hx] at e;cases e;exact d _ rfl) q,rfl⟩
  ·cases q:B.get? g1.objs.size with
   | none=>rfl
   | some ob=>
    have:=Heap.lt_size (hB _ _ q)
    rw [←S1.1] at this
    exact absurd this (aaW _)
  ·first
    | (simp;done)
    | (rcases hpl with rfl | ⟨_,_,_,_,_,_,_,rfl⟩ <;> simp)
 ·intro b ob e d
  obtain ⟨sl,q⟩:=S1.2.2 b ob e
  refine ⟨sl, ?_⟩
  rw [Heap.get?_update_other _ _ (fun z:x=b=>by rw [←z,hx] at e;cases e;exact d _ rfl)]
  exact Heap.get?_push_of_some _ q
theorem yk(hfr:A.frames=some (env::outer))(hf:env.frame=some L)(hB:B.StaysIn s.heap)(hn:B.get? x=none)(hl:s.heap.FunFrames B (env::outer))(hx:s.heap.get? x=some {o with data:= .fields vs})(h1:vs[1]? =some .none)(h2:vs[2]? =some .none)
  (h:∀h',FlA B (env::outer) x o (rawInt L) h'→s.heap.UpToSlots h'→Q () {s with heap:=h'}):wpAny M A (noteFrame (.ref x) env) Q E s:=by
 unfold noteFrame
 simp only [hf]
 refine wpAny_bind (wpAny_field hx rfl h1 ?_)
 rw [if_neg (by decide)]
 exact rB hfr hf hB hn hl hx (abp.mp h1).1 h2 h
theorem Fu(hfr:A.frames=some (env::outer))(hf:env.frame=some L)(R:FlA B (env::outer) x o .none s.heap)
  (h:∀h',FlA B (env::outer) x o (rawInt L) h'→s.heap.UpToSlots h'→Q () {s with heap:=h'}):wpAny M A (noteFrame (.ref x) env) Q E s:=by
 obtain ⟨hB,hn,hl,vs,T,oT,ts,hx,h2,h1,nT,nTx,hT,dT,h3⟩:=R
 unfold noteFrame
 simp only [hf]
 refine wpAny_bind (wpAny_field hx rfl h1 ?_)
 rw [if_pos (show (Value.ref T != Value.none)=true by simp)]
 refine wpAny_bind (wpAny_field hT dT h3 ?_)
 rw [if_neg (show¬((Value.none==rawInt L)=true) by simp [rawInt])]
 refine wpAny_bind (wpAny_setField hT dT (abp.mp h3).1 ?_)
 have oth:∀b,b≠T→(s.heap.update T (Obj.mapFields (·.setIfInBounds 3 Value.none))).get? b=s.heap.get? b:=fun b nb=>Heap.get?_update_other _ _ (Ne.symm nb)
 have u:=j6 hT dT oth
 exact rB hfr hf (fun b ob e=>(oth b fun z=>by rw [z,nT] at e;cases e).trans (hB b ob e)) hn (nN hl u) ((oth x (Ne.symm nTx)).trans hx) (abp.mp h1).1 h2 fun h' F' u'=>h h' F' (u.trans u')
theorem vY{fl:Value}(R:FlA B l x o fl s.heap)(h:∀h',FlA B l x o .none h'→s.heap.UpToSlots h'→Q () {s with heap:=h'}):wpAny M A (setFlight (.ref x) none) Q E s:=by
 obtain ⟨hB,hn,hl,vs,T,oT,ts,hx,h2,h1,nT,nTx,hT,dT,h3⟩:=R
 unfold setFlight
 refine wpAny_bind (wpAny_field hx rfl h1 ?_)
 rw [if_pos (show (Value.ref T != Value.none)=true by simp)]
 have z3:=(abp.mp h3).1
 have oth:∀b,b≠T→(s.heap.update T (Obj.mapFields (·.setIfInBounds 3 ((none:Option Addr).elim Value.none fun f=>rawInt f)))).get? b=s.heap.get? b:=fun b nb=>Heap.get?_update_other _ _ (Ne.symm nb)
 have u:=j6 hT dT oth
 refine wpAny_setField hT dT z3 (h _ ⟨fun b ob e=>(oth b fun z=>by rw [z,nT] at e;cases e).trans (hB b ob e),hn,nN hl u,vs,T,_,_,(oth x (Ne.symm nTx)).trans hx,h2,h1,nT,nTx,Heap.get?_update_self _ hT (Obj.isFreed_of_fields (Obj.data_mapFields dT _)),Obj.data_mapFields dT _,by simp [z3]⟩ u)
theorem zy{fl:Value}{h:Heap}(R:FlA B (env::outer) x o fl h):FlA B outer x o fl h:=by
 obtain ⟨hB,hn,⟨_,_,hl⟩,r⟩:=R
 exact ⟨hB,hn,hl,r⟩
end
structure Fly(P:Program)(w:World)(l:List Env)(H H':Hp)(h h' B:Heap)(x:Addr)(o:Obj):Prop where
 un:Un (frs l) [] H H' h h'
 ok:HOk P w H' B
 fly:FlA B l x o .none h'
 inB:∀b u,h.get? b=some u→H b=none→b∉frs l→B.get? b=some u
 thB:∀b u,h.get? b=some u→b∉frs l→∃u',B.get? b=some u'
variable{l:List Env}{H H':Hp}{h h' h'' B:Heap}{x:Addr}{o:Obj}
end
def CX1(P:Program)(w:World):CXT:=fun outer H s E e s'=>
 ∃x o H' B,e= .ref x∧s'.os=s.os∧AllBare s'.gens∧Fly P w outer H H' s.heap s'.heap B x o∧E o.cls o.dict H'
section
variable{X:Cx}{pins:List (Addr×Obj)}{σ:St}{H H':Hp}{s:Shared}{h'' B:Heap}{x:Addr}{ox:Obj}
theorem Fly.leave(I:Inv X pins σ H s)(hex:X.ex=[])(hst:∀b∈frs X.outer,b∈frs X.stack)(ok:HOk X.prog X.w H' B)(f:FlA B X.outer x ox .none h'')(nx0:X.s₀.heap.get? x=none)
  (inB:∀b o,b≠x→s.heap.get? b=some o→H b=none→b∉frs X.stack→B.get? b=some o)
  (thB:∀b o,b≠x→s.heap.get? b=some o→b∉frs X.stack→∃o',B.get? b=some o')
  (sl:∀b o,s.heap.get? b=some o→b∈frs X.stack→∃sl,h''.get? b=some {o with slots:=sl})
  (free:∀b o,s.heap.get? b=some o→H b=none→H' b=none)
  (tups:∀b xs,H b=some (.tup xs)→H' b=some (.tup xs)) (frzs:∀b o u,H b=some (.frz o u)→H' b=some (.frz o u))
  (tbls:∀b ps,H b=some (.tbl ps)→∃more,H' b=some (.tbl (ps++more))):Fly X.prog X.w X.outer X.H₀ H' X.s₀.heap h'' B x ox:=by
 have nX:∀b o,X.s₀.heap.get? b=some o→b≠x:=fun b o e z=>by rw [z,nx0] at e;cases e
 have noX:∀b:Addr,b∉X.ex:=fun b z=>by rw [hex] at z;cases z
 have nS:∀b o,X.s₀.heap.get? b=some o→b∉frs X.outer→b∉frs X.stack:=fun b o e hb z=>
  (aaG.mp (I.stkSub b z)).elim (fun q=>aaz (aam (Heap.lt_size e) I.ok.above) q) hb
 refine ⟨⟨fun b o e n hb _=> ?_,fun b o e n hb _=> ?_,fun b o e n _=> ?_,fun b o e _=> ?_,fun b xs e=>tups b xs (I.base.tups b xs e),fun b o u e=>frzs b o u (I.base.frzs b o u e),fun b ps e=> ?_⟩,ok,f,fun b o e n hb=> ?_,fun b o e hb=> ?_⟩
 ·exact f.1 b o (inB b o (nX b o e) (I.base.keep b o e n hb (noX b)) (I.base.free b o e n (noX b)) (nS b o e hb))
 ·obtain ⟨s1,e1⟩:=I.base.slot b o e n hb (noX b)
  obtain ⟨s2,e2⟩:=sl b _ e1 (hst b hb)
  exact ⟨s2,e2⟩
 ·obtain ⟨o',e1⟩:=I.base.there b o e (noX b)
  exact free b o' e1 (I.base.free b o e n (noX b))
 ·obtain ⟨o',e1⟩:=I.base.there b o e (noX b)
  by_cases hb:b∈frs X.stack
  ·obtain ⟨s2,e2⟩:=sl b _ e1 hb
   exact ⟨_,e2⟩
  ·obtain ⟨o2,q⟩:=thB b o' (nX b o e) e1 hb
   exact ⟨o2,f.1 _ _ q⟩
 ·obtain ⟨m1,e1⟩:=I.base.tbls b ps e
  obtain ⟨m2,e2⟩:=tbls b _ e1
  exact ⟨m1++m2,by rw [e2,Array.append_assoc]⟩
 ·exact inB b o (nX b o e) (I.base.keep b o e n hb (noX b)) (I.base.free b o e n (noX b)) (nS b o e hb)
 ·obtain ⟨o',e1⟩:=I.base.there b o e (noX b)
  exact thB b o' (nX b o e) e1 (nS b o e hb)
end
def cX(CX:CXT)(X:Cx)(R:St→XK):Prop:=∀(pins:List (Addr×Obj)) (σ:St) (H:Hp) (s:Shared) (e:Value) (s':Shared),Inv X pins σ H s→CX X.stack H s (R σ) e s'→X.xe e s'
def w8(X:Cx)(R:St→XK):Prop:=∀(pins:List (Addr×Obj)) (σ:St) (H:Hp) (s:Shared) (x:Addr) (o:Obj) (vs:Array Value),Inv X pins σ H s→s.heap.get? x=some {o with data:= .fields vs}→vs[1]? =some .none→vs[2]? =some .none→X.s₀.heap.get? x=none→H x=none→
 R σ o.cls o.dict H→X.xe (.ref x) s
section
variable{P:Program}{w:World}{K:PySem.W.Frag}{mg:Str→Option Value}{base:Heap}{N:List Str}{qual:Str}{scope:Scope}{f:Addr}{cd:Value}{A:Around}{outer:List Env}{s₀:Shared}{H₀:Hp}{E:XK}
theorem ug{env:Env}{outer:List Env}:∀b∈frs outer,b∈frs (env::outer):=fun b hb=>by
 obtain ⟨en,he,hf⟩:=abI.mp hb
 exact abI.mpr ⟨en,aad _ he,hf⟩
theorem ar:cX (CX1 P w) (p7 (CX1 P w) P w K mg base N qual scope f cd A outer s₀ H₀ E) (fun _=>E):=by
 intro pins σ H s e s' I hx
 obtain ⟨x,o,H',B,rfl,os,bare,F,hE⟩:=hx
 show wpAny _ _ (do noteFrame (.ref x) _;setFlight (.ref x) none) _ _ s'
 refine wpAny_bind (Fu (B:=B) I.ok.frames rfl F.fly fun h4 f4 u4=>vY f4 fun h5 f5 u5=> ?_)
 refine ⟨x,o,H',B,rfl,os.trans I.os,bare,Fly.leave I rfl ug F.ok (zy f5) ?_ (fun b o _=>F.inB b o) (fun b o _=>F.thB b o) (fun b o q hb=> ?_) (fun b o q n=>F.un.free b o q n (by simp)) F.un.tups F.un.frzs F.un.tbls,hE⟩
 ·show s₀.heap.get? x=none
  cases q:s₀.heap.get? x with
  | none=>rfl
  | some u=>
   obtain ⟨u',e1⟩:=I.base.there x u q (fun z=>nomatch z)
   by_cases hb:x∈frs (p7 (CX1 P w) P w K mg base N qual scope f cd A outer s₀ H₀ E).stack
   ·obtain ⟨vs,_,_,_,hxx,_⟩:=F.fly.2.2.2
    obtain ⟨_,o',ho',hd⟩:=F.fly.2.2.1.mem hb
    rw [hxx] at ho';cases ho'
    exact absurd rfl (hd _)
   ·obtain ⟨u2,e2⟩:=F.thB x u' e1 hb
    rw [F.fly.2.1] at e2;cases e2
 ·obtain ⟨sl,e1⟩:=F.un.slot b o q (I.stkFree b hb) hb (by simp)
  obtain ⟨_,o',ho',hd⟩:=F.fly.2.2.1.mem hb
  rw [e1] at ho';cases ho'
  obtain ⟨sl2,e2⟩:=(u4.trans u5) b _ e1 hd
  exact ⟨sl2,e2⟩
theorem oX:w8 (p7 (CX1 P w) P w K mg base N qual scope f cd A outer s₀ H₀ E) (fun _=>E):=by
 intro pins σ H s x o vs I hx h1 h2 nx0 nH hE
 show wpAny _ _ (do noteFrame (.ref x) _;setFlight (.ref x) none) _ _ s
 have hin:∀env∈(p7 (CX1 P w) P w K mg base N qual scope f cd A outer s₀ H₀ E).stack,∀b,env.frame=some b→b∈x::frs (p7 (CX1 P w) P w K mg base N qual scope f cd A outer s₀ H₀ E).stack:=
  fun env he b hb=>aad _ (abI.mpr ⟨env,he,hb⟩)
 refine wpAny_bind (yk (B:=PySem.W.hideAll s.heap (x::frs (p7 (CX1 P w) P w K mg base N qual scope f cd A outer s₀ H₀ E).stack)) I.ok.frames rfl (fun b o q=>PySem.W.of_hideAll _ q) (PySem.W.hideAll_none _ aae)
  (PySem.W.funFrames_hide I.stack hin) hx h1 h2 fun h4 f4 u4=>vY f4 fun h5 f5 u5=> ?_)
 have hid:∀b u,b≠x→s.heap.get? b=some u→b∉frs (p7 (CX1 P w) P w K mg base N qual scope f cd A outer s₀ H₀ E).stack→(PySem.W.hideAll s.heap (x::frs (p7 (CX1 P w) P w K mg base N qual scope f cd A outer s₀ H₀ E).stack)).get? b=some u:=
  fun b u nb q hb=>PySem.W.hideAll_get _ q fun z=>(aaG.mp z).elim nb hb
 refine ⟨x,o,H,_,rfl,I.os,I.bare,Fly.leave I rfl ug (fun a o e=>(I.hok a o e).stay (fun b v hb q=> ?_) (fun _ q=>q) fun _ _ q=>q) (zy f5) nx0
  (fun b o nb q _ hb=>hid b o nb q hb) (fun b o nb q hb=>⟨o,hid b o nb q hb⟩) (fun b o q hb=> ?_) (fun _ _ _ n=>n) (fun _ _ q=>q) (fun _ _ _ q=>q) (fun b ps q=>⟨#[],by rw [q];simp⟩),hE⟩
 ·have tr:H b≠none:=fun n=>by
   rcases hb with hb | hb
   ·rw [hb,e] at n;cases n
   ·rw [hb] at n;cases n
  exact hid b v (fun z=>tr (by rw [z];exact nH)) q fun z=>tr (I.stkFree b z)
 ·obtain ⟨_,o',ho',hd⟩:=I.stack.mem hb
  rw [q] at ho';cases ho'
  exact (u4.trans u5) b o q hd
end
def BW(sp:Sp)(dvs:List V)(R:St→XK)(t:TA):TE:=fun σ H Q=>t σ H fun vs H1=>sp (vs++dvs) H1 Q (R σ)
section
variable{X:Cx}{CX:CXT}{k:Nat}{f:Addr}{fd:FuncData}{ps:List Str}{sp:Sp}{dvs:List V}{ds:List Value}{R:St→XK}{x:Str}{p pos:Pos}{e:Expr}{es:List Expr}{t:TA}
theorem oS{pins:List (Addr×Obj)}{σ:St}{H:Hp}{s:Shared}{Q:VK}{us:List Value}{vs:List V}(F:bK X.prog X.w X.K X.mg X.base CX k f fd ps sp)(hr:dN k X.A)(hb:ir X.K fd ps ds)(hd:bF dvs ds)(hx:cX CX X R)
  (I:Inv X pins σ H s) (r:bF vs us) (h:sp (vs++dvs) H Q (R σ)):wpAny (model X.prog X.w) X.A (call (.ref f) us) (EP X pins σ Q) X.xe s:=by
 have r2:bF (vs++dvs) (us++ds):=r.append hd
 have hl:(us++ds).length=ps.length:=by rw [←r2.length];exact F.len _ _ _ _ h
 refine wpAny_call (codeAny_mono (F.run X.A X.stack s H ⟨us,[]⟩ (us++ds) (vs++dvs) Q (R σ) hr I.env0 (hb s us I.kIn hl) r2 h) fun r s' hq=> ?_)
 cases r with
 | error e=>exact hx pins σ H s e s' I hq
 | ok fl=>
  cases fl with
  | ret u=>exact I.after hq
  | next=>exact False.elim hq
  | brk=>exact False.elim hq
  | cont=>exact False.elim hq
theorem xN(F:bK X.prog X.w X.K X.mg X.base CX k f fd ps sp)(hr:dN k X.A)(hg:Gl X x)(hm:X.mg x=some (.ref f))(hk:PySem.W.keepIn X.K (.ref f)=true)(hb:ir X.K fd ps ds)(hd:bF dvs ds)(hx:cX CX X R)
  (ha:PA X (e::es) t) (hdb:(x==("__debug__":Str))=false:=by decide) (he:starEach (e::es) X.env=(false,eval e X.env)::starEach es X.env:=by rfl) (hpl:(backTo pos (starEach es X.env)).any (·.1)=false:=by rfl):
  PE X (.Call (.Name x p) (e::es) [] pos) (BW sp dvs R t):=by
 intro pins s σ H Q I h
 refine wpAny_Call_Name_kw (lS I hg hm ?_ hdb)
 refine PySem.W.callWith_K (h₀:=X.base) I.ok.mod.kin hk (thn (ha pos pins s σ H _ I h) fun us s1 ⟨vs,H1,I1,r,q⟩=>⟨I1.kIn, ?_⟩) he hpl
 exact oS F hr hb hd hx I1 r q
end
structure ig(K:PySem.W.Frag)(C:Addr)(bmB:List Value)(newId:String):Prop where
 ok:PySem.W.excIn K C bmB newId=true
theorem AN{K:PySem.W.Frag}{N:Addr}{h0 h:Heap}{m:Str→Option Value}(q:PySem.W.nsOkIn K N=true)(X0:K.In h0)(X:K.In h)(n:h0.Ns N m):h.Ns N m:=by
 obtain ⟨o,es,ep,e,r⟩:=n
 cases z:K.lookup N with
 | none=>unfold PySem.W.nsOkIn at q;rw [z] at q;cases q
 | some ob=>
  have e0:=X0 _ _ z
  rw [e] at e0
  cases e0
  exact ⟨o,es,ep,X _ _ z,r⟩
theorem ig.obj{K:PySem.W.Frag}{C:Addr}{bmB:List Value}{newId:String}{h0:Heap}(c:ig K C bmB newId)(X0:K.In h0):
  ∃bm N nm q bs hdct sn sub ab col dd k0 k1 k2 k3 k5 mN,mN ("__init__":Str)=none∧
   ∀h:Heap,K.In h→h.get? C=some (excClassObj nm q C N bs bm hdct sn sub ab col dd k0 k1 k2 k3 k5 newId)∧h.Ns N mN∧OwnTail h bmB bm:=by
 have q:=c.ok
 unfold PySem.W.excIn at q
 split at q
 ·rename_i dd cd sl ho
  split at q
  ·rename_i C' bm k0 k1 k2 k3 n k5 hm hs
   rw [aao,aao,aao,aao,aao] at q
   obtain ⟨⟨⟨⟨⟨q1,q2⟩,q3⟩,q4⟩,q5⟩,q6⟩:=q
   cases beq_iff_eq.mp q1
   cases beq_iff_eq.mp q2
   have q3:cd.hasDel=false:=by simpa using q3
   have hsl:sl= #[k0,k1,k2,k3,some (.builtin newId),k5]:=by
    cases sl with | mk l=>exact congrArg Array.mk hs
   obtain ⟨c1,c2,c3,c4,c5,c6,c7,c8,c9,c10,c11⟩:=cd
   cases (show c3=_ from hm)
   cases (show c11=_ from q3)
   subst hsl
   refine ⟨bm,c4,c1,c5,c2,c6,c7,c8,c9,c10,dd,k0,k1,k2,k3,k5,h0.nsMap c4,PySem.W.nsMap_none_of_in X0 q5 (beq_iff_eq.mp q6),fun h X=>⟨X _ _ ho, ?_,PySem.W.tail_of_in X q4⟩⟩
   exact AN q5 X0 X (.of_isNs (PySem.W.isNs_of_in X0 q5))
  ·cases q
 ·cases q
def BP(C:Addr)(R:St→XK)(t:TA):TS:=fun _ σ H=>t σ H fun vs H1=>vs.length≤sizeLine∧R σ (.ref C) none H1
section
variable{X:Cx}{C:Addr}{R:St→XK}{t:TA}{Bn newId initId:String}{bmB:List Value}{x:Str}{np cpos pos:Pos}{e:Expr}{es:List Expr}
theorem xD(hR:w8 X R)(hc:X.calm=true)(hex:X.ex=[])(F:ExcBaseFacts Bn newId initId bmB)(c:ig X.K C bmB newId)(hg:Gl X x)(hm:X.mg x=some (.ref C))(ha:PA X (e::es) t)
  (hdb:(x==("__debug__":Str))=false:=by decide) (he:starEach (e::es) X.env=(false,eval e X.env)::starEach es X.env:=by rfl) (hpl:(backTo cpos (starEach es X.env)).any (·.1)=false:=by rfl):
  PS X (.Raise (some (.Call (.Name x np) (e::es) [] cpos)) none pos) (BP C R t):=by
 intro pins s σ H D I h
 obtain ⟨bm,N,nm,q,bs,hdct,sn,sub,ab,col,dd,k0,k1,k2,k3,k5,mN,hni,hob⟩:=c.obj I.kIn
 refine wpAny_Raise_call_subT (nm:=nm) (q:=q) (C:=C) (N:=N) (bs:=bs) (bm:=bm) (hdct:=hdct) (sn:=sn) (sub:=sub) (ab:=ab) (col:=col) (dd:=dd) (k0:=k0) (k1:=k1) (k2:=k2) (k3:=k3) (k5:=k5) F ((hob _ I.kIn).2.2.hasType F.hasBase) (I.ok.hd hc) (by rw [he];show (false || (backTo cpos (starEach es X.env)).any (·.1))=false;rw [hpl];rfl) hni (lS I hg hm ⟨rfl, ?_⟩ hdb)
 have h2:=ha cpos pins s σ H _ I h
 rw [he] at h2⊢
 refine Calls.evalArgs_plain (wpAny_mono h2 (fun us s2 z=> ?_) fun _ _ y=>y)
 obtain ⟨vs,H1,I1,r,hz,hq⟩:=z
 obtain ⟨g1,g2,g3⟩:=hob _ I1.kIn
 refine ⟨rfl,by rw [←r.length];exact hz,g1,g2,g3,fun h' x M=> ?_⟩
 obtain ⟨t,hx,_,_⟩:=M.there
 refine hR pins σ H1 {s2 with heap:=h'} x {cls:= .ref C,data:= .fields #[]} _ (I1.kept (t':=s2.toks) M.keeps) hx rfl rfl ?_ ?_ hq
 ·cases q:X.s₀.heap.get? x with
  | none=>rfl
  | some u=>
   obtain ⟨u',e1⟩:=I1.base.there x u q (by rw [hex];simp)
   rw [M.new] at e1;cases e1
 ·cases q:H1 x with
  | none=>rfl
  | some u=>
   obtain ⟨ob,e1⟩:=cf.here (I1.hok x u q)
   rw [M.new] at e1;cases e1
end
def mz(env:Env):List (Str×NameKind)→List (Str×Addr)→List (Str×Addr)
 | [],acc=>acc
 | p::r,acc=>mz env r (if p.2== .free then (p.1,(env.cells.lookup p.1).getD 0)::acc else acc)
theorem hU{scope:Scope}{env:Env}(h:∀p∈scope.names,p.2= .free→(env.cells.lookup p.1).isSome=true):closureFor scope env=pure (mz env scope.names []):=by
 have key:∀(l:List (Str×NameKind)) (acc:List (Str×Addr)),(∀p∈l,p.2= .free→(env.cells.lookup p.1).isSome=true)→
   (forIn l acc (fun (p:Str×NameKind) (r:List (Str×Addr))=>(if p.2== .free then (do let c←cellOf env p.1;pure (ForInStep.yield ((p.1,c)::r))) else pure (ForInStep.yield r):Sem (ForInStep (List (Str×Addr))))))=(pure (mz env l acc):Sem (List (Str×Addr))):=by
  intro l
  induction l with
  | nil=>intro acc _;rfl
  | cons p r ih=>
   intro acc hp
   rw [List.forIn_cons]
   have ih':=fun a=>ih a fun q hq=>hp q (aad _ hq)
   obtain ⟨n,k⟩:=p
   by_cases hk:k= .free
   ·subst hk
    have hs:=hp (n, .free) aae rfl
    cases hl:env.cells.lookup n with
    | none=>rw [show env.cells.lookup (n,NameKind.free).1=none from hl] at hs;cases hs
    | some c=>
     have e1:mz env ((n, .free)::r) acc=mz env r ((n,c)::acc):=by
      show mz env r (if (NameKind.free==NameKind.free)=true then (n,(env.cells.lookup n).getD 0)::acc else acc)=_
      rw [if_pos (by decide),hl]
      rfl
     have e2:cellOf env n=pure c:=by unfold cellOf;rw [hl]
     rw [e1]
     have e3:(NameKind.free==NameKind.free)=true:=by decide
     simp only [e3,if_true,e2,pure_bind]
     exact ih' _
   ·have hb:(k==NameKind.free)=false:=by simpa using hk
    have e1:mz env ((n,k)::r) acc=mz env r acc:=by
     show mz env r (if (k==NameKind.free)=true then (n,(env.cells.lookup n).getD 0)::acc else acc)=_
     rw [hb,if_neg (by decide)]
    rw [e1]
    simp only [hb,Bool.false_eq_true,if_false,pure_bind]
    exact ih' _
 have:=key scope.names [] h
 unfold closureFor
 first
  | exact this
  | (simp only [bind_pure];exact this)
  | (rw [bind_pure];exact this)
theorem jG{env:Env}{y:Str}{c:Addr}:∀(l:List (Str×NameKind)) (acc:List (Str×Addr)),(∀p∈l,p.2= .free→(env.cells.lookup p.1).isSome=true)→
  (acc.lookup y=some c→env.cells.lookup y=some c)→(mz env l acc).lookup y=some c→env.cells.lookup y=some c
 | [],acc,_,ha,h=>ha h
 | (n,k)::r,acc,hp,ha,h=>by
  refine jG r _ (fun q hq=>hp q (aad _ hq)) (fun e=> ?_) h
  split at e
  ·rename_i hk
   rw [abq] at e
   cases q:(y==n) with
   | true=>
    rw [q] at e
    have e':(env.cells.lookup n).getD 0=c:=aal e
    have hn:y=n:=by simpa using q
    subst hn
    have hs:=hp (y,k) List.mem_cons_self (by simpa using hk)
    cases z:env.cells.lookup y with
    | none=>rw [show env.cells.lookup (y,k).1=none from z] at hs;cases hs
    | some d=>rw [z] at e';rw [←e'];rfl
   | false=>rw [q] at e;exact ha e
  ·exact ha e
theorem gF{env:Env}{y:Str}:∀(l:List (Str×NameKind)) (acc:List (Str×Addr)),((y,NameKind.free)∈l∨(acc.lookup y).isSome=true)→((mz env l acc).lookup y).isSome=true
 | [],acc,h=>by
  rcases h with h | h
  ·cases h
  ·exact h
 | (n,k)::r,acc,h=>by
  refine gF r _ ?_
  by_cases hy:y=n
  ·subst hy
   by_cases hk:k= .free
   ·subst hk
    right
    show (List.lookup y (if (NameKind.free==NameKind.free)=true then (y,(env.cells.lookup y).getD 0)::acc else acc)).isSome=true
    rw [if_pos (by decide),abq,beq_self_eq_true]
    rfl
   ·rcases h with h | h
    ·rcases aaG.mp h with z | z
     ·exact absurd (Prod.mk.inj z).2.symm hk
     ·exact .inl z
    ·right
     rw [if_neg (by simpa using hk)]
     exact h
  ·rcases h with h | h
   ·rcases aaG.mp h with z | z
    ·exact absurd (Prod.mk.inj z).1 hy
    ·exact .inl z
   ·right
    split
    ·rw [List.lookup_cons,show (y==n)=false by simpa using hy]
     exact h
    ·exact h
def Cx.comp(X:Cx)(Nc:List Str)(scope:Scope)(C:Addr)(s:Shared)(H:Hp)(fp:List Addr):Cx:={X with
 N:=Nc
 s₀:=s
 H₀:=H
 env:=compEnvC scope (mz X.env scope.names []) C X.env
 outer:=X.stack
 ex:=fp
 fn:=fun _=>false
 pn:=[]
 xe:=fun _ _=>False}
structure cU(X:Cx)(scope:Scope)(x:Str)(ys:List Str)(caps:List Nat):Prop where
 kind:scope.kind= .function
 nocell:∀p∈scope.names,p.2≠ .cell
 names:∀p∈scope.names,p.2= .local→scope.names.lookup p.1=some .local
 own:scope.names.lookup x=some .local
 free:∀p∈scope.names,p.2= .free→X.env.scope.names.lookup p.1=some .cell
 nd:(x::ys).Nodup
 cap:∀q∈ys.zip caps,X.N[q.2]? =some q.1∧X.env.scope.names.lookup q.1=some .cell∧scope.names.lookup q.1=some .free
 len:ys.length=caps.length
theorem uC{env:Env}{y:Str}:∀{l:List (Str×NameKind)},(∀p∈l,p.2≠ .cell)→
  ((l.map fun (n,k)=>if (k==NameKind.free&&env.scope.kind== .function&&env.kindOf n==some .cell) then (n,NameKind.cell) else (n,k)).lookup y=some .cell∨
   (l.map fun (n,k)=>if (k==NameKind.free&&env.scope.kind== .function&&env.kindOf n==some .cell) then (n,NameKind.cell) else (n,k)).lookup y=some .free)→(y,NameKind.free)∈l
 | [],_,h=>by rcases h with h | h <;> cases h
 | (n,k)::r,hc,h=>by
  have ih:= @uC env y r (fun p hp=>hc p (aad _ hp))
  rw [aaI] at h
  by_cases q:(k==NameKind.free&&env.scope.kind== .function&&env.kindOf n==some .cell)=true
  ·have hk:k= .free:=by
    rw [aao,aao] at q
    simpa using q.1.1
   subst hk
   by_cases hy:y=n
   ·subst hy;exact aae
   ·refine aad _ (ih ?_)
    have hb:(y==n)=false:=by simpa using hy
    simp only [q,if_true,List.lookup_cons,hb] at h
    exact h
  ·by_cases hy:y=n
   ·subst hy
    have hb:(y==y)=true:=by simp
    simp only [q,Bool.false_eq_true,if_false,List.lookup_cons,hb] at h
    rcases h with h | h
    ·exact absurd (aal h) (hc (y,k) aae)
    ·rw [←aal h];exact aae
   ·refine aad _ (ih ?_)
    have hb:(y==n)=false:=by simpa using hy
    simp only [q,Bool.false_eq_true,if_false,List.lookup_cons,hb] at h
    exact h
theorem lA{env:Env}{y:Str}(hk:env.scope.kind= .function)(hy:env.kindOf y=some .cell):∀{l:List (Str×NameKind)},l.lookup y=some .free→
  (l.map fun (n,k)=>if (k==NameKind.free&&env.scope.kind== .function&&env.kindOf n==some .cell) then (n,NameKind.cell) else (n,k)).lookup y=some .cell
 | [],h=>by cases h
 | (n,k)::r,h=>by
  have ih:= @lA env y hk hy r
  rw [aaI]
  rw [abq] at h
  by_cases e:y=n
  ·subst e
   have hb:(y==y)=true:=by simp
   rw [hb] at h
   have:k= .free:=aal h
   subst this
   have q:(NameKind.free==NameKind.free&&env.scope.kind== .function&&env.kindOf y==some .cell)=true:=by rw [hk,hy];rfl
   simp only [q,if_true,List.lookup_cons,hb]
  ·have hb:(y==n)=false:=by simpa using e
   rw [hb] at h
   by_cases q:(k==NameKind.free&&env.scope.kind== .function&&env.kindOf n==some .cell)=true
   ·simp only [q,if_true,List.lookup_cons,hb];exact ih h
   ·simp only [q,Bool.false_eq_true,if_false,List.lookup_cons,hb];exact ih h
theorem cU.has{X:Cx}{scope:Scope}{x:Str}{ys:List Str}{caps:List Nat}(S:cU X scope x ys caps)(ok:X.Ok):∀p∈scope.names,p.2= .free→(X.env.cells.lookup p.1).isSome=true:=fun p hp hf=>by
 obtain ⟨c,e⟩:=ok.has p.1 (.inl (S.free p hp hf))
 rw [e];rfl
theorem tP{α β:Type}:∀{xs:List α} {ys:List β} {j:Nat} {x:α} {y:β},xs[j]? =some x→ys[j]? =some y→(x,y)∈xs.zip ys
 | x::xs,y::ys,0,_,_,h1,h2=>by cases h1;cases h2;exact aae
 | x::xs,y::ys,j+1,_,_,h1,h2=>aad _ (tP (xs:=xs) (ys:=ys) (j:=j) h1 h2)
 | [],_,_,_,_,h1,_=>by simp at h1
 | _::_,[],_,_,_,_,h2=>by simp at h2
def gG(caps:List Nat)(σ:St):St:=caps.map fun i=>(σ[i]?).join
def yH(J:It)(te:TE)(cs:St)(Q:VK)(H1:Hp)(D:Addr):Prop:=
 ∃W:Nat→Nat→List V→Hp→Prop,(∃m,W 0 m [] (upd H1 D (.lst [])))∧∀i m ys H2,W i m ys H2→H2 D=some (.lst ys)∧
  ((J.stop i H2∧Q (.ref D) H2)∨(J.go i H2∧∀x H3,J.yld i H2 x H3→te (some x::cs) H3 fun y H4=>H4 D=some (.lst ys)∧ys.length < sizeLine∧∃m',m' < m∧W (i+1) m' (ys++[y]) (upd H4 D (.lst (ys++[y])))))
def BV(wi:TI)(te:TE)(caps:List Nat):TE:=fun σ H Q=>wi σ H fun J H1=>∀D,H1 D=none→yH J te (gG caps σ) Q H1 D
section
variable{X:Cx}{elt iter:Expr}{x:Str}{px:Pos}{scope:Scope}{pos:Pos}{wi:TI}{te:TE}{ys:List Str}{caps:List Nat}
theorem rL(S:cU X scope x ys caps)(hc:X.calm=true)(he:∀C s H fp,PE (Cx.comp X (x::ys) scope C s H fp) elt te)
  {pins:List (Addr×Obj)} {σ:St} {H2:Hp} {s2:Shared} {it:Addr} {fp:List Addr} {tn:Nat→Heap→Prop} {J:It} {Q:V→Hp→Prop} {PQ:Value→Addr→Result→Shared→Prop} (I:Inv X pins σ H2 s2) (T:dF X.prog X.w X.K (.Name x px) J fp it tn) (t0:tn 0 s2.heap) (f2:∀b∈fp,tG X pins H2 b)
  (h:∀D,H2 D=none→yH J te (gG caps σ) Q H2 D)
  (hPQ:∀D C s' H',Inv X pins σ H' s'→Q (.ref D) H'→(∃m,s'.heap.Ns C m)→H' C=none→X.s₀.heap.objs.size≤C→C≠X.env.locals→(∀z c,X.env.cells.lookup z=some c→c≠C)→(∀p∈X.pn++pins,p.1≠C)→PQ (.ref D) C (.ok .next) s'):
  wpAny (model X.prog X.w) X.A (newList []) (fun acc s3=>wpAny (model X.prog X.w) X.A (newFunctionEnv scope X.env.globals (mz X.env scope.names []) [] X.env.qual none .none (some X.env)) (fun cenv s4=>
   codeAny (model X.prog X.w) X.A (.compStart (.ListComp elt [⟨.Name x px,iter,[],0⟩] scope pos) 0 (.ref it) acc {cenv with scope:=relabel scope X.env}) (PQ acc cenv.locals) s4) X.xe s3) X.xe s2:=by
 have hD:H2 s2.heap.objs.size=none:=I.fresh
 obtain ⟨W,⟨m0,w0⟩,step⟩:=h _ hD
 refine wpAny_newObj_type ?_
 have I3:Inv X pins σ (upd H2 s2.heap.objs.size (.lst [])) {s2 with heap:=s2.heap.push {cls:= .type "list",data:= .seq ([]:List Value).toArray}}:=Inv.lnew (t':=s2.toks) I (ys:=[]) (its:=[]) .nil (abJ _)
 generalize hH3:upd H2 s2.heap.objs.size (.lst [])=H3 at I3 w0
 generalize hs3:({s2 with heap:=s2.heap.push {cls:= .type "list",data:= .seq ([]:List Value).toArray}}:Shared)=s3 at I3
 have hfp3:∀b∈fp,H3 b=none:=fun b hb=>by
  obtain ⟨o,e,_⟩:=T.obj _ _ t0 b hb
  rw [←hH3,aw (aaz (Heap.lt_size e))]
  exact (f2 b hb).1
 have t3:tn 0 s3.heap:=T.keep _ _ _ t0 fun b hb o e=>by rw [←hs3];exact Heap.get?_push_of_some _ e
 refine wpAny_newFunctionEnv S.nocell (fun y hy=>nomatch hy) (fun h4 ns4 sb4=> ?_) S.kind
 have hC:H3 s3.heap.objs.size=none:=I3.fresh
 have kp:∀b o,s3.heap.get? b=some o→h4.get? b=some o:=fun b o e=>
  (sb4.2 b (aaz (Heap.lt_size e))).trans (Heap.get?_push_of_some _ e)
 generalize hs4:({s3 with heap:=h4,toks:=s3.toks+([]:List (Str×Value)).length}:Shared)=s4
 have e4:s4.heap=h4:=by rw [←hs4]
 have cne:∀z c,X.env.cells.lookup z=some c→c≠s3.heap.objs.size:=fun z c e q=>by
  obtain ⟨v,w⟩:=I3.cell z c e
  exact aaW _ (q▸w.lt)
 have cl_in:∀z c,(mz X.env scope.names []).lookup z=some c→X.env.cells.lookup z=some c:=fun z c e=>jG scope.names [] (S.has I.ok) (fun q=>nomatch q) e
 have Lne:s3.heap.objs.size≠X.env.locals:=abU I3.lt
 have ok:(Cx.comp X (x::ys) scope s3.heap.objs.size s3 H3 fp).Ok:=by
  refine ⟨I3.ok.mod,S.kind,I3.ok.glob,I3.ok.blt,aah _,fun z z' c e1 e2=>I3.ok.inj z z' c (cl_in z c e1) (cl_in z' c e2),fun z hz=> ?_,fun z c hz=>(by cases hz),I3.ok.hd,I3.ok.frames, .inl rfl,fun b hb=>⟨?_,fun z c e=> ?_⟩,I3.bs, ?_,fun b o e hb=> ?_,fun b hb hf=> ?_,I3.stack,I3.stkFree⟩
  ·have:=gF (env:=X.env) scope.names [] (.inl (uC S.nocell hz))
   exact aa4.mp this
  ·obtain ⟨o,e,_⟩:=T.obj _ _ t3 b hb
   exact aaz (Heap.lt_size e)
  ·exact (f2 b hb).2.2.2.2.1 z c (cl_in z c e)
  ·exact aau I3.ok.bsz I3.sz
  ·obtain ⟨_,_,_,hy,_⟩:=f2 b hb
   have e0:=(I3.ok.bs b o e).1
   rcases hy with hy | hy
   ·exact I3.ok.noex b o e hy
   ·exact absurd (aam (Heap.lt_size e0) hy) (aaW _)
  ·obtain ⟨_,hl,hfs,_⟩:=f2 b hb
   exact (aaG.mp (I3.stkSub b hf)).elim hl hfs
 have hlen:((none:Option V)::gG caps σ).length=(x::ys).length:=by
  rw [aat,aat,S.len]
  unfold gG
  rw [aac]
 have I4:Inv X pins σ H3 s4:=by
  rw [←hs4]
  exact I3.kept kp
 have Ic:Inv (Cx.comp X (x::ys) scope s3.heap.objs.size s3 H3 fp) [] ((none:Option V)::gG caps σ) H3 s4:=by
  refine ⟨ok,by rw [←hs4];rfl,I4.bare,Un.kept (by rw [e4];exact kp),⟨_,by rw [e4];exact ns4,fun i z v e1 e2 e3=> ?_⟩,fun z c e=>I4.cell z c (cl_in z c e),hC,fun z c e=>I4.freeC z c (cl_in z c e),(fun p hp=>nomatch hp),I4.hok,hlen⟩
  cases i with
  | zero=>cases e2
  | succ j=>
   have e1:ys[j]? =some z:=e1
   have e2:(gG caps σ)[j]? =some (some v):=e2
   unfold gG at e2
   rw [aak] at e2
   cases hi:caps[j]? with
   | none=>rw [hi] at e2;cases e2
   | some i=>
    rw [hi] at e2
    have e2:(σ[i]?).join=some v:=aal e2
    have e2:σ[i]? =some (some v):=by
     cases q:σ[i]? with
     | none=>rw [q] at e2;cases e2
     | some o=>rw [q] at e2;exact congrArg some e2
    obtain ⟨c1,c2,c3⟩:=S.cap (z,i) (tP e1 hi)
    have c4:=lA (env:=X.env) I.ok.kind c2 c3
    have c3:(z,NameKind.free)∈scope.names:=PySem.mem_of_lookup c3
    obtain ⟨m,hn,hl⟩:=I4.loc
    obtain ⟨u,r,lk⟩:=hl i z v c1 e2 (.inr (.inl c2))
    refine ⟨u,r, .inr ⟨.inl c4, ?_⟩⟩
    rcases lk with ⟨k,_⟩ | ⟨_,c,hc',z'⟩
    ·exact absurd ((show X.env.scope.names.lookup z=some .local from k).symm.trans c2) (by decide)
    ·obtain ⟨d,hd⟩:=aa4.mp (gF (env:=X.env) scope.names [] (.inl c3))
     have:=cl_in z d hd
     rw [hc'] at this
     cases this
     exact ⟨c,hd,z'⟩
 have loop:codeAny (model X.prog X.w) X.A (.compLoop (.ListComp elt [⟨.Name x px,iter,[],0⟩] scope pos) 0 (.ref it) (.ref s2.heap.objs.size) (compEnvC scope (mz X.env scope.names []) s3.heap.objs.size X.env)) (PQ (.ref s2.heap.objs.size) s3.heap.objs.size) s4:=by
  have fpC:∀{H':Hp},(∀b∈fp,H' b=none)→∀b∈fp,tG (Cx.comp X (x::ys) scope s3.heap.objs.size s3 H3 fp) [] H' b:=fun hn b hb=>
   ⟨hn b hb,(ok.exf b hb).1,ok.exfs b hb, .inl hb,(ok.exf b hb).2,(fun p hp=>nomatch hp)⟩
  refine codeAny_loop rfl (fun n s'=>∃i zs v H',Inv (Cx.comp X (x::ys) scope s3.heap.objs.size s3 H3 fp) [] (v::gG caps σ) H' s'∧tn i s'.heap∧(∀b∈fp,H' b=none)∧W i n zs H') (fun n s5 z=> ?_) m0 ⟨0,[],none,H3,Ic,T.keep _ _ _ t3 (fun b hb o e=>by rw [e4];exact kp b o e),hfp3,w0⟩
  obtain ⟨i,zs,v,H5,I5,t5,fr5,w5⟩:=z
  show wpAny _ _ ((compTurn _ 0 (.ref it) _ _).onRaise _) _ _ s5
  refine wpAny_noted ?_
  rw [compTurn_list1]
  refine wpAny_bind (wpAny_standAt (wpAny_bind ?_))
  obtain ⟨hacc,stop | go⟩:=step i n zs H5 w5
  ·obtain ⟨stop,q⟩:=stop
   refine thn (T.done (Cx.comp X (x::ys) scope s3.heap.objs.size s3 H3 fp) rfl rfl rfl hc i [] s5 _ H5 _ I5 (fpC fr5) t5 stop) fun r s6 ⟨hr,I6⟩=> ?_
   subst hr
   refine wpAny_pure (hPQ _ _ s6 H5 ?_ q ?_ I6.free ?_ Lne cne fun p hp z=> ?_)
   ·refine I3.call' I6.os I6.base I6.hok I6.bare fun b hb=> ?_
    obtain ⟨_,g1,_,g3,g4,g5⟩:=f2 b hb
    exact ⟨g3,g1,g4,g5⟩
   ·obtain ⟨m,hn,_⟩:=I6.loc
    exact ⟨m,hn⟩
   ·exact I3.sz
   ·exact aaz (Heap.lt_size (I3.pin p hp).1) z
  ·obtain ⟨go,turn⟩:=go
   refine thn (T.item (Cx.comp X (x::ys) scope s3.heap.objs.size s3 H3 fp) rfl rfl rfl hc i [] s5 _ H5 _ I5 (fpC fr5) t5 go) fun r s6 ⟨u,hr,h6⟩=> ?_
   subst hr
   refine wpAny_bind (thn h6 fun _ s7 ⟨y,H7,I7,r7,y7,t7,fr7⟩=> ?_)
   have I7':=I7.pinned (fpC fr7) (T.obj _ _ t7)
   have hg:PG (Cx.comp X (x::ys) scope s3.heap.objs.size s3 H3 fp) (.Name x px) (g8 0):=aN S.nd rfl (.inl (lookup_relabel_local S.own)) (.inr (lookup_relabel_local S.own))
   refine wpAny_bind (wpAny_mono (hg _ s7 _ H7 y u (fun σ' H'=>σ'=some y::gG caps σ∧H'=H7) I7' r7 ⟨rfl,rfl⟩) (fun _ s8 z8=> ?_) fun _ _ f=>f.elim)
   obtain ⟨σ8,H8,I8,e8,e8'⟩:=z8
   subst e8 e8'
   refine wpAny_bind (wpAny_bind (wpAny_mono (he _ _ _ _ _ s8 _ _ _ I8 (turn y _ y7)) (fun u9 s9 z9=> ?_) fun _ _ f=>f.elim))
   obtain ⟨v9,H9,I9,r9,a9,l9,m9,hm9,w9⟩:=z9
   refine wpAny_bind (wpAny_mono (jd (X:=Cx.comp X (x::ys) scope s3.heap.objs.size s3 H3 fp) _ s9 _ H9 (.ref s2.heap.objs.size) [v9] _ [u9] (fun _ H'=>H'=upd H9 s2.heap.objs.size (.lst (zs++[v9]))) I9 rfl (.cons r9 .nil) ⟨_,zs,v9,rfl,rfl,a9,l9,rfl⟩) (fun _ s10 z10=> ?_) fun _ _ f=>f.elim)
   obtain ⟨_,H10,I10,_,e10⟩:=z10
   subst e10
   refine wpAny_pure (wpAny_pure ⟨rfl,m9,hm9,i+1,zs++[v9],some y,_,I10.unpinned,T.keep _ _ _ t7 fun b hb o e=>(I10.pin (b,o) (aav _ (aav _ (df hb e)))).1,fun b hb=> ?_,w9⟩)
   obtain ⟨o,e,_⟩:=T.obj _ _ t7 b hb
   exact (I10.pin (b,o) (aav _ (aav _ (df hb e)))).2.1
 exact codeAny_compStart_list loop (T.self X.A 0 _ _ _ (T.keep _ _ _ t3 (fun b hb o e=>by rw [e4];exact kp b o e)) loop)
theorem uW(S:cU X scope x ys caps)(hc:X.calm=true)(hi:PI X (.Name x px) iter wi)(he:∀C s H fp,PE (Cx.comp X (x::ys) scope C s H fp) elt te)(hs:∀x,foldedSetIterable iter X.env x=pure x:=by intro _;rfl):
  PE X (.ListComp elt [⟨.Name x px,iter,[],0⟩] scope pos) (BV wi te caps):=by
 intro pins s σ H Q I h
 rw [eval_ListComp]
 refine wpAny_comprehension_free (use:=none) rfl hs (hU (S.has I.ok)) S.kind S.names (thn (hi pins s σ H _ I h) fun v s1 h1=>thn h1 fun itv s2 h2=> ?_)
 obtain ⟨it,fp,tn,J,H2,rfl,I2,T,t0,f2,q⟩:=h2
 refine rL S hc he (Q:=Q) I2 T t0 f2 q fun D C s' H' I' q' n' hC hz hL hcc hp=> ?_
 obtain ⟨m,n'⟩:=n'
 exact ⟨m,n',fun h' sb=>⟨.ref D,H',I'.turned (it:=C) (t':=s'.toks) (fun b o hb e=>(sb.2 b hb).trans e) hC hL (.inr hz) hcc hp,rfl,q'⟩⟩
def xq(i:Nat)(wi:TI)(te:TE)(caps:List Nat):TS:=fun D σ H=>BV wi te caps σ H fun v H1=>D.nx (σ.set i (some v)) H1
theorem sA{i:Nat}{y:Str}{py spos:Pos}(hN:X.N.Nodup)(hiy:X.N[i]? =some y)(hy:Loc X.env.scope y)(S:cU X scope x ys caps)(hc:X.calm=true)(hi:PI X (.Name x px) iter wi)(he:∀C s H fp,PE (Cx.comp X (x::ys) scope C s H fp) elt te)
  (hsw:swapsWith (.ListComp elt [⟨.Name x px,iter,[],0⟩] scope pos) (some (.Name y py)) spos.line X.env=pure true:=by rfl) (hs:∀x,foldedSetIterable iter X.env x=pure x:=by intro _;rfl)
  (hf:X.fn y=true∨X.env.scope.names.lookup y=some .local:=by first | exact .inl rfl | exact .inr rfl | assumption):
  PS X (.Assign [.Name y py] (.ListComp elt [⟨.Name x px,iter,[],0⟩] scope pos) spos) (xq i wi te caps):=by
 intro pins s σ H D I h
 rw [exec_Assign_Name_used _ _ _ _ hsw]
 refine wpAny_bind (wpAny_standAt (wpAny_bind ?_))
 show wpAny _ _ (do let _←comprehension (.ListComp elt [⟨.Name x px,iter,[],0⟩] scope pos) scope X.env _ (newList []) false (eval iter X.env) (some (assign (.Name y py) X.env))) _ _ s
 refine wpAny_bind (wpAny_mono (wpAny_comprehension_free (use:=some (assign (.Name y py) X.env)) (Q:=fun _ s'=>SP X pins D .next s') rfl hs (hU (S.has I.ok)) S.kind S.names (thn (hi pins s σ H _ I h) fun v s1 h1=>thn h1 fun itv s2 h2=> ?_)) (fun _ s' hq=>wpAny_pure (wpAny_pure hq)) fun _ _ e=>e)
 obtain ⟨it,fp,tn,J,H2,rfl,I2,T,t0,f2,q⟩:=h2
 refine rL S hc he (Q:=fun v H1=>D.nx (σ.set i (some v)) H1) I2 T t0 f2 q fun Dl C s' H' I' q' n' hC hz hL hcc hp=> ?_
 obtain ⟨m,n'⟩:=n'
 show wpAny _ _ (assign (.Name y py) X.env (.ref Dl)) _ _ s'
 refine wpAny_assign_Name (mK I' hN hiy hy (v:= .ref Dl) rfl (fun s3 I3 sb3=> ?_) hf)
 obtain ⟨a,sb3,ha⟩:=sb3
 have hCa:C≠a:=by
  rcases ha with rfl | ha
  ·exact hL
  ·exact (hcc _ _ ha).symm
 exact ⟨m,n'.sameBut sb3 hCa,fun h' sb=>⟨_,H',I3.turned (it:=C) (t':=s3.toks) (fun b o hb e=>(sb.2 b hb).trans e) hC hL (.inr hz) hcc hp,q'⟩⟩
end
section
variable{P:Program}{w:World}{K:PySem.W.Frag}{mg:Str→Option Value}{base:Heap}
theorem Fun.okX{x qual:Str}{st:Stmt}{f:Addr}{fd:FuncData}{N ps:List Str}{k:Nat}{sp:Sp}(F:Fun K x qual st f fd)(S:ax N ps (ah st))(len:∀vs H Q E,sp vs H Q E→vs.length=ps.length)
  (hbody:∀(cdv:Value) (A:Around) (outer:List Env) (s:Shared) (H:Hp) (vs:List V) (Q:VK) (E:XK),dN k (A.deeper (envOfC qual (ah st) s.heap.objs.size f cdv))→sp vs H Q E→
   ∃t,PSs (p7 (CX1 P w) P w K mg base N qual (ah st) f cdv A outer s H E) (ft st) t∧t {nx:=fun _ H'=>Q .non H',rt:=Q} (start N vs) H):bK P w K mg base (CX1 P w) (k+1) f fd ps sp:=by
 obtain ⟨oc,od,kV,doc,pm,an,cdv,ct,osl,rfl,lk,hcd⟩:=F.ex
 exact Ft lk hcd S len fun A outer s H vs Q E hr hsp=>hbody cdv A outer s H vs Q E hr hsp
end
theorem gZ{X:Cx}{P:Program}{w:World}:cX (CX1 P w) X (fun _=>E0):=by
 intro pins σ H s e s' _ hx
 obtain ⟨_,_,_,_,_,_,_,_,hE⟩:=hx
 exact hE.elim
theorem log2_lt{n:Nat}{k:Nat}(h:n < 2 ^ k)(hk:0 < k):n.log2 < k:=by
 by_cases h0:n=0
 ·rw [h0,show Nat.log2 0=0 from rfl];exact hk
 ·exact (Nat.log2_lt h0).mpr h
def Big(i:Int):Prop:=i.natAbs < 2 ^ 8000
theorem vk{i j:Int}(hi:Big i)(hj:Big j):IntMulOk i j:=by
 have b:∀{i:Int},Big i→Builtin.Int.intBits i≤8000:=fun {i} h=>by
  unfold Builtin.Int.intBits
  split
  ·exact abJ _
  ·have:=log2_lt (k:=8000) h (by decide)
   omega
 have b1:=b hi
 have b2:=b hj
 have h3:Builtin.Int.intTooBig (Builtin.Int.intBits i+Builtin.Int.intBits j)=false:=by
  unfold Builtin.Int.intTooBig
  refine decide_eq_false ?_
  have:(bitsLine:Int)=134217728:=by decide
  omega
 unfold IntMulOk
 rw [h3,Bool.and_false]
 exact aaq
section
variable{X:Cx}
theorem AG:OpR X (binaryOp .Mult) (rI (fun i j=>Big i∧Big j) fun i j=> .int (i * j)):=opI fun _ _ _ _ _ _ _ hc q=>mul_int q (vk hc.1 hc.2)
theorem qL:OpR X (binaryOp .FloorDiv) (rI (fun _ j=>j≠0∧Big j) fun i j=> .int (i.fdiv j)):=opI fun _ _ _ _ _ _ _ hc q=>
 floordiv_int hc.1 q (.inl (PyProof.noPylong_of_log2 (aam (log2_lt (k:=8000) hc.2 (by decide)) (by decide))))
end
def Eh:V→Option Value
 | .ty T=>some (.type T)
 | .ref C=>some (.ref C)
 | _=>none
theorem Bs{c:V}{u t:Value}(r:bx c u)(h:Eh c=some t):u=t:=by
 cases c with
 | ty T=>cases r;exact aal h
 | ref C=>cases r;exact aal h
 | _=>cases h
section
variable{X:Cx}
theorem p9:eS X (.builtin "isinstance") (fun xs H Q=>∃x c t t' b,xs=[x,c]∧oz X.K H x t∧Eh c=some t'∧PySem.W.kitOne X.K t t'=some b∧Q (.bl b) H):=by
 intro pins s σ H xs us Q I r h
 obtain ⟨x,c,t,t',b,rfl,ty,hc,hk,q⟩:=h
 obtain ⟨u,u',rfl,r1,r2⟩:=El r
 cases Bs r2 hc
 exact vI I r1 ty hk fun tk=>⟨.bl b,H,I.tok tk,rfl,q⟩
end
def sY:List V→List V→Bool
 | [],[]=>true
 | x::xs,y::ys=>eqV x y&&sY xs ys
 | _,_=>false
theorem hG:∀(xs ys:List V) (e:Nat→Bool),(∀j x y,xs[j]? =some x→ys[j]? =some y→e j=eqV x y)→((List.range (min xs.length ys.length)).all e&&xs.length==ys.length)=sY xs ys
 | [],[],e,_=>rfl
 | [],_::_,e,_=>by simp [sY]
 | _::_,[],e,_=>by simp [sY]
 | x::xs,y::ys,e,h=>by
  have ih:=hG xs ys (fun j=>e (j+1)) fun j x y h1 h2=>h (j+1) x y h1 h2
  have h0:e 0=eqV x y:=h 0 x y rfl rfl
  show _=(eqV x y&&sY xs ys)
  rw [←ih,←h0]
  have e1:min (x::xs).length (y::ys).length=min xs.length ys.length+1:=by simp only [List.length_cons];omega
  rw [e1,abF,abt,List.all_map]
  have e2:((x::xs).length==(y::ys).length)=(xs.length==ys.length):=by simp only [List.length_cons];rw [Bool.eq_iff_iff];simp
  rw [e2,Bool.and_assoc]
  rfl
def Gx(K:PySem.W.Frag):R2:=fun x y H Q=>∃a b xs ys,x= .ref a∧y= .ref b∧SqT K H a xs∧SqT K H b ys∧xs.all dJ=true∧ys.all dJ=true∧Q (.bl (sY xs ys)) H
def Gs(K:PySem.W.Frag):R2:=fun x y H Q=>∃a b xs ys,x= .ref a∧y= .ref b∧SqT K H a xs∧SqT K H b ys∧xs.all dJ=true∧ys.all dJ=true∧Q (.bl (!sY xs ys)) H
theorem jB:∀{xs:List V} {j:Nat} {x:V},xs.all dJ=true→xs[j]? =some x→dJ x=true
 | _::_,0,_,h,e=>by
  rw [abt,aao] at h
  cases e
  exact h.1
 | _::_,j+1,_,h,e=>by
  rw [abt,aao] at h
  exact jB h.2 e
section
variable{X:Cx}
theorem CA(hu:X.A.units < cLine):OpR X (compareOp .NotEq) (Gs X.K):=by
 intro pins s σ H x y v u Q I rx ry h
 obtain ⟨a,b,xs,ys,rfl,rfl,h1,h2,f1,f2,q⟩:=h
 cases rx
 cases ry
 obtain ⟨i1,v1,t1,_⟩:=I.tuple h1
 obtain ⟨i2,v2,t2,_⟩:=I.tuple h2
 have l1:=v1.length
 have l2:=v2.length
 refine SeqAt.RcNeAt.tuples (e:=fun j=>match xs[j]?,ys[j]? with | some x,some y=>eqV x y | _,_=>true) (show s.heap.IsTuple a i1.toArray from t1) (show s.heap.IsTuple b i2.toArray from t2) hu (fun j h1 h2=> ?_) _ _ _ _ ?_
 ·have b1:j < i1.length:=by simpa using h1
  have b2:j < i2.length:=by simpa using h2
  have e1:xs[j]? =some (xs[j]'(by omega)):=aaa _
  have e2:ys[j]? =some (ys[j]'(by omega)):=aaa _
  obtain ⟨u1,g1,r1⟩:=v1.get e1
  obtain ⟨u2,g2,r2⟩:=v2.get e2
  rw [aaa b1] at g1
  rw [aaa b2] at g2
  have w1:i1.toArray[j]=u1:=by simpa using Option.some.inj g1
  have w2:i2.toArray[j]=u2:=by simpa using Option.some.inj g2
  rw [w1,w2]
  simp only [e1,e2]
  exact nQ r1 r2 (jB f1 e1) (jB f2 e2)
 ·rw [List.size_toArray,List.size_toArray,←l1,←l2,hG xs ys _ (fun j x y h1 h2=>by simp only [h1,h2])]
  exact ⟨.bl (!sY xs ys),H,I,rfl,q⟩
theorem zb(hu:X.A.units < cLine):OpR X (compareOp .Eq) (Gx X.K):=by
 intro pins s σ H x y v u Q I rx ry h
 obtain ⟨a,b,xs,ys,rfl,rfl,h1,h2,f1,f2,q⟩:=h
 cases rx
 cases ry
 obtain ⟨i1,v1,t1,_⟩:=I.tuple h1
 obtain ⟨i2,v2,t2,_⟩:=I.tuple h2
 have l1:=v1.length
 have l2:=v2.length
 refine SeqAt.eq_tupleAt (e:=fun j=>match xs[j]?,ys[j]? with | some x,some y=>eqV x y | _,_=>true) (show s.heap.IsTuple a i1.toArray from t1) (show s.heap.IsTuple b i2.toArray from t2) hu (fun j h1 h2=> ?_) ?_
 ·have b1:j < i1.length:=by simpa using h1
  have b2:j < i2.length:=by simpa using h2
  have e1:xs[j]? =some (xs[j]'(by omega)):=aaa _
  have e2:ys[j]? =some (ys[j]'(by omega)):=aaa _
  obtain ⟨u1,g1,r1⟩:=v1.get e1
  obtain ⟨u2,g2,r2⟩:=v2.get e2
  rw [aaa b1] at g1
  rw [aaa b2] at g2
  have w1:i1.toArray[j]=u1:=by simpa using Option.some.inj g1
  have w2:i2.toArray[j]=u2:=by simpa using Option.some.inj g2
  rw [w1,w2]
  simp only [e1,e2]
  exact nQ r1 r2 (jB f1 e1) (jB f2 e2)
 ·rw [List.size_toArray,List.size_toArray,←l1,←l2,hG xs ys _ (fun j x y h1 h2=>by simp only [h1,h2])]
  exact ⟨.bl (sY xs ys),H,I,rfl,q⟩
end
theorem uF(bs:List Bool):(List.range bs.length).any (fun i=>bs.getD i false)=bs.any id:=by
 induction bs with
 | nil=>rfl
 | cons b bs ih=>
  rw [aat,abF,abD,List.any_map,abD,←ih]
  rfl
theorem oF:∀{bs:List Bool} {us:List Value},bF (bs.map V.bl) us→us=bs.map Value.bool
 | [],_,r=>by cases r;rfl
 | b::bs,_,r=>by
  cases r with
  | cons h t=>
   cases h
   rw [oF t]
   rfl
theorem qr{prog:Program}{w:World}{A:Around}{bs:List Bool}:TruthOf prog w A (fun i v=>(bs.map Value.bool).toArray[i]? =some v) (fun i=>bs.getD i false):=by
 intro i v s Q E h q
 have h':(bs.map Value.bool)[i]? =some v:=by simpa using h
 rw [aak] at h'
 cases e:bs[i]? with
 | none=>rw [e] at h';cases h'
 | some b=>
  rw [e] at h'
  cases h'
  have q':Q b s:=by
   have eb:bs.getD i false=b:=by rw [aab,e];rfl
   exact eb▸q
  exact wpAny_truthy_bool q'
def Gz(K:PySem.W.Frag):List V→Hp→VK→Prop:=fun xs H Q=>∃(p:Addr) (bs:List Bool),xs=[.ref p]∧SqL K H p (bs.map V.bl)∧Q (.bl (bs.any id)) H
section
variable{X:Cx}
theorem yx (hc : X.calm = true) : eS X (.builtin "any") (Gz X.K) := by
  intro pins s σ H xs us Q I r h
  obtain ⟨p, bs, rfl, hq, q⟩ := h
  obtain ⟨u, rfl, r1⟩ := jO r
  cases r1
  obtain ⟨its, rv, pl, hz⟩ := I.list hq
  have eits := oF rv
  subst eits
  refine call_any_walk (wpAny_pyIter_list pl.isList ?_)
  have lp : p < s.heap.objs.size := by obtain ⟨o, e, _⟩ := pl.isList; exact Heap.lt_size e
  refine ⟨s.heap.objs.size, _, _, _, _, _, fun i => bs.getD i false, rfl, Walks.list (show X.A.in1.handled = none from I.ok.hd hc) s.heap.objs.size p (aaz lp) (bs.map Value.bool).toArray, ⟨⟨_, Heap.get?_push_size _ rfl, rfl, rfl⟩, pl.isList.at fun o e => Heap.get?_push_of_some _ e⟩, qr, fun h' tk hk => ?_⟩
  refine ⟨.bl (bs.any id), H, I.kept fun b o e => hk b o (fun z => by have : b = s.heap.objs.size := by simpa using z
                                                                      exact aaW _ (this ▸ Heap.lt_size e)) (Heap.get?_push_of_some _ e), ?_, q⟩
  rw [aas, aac, uF]
  rfl
end
end L2
namespace PySem
open Sem (wp)
end PySem
namespace PySem.W
open PySem PySem.Builtin PySem.Builtin.ObjectAttr
end PySem.W
namespace PySem
open Sem (wp)
end PySem
namespace L2
open PySem PySem.Spec PyProof.Rows
def xO(a C:Addr)(od:Option Addr):HO:= .ext fun h=>∃ob vs,h.get? a=some ob∧ob.cls= .ref C∧ob.dict=od∧ob.data= .fields vs
inductive Dt where
 | non
 | bl (b:Bool)
 | int (i:Int)
 | str (x:Str)
 | tup (xs:List Dt)
 | lst (xs:List Dt)
 | obj (C:Addr) (ns:List Str) (xs:List Dt)
 | loc (k:Nat)
 | ref (a:Addr)
 | ty (n:String)
 | scr (ns:List Int)
 | kt (xs:List Dt)
 | exc (C:Addr) (ns:List Str) (xs:List Dt)
 | exn (x C:Addr) (od:Option Addr) (ns:List Str) (xs:List Dt)
inductive MO where
 | lst (xs:List Dt)
 | ins (C:Addr) (ns:List Str) (xs:List Dt)
 | dct (ks:List Key) (xs:List Dt)
abbrev Ms:=List MO
abbrev En:=List (Option Dt)
mutual
def Den(K:PySem.W.Frag)(G:Hp)(L:List Addr):Dt→V→Prop
 | .non,v=>v= .non
 | .bl b,v=>v= .bl b
 | .int i,v=>v= .int i
 | .str x,v=>v= .str x
 | .tup ds,v=>∃a vs,v= .ref a∧G a=some (.tup vs)∧aT K G L ds vs
 | .lst ds,v=>∃a vs,v= .ref a∧G a=some (.lst vs)∧aT K G L ds vs
 | .obj C ns ds,v=>∃a dx vs,v= .ref a∧G a=some (.ins C dx (ns.zip vs))∧ns.length=ds.length∧aT K G L ds vs
 | .loc k,v=>∃a,v= .ref a∧L[k]? =some a
 | .ref a,v=>v= .ref a
 | .ty n,v=>v= .ty n
 | .scr ns,v=>∃a,v= .ref a∧SqL K G a (ns.map V.int)
 | .kt ds,v=>∃a vs,v= .ref a∧SqT K G a vs∧aT K G L ds vs
 | .exc C ns ds,v=>∃a od vs,v= .ref a∧G a=some (xO a C od)∧((ns=[]∧od=none)∨∃dx,od=some dx∧G dx=some (.xd (ns.zip vs)))∧ns.length=ds.length∧aT K G L ds vs
 | .exn x _ od ns ds,v=>∃vs,v= .ref x∧((ns=[]∧od=none)∨∃dx,od=some dx∧G dx=some (.xd (ns.zip vs)))∧ns.length=ds.length∧aT K G L ds vs
def aT(K:PySem.W.Frag)(G:Hp)(L:List Addr):List Dt→List V→Prop
 | [],vs=>vs=[]
 | d::ds,vs=>∃v r,vs=v::r∧Den K G L d v∧aT K G L ds r
end
def Pre(L L':List Addr):Prop:=∃t,L'=L++t
theorem Pre.refl(L:List Addr):Pre L L:=⟨[],by simp⟩
theorem Pre.trans{a b c:List Addr}(h:Pre a b)(h':Pre b c):Pre a c:=by
 obtain ⟨t,rfl⟩:=h
 obtain ⟨u,rfl⟩:=h'
 exact ⟨t++u,by simp⟩
theorem Pre.get{a b:List Addr}(h:Pre a b){k:Nat}{x:Addr}(e:a[k]? =some x):b[k]? =some x:=by
 obtain ⟨t,rfl⟩:=h
 have hk:k < a.length:=(aaf.mp e).1
 rw [aar hk];exact e
theorem gf.rd{H H':Hp}{a:Addr}{u:HO}(e:gf H H')(h:Rd H a u):Rd H' a u:=by
 rcases h with h | ⟨o,h⟩
 ·exact .inl (e _ _ h)
 ·exact .inr ⟨o,e _ _ h⟩
theorem gf.sqT{K:PySem.W.Frag}{H H':Hp}{a:Addr}{xs:List V}(e:gf H H')(h:SqT K H a xs):SqT K H' a xs:=by
 rcases h with h | h
 ·exact .inl (e.rd h)
 ·exact .inr h
section
variable{K:PySem.W.Frag}{G G':Hp}{L L':List Addr}
mutual
theorem Den.mono(g:gf G G')(l:Pre L L'):∀(d:Dt) (v:V),Den K G L d v→Den K G' L' d v
 | .non,_,h=>h
 | .bl _,_,h=>h
 | .int _,_,h=>h
 | .str _,_,h=>h
 | .tup ds,_,⟨a,vs,e,h1,h2⟩=>⟨a,vs,e,g _ _ h1,aT.mono g l ds vs h2⟩
 | .lst ds,_,⟨a,vs,e,h1,h2⟩=>⟨a,vs,e,g _ _ h1,aT.mono g l ds vs h2⟩
 | .obj C ns ds,_,⟨a,dx,vs,e,h1,hn,h2⟩=>⟨a,dx,vs,e,g _ _ h1,hn,aT.mono g l ds vs h2⟩
 | .loc k,_,⟨a,e,h1⟩=>⟨a,e,l.get h1⟩
 | .ref _,_,h=>h
 | .ty _,_,h=>h
 | .scr _,_,⟨a,e,h1⟩=>⟨a,e,g.seq h1⟩
 | .kt ds,_,⟨a,vs,e,h1,h2⟩=>⟨a,vs,e,g.sqT h1,aT.mono g l ds vs h2⟩
 | .exc _ _ ds,_,⟨a,od,vs,e,h1,h2,h3,h4⟩=>⟨a,od,vs,e,g _ _ h1,h2.imp (fun z=>z) (fun ⟨dx,z1,z2⟩=>⟨dx,z1,g _ _ z2⟩),h3,aT.mono g l ds vs h4⟩
 | .exn _ _ _ _ ds,_,⟨vs,e,h2,h3,h4⟩=>⟨vs,e,h2.imp (fun z=>z) (fun ⟨dx,z1,z2⟩=>⟨dx,z1,g _ _ z2⟩),h3,aT.mono g l ds vs h4⟩
theorem aT.mono(g:gf G G')(l:Pre L L'):∀(ds:List Dt) (vs:List V),aT K G L ds vs→aT K G' L' ds vs
 | [],_,h=>h
 | d::ds,_,⟨v,r,e,h1,h2⟩=>⟨v,r,e,Den.mono g l d v h1,aT.mono g l ds r h2⟩
end
theorem aT.pair:∀{ds:List Dt} {vs:List V},aT K G L ds vs→Paired (Den K G L) ds vs
 | [],_,h=>by
  have h:_=_:=h
  subst h
  exact .nil
 | d::ds,_,⟨v,r,e,h1,h2⟩=>by
  subst e
  exact .cons h1 (aT.pair h2)
theorem aT.of:∀{ds:List Dt} {vs:List V},Paired (Den K G L) ds vs→aT K G L ds vs
 | _,_, .nil=>rfl
 | _,_, .cons h t=>⟨_,_,rfl,h,aT.of t⟩
end
section
variable{α β:Type}{F:α→β→Prop}
theorem uN:∀{xs:List α} {us:List β} {i:Nat} {x:α},Paired F xs us→xs[i]? =some x→∃u,us[i]? =some u∧F x u
 | _,_,_,_, .nil,e=>by simp at e
 | _,_,0,_, .cons r _,e=>by simp at e;subst e;exact ⟨_,rfl,r⟩
 | _,_,i+1,x, .cons _ t,e=>by
  obtain ⟨u,h1,h2⟩:=uN (i:=i) (x:=x) t (by simpa using e)
  exact ⟨u,by simpa using h1,h2⟩
theorem uM{x:α}{u:β}(r:F x u):∀{xs:List α} {us:List β} (i:Nat),Paired F xs us→Paired F (xs.set i x) (us.set i u)
 | _,_,_, .nil=> .nil
 | _,_,0, .cons _ t=> .cons r t
 | _,_,i+1, .cons q t=> .cons q (uM r i t)
theorem pb:∀{xs ys:List α} {us ws:List β},Paired F xs us→Paired F ys ws→Paired F (xs++ys) (us++ws)
 | _,_,_,_, .nil,s=>s
 | _,_,_,_, .cons r t,s=> .cons r (pb t s)
theorem lC:∀{xs:List α} {us:List β} (n:Nat),Paired F xs us→Paired F (xs.take n) (us.take n)
 | _,_,0,_=> .nil
 | _,_,_+1, .nil=> .nil
 | _,_,n+1, .cons r t=> .cons r (lC n t)
theorem lE:∀{xs:List α} {us:List β} (n:Nat),Paired F xs us→Paired F (xs.drop n) (us.drop n)
 | _,_,0,r=>r
 | _,_,_+1, .nil=> .nil
 | _,_,n+1, .cons _ t=>lE n t
theorem oZ{xs:List α}{us:List β}(h:Paired F xs us):∀k:Nat,Paired F (List.replicate k xs).flatten (List.replicate k us).flatten
 | 0=> .nil
 | k+1=>by
  rw [aaX,aaX,abb,abb]
  exact pb h (oZ h k)
end
section
variable{K:PySem.W.Frag}{G:Hp}{L:List Addr}
theorem aT.length{ds:List Dt}{vs:List V}(h:aT K G L ds vs):ds.length=vs.length:=Paired.length h.pair
theorem aT.get{ds:List Dt}{vs:List V}{i:Nat}{d:Dt}(h:aT K G L ds vs)(e:ds[i]? =some d):∃v,vs[i]? =some v∧Den K G L d v:=uN h.pair e
theorem aT.app{ds es:List Dt}{vs us:List V}(h:aT K G L ds vs)(h':aT K G L es us):aT K G L (ds++es) (vs++us):= .of (pb h.pair h'.pair)
theorem fq:∀{ns:List Int},aT K G L (ns.map Dt.int) (ns.map V.int)
 | []=>rfl
 | n::ns=>⟨_,_,rfl,rfl,fq⟩
theorem bw{d:Dt}{vs:List V}(h:aT K G L [d] vs):∃v,vs=[v]∧Den K G L d v:=by
 obtain ⟨v,r,rfl,h1,h2⟩:=h
 have h2:r=[]:=h2
 subst h2
 exact ⟨v,rfl,h1⟩
theorem fG{d e:Dt}{vs:List V}(h:aT K G L [d,e] vs):∃v u,vs=[v,u]∧Den K G L d v∧Den K G L e u:=by
 obtain ⟨v,r,rfl,h1,h2⟩:=h
 obtain ⟨u,rfl,h3⟩:=bw h2
 exact ⟨v,u,rfl,h1,h3⟩
end
def MOk(K:PySem.W.Frag)(G:Hp)(L:List Addr)(H:Hp)(a:Addr):MO→Prop
 | .lst ds=>∃vs,H a=some (.lst vs)∧aT K G L ds vs
 | .ins C ns ds=>∃dx vs,H a=some (.ins C dx (ns.zip vs))∧ns.length=ds.length∧aT K G L ds vs
 | .dct ks ds=>∃vs,H a=some (.dK (ks.zip vs))∧ks.length=ds.length∧aT K G L ds vs
structure Rl(K:PySem.W.Frag)(G:Hp)(L:List Addr)(M:Ms)(H:Hp):Prop where
 sub:gf G H
 len:L.length=M.length
 nd:L.Nodup
 ats:∀(k:Nat) (a:Addr) (m:MO),L[k]? =some a→M[k]? =some m→G a=none∧MOk K G L H a m
structure Ex(G:Hp)(L:List Addr)(H:Hp)(G':Hp)(L':List Addr)(H':Hp):Prop where
 g:gf G G'
 l:Pre L L'
 fr:∀b,G b=none→H b≠none→G' b=none
 out:∀b o,H b=some o→b∉L→H' b=some o
 new:∀b∈L',b∈L∨H b=none
 dom:∀b,H b≠none→H' b≠none
theorem Ex.refl(G:Hp)(L:List Addr)(H:Hp):Ex G L H G L H:=⟨.refl _, .refl _,fun _ h _=>h,fun _ _ h _=>h,fun _ h=> .inl h,fun _ h=>h⟩
theorem Ex.trans{G:Hp}{L:List Addr}{H G1:Hp}{L1:List Addr}{H1 G2:Hp}{L2:List Addr}{H2:Hp}(a:Ex G L H G1 L1 H1)(b:Ex G1 L1 H1 G2 L2 H2):Ex G L H G2 L2 H2 where
 g:=a.g.trans b.g
 l:=a.l.trans b.l
 fr:=fun x h1 h2=>b.fr x (a.fr x h1 h2) (a.dom x h2)
 out:=fun x o h1 h2=>b.out x o (a.out x o h1 h2) fun z=>(a.new x z).elim h2 fun q=>by rw [h1] at q;cases q
 new:=fun x h=>by
  rcases b.new x h with z | z
  ·exact a.new x z
  ·right
   cases q:H x with
   | none=>rfl
   | some o=>exact absurd z (a.dom x (by rw [q];simp))
 dom:=fun x h=>b.dom x (a.dom x h)
theorem MOk.there{K:PySem.W.Frag}{G:Hp}{L:List Addr}{H:Hp}{a:Addr}{m:MO}(h:MOk K G L H a m):H a≠none:=by
 cases m with
 | lst ds=>obtain ⟨vs,e,_⟩:=h;rw [e];simp
 | ins C ns ds=>obtain ⟨dx,vs,e,_⟩:=h;rw [e];simp
 | dct ks ds=>obtain ⟨vs,e,_⟩:=h;rw [e];simp
theorem MOk.mono{K:PySem.W.Frag}{G G':Hp}{L L':List Addr}{H H':Hp}{a:Addr}{m:MO}(g:gf G G')(l:Pre L L')(e:H' a=H a)(h:MOk K G L H a m):MOk K G' L' H' a m:=by
 cases m with
 | lst ds=>obtain ⟨vs,e1,h⟩:=h;exact ⟨vs,e.trans e1,aT.mono g l _ _ h⟩
 | ins C ns ds=>obtain ⟨dx,vs,e1,h0,h⟩:=h;exact ⟨dx,vs,e.trans e1,h0,aT.mono g l _ _ h⟩
 | dct ks ds=>obtain ⟨vs,e1,h0,h⟩:=h;exact ⟨vs,e.trans e1,h0,aT.mono g l _ _ h⟩
section
variable{K:PySem.W.Frag}{G:Hp}{L:List Addr}{M:Ms}{H:Hp}{p:Addr}{o:HO}
theorem Rl.at_mem(r:Rl K G L M H){a:Addr}(h:a∈L):∃(k:Nat) (m:MO),L[k]? =some a∧M[k]? =some m∧G a=none∧MOk K G L H a m:=by
 obtain ⟨k,hk,e⟩:=aa3 h
 have e1:L[k]? =some a:=by rw [aaa hk,e]
 have e2:M[k]? =some (M[k]'(by rw [←r.len];exact hk)):=aaa _
 exact ⟨k,_,e1,e2,r.ats k a _ e1 e2⟩
theorem Rl.memN(r:Rl K G L M H)(hp:H p=none):p∉L:=fun z=>by
 obtain ⟨k,m,_,_,_,h⟩:=r.at_mem z
 exact h.there hp
theorem Rl.newG(r:Rl K G L M H)(hp:H p=none):Rl K (upd G p o) L M (upd H p o) where
 sub:=fun b u e=>by
  by_cases hb:b=p
  ·subst hb;rw [aD] at e⊢;exact e
  ·rw [aw hb] at e⊢;exact r.sub b u e
 len:=r.len
 nd:=r.nd
 ats:=fun k a m h1 h2=>by
  obtain ⟨q1,q2⟩:=r.ats k a m h1 h2
  have hb:a≠p:=fun z=>q2.there (by rw [z];exact hp)
  exact ⟨by rw [aw hb];exact q1,q2.mono (fun b u e=>by rw [aw (fun z=>by rw [z,r.sub.free hp] at e;cases e)];exact e) (.refl _) (aw hb)⟩
theorem Rl.exG(r:Rl K G L M H)(hp:H p=none):Ex G L H (upd G p o) L (upd H p o) where
 g:=fun b u e=>by rw [aw (fun z=>by rw [z,r.sub.free hp] at e;cases e)];exact e
 l:= .refl _
 fr:=fun b h1 h2=>by rw [aw (fun z=>h2 (by rw [z];exact hp))];exact h1
 out:=fun b u h1 _=>by rw [aw (fun z=>by rw [z,hp] at h1;cases h1)];exact h1
 new:=fun b h=> .inl h
 dom:=fun b h=>by rw [aw (fun z=>h (by rw [z];exact hp))];exact h
theorem Rl.newM{m:MO}(r:Rl K G L M H)(hp:H p=none)(hm:MOk K G (L++[p]) (upd H p o) p m):Rl K G (L++[p]) (M++[m]) (upd H p o) where
 sub:=fun b u e=>by rw [aw (fun z=>by rw [z,r.sub.free hp] at e;cases e)];exact r.sub b u e
 len:=by rw [aai,aai,r.len];rfl
 nd:=List.nodup_append.mpr ⟨r.nd,by simp,fun a ha b hb=>by
  have e:b=p:=by simpa using hb
  rw [e];exact fun z=>r.memN hp (z▸ha)⟩
 ats:=fun k a m' h1 h2=>by
  by_cases hk:k < L.length
  ·rw [aar hk] at h1
   rw [aar (by rw [←r.len];exact hk)] at h2
   obtain ⟨q1,q2⟩:=r.ats k a m' h1 h2
   exact ⟨q1,q2.mono (.refl _) ⟨[p],rfl⟩ (aw fun z=>q2.there (by rw [z];exact hp))⟩
  ·have e:k=L.length:=by
    have:=(aaf.mp h1).1
    rw [aai] at this
    simp at this
    omega
   rw [e,aaw (aah _)] at h1
   rw [e,r.len,aaw (aah _)] at h2
   simp at h1 h2
   subst h1 h2
   exact ⟨r.sub.free hp,hm⟩
theorem Rl.exM(r:Rl K G L M H)(hp:H p=none):Ex G L H G (L++[p]) (upd H p o) where
 g:= .refl _
 l:=⟨[p],rfl⟩
 fr:=fun b h1 _=>h1
 out:=fun b u h1 _=>by rw [aw (fun z=>by rw [z,hp] at h1;cases h1)];exact h1
 new:=fun b h=>by
  rcases aaN.mp h with z | z
  ·exact .inl z
  ·have e:b=p:=by simpa using z
   right;rw [e];exact hp
 dom:=fun b h=>by rw [aw (fun z=>h (by rw [z];exact hp))];exact h
theorem Rl.setM{k:Nat}{a:Addr}{m:MO}(r:Rl K G L M H)(hk:L[k]? =some a)(hm:MOk K G L (upd H a o) a m):Rl K G L (M.set k m) (upd H a o) where
 sub:=fun b u e=>by
  obtain ⟨k',m',e1,e2,q1,_⟩:=r.at_mem (aaj hk)
  rw [aw (fun z=>by rw [z,q1] at e;cases e)];exact r.sub b u e
 len:=by rw [abA];exact r.len
 nd:=r.nd
 ats:=fun k' a' m' h1 h2=>by
  by_cases e:k'=k
  ·subst e
   rw [hk] at h1;cases h1
   have hl:k' < M.length:=by rw [←r.len];exact (aaf.mp hk).1
   rw [aba hl] at h2
   cases h2
   obtain ⟨_,_,_,_,q1,_⟩:=r.at_mem (aaj hk)
   exact ⟨q1,hm⟩
  ·rw [aa8 (fun z=>e z.symm)] at h2
   obtain ⟨q1,q2⟩:=r.ats k' a' m' h1 h2
   have ne:a'≠a:=fun z=>by
    subst z
    exact e ((List.getElem?_inj (aaf.mp h1).1 r.nd).mp (h1.trans hk.symm))
   exact ⟨q1,q2.mono (.refl _) (.refl _) (aw ne)⟩
theorem Rl.exS{k:Nat}{a:Addr}(r:Rl K G L M H)(hk:L[k]? =some a):Ex G L H G L (upd H a o) where
 g:= .refl _
 l:= .refl _
 fr:=fun b h1 _=>h1
 out:=fun b u h1 h2=>by rw [aw (fun z=>h2 (by rw [z];exact aaj hk))];exact h1
 new:=fun b h=> .inl h
 dom:=fun b h=>by
  by_cases e:b=a
  ·rw [e,aD];simp
  ·rw [aw e];exact h
end
structure EnD(K:PySem.W.Frag)(G:Hp)(L:List Addr)(ρ:En)(σ:St):Prop where
 len:ρ.length=σ.length
 ats:∀(i:Nat) (d:Dt),ρ[i]? =some (some d)→∃v,σ[i]? =some (some v)∧Den K G L d v
section
variable{K:PySem.W.Frag}{G G':Hp}{L L':List Addr}{H H':Hp}{ρ:En}{σ:St}
theorem EnD.mono(h:EnD K G L ρ σ)(e:Ex G L H G' L' H'):EnD K G' L' ρ σ:=⟨h.len,fun i d q=>let ⟨v,a,b⟩:=h.ats i d q;⟨v,a,Den.mono e.g e.l d v b⟩⟩
theorem EnD.set(h:EnD K G L ρ σ)(i:Nat){d:Dt}{v:V}(q:Den K G L d v):EnD K G L (ρ.set i (some d)) (σ.set i (some v)):=by
 refine ⟨by rw [abA,abA];exact h.len,fun j d' e=> ?_⟩
 by_cases hj:i=j
 ·subst hj
  have hl:i < ρ.length:=by
   have:=(aaf.mp e).1
   rwa [abA] at this
  rw [aba hl] at e
  cases e
  exact ⟨v,aba (by rw [←h.len];exact hl),q⟩
 ·rw [aa8 hj] at e
  obtain ⟨u,a,b⟩:=h.ats j d' e
  exact ⟨u,by rw [aa8 hj];exact a,b⟩
end
abbrev DQ:=Dt→Ms→Prop
abbrev DX:=En→Addr→List (Str×Dt)→Ms→Prop
def Gj(K:PySem.W.Frag)(G:Hp)(L:List Addr)(H:Hp)(fs:List (Str×Dt))(od:Option Addr):Prop:=
 (fs=[]∧od=none)∨fs≠[]∧∃dx vs,od=some dx∧G dx=some (.xd ((fs.map (·.1)).zip vs))∧aT K G L (fs.map (·.2)) vs
def XOk(K:PySem.W.Frag)(G:Hp)(L:List Addr)(H:Hp)(R:St→XK)(x:DX):Prop:=
 ∀σ ρ C fs M' G' L' H' od,x ρ C fs M'→Ex G L H G' L' H'→Rl K G' L' M' H'→EnD K G' L' ρ σ→Gj K G' L' H' fs od→R σ (.ref C) od H'
theorem XOk.on{K:PySem.W.Frag}{G:Hp}{L:List Addr}{H G1:Hp}{L1:List Addr}{H1:Hp}{R:St→XK}{x:DX}(h:XOk K G L H R x)(e:Ex G L H G1 L1 H1):XOk K G1 L1 H1 R x:=
 fun σ ρ C fs M' G' L' H' od q e' r n y=>h σ ρ C fs M' G' L' H' od q (e.trans e') r n y
def noX:DX:=fun _ _ _ _=>False
theorem tR{K:PySem.W.Frag}{G:Hp}{L:List Addr}{H:Hp}{R:St→XK}:XOk K G L H R noX:=fun _ _ _ _ _ _ _ _ _ q=>q.elim
abbrev DE:=En→Ms→DQ→DX→Prop
abbrev DT:=En→Ms→(Bool→Ms→Prop)→DX→Prop
abbrev DA:=En→Ms→(List Dt→Ms→Prop)→DX→Prop
structure ow where
 nx:En→Ms→Prop
 rt:DQ
 bk:En→Ms→Prop:=fun _ _=>False
 ct:En→Ms→Prop:=fun _ _=>False
 x:DX:=noX
abbrev DS:=ow→En→Ms→Prop
inductive Fin(K:PySem.W.Frag)(G0:Hp)(L0:List Addr)(H0:Hp)(q:DQ)(v:V)(H:Hp):Prop
 | mk (d:Dt) (G:Hp) (L:List Addr) (M:Ms) (e:Ex G0 L0 H0 G L H) (r:Rl K G L M H) (n:Den K G L d v) (h:q d M)
inductive yD(K:PySem.W.Frag)(G0:Hp)(L0:List Addr)(H0:Hp)(q:Bool→Ms→Prop)(b:Bool)(H:Hp):Prop
 | mk (G:Hp) (L:List Addr) (M:Ms) (e:Ex G0 L0 H0 G L H) (r:Rl K G L M H) (h:q b M)
inductive Ek(K:PySem.W.Frag)(G0:Hp)(L0:List Addr)(H0:Hp)(q:List Dt→Ms→Prop)(vs:List V)(H:Hp):Prop
 | mk (ds:List Dt) (G:Hp) (L:List Addr) (M:Ms) (e:Ex G0 L0 H0 G L H) (r:Rl K G L M H) (n:aT K G L ds vs) (h:q ds M)
inductive iH(K:PySem.W.Frag)(G0:Hp)(L0:List Addr)(H0:Hp)(q:En→Ms→Prop)(σ:St)(H:Hp):Prop
 | mk (ρ:En) (G:Hp) (L:List Addr) (M:Ms) (e:Ex G0 L0 H0 G L H) (r:Rl K G L M H) (n:EnD K G L ρ σ) (h:q ρ M)
def yE(K:PySem.W.Frag)(G0:Hp)(L0:List Addr)(H0:Hp)(Dn:ow):zT:=⟨iH K G0 L0 H0 Dn.nx,Fin K G0 L0 H0 Dn.rt,iH K G0 L0 H0 Dn.bk,iH K G0 L0 H0 Dn.ct⟩
inductive tL(K:PySem.W.Frag)(R:St→XK)(t:DE)(σ:St)(H:Hp)(Q:VK):Prop
 | mk (G:Hp) (L:List Addr) (ρ:En) (M:Ms) (q:DQ) (x:DX) (r:Rl K G L M H) (n:EnD K G L ρ σ) (h:t ρ M q x) (hx:XOk K G L H R x) (hQ:∀v H1,Fin K G L H q v H1→Q v H1)
inductive GH(K:PySem.W.Frag)(R:St→XK)(t:DT)(σ:St)(H:Hp)(Q:Bool→Hp→Prop):Prop
 | mk (G:Hp) (L:List Addr) (ρ:En) (M:Ms) (q:Bool→Ms→Prop) (x:DX) (r:Rl K G L M H) (n:EnD K G L ρ σ) (h:t ρ M q x) (hx:XOk K G L H R x) (hQ:∀b H1,yD K G L H q b H1→Q b H1)
inductive GK(K:PySem.W.Frag)(R:St→XK)(t:DA)(σ:St)(H:Hp)(Q:List V→Hp→Prop):Prop
 | mk (G:Hp) (L:List Addr) (ρ:En) (M:Ms) (q:List Dt→Ms→Prop) (x:DX) (r:Rl K G L M H) (n:EnD K G L ρ σ) (h:t ρ M q x) (hx:XOk K G L H R x) (hQ:∀vs H1,Ek K G L H q vs H1→Q vs H1)
structure Gg(A B:zT):Prop where
 nx:∀σ H,A.nx σ H→B.nx σ H
 rt:∀v H,A.rt v H→B.rt v H
 bk:∀σ H,A.bk σ H→B.bk σ H
 ct:∀σ H,A.ct σ H→B.ct σ H
inductive GI(K:PySem.W.Frag)(R:St→XK)(t:DS)(De:zT)(σ:St)(H:Hp):Prop
 | mk (G:Hp) (L:List Addr) (ρ:En) (M:Ms) (Dn:ow) (r:Rl K G L M H) (n:EnD K G L ρ σ) (h:t Dn ρ M) (hx:XOk K G L H R Dn.x) (hQ:Gg (yE K G L H Dn) De)
def JE(X:Cx)(R:St→XK)(e:Expr)(t:DE):Prop:=PE X e (tL X.K R t)
def JT(X:Cx)(R:St→XK)(e:Expr)(t:DT):Prop:=PT X e (GH X.K R t)
def JW(X:Cx)(R:St→XK)(e:Expr)(t:DT):Prop:=PW X e (GH X.K R t)
def JA(X:Cx)(R:St→XK)(es:List Expr)(t:DA):Prop:=PA X es (GK X.K R t)
def JS(X:Cx)(R:St→XK)(st:Stmt)(t:DS):Prop:=PS X st (GI X.K R t)
def JSs(X:Cx)(R:St→XK)(st:List Stmt)(t:DS):Prop:=PSs X st (GI X.K R t)
section
variable{K:PySem.W.Frag}{G0:Hp}{L0:List Addr}{H0 G1:Hp}{L1:List Addr}{H1:Hp}
theorem Fin.back{q:DQ}(e:Ex G0 L0 H0 G1 L1 H1){v:V}{H:Hp}(h:Fin K G1 L1 H1 q v H):Fin K G0 L0 H0 q v H:=let ⟨d,G,L,M,a,b,c,f⟩:=h;⟨d,G,L,M,e.trans a,b,c,f⟩
theorem iH.back{q:En→Ms→Prop}(e:Ex G0 L0 H0 G1 L1 H1){v:St}{H:Hp}(h:iH K G1 L1 H1 q v H):iH K G0 L0 H0 q v H:=let ⟨d,G,L,M,a,b,c,f⟩:=h;⟨d,G,L,M,e.trans a,b,c,f⟩
theorem yD.back{q:Bool→Ms→Prop}(e:Ex G0 L0 H0 G1 L1 H1){v:Bool}{H:Hp}(h:yD K G1 L1 H1 q v H):yD K G0 L0 H0 q v H:=let ⟨G,L,M,a,b,f⟩:=h;⟨G,L,M,e.trans a,b,f⟩
theorem yE.back{Dn:ow}(e:Ex G0 L0 H0 G1 L1 H1):Gg (yE K G1 L1 H1 Dn) (yE K G0 L0 H0 Dn):=⟨fun _ _ h=>iH.back e h,fun _ _ h=>Fin.back e h,fun _ _ h=>iH.back e h,fun _ _ h=>iH.back e h⟩
theorem SP.imp{X:Cx}{pins:List (Addr×Obj)}{A B:zT}(e:Gg A B){f:Flow}{s:Shared}(h:SP X pins A f s):SP X pins B f s:=by
 cases f with
 | next=>obtain ⟨a,b,I,q⟩:=h;exact ⟨a,b,I,e.nx _ _ q⟩
 | brk=>obtain ⟨a,b,I,q⟩:=h;exact ⟨a,b,I,e.bk _ _ q⟩
 | cont=>obtain ⟨a,b,I,q⟩:=h;exact ⟨a,b,I,e.ct _ _ q⟩
 | ret u=>obtain ⟨v,a,b,I,r,q⟩:=h;exact ⟨v,a,b,I,r,e.rt _ _ q⟩
end
section
variable{X:Cx}{R:St→XK}{e:Expr}
theorem JE.of{te:TE}{t:DE}(h:PE X e te)(hw:∀σ H G L ρ M q x,Rl X.K G L M H→EnD X.K G L ρ σ→t ρ M q x→XOk X.K G L H R x→te σ H (Fin X.K G L H q)):JE X R e t:=by
 intro pins s σ H Q I ⟨G,L,ρ,M,q,x,r,n,ht,hx,hQ⟩
 refine thn (h pins s σ H _ I (hw σ H G L ρ M q x r n ht hx)) fun u s1 ⟨v,H1,I1,rv,f⟩=>⟨v,H1,I1,rv,hQ v H1 f⟩
theorem JT.of{te:TT}{t:DT}(h:PT X e te)(hw:∀σ H G L ρ M q x,Rl X.K G L M H→EnD X.K G L ρ σ→t ρ M q x→XOk X.K G L H R x→te σ H (yD X.K G L H q)):JT X R e t:=by
 intro pins s σ H Q I ⟨G,L,ρ,M,q,x,r,n,ht,hx,hQ⟩
 refine thn (h pins s σ H _ I (hw σ H G L ρ M q x r n ht hx)) fun u s1 ⟨H1,I1,f⟩=>⟨H1,I1,hQ u H1 f⟩
theorem JW.of{te:TT}{t:DT}(h:PW X e te)(hw:∀σ H G L ρ M q x,Rl X.K G L M H→EnD X.K G L ρ σ→t ρ M q x→XOk X.K G L H R x→te σ H (yD X.K G L H q)):JW X R e t:=by
 intro wh pins s σ H Q I ⟨G,L,ρ,M,q,x,r,n,ht,hx,hQ⟩
 refine thn (h wh pins s σ H _ I (hw σ H G L ρ M q x r n ht hx)) fun u s1 ⟨H1,I1,f⟩=>⟨H1,I1,hQ u H1 f⟩
theorem JA.of{es:List Expr}{te:TA}{t:DA}(h:PA X es te)(hw:∀σ H G L ρ M q x,Rl X.K G L M H→EnD X.K G L ρ σ→t ρ M q x→XOk X.K G L H R x→te σ H (Ek X.K G L H q)):JA X R es t:=by
 intro pos pins s σ H Q I ⟨G,L,ρ,M,q,x,r,n,ht,hx,hQ⟩
 refine thn (h pos pins s σ H _ I (hw σ H G L ρ M q x r n ht hx)) fun u s1 ⟨v,H1,I1,rv,f⟩=>⟨v,H1,I1,rv,hQ v H1 f⟩
theorem JS.of{st:Stmt}{te:TS}{t:DS}(h:PS X st te)(hw:∀σ H G L ρ M Dn,Rl X.K G L M H→EnD X.K G L ρ σ→t Dn ρ M→XOk X.K G L H R Dn.x→te (yE X.K G L H Dn) σ H):JS X R st t:=by
 intro pins s σ H De I ⟨G,L,ρ,M,Dn,r,n,ht,hx,hQ⟩
 exact thn (h pins s σ H _ I (hw σ H G L ρ M Dn r n ht hx)) fun u s1 f=>SP.imp hQ f
theorem JSs.of{st:List Stmt}{te:TS}{t:DS}(h:PSs X st te)(hw:∀σ H G L ρ M Dn,Rl X.K G L M H→EnD X.K G L ρ σ→t Dn ρ M→XOk X.K G L H R Dn.x→te (yE X.K G L H Dn) σ H):JSs X R st t:=by
 intro pins s σ H De I ⟨G,L,ρ,M,Dn,r,n,ht,hx,hQ⟩
 exact thn (h pins s σ H _ I (hw σ H G L ρ M Dn r n ht hx)) fun u s1 f=>SP.imp hQ f
end
def Bp(i:Nat):DE:=fun ρ M q _=>match ρ[i]? with
 | some (some d)=>q d M
 | _=>False
def dC(d:Dt):DE:=fun _ M q _=>q d M
def dOp(f:Dt→Dt→Ms→DQ→Prop)(a b:DE):DE:=fun ρ M q x=>a ρ M (fun d1 M1=>b ρ M1 (fun d2 M2=>f d1 d2 M2 q) x) x
def dUn(f:Dt→Ms→DQ→Prop)(a:DE):DE:=fun ρ M q x=>a ρ M (fun d1 M1=>f d1 M1 q) x
def FV:DA:=fun _ M q _=>q [] M
def DW(a:DE)(r:DA):DA:=fun ρ M q x=>a ρ M (fun d M1=>r ρ M1 (fun ds M2=>q (d::ds) M2) x) x
def dFn(f:List Dt→Ms→DQ→Prop)(a:DA):DE:=fun ρ M q x=>a ρ M (fun ds M1=>f ds M1 q) x
def OpD(K:PySem.W.Frag)(r:R2)(f:Dt→Dt→Ms→DQ→Prop):Prop:=
 ∀G0 L0 H0 G L M H v1 v2 d1 d2 q,Ex G0 L0 H0 G L H→Rl K G L M H→Den K G L d1 v1→Den K G L d2 v2→f d1 d2 M q→r v1 v2 H (Fin K G0 L0 H0 q)
def UnD(K:PySem.W.Frag)(r:V→Hp→VK→Prop)(f:Dt→Ms→DQ→Prop):Prop:=
 ∀G0 L0 H0 G L M H v1 d1 q,Ex G0 L0 H0 G L H→Rl K G L M H→Den K G L d1 v1→f d1 M q→r v1 H (Fin K G0 L0 H0 q)
def CaD(K:PySem.W.Frag)(r:List V→Hp→VK→Prop)(f:List Dt→Ms→DQ→Prop):Prop:=
 ∀G0 L0 H0 G L M H vs ds q,Ex G0 L0 H0 G L H→Rl K G L M H→aT K G L ds vs→f ds M q→r vs H (Fin K G0 L0 H0 q)
section
variable{K:PySem.W.Frag}{R:St→XK}{ta tb:DE}{tc:DA}{σ:St}{H G:Hp}{L:List Addr}{ρ:En}{M:Ms}{q:DQ}{x:DX}
theorem wK{r:R2}{f:Dt→Dt→Ms→DQ→Prop}(od:OpD K r f)(rl:Rl K G L M H)(n:EnD K G L ρ σ)(h:dOp f ta tb ρ M q x)(hx:XOk K G L H R x):tOp r (tL K R ta) (tL K R tb) σ H (Fin K G L H q):=by
 refine ⟨G,L,ρ,M,_,x,rl,n,h,hx,fun v H1 ⟨d1,G1,L1,M1,e1,r1,n1,h1⟩=> ?_⟩
 refine ⟨G1,L1,ρ,M1,_,x,r1,n.mono e1,h1,hx.on e1,fun v2 H2 ⟨d2,G2,L2,M2,e2,r2,n2,h2⟩=> ?_⟩
 exact od G L H G2 L2 M2 H2 v v2 d1 d2 q (e1.trans e2) r2 (Den.mono e2.g e2.l _ _ n1) n2 h2
theorem Eo{r:V→Hp→VK→Prop}{f:Dt→Ms→DQ→Prop}(od:UnD K r f)(rl:Rl K G L M H)(n:EnD K G L ρ σ)(h:dUn f ta ρ M q x)(hx:XOk K G L H R x):tUn r (tL K R ta) σ H (Fin K G L H q):=by
 refine ⟨G,L,ρ,M,_,x,rl,n,h,hx,fun v H1 ⟨d1,G1,L1,M1,e1,r1,n1,h1⟩=> ?_⟩
 exact od G L H G1 L1 M1 H1 v d1 q e1 r1 n1 h1
theorem DO{r:List V→Hp→VK→Prop}{f:List Dt→Ms→DQ→Prop}(od:CaD K r f)(rl:Rl K G L M H)(n:EnD K G L ρ σ)(h:dFn f tc ρ M q x)(hx:XOk K G L H R x):tCB r (GK K R tc) σ H (Fin K G L H q):=by
 refine ⟨G,L,ρ,M,_,x,rl,n,h,hx,fun v H1 ⟨d1,G1,L1,M1,e1,r1,n1,h1⟩=> ?_⟩
 exact od G L H G1 L1 M1 H1 v d1 q e1 r1 n1 h1
end
section
variable{X:Cx}{R:St→XK}{a b c:Expr}{ta tb:DE}{pos:Pos}
theorem jv(i:Nat){x:Str}{pos:Pos}(hN:X.N[i]? =some x:=by rfl)(hv:Vis X.env.scope x:=by first | exact Or.inl rfl | exact Or.inr (Or.inl rfl) | exact Or.inr (Or.inr rfl))(hd:(x==("__debug__":Str))=false:=by decide)
  (hcd:(x==("__classdict__":Str))=false:=by decide):JE X R (.Name x pos) (Bp i):= .of (Co hN hv hd hcd) fun σ H G L ρ M q x r n h hx=>by
 unfold Bp at h
 split at h
 ·rename_i d e
  obtain ⟨v,e1,h1⟩:=n.ats i d e
  exact ⟨v,e1,d,G,L,M, .refl _ _ _,r,h1,h⟩
 ·exact h.elim
theorem j_c{d:Dt}{v:V}{e:Expr}(h:PE X e (tC v))(hd:∀G L,Den X.K G L d v):JE X R e (dC d):= .of h fun σ H G L ρ M q x r n h hx=>⟨d,G,L,M, .refl _ _ _,r,hd G L,h⟩
theorem av{i j pos}:JE X R (.Constant (.int i) j pos) (dC (.int i)):=j_c Ct fun _ _=>rfl
theorem jbl{b j pos}:JE X R (.Constant (.bool b) j pos) (dC (.bl b)):=j_c EY fun _ _=>rfl
theorem Ec{j pos}:JE X R (.Constant .none j pos) (dC .non):=j_c Cs fun _ _=>rfl
theorem kz{x j pos}:JE X R (.Constant (.str x) j pos) (dC (.str x)):=j_c y8 fun _ _=>rfl
theorem ya{op:Operator}{r:R2}{f:Dt→Dt→Ms→DQ→Prop}(ho:OpR X (binaryOp op) r)(od:OpD X.K r f)(ja:JE X R a ta)(jb:JE X R b tb):JE X R (.BinOp a op b pos) (dOp f ta tb):=
 .of (EV ho ja jb) fun σ H G L ρ M q x r n h hx=>wK od r n h hx
theorem HH{op:UnaryOp}{r:V→Hp→VK→Prop}{f:Dt→Ms→DQ→Prop}(ho:UnR X (unaryOp op) r)(od:UnD X.K r f)(ja:JE X R a ta):JE X R (.UnaryOp op a pos) (dUn f ta):=
 .of (EU ho ja) fun σ H G L ρ M q x r n h hx=>Eo od r n h hx
theorem pQ{op:CmpOp}{r:R2}{f:Dt→Dt→Ms→DQ→Prop}(ho:OpR X (compareOp op) r)(od:OpD X.K r f)(ja:JE X R a ta)(jb:JE X R b tb)(hm:behindInMarks op b=false):JE X R (.Compare a [op] [b] pos) (dOp f ta tb):=
 .of (Az ho ja jb hm) fun σ H G L ρ M q x r n h hx=>wK od r n h hx
theorem Ff{r:R2}{f:Dt→Dt→Ms→DQ→Prop}(hr:IxR X r)(od:OpD X.K r f)(ja:JE X R a ta)(jb:JE X R b tb)(hs:qh b):JE X R (.Subscript a b pos) (dOp f ta tb):=
 .of (EW hr ja jb hs) fun σ H G L ρ M q x r n h hx=>wK od r n h hx
theorem cD{env:Env}{es:List Expr}{c j p}:starEach (.Constant c j p::es) env=(false,eval (.Constant c j p) env)::starEach es env:=rfl
theorem ao{env:Env}{es:List Expr}{c p}:starEach (.Name c p::es) env=(false,eval (.Name c p) env)::starEach es env:=rfl
theorem bT{env:Env}{es:List Expr}{a o b p}:starEach (.BinOp a o b p::es) env=(false,eval (.BinOp a o b p) env)::starEach es env:=rfl
theorem bM{env:Env}{es:List Expr}{a b c p}:starEach (.Call a b c p::es) env=(false,eval (.Call a b c p) env)::starEach es env:=rfl
theorem bL{env:Env}{es:List Expr}{a b p}:starEach (.Subscript a b p::es) env=(false,eval (.Subscript a b p) env)::starEach es env:=rfl
theorem Ac{env:Env}{es:List Expr}{a b p}:starEach (.Tuple a b p::es) env=(false,eval (.Tuple a b p) env)::starEach es env:=rfl
theorem xu{env:Env}{es:List Expr}{a o b p}:starEach (.Compare a o b p::es) env=(false,eval (.Compare a o b p) env)::starEach es env:=rfl
theorem af:JA X R [] FV:= .of Cw fun σ H G L ρ M q x r n h hx=>⟨[],G,L,M, .refl _ _ _,r,rfl,h⟩
theorem aa{e:Expr}{es:List Expr}{te:DE}{t:DA}(ha:JE X R e te)(hr:JA X R es t)(hs:starEach (e::es) X.env=(false,eval e X.env)::starEach es X.env:=by first | exact cD | exact ao | exact bT | exact bM | exact bL | exact Ac | exact xu | exact starU | rfl):JA X R (e::es) (DW te t):=
 .of (AD ha hr hs) fun σ H G L ρ M q x rl n h hx=>by
  refine ⟨G,L,ρ,M,_,x,rl,n,h,hx,fun v H1 ⟨d1,G1,L1,M1,e1,r1,n1,h1⟩=> ?_⟩
  refine ⟨G1,L1,ρ,M1,_,x,r1,n.mono e1,h1,hx.on e1,fun v2 H2 ⟨d2,G2,L2,M2,e2,r2,n2,h2⟩=> ?_⟩
  exact ⟨d1::d2,G2,L2,M2,e1.trans e2,r2,⟨_,_,rfl,Den.mono e2.g e2.l _ _ n1,n2⟩,h2⟩
def GS(t:DA):DE:=fun ρ M q x=>t ρ M (fun ds M1=>ds.length≤sizeLine∧q (.tup ds) M1) x
def GW(t:DA):DE:=fun ρ M q x=>t ρ M (fun ds M1=>ds.length≤sizeLine∧q (.lst ds) M1) x
def FN(t:DA):DE:=fun ρ M q x=>t ρ M (fun ds M1=>ds.length≤sizeLine∧q (.loc M1.length) (M1++[.lst ds])) x
theorem g9{K:PySem.W.Frag}{G0:Hp}{L0:List Addr}{H0 G:Hp}{L:List Addr}{M:Ms}{H:Hp}{p:Addr}{o:HO}{d:Dt}{q:DQ}(e:Ex G0 L0 H0 G L H)(r:Rl K G L M H)(hp:H p=none)(hd:Den K (upd G p o) L d (.ref p))(h:q d M):Fin K G0 L0 H0 q (.ref p) (upd H p o):=
 ⟨d,upd G p o,L,M,e.trans (r.exG hp),r.newG hp,hd,h⟩
theorem mh{K:PySem.W.Frag}{G:Hp}{L:List Addr}{M:Ms}{H:Hp}{p:Addr}{ds:List Dt}{vs:List V}(r:Rl K G L M H)(hp:H p=none)(h:aT K G L ds vs):Den K (upd G p (.tup vs)) L (.tup ds) (.ref p):=
 ⟨p,vs,rfl,aD,aT.mono (r.exG hp).g (.refl _) _ _ h⟩
theorem mi{K:PySem.W.Frag}{G:Hp}{L:List Addr}{M:Ms}{H:Hp}{p:Addr}{ds:List Dt}{vs:List V}(r:Rl K G L M H)(hp:H p=none)(h:aT K G L ds vs):Den K (upd G p (.lst vs)) L (.lst ds) (.ref p):=
 ⟨p,vs,rfl,aD,aT.mono (r.exG hp).g (.refl _) _ _ h⟩
theorem fZ{K:PySem.W.Frag}{G0:Hp}{L0:List Addr}{H0 G:Hp}{L:List Addr}{M:Ms}{H:Hp}{p:Addr}{q:DQ}{ds:List Dt}{vs:List V}(e:Ex G0 L0 H0 G L H)(r:Rl K G L M H)(hp:H p=none)(hd:aT K G L ds vs)(h:q (.loc M.length) (M++[.lst ds])):Fin K G0 L0 H0 q (.ref p) (upd H p (.lst vs)):=
 ⟨.loc M.length,G,L++[p],M++[.lst ds],e.trans (r.exM hp),r.newM (m:= .lst ds) hp ⟨vs,aD,aT.mono (.refl _) ⟨[p],rfl⟩ _ _ hd⟩,⟨p,rfl,by rw [←r.len,List.getElem?_append_right (Nat.le_refl _)];simp⟩,h⟩
variable{es:List Expr}{t:DA}
theorem eU{x1}(h:JA X R es t):JE X R (.Tuple es x1 pos) (GS t):= .of (Cp h) fun σ H G L ρ M q x rl n h hx=>by
 refine ⟨G,L,ρ,M,_,x,rl,n,h,hx,fun v H1 ⟨d1,G1,L1,M1,e1,r1,n1,h1⟩=>⟨by rw [←n1.length];exact h1.1,fun p hp=> ?_⟩⟩
 exact g9 e1 r1 hp (mh r1 hp n1) h1.2
theorem jr(h:JA X R es t):JE X R (.List es pos) (GW t):= .of (y9 h) fun σ H G L ρ M q x rl n h hx=>by
 refine ⟨G,L,ρ,M,_,x,rl,n,h,hx,fun v H1 ⟨d1,G1,L1,M1,e1,r1,n1,h1⟩=>⟨by rw [←n1.length];exact h1.1,fun p hp=> ?_⟩⟩
 exact g9 e1 r1 hp (mi r1 hp n1) h1.2
theorem jq(h:JA X R es t):JE X R (.List es pos) (FN t):= .of (y9 h) fun σ H G L ρ M q x rl n h hx=>by
 refine ⟨G,L,ρ,M,_,x,rl,n,h,hx,fun v H1 ⟨d1,G1,L1,M1,e1,r1,n1,h1⟩=>⟨by rw [←n1.length];exact h1.1,fun p hp=> ?_⟩⟩
 exact fZ e1 r1 hp n1 h1.2
def tJ(t:DE):DT:=fun ρ M q x=>t ρ M (fun d M1=>match d with
 | .bl b=>q b M1
 | _=>False) x
def orT(t u:DT):DT:=fun ρ M q x=>t ρ M (fun c M1=>(c=true→q true M1)∧(c=false→u ρ M1 q x)) x
def GC(t:DT):DT:=fun ρ M q x=>t ρ M (fun c M1=>q (!c) M1) x
theorem BN{K:PySem.W.Frag}{t:DE}{σ:St}{H G:Hp}{L:List Addr}{ρ:En}{M:Ms}{q:Bool→Ms→Prop}{x:DX}(rl:Rl K G L M H)(n:EnD K G L ρ σ)(h:tJ t ρ M q x)(hx:XOk K G L H R x):tB (tL K R t) σ H (yD K G L H q):=by
 refine ⟨G,L,ρ,M,_,x,rl,n,h,hx,fun v H1 ⟨d1,G1,L1,M1,e1,r1,n1,h1⟩=> ?_⟩
 (try dsimp only at h1)
 split at h1
 ·rename_i b
  exact ⟨b,n1,G1,L1,M1,e1,r1,h1⟩
 ·exact h1.elim
theorem cQ{e:Expr}{t:DE}(h:JE X R e t)(he:∀whole,isTrue e X.env whole=(do let v←whole;standAt e.pos;holding [v] (truthy v)):=by intro _;rfl):JT X R e (tJ t):=
 .of (Cd h he) fun σ H G L ρ M q x rl n h hx=>BN rl n h hx
theorem hX{op:CmpOp}{r:R2}{f:Dt→Dt→Ms→DQ→Prop}(ho:OpR X (compareOp op) r)(od:OpD X.K r f)(ja:JE X R a ta)(jb:JE X R b tb)(hm:behindInMarks op b=false):JT X R (.Compare a [op] [b] pos) (tJ (dOp f ta tb)):=
 .of (An ho ja jb hm) fun σ H G L ρ M q x rl n h hx=>by
  have h:dOp f ta tb ρ M (fun d M1=>match d with | .bl b=>q b M1 | _=>False) x:=h
  refine ⟨G,L,ρ,M,_,x,rl,n,h,hx,fun v H1 ⟨d1,G1,L1,M1,e1,r1,n1,h1⟩=> ?_⟩
  refine ⟨G1,L1,ρ,M1,_,x,r1,n.mono e1,h1,hx.on e1,fun v2 H2 ⟨d2,G2,L2,M2,e2,r2,n2,h2⟩=> ?_⟩
  have:=od G L H G2 L2 M2 H2 v v2 d1 d2 _ (e1.trans e2) r2 (Den.mono e2.g e2.l _ _ n1) n2 h2
  have e:(fun x H'=>∃k,x=V.bl k∧yD X.K G L H q k H')=Fin X.K G L H (fun d M1=>match d with | .bl b=>q b M1 | _=>False):=by
   funext y H'
   apply propext
   constructor
   ·rintro ⟨k,rfl,G3,L3,M3,e3,r3,h3⟩
    exact ⟨.bl k,G3,L3,M3,e3,r3,rfl,h3⟩
   ·rintro ⟨d,G3,L3,M3,e3,r3,n3,h3⟩
    split at h3
    ·rename_i k
     exact ⟨k,n3,G3,L3,M3,e3,r3,h3⟩
    ·exact h3.elim
  rw [e]
  exact this
theorem JW.jt{e:Expr}{t:DT}(h:JW X R e t):JT X R e t:=h _
variable{t1 t2:DT}{rest:List Expr}
theorem nA(ha:JT X R a t1):JW X R (.BoolOp .Or [a] pos) t1:=Ca ha
theorem pN(ha:JT X R a t1)(hb:JW X R (.BoolOp .Or (b::rest) pos) t2):JW X R (.BoolOp .Or (a::b::rest) pos) (orT t1 t2):= .of (ER ha hb) fun σ H G L ρ M q x rl n h hx=>by
 refine ⟨G,L,ρ,M,_,x,rl,n,h,hx,fun c H1 ⟨G1,L1,M1,e1,r1,h1⟩=> ?_⟩
 cases c with
 | true=>exact Df ⟨G1,L1,M1,e1,r1,h1.1 rfl⟩
 | false=>exact Dg ⟨G1,L1,ρ,M1,_,x,r1,n.mono e1,h1.2 rfl,hx.on e1,fun b H2 f=>yD.back e1 f⟩
theorem fj(ha:JT X R a t1):JT X R (.UnaryOp .Not a pos) (GC t1):= .of (Ce ha) fun σ H G L ρ M q x rl n h hx=>
 ⟨G,L,ρ,M,_,x,rl,n,h,hx,fun _ _ ⟨G,L,M,e,r,h⟩=>⟨G,L,M,e,r,h⟩⟩
def GX(t u:DE):DE:=fun ρ M q x=>t ρ M (fun d M1=>match d with
 | .bl c=>(c=true→u ρ M1 q x)∧(c=false→q (.bl false) M1)
 | _=>False) x
def GV(t:DE):DE:=fun ρ M q x=>t ρ M (fun d M1=>match d with
 | .bl c=>q (.bl (!c)) M1
 | _=>False) x
def dIf(t:DT)(u v:DE):DE:=fun ρ M q x=>t ρ M (fun c M1=>(c=true→u ρ M1 q x)∧(c=false→v ρ M1 q x)) x
theorem hZ{op}{t:DE}(h:JE X R a t):JE X R (.BoolOp op [a] pos) t:=Cq h
theorem dU(ha:JE X R a ta)(hb:JE X R (.BoolOp .And (b::rest) pos) tb):JE X R (.BoolOp .And (a::b::rest) pos) (GX ta tb):= .of (Cv ha hb) fun σ H G L ρ M q x rl n h hx=>by
 refine ⟨G,L,ρ,M,_,x,rl,n,h,hx,fun v H1 ⟨d1,G1,L1,M1,e1,r1,n1,h1⟩=> ?_⟩
 (try dsimp only at h1)
 split at h1
 ·rename_i c
  refine ⟨c,n1, ?_⟩
  cases c with
  | true=>exact Df ⟨G1,L1,ρ,M1,_,x,r1,n.mono e1,h1.1 rfl,hx.on e1,fun b H2 f=>Fin.back e1 f⟩
  | false=>exact Dg ⟨.bl false,G1,L1,M1,e1,r1,rfl,h1.2 rfl⟩
 ·exact h1.elim
theorem C1(ha:JE X R a ta):JE X R (.UnaryOp .Not a pos) (GV ta):= .of (Cr ha) fun σ H G L ρ M q x rl n h hx=>by
 refine ⟨G,L,ρ,M,_,x,rl,n,h,hx,fun v H1 ⟨d1,G1,L1,M1,e1,r1,n1,h1⟩=> ?_⟩
 (try dsimp only at h1)
 split at h1
 ·rename_i c
  exact ⟨c,n1, .bl (!c),G1,L1,M1,e1,r1,rfl,h1⟩
 ·exact h1.elim
theorem sU{c:Expr}(hc:JT X R c t1)(ha:JE X R a ta)(hb:JE X R b tb):JE X R (.IfExp c a b pos) (dIf t1 ta tb):= .of (xI hc ha hb) fun σ H G L ρ M q x rl n h hx=>by
 refine ⟨G,L,ρ,M,_,x,rl,n,h,hx,fun c H1 ⟨G1,L1,M1,e1,r1,h1⟩=> ?_⟩
 cases c with
 | true=>exact Df ⟨G1,L1,ρ,M1,_,x,r1,n.mono e1,h1.1 rfl,hx.on e1,fun b H2 f=>Fin.back e1 f⟩
 | false=>exact Dg ⟨G1,L1,ρ,M1,_,x,r1,n.mono e1,h1.2 rfl,hx.on e1,fun b H2 f=>Fin.back e1 f⟩
end
def B3:DS:=fun Dn ρ M=>Dn.nx ρ M
def EJ(t u:DS):DS:=fun Dn ρ M=>t {Dn with nx:=u Dn} ρ M
def sIf(c:DT)(t u:DS):DS:=fun Dn ρ M=>c ρ M (fun b M1=>(b=true→t Dn ρ M1)∧(b=false→u Dn ρ M1)) Dn.x
def Gp(t:DE):DS:=fun Dn ρ M=>t ρ M Dn.rt Dn.x
def EI(i:Nat)(t:DE):DS:=fun Dn ρ M=>t ρ M (fun d M1=>Dn.nx (ρ.set i (some d)) M1) Dn.x
def B5(t:DE):DS:=fun Dn ρ M=>t ρ M (fun _ M1=>Dn.nx ρ M1) Dn.x
def Hv(t:DS):DS:=fun Dn ρ M=>∃J:En→Ms→Prop,t {Dn with nx:=J} ρ M∧∀ρ' M',J ρ' M'→Dn.nx ρ' M'
section
variable{X:Cx}{R:St→XK}{st:Stmt}{rest:List Stmt}{t u:DS}{e:Expr}{te:DE}{pos:Pos}
theorem aE:JSs X R [] B3:= .of Ap fun σ H G L ρ M Dn rl n h hx=>⟨ρ,G,L,M, .refl _ _ _,rl,n,h⟩
theorem ai(h1:JS X R st t):JSs X R [st] t:=Ao h1
theorem ae(h1:JS X R st t)(h2:JSs X R rest u):JSs X R (st::rest) (EJ t u):= .of (xB h1 h2) fun σ H G L ρ M Dn rl n h hx=>by
 refine ⟨G,L,ρ,M,_,rl,n,h,hx,⟨fun σ1 H1 ⟨ρ1,G1,L1,M1,e1,r1,n1,h1⟩=> ?_,fun _ _ f=>f,fun _ _ f=>f,fun _ _ f=>f⟩⟩
 exact ⟨G1,L1,ρ1,M1,Dn,r1,n1,h1,hx.on e1,yE.back e1⟩
theorem jk:JS X R (.Continue pos) (fun Dn ρ M=>Dn.ct ρ M):= .of oY fun σ H G L ρ M Dn rl n h hx=>⟨ρ,G,L,M, .refl _ _ _,rl,n,h⟩
theorem ay(he:JE X R e te):JS X R (.Return (some e) pos) (Gp te):= .of (Ci he) fun σ H G L ρ M Dn rl n h hx=>⟨G,L,ρ,M,_,_,rl,n,h,hx,fun _ _ f=>f⟩
theorem eK(he:JE X R e te)(hs:swapsWith e none pos.line X.env=pure false:=by rfl):JS X R (.Expr e pos) (B5 te):= .of (Aq he hs) fun σ H G L ρ M Dn rl n h hx=>by
 refine ⟨G,L,ρ,M,_,_,rl,n,h,hx,fun v H1 ⟨d1,G1,L1,M1,e1,r1,n1,h1⟩=>⟨ρ,G1,L1,M1,e1,r1,n.mono e1,h1⟩⟩
theorem bu{c:Expr}{a b:List Stmt}{tc:DT}(hc:JT X R c tc)(ha:JSs X R a t)(hb:JSs X R b u):JS X R (.If c a b pos) (sIf tc t u):= .of (ES hc ha hb) fun σ H G L ρ M Dn rl n h hx=>by
 refine ⟨G,L,ρ,M,_,_,rl,n,h,hx,fun c H1 ⟨G1,L1,M1,e1,r1,h1⟩=> ?_⟩
 cases c with
 | true=>exact Df ⟨G1,L1,ρ,M1,Dn,r1,n.mono e1,h1.1 rfl,hx.on e1,yE.back e1⟩
 | false=>exact Dg ⟨G1,L1,ρ,M1,Dn,r1,n.mono e1,h1.2 rfl,hx.on e1,yE.back e1⟩
theorem au{i:Nat}{x:Str}{pos':Pos}(hN:X.N.Nodup)(hi:X.N[i]? =some x)(hx:Loc X.env.scope x)(he:JE X R e te)(hs:swapsWith e (some (.Name x pos')) pos.line X.env=pure false:=by rfl)(hf:X.fn x=true∨X.env.scope.names.lookup x=some .local:=by first | exact .inl rfl | exact .inr rfl | assumption):
  JS X R (.Assign [.Name x pos'] e pos) (EI i te):= .of (Cg hN hi hx he hs hf) fun σ H G L ρ M Dn rl n h hx=>by
 refine ⟨G,L,ρ,M,_,_,rl,n,h,hx,fun v H1 ⟨d1,G1,L1,M1,e1,r1,n1,h1⟩=>⟨_,G1,L1,M1,e1,r1,(n.mono e1).set i n1,h1⟩⟩
theorem fP(h:JS X R st t):JS X R st (Hv t):= .of h fun σ H G L ρ M Dn rl n h hx=>by
 obtain ⟨J,h1,h2⟩:=h
 refine ⟨G,L,ρ,M,_,rl,n,h1,hx,⟨fun σ1 H1 ⟨ρ1,G1,L1,M1,e1,r1,n1,h1⟩=>⟨ρ1,G1,L1,M1,e1,r1,n1,h2 _ _ h1⟩,fun _ _ f=>f,fun _ _ f=>f,fun _ _ f=>f⟩⟩
end
abbrev DXF:=Addr→List (Str×Dt)→Ms→Prop
abbrev DF:=List Dt→Ms→DQ→DXF→Prop
inductive spD(K:PySem.W.Frag)(T:DF)(vs:List V)(H:Hp)(Q:VK)(E:XK):Prop
 | mk (G:Hp) (L:List Addr) (ds:List Dt) (M:Ms) (q:DQ) (x:DXF) (r:Rl K G L M H) (n:aT K G L ds vs) (h:T ds M q x) (hQ:∀v H1,Fin K G L H q v H1→Q v H1) (hE:∀C fs M1 G1 L1 H1 od,x C fs M1→Ex G L H G1 L1 H1→Rl K G1 L1 M1 H1→Gj K G1 L1 H1 fs od→E (.ref C) od H1)
def ka(N:List Str)(ds:List Dt):En:=ds.map some++List.replicate (N.length - ds.length) none
theorem xt{K:PySem.W.Frag}{G:Hp}{L:List Addr}{N:List Str}{ds:List Dt}{vs:List V}(h:aT K G L ds vs):EnD K G L (ka N ds) (start N vs):=by
 have hl:=h.length
 refine ⟨by unfold ka start;simp [hl],fun i d e=> ?_⟩
 unfold ka at e
 unfold start
 by_cases hi:i < ds.length
 ·rw [List.getElem?_append_left (by simpa using hi),List.getElem?_map] at e
  rw [List.getElem?_append_left (by simpa [←hl] using hi),List.getElem?_map]
  cases q:ds[i]? with
  | none=>rw [q] at e;cases e
  | some d'=>
   rw [q] at e
   cases e
   obtain ⟨v,e1,h1⟩:=h.get q
   exact ⟨v,by rw [e1];rfl,h1⟩
 ·rw [List.getElem?_append_right (by simpa using Nat.le_of_not_lt hi),List.getElem?_replicate] at e
  split at e <;> cases e
section
variable{P:Program}{w:World}{K:PySem.W.Frag}{mg:Str→Option Value}{base:Heap}
theorem Fun.okD{x qual:Str}{st:Stmt}{f:Addr}{fd:FuncData}{N ps:List Str}{k:Nat}{T:DF}(F:Fun K x qual st f fd)(S:ax N ps (ah st))(len:∀ds M q x,T ds M q x→ds.length=ps.length)
  (hbody:∀(cdv:Value) (A:Around) (outer:List Env) (s:Shared) (H:Hp) (E:XK),dN k (A.deeper (envOfC qual (ah st) s.heap.objs.size f cdv))→
   ∃t,JSs (p7 (CX1 P w) P w K mg base N qual (ah st) f cdv A outer s H E) (fun _=>E) (ft st) t∧∀ds M q x,T ds M q x→t {nx:=fun _ M'=>q .non M',rt:=q,x:=fun _=>x} (ka N ds) M):
  bK P w K mg base (CX1 P w) (k+1) f fd ps (spD K T):=by
 refine F.okX S (fun vs H Q E h=> ?_) (fun cdv A outer s H vs Q E hr h=> ?_)
 ·obtain ⟨G,L,ds,M,q,x,rl,n,hT,_⟩:=h
  rw [←n.length];exact len _ _ _ _ hT
 ·obtain ⟨t,j,ht⟩:=hbody cdv A outer s H E hr
  obtain ⟨G,L,ds,M,q,x,rl,n,hT,hQ,hE⟩:=h
  refine ⟨_,j,G,L,ka N ds,M,_,rl,xt n,ht ds M q x hT,fun σ ρ C fs M' G' L' H' od hx e r _ y=>hE C fs M' G' L' H' od hx e r y,⟨fun σ' H' ⟨ρ',G',L',M',e,r,_,h⟩=>hQ _ _ ⟨.non,G',L',M',e,r,rfl,h⟩,fun v H' f=>hQ v H' f,fun _ _ ⟨_,_,_,_,_,_,_,h⟩=>h.elim,fun _ _ ⟨_,_,_,_,_,_,_,h⟩=>h.elim⟩⟩
structure bU(P:Program)(w:World)(K:PySem.W.Frag)(mg:Str→Option Value)(base:Heap)(k:Nat)(x:Str)(ps:List Str)(T:DF)(f:Addr)(fd:FuncData):Prop where
 ok:bK P w K mg base (CX1 P w) k f fd ps (spD K T)
 b:ir K fd ps []
 m:mg x=some (.ref f)
 kp:PySem.W.keepIn K (.ref f)=true
end
def DN(T:DF)(t:DA):DE:=fun ρ M q x=>t ρ M (fun ds M1=>T ds M1 q (fun C fs M'=>x ρ C fs M')) x
section
variable{X:Cx}{R:St→XK}{T:DF}{k k':Nat}{f:Addr}{fd:FuncData}{ps:List Str}{x:Str}{p pos:Pos}{e:Expr}{es:List Expr}{t:DA}
theorem br(C:bU X.prog X.w X.K X.mg X.base k x ps T f fd)(hr:dN k' X.A)(hx:cX (CX1 X.prog X.w) X R)(ha:JA X R (e::es) t)(hk:k≤k':=by decide)(hg:Gl X x:=by rfl)(hdb:(x==("__debug__":Str))=false:=by decide)
  (he:starEach (e::es) X.env=(false,eval e X.env)::starEach es X.env:=by rfl) (hpl:(backTo pos (starEach es X.env)).any (·.1)=false:=by rfl):JE X R (.Call (.Name x p) (e::es) [] pos) (DN T t):=
 .of (xN C.ok (hr.mono hk) hg C.m C.kp C.b .nil hx ha hdb he hpl) fun σ H G L ρ M q x rl n h hx=>by
  refine ⟨G,L,ρ,M,_,x,rl,n,h,hx,fun vs H1 ⟨ds,G1,L1,M1,e1,r1,n1,h1⟩=> ?_⟩
  show spD X.K T (vs++[]) H1 _ _
  rw [aa7]
  exact ⟨G1,L1,ds,M1,q,_,r1,n1,h1,fun v H' f=>Fin.back e1 f,fun C fs M' G' L' H' od hq e' r' y=>hx σ ρ C fs M' G' L' H' od hq (e1.trans e') r' (n.mono (e1.trans e')) y⟩
end
def yV(C:Addr)(t:DA):DS:=fun Dn ρ M=>t ρ M (fun ds M1=>ds.length≤sizeLine∧Dn.x ρ C [] M1) Dn.x
section
variable{X:Cx}{R:St→XK}{C:Addr}{t:DA}{Bn newId initId:String}{bmB:List Value}{x:Str}{np cpos pos:Pos}{e:Expr}{es:List Expr}
theorem lV(hR:w8 X R)(F:ExcBaseFacts Bn newId initId bmB)(c:ig X.K C bmB newId)(hm:X.mg x=some (.ref C))(ha:JA X R (e::es) t)(hc:X.calm=true:=by rfl)(hex:X.ex=[]:=by rfl)(hg:Gl X x:=by rfl)
  (hdb:(x==("__debug__":Str))=false:=by decide) (he:starEach (e::es) X.env=(false,eval e X.env)::starEach es X.env:=by rfl) (hpl:(backTo cpos (starEach es X.env)).any (·.1)=false:=by rfl):
  JS X R (.Raise (some (.Call (.Name x np) (e::es) [] cpos)) none pos) (yV C t):= .of (xD hR hc hex F c hg hm ha hdb he hpl) fun σ H G L ρ M Dn rl n h hx=>by
 refine ⟨G,L,ρ,M,_,_,rl,n,h,hx,fun vs H1 ⟨ds,G1,L1,M1,e1,r1,n1,h1⟩=>⟨by rw [←n1.length];exact h1.1, ?_⟩⟩
 exact hx σ ρ C [] M1 G1 L1 H1 none h1.2 e1 r1 (n.mono e1) (.inl ⟨rfl,rfl⟩)
end
structure Yl(K:PySem.W.Frag)(J:It)(xs:List Dt)(G0:Hp)(L0:List Addr):Prop where
 go:∀(i:Nat) G L M H (d:Dt),gf G0 G→Pre L0 L→Rl K G L M H→xs[i]? =some d→J.go i H∧∀v H',J.yld i H v H'→∃G',Ex G L H G' L H'∧Rl K G' L M H'∧Den K G' L d v
 stop:∀(i:Nat) G L M H,gf G0 G→Pre L0 L→Rl K G L M H→xs.length≤i→J.stop i H
inductive He(K:PySem.W.Frag)(G0:Hp)(L0:List Addr)(H0:Hp)(q:List Dt→Ms→Prop)(J:It)(H:Hp):Prop
 | mk (xs:List Dt) (G:Hp) (L:List Addr) (M:Ms) (e:Ex G0 L0 H0 G L H) (r:Rl K G L M H) (y:Yl K J xs G L) (h:q xs M)
inductive GJ(K:PySem.W.Frag)(R:St→XK)(t:DA)(σ:St)(H:Hp)(Q:It→Hp→Prop):Prop
 | mk (G:Hp) (L:List Addr) (ρ:En) (M:Ms) (q:List Dt→Ms→Prop) (x:DX) (r:Rl K G L M H) (n:EnD K G L ρ σ) (h:t ρ M q x) (hx:XOk K G L H R x) (hQ:∀J H1,He K G L H q J H1→Q J H1)
def JI(X:Cx)(R:St→XK)(tg iter:Expr)(t:DA):Prop:=PI X tg iter (GJ X.K R t)
theorem PIE.imp{X:Cx}{pins:List (Addr×Obj)}{σ:St}{tg:Expr}{R R':It→Hp→Prop}(hR:∀J H,R J H→R' J H){v:Value}{s:Shared}(h:PIE X pins σ tg R v s):PIE X pins σ tg R' v s:=by
 obtain ⟨it,fp,tn,J,H',a,b,c,d,e,f⟩:=h
 exact ⟨it,fp,tn,J,H',a,b,c,d,e,hR J H' f⟩
theorem tQ{K:PySem.W.Frag}{G:Hp}{L:List Addr}{a:Addr}{ds:List Dt}{vs:List V}(h:∀G':Hp,gf G G'→SqL K G' a vs)(n:aT K G L ds vs):Yl K (Itl K a) ds G L where
 go:=fun i G1 L1 M1 H1 d g l r e=>by
  obtain ⟨v,e1,n1⟩:=n.get e
  have hs:=h H1 (g.trans r.sub)
  exact ⟨⟨vs,v,hs,e1⟩,fun v' H' ⟨eH,y⟩=>by
   subst eH
   have e2:=y vs hs
   rw [e1] at e2;cases e2
   exact ⟨G1, .refl _ _ _,r,Den.mono g l _ _ n1⟩⟩
 stop:=fun i G1 L1 M1 H1 g l r e=>⟨vs,h H1 (g.trans r.sub),by rw [←n.length];exact e⟩
theorem yJ{K:PySem.W.Frag}{G:Hp}{L:List Addr}{a:Addr}{ds:List Dt}{vs:List V}(h:∀G':Hp,gf G G'→SqT K G' a vs)(n:aT K G L ds vs):Yl K (Itt K a) ds G L where
 go:=fun i G1 L1 M1 H1 d g l r e=>by
  obtain ⟨v,e1,n1⟩:=n.get e
  have hs:=h H1 (g.trans r.sub)
  exact ⟨⟨vs,v,hs,e1⟩,fun v' H' ⟨eH,y⟩=>by
   subst eH
   have e2:=y vs hs
   rw [e1] at e2;cases e2
   exact ⟨G1, .refl _ _ _,r,Den.mono g l _ _ n1⟩⟩
 stop:=fun i G1 L1 M1 H1 g l r e=>⟨vs,h H1 (g.trans r.sub),by rw [←n.length];exact e⟩
def gm(lo:Int)(n:Nat):List Dt:=(List.range n).map fun k:Nat=>Dt.int (lo+(k:Int))
theorem yK{K:PySem.W.Frag}{G:Hp}{L:List Addr}{lo:Int}{n:Nat}:Yl K (Itr lo n) (gm lo n) G L where
 go :=fun i G1 L1 M1 H1 d g l r e=>by
  unfold gm at e
  rw [aak] at e
  have hi:i < n:=by
   cases q:(List.range n)[i]? with
   | none=>rw [q] at e;cases e
   | some j=>
    have:=(aaf.mp q).1
    rwa [aaT] at this
  rw [aaF hi] at e
  cases e
  exact ⟨hi,fun v' H' ⟨eH,y⟩=>by subst eH y;exact ⟨G1, .refl _ _ _,r,rfl⟩⟩
 stop:=fun i G1 L1 M1 H1 g l r e=>by show n≤i;unfold gm at e;simpa using e
section
variable{X:Cx}{R:St→XK}{tg iter:Expr}
theorem JI.of{wi:TI}{t:DA}(h:PI X tg iter wi)(hw:∀σ H G L ρ M q x,Rl X.K G L M H→EnD X.K G L ρ σ→t ρ M q x→XOk X.K G L H R x→wi σ H (He X.K G L H q)):JI X R tg iter t:=by
 intro pins s σ H Q I ⟨G,L,ρ,M,q,x,r,n,ht,hx,hQ⟩
 exact thn (h pins s σ H _ I (hw σ H G L ρ M q x r n ht hx)) fun u s1 f=>thn f fun u2 s2 f2=>PIE.imp hQ f2
def GL(t:DA):DA:=fun ρ M q x=>t ρ M (fun ds M1=>match ds with
 | [.int j]=>(-(2 ^ 62)≤j∧j < 2 ^ 62)∧q (gm 0 j.toNat) M1
 | _=>False) x
theorem cy{a:Expr}{t:DA}{p pos:Pos}(hm:X.mg "range"=none)(ha:JA X R [a] t)(hg:Gl X "range":=by rfl)(hs:starEach [a] X.env=[(false,eval a X.env)]:=by rfl):JI X R tg (.Call (.Name "range" p) [a] [] pos) (GL t):=
 .of (uT hg hm ha hs) fun σ H G L ρ M q x rl n h hx=>by
  refine ⟨G,L,ρ,M,_,x,rl,n,h,hx,fun vs H1 ⟨ds,G1,L1,M1,e1,r1,n1,h1⟩=> ?_⟩
  (try dsimp only at h1)
  split at h1
  ·rename_i j
   obtain ⟨v,rfl,n2⟩:=bw n1
   have n2:v= .int j:=n2
   subst n2
   exact ⟨j,rfl,h1.1.1,h1.1.2,_,G1,L1,M1,e1,r1,yK,h1.2⟩
  ·exact h1.elim
def zt(t:DA):DA:=fun ρ M q x=>t ρ M (fun ds M1=>match ds with
 | [.int i, .int j]=>(-(2 ^ 62)≤i∧i < 2 ^ 62∧ -(2 ^ 62)≤j∧j < 2 ^ 62)∧q (gm i (j - i).toNat) M1
 | _=>False) x
theorem vC{a b:Expr}{t:DA}{p pos:Pos}(hm:X.mg "range"=none)(ha:JA X R [a,b] t)(hg:Gl X "range":=by rfl)(hs:starEach [a,b] X.env=[(false,eval a X.env),(false,eval b X.env)]:=by rfl)(hs2:starEach [b] X.env=[(false,eval b X.env)]:=by rfl):
  JI X R tg (.Call (.Name "range" p) [a,b] [] pos) (zt t):=
 .of (uS hg hm ha hs hs2) fun σ H G L ρ M q x rl n h hx=>by
  refine ⟨G,L,ρ,M,_,x,rl,n,h,hx,fun vs H1 ⟨ds,G1,L1,M1,e1,r1,n1,h1⟩=> ?_⟩
  (try dsimp only at h1)
  split at h1
  ·rename_i i j
   obtain ⟨v,u,rfl,n3,n2⟩:=fG n1
   have n3:v= .int i:=n3
   have n2:u= .int j:=n2
   subst n3 n2
   exact ⟨i,j,rfl,h1.1,_,G1,L1,M1,e1,r1,yK,h1.2⟩
  ·exact h1.elim
end
def GD(K:PySem.W.Frag)(gg:TG)(g:Dt→En→(En→Prop)→Prop):Prop:=
 ∀G L M H d v ρ σ (k:En→Prop) (Q:St→Hp→Prop),Rl K G L M H→Den K G L d v→EnD K G L ρ σ→g d ρ k→(∀ρ' σ',EnD K G L ρ' σ'→k ρ'→Q σ' H)→gg v σ H Q
def gN(i:Nat):Dt→En→(En→Prop)→Prop:=fun d ρ k=>k (ρ.set i (some d))
theorem bR{K:PySem.W.Frag}{i:Nat}:GD K (g8 i) (gN i):=fun G L M H d v ρ σ k Q rl n en h hQ=>hQ _ _ (en.set i n) h
def g2(i j:Nat):Dt→En→(En→Prop)→Prop:=fun d ρ k=>match d with
 | .tup [a,b]=>k ((ρ.set i (some a)).set j (some b))
 | _=>False
theorem nM{K:PySem.W.Frag}{i j:Nat}:GD K (Dk K 2 (ma (g8 i) (ma (g8 j) Dm))) (g2 i j):=fun G L M H d v ρ σ k Q rl n en h hQ=>by
 unfold g2 at h
 split at h
 ·rename_i a b
  obtain ⟨p,vs,rfl,e,n⟩:=n
  obtain ⟨v1,v2,rfl,n1,n2⟩:=fG n
  exact ⟨p,_,rfl, .inl (.inl (rl.sub _ _ e)),rfl,v1,_,rfl,v2,_,rfl,rfl,hQ _ _ ((en.set i n1).set j n2) h⟩
 ·exact h.elim
def xh(g:Dt→En→(En→Prop)→Prop)(tb:DS)(Dn:ow):List Dt→En→Ms→Prop
 | [],ρ,M=>Dn.nx ρ M
 | x::xs,ρ,M=>g x ρ fun ρ'=>tb {Dn with nx:=xh g tb Dn xs,ct:=xh g tb Dn xs,bk:=Dn.nx} ρ' M
def Gq(ti:DA)(g:Dt→En→(En→Prop)→Prop)(tb:DS):DS:=fun Dn ρ M=>ti ρ M (fun xs M1=>xh g tb Dn xs ρ M1) Dn.x
section
variable{X:Cx}{R:St→XK}{tg iter:Expr}{body:List Stmt}{ti:DA}{gg:TG}{g:Dt→En→(En→Prop)→Prop}{tb:DS}{pos:Pos}
theorem fk(hi:JI X R tg iter ti)(hg:PG X tg gg)(gd:GD X.K gg g)(hb:JSs X R body tb)(hp:PassesOwn (model X.prog X.w) X.A X.env X.xe:=by first | exact PassesOwn.never | exact PassesOwn.leaving)(hc:X.calm=true:=by rfl)(hs:∀x,foldedSetIterable iter X.env x=pure x:=by intro _;rfl):
  JS X R (.For tg iter body [] pos) (Gq ti g tb):= .of (y3 hp hc hi hg hb hs) fun σ H G L ρ M Dn rl n h hx=>by
 refine ⟨G,L,ρ,M,_,_,rl,n,h,hx,fun J H1 ⟨xs,G1,L1,M1,e1,r1,y,h1⟩=> ?_⟩
 refine ⟨fun i m σ' H'=>m+i=xs.length∧iH X.K G1 L1 H1 (fun ρ' M'=>xh g tb Dn (xs.drop i) ρ' M') σ' H',⟨xs.length,rfl,ρ,G1,L1,M1, .refl _ _ _,r1,n.mono e1,by rw [abO];exact h1⟩, ?_⟩
 rintro i m σ' H' ⟨hm,ρ',G',L',M',e',r',n',h'⟩
 by_cases hi:i < xs.length
 ·right
  have hd:xs[i]? =some xs[i]:=aaa hi
  obtain ⟨go,yl⟩:=y.go i G' L' M' H' _ e'.g e'.l r' hd
  rw [aaU hi] at h'
  refine ⟨go,iH X.K G1 L1 H1 (fun ρ' M'=>xh g tb Dn (xs.drop (i+1)) ρ' M'),fun σ2 H2 f=>⟨m - 1,by omega,by omega,f⟩,fun v H2 hy=> ?_⟩
  obtain ⟨G2,e2,r2,n2⟩:=yl v H2 hy
  refine gd G2 L' M' H2 _ v ρ' σ' _ _ r2 n2 (n'.mono e2) h' fun ρ3 σ3 n3 h3=> ?_
  refine ⟨G2,L',ρ3,M',_,r2,n3,h3,hx.on (e1.trans (e'.trans e2)),⟨fun _ _ f=>iH.back (e'.trans e2) f,fun _ _ f=>Fin.back (e1.trans (e'.trans e2)) f,fun _ _ f=>iH.back (e1.trans (e'.trans e2)) f,fun _ _ f=>iH.back (e'.trans e2) f⟩⟩
 ·left
  refine ⟨y.stop i G' L' M' H' e'.g e'.l r' (by omega),ρ',G',L',M',e1.trans e',r',n', ?_⟩
  rw [abm (by omega)] at h'
  exact h'
end
def n6(caps:List Nat)(ρ:En):En:=caps.map fun i=>(ρ[i]?).join
theorem zF{K:PySem.W.Frag}{G:Hp}{L:List Addr}{ρ:En}{σ:St}(h:EnD K G L ρ σ)(caps:List Nat){d:Dt}{v:V}(n:Den K G L d v):EnD K G L (some d::n6 caps ρ) (some v::gG caps σ):=by
 refine ⟨by unfold n6 gG;simp,fun i d' e=> ?_⟩
 cases i with
 | zero=>cases e;exact ⟨v,rfl,n⟩
 | succ j=>
  have e:(n6 caps ρ)[j]? =some (some d'):=e
  show∃v',(gG caps σ)[j]? =some (some v')∧_
  unfold n6 at e
  unfold gG
  rw [aak] at e⊢
  cases q:caps[j]? with
  | none=>rw [q] at e;cases e
  | some i=>
   rw [q] at e
   have e:(ρ[i]?).join=some d':=aal e
   have e:ρ[i]? =some (some d'):=by
    cases q2:ρ[i]? with
    | none=>rw [q2] at e;cases e
    | some o=>rw [q2] at e;exact congrArg some e
   obtain ⟨v',e1,n1⟩:=h.ats i d' e
   exact ⟨v',by show some ((σ[i]?).join)=_;rw [e1];rfl,n1⟩
def wz(te:DE)(cs:En):List Dt→List Dt→Ms→(List Dt→Ms→Prop)→Prop
 | [],acc,M,k=>k acc M
 | x::xs,acc,M,k=>te (some x::cs) M (fun d M1=>wz te cs xs (acc++[d]) M1 k) noX
def DM(ti:DA)(te:DE)(caps:List Nat):DE:=fun ρ M q x=>ti ρ M (fun xs M1=>xs.length≤sizeLine∧wz te (n6 caps ρ) xs [] M1 (fun ys M2=>q (.lst ys) M2)) x
theorem Bq{K:PySem.W.Frag}{J:It}{te:DE}{caps:List Nat}{ρ:En}{σ:St}{G1:Hp}{L1:List Addr}{M1:Ms}{H1:Hp}{xs:List Dt}{Dl:Addr}{Q:VK}{k:List Dt→Ms→Prop}(r1:Rl K G1 L1 M1 H1)(n:EnD K G1 L1 ρ σ)(y:Yl K J xs G1 L1)(hD:H1 Dl=none)(hz:xs.length≤sizeLine)
  (h:wz te (n6 caps ρ) xs [] M1 k)
  (fin:∀G2 L2 M2 H2 ds vs,Ex G1 L1 H1 G2 L2 H2→Rl K G2 L2 M2 H2→G2 Dl=none→Dl∉L2→H2 Dl=some (.lst vs)→aT K G2 L2 ds vs→k ds M2→Q (.ref Dl) H2):
  yH J (tL K (fun _=>E0) te) (gG caps σ) Q H1 Dl:=by
 refine ⟨fun i m ys H2=>m+i=xs.length∧H2 Dl=some (.lst ys)∧∃acc G2 L2 M2,Ex G1 L1 H1 G2 L2 H2∧Rl K G2 L2 M2 H2∧G2 Dl=none∧Dl∉L2∧aT K G2 L2 acc ys∧acc.length=i∧wz te (n6 caps ρ) (xs.drop i) acc M2 k,⟨xs.length,rfl,aD,[],G1,L1,M1, ?_⟩, ?_⟩
 ·have gn:G1 Dl=none:=r1.sub.free hD
  refine ⟨⟨.refl _, .refl _,fun _ h _=>h,fun b u h1 _=>by rw [aw (fun z=>by rw [z,hD] at h1;cases h1)];exact h1,fun _ h=> .inl h,fun b h=>by rw [aw (fun z=>h (by rw [z];exact hD))];exact h⟩,⟨fun b u e=>by rw [aw (fun z=>by rw [z,gn] at e;cases e)];exact r1.sub b u e,r1.len,r1.nd,fun i a m h1 h2=> ?_⟩,gn,r1.memN hD,rfl,rfl,by rw [abO];exact h⟩
  obtain ⟨q1,q2⟩:=r1.ats i a m h1 h2
  exact ⟨q1,q2.mono (.refl _) (.refl _) (aw fun z=>q2.there (by rw [z];exact hD))⟩
 ·rintro i m ys H2 ⟨hm,hacc,acc,G2,L2,M2,e2,r2,g2,l2,n2,la,h2⟩
  refine ⟨hacc, ?_⟩
  by_cases hi:i < xs.length
  ·right
   have hd:xs[i]? =some xs[i]:=aaa hi
   obtain ⟨go,yl⟩:=y.go i G2 L2 M2 H2 _ e2.g e2.l r2 hd
   rw [aaU hi] at h2
   refine ⟨go,fun v H3 hy=> ?_⟩
   obtain ⟨G3,e3,r3,n3⟩:=yl v H3 hy
   refine ⟨G3,L2,_,M2,_,noX,r3,zF ((n.mono e2).mono e3) caps n3,h2,tR,fun v4 H4 ⟨d4,G4,L4,M4,e4,r4,n4,h4⟩=> ?_⟩
   have l3:Dl∉L2:=l2
   have h3:H3 Dl=some (.lst ys):=e3.out _ _ hacc l2
   have g3:G3 Dl=none:=e3.fr _ g2 (by rw [hacc];simp)
   have h4':H4 Dl=some (.lst ys):=e4.out _ _ h3 l2
   have g4:G4 Dl=none:=e4.fr _ g3 (by rw [h3];simp)
   have l4:Dl∉L4:=fun z=>(e4.new _ z).elim l2 fun q=>by rw [h3] at q;cases q
   have e24:=e3.trans e4
   have lenys:ys.length=i:=by rw [←n2.length];exact la
   have ne1:∀{b:Addr} {u:HO},H1 b=some u→b≠Dl:=fun e z=>by rw [z,hD] at e;cases e
   refine ⟨h4',by omega,m - 1,by omega,by omega,aD,acc++[d4],G4,L4,M4, ?_, ?_,g4,l4,(aT.mono e24.g e24.l _ _ n2).app ⟨_,_,rfl,n4,rfl⟩,by rw [aai,la];rfl,h4⟩
   ·have e14:=e2.trans e24
    exact ⟨e14.g,e14.l,e14.fr,fun b u h1 h2=>by rw [aw (ne1 h1)];exact e14.out b u h1 h2,e14.new,fun b h=>by
     by_cases hb:b=Dl
     ·rw [hb,aD];simp
     ·rw [aw hb];exact e14.dom b h⟩
   ·refine ⟨fun b u e=>by rw [aw (fun z=>by rw [z,g4] at e;cases e)];exact r4.sub b u e,r4.len,r4.nd,fun i a m h1 h2=> ?_⟩
    obtain ⟨q1,q2⟩:=r4.ats i a m h1 h2
    exact ⟨q1,q2.mono (.refl _) (.refl _) (aw fun z=>l4 (by rw [←z];exact aaj h1))⟩
  ·left
   rw [abm (by omega)] at h2
   exact ⟨y.stop i G2 L2 M2 H2 e2.g e2.l r2 (by omega),fin G2 L2 M2 H2 acc ys e2 r2 g2 l2 hacc n2 h2⟩
section
variable{K:PySem.W.Frag}{G1:Hp}{L1:List Addr}{H1 G:Hp}{L:List Addr}{M:Ms}{H:Hp}{p:Addr}{ds:List Dt}{vs:List V}{q:DQ}
theorem lH(e:Ex G1 L1 H1 G L H)(r:Rl K G L M H)(hp1:H1 p=none)(hg:G p=none)(hl:p∉L)(h:H p=some (.lst vs))(n:aT K G L ds vs)(k:q (.lst ds) M):Fin K G1 L1 H1 q (.ref p) H:=by
 have g1:gf G (upd G p (.lst vs)):=fun b u e=>by rw [aw (fun z=>by rw [z,hg] at e;cases e)];exact e
 refine ⟨.lst ds,upd G p (.lst vs),L,M,⟨e.g.trans g1,e.l,fun b h1 h2=> ?_,e.out,e.new,e.dom⟩,⟨fun b u e=> ?_,r.len,r.nd,fun k a m h1 h2=> ?_⟩,⟨p,vs,rfl,aD,aT.mono g1 (.refl _) _ _ n⟩,k⟩
 ·rw [aw (fun z=>h2 (by rw [z];exact hp1))];exact e.fr b h1 h2
 ·by_cases hb:b=p
  ·rw [hb,aD] at e;rw [hb];cases e;exact h
  ·rw [aw hb] at e;exact r.sub b u e
 ·obtain ⟨q1,q2⟩:=r.ats k a m h1 h2
  have hb:a≠p:=fun z=>hl (by rw [←z];exact aaj h1)
  exact ⟨by rw [aw hb];exact q1,q2.mono g1 (.refl _) rfl⟩
end
section
variable{X:Cx}{R:St→XK}{elt iter:Expr}{x:Str}{px:Pos}{scope:Scope}{pos:Pos}{ti:DA}{te:DE}{ys:List Str}{caps:List Nat}
theorem C8(S:cU X scope x ys caps)(hi:JI X R (.Name x px) iter ti)(he:∀C s H fp,JE (Cx.comp X (x::ys) scope C s H fp) (fun _=>E0) elt te)(hc:X.calm=true:=by rfl)(hs:∀x,foldedSetIterable iter X.env x=pure x:=by intro _;rfl):
  JE X R (.ListComp elt [⟨.Name x px,iter,[],0⟩] scope pos) (DM ti te caps):= .of (uW (wi:=GJ X.K R ti) (te:=tL X.K (fun _=>E0) te) S hc hi he hs) fun σ H G L ρ M q x rl n h hx=>by
 refine ⟨G,L,ρ,M,_,x,rl,n,h,hx,fun J H1 ⟨xs,G1,L1,M1,e1,r1,y,hz,h1⟩ D hD=> ?_⟩
 exact Bq r1 (n.mono e1) y hD hz h1 fun G2 L2 M2 H2 ds vs e2 r2 g2 l2 h2 n2 k=>Fin.back e1 (lH e2 r2 hD g2 l2 h2 n2 k)
end
theorem aS{K:PySem.W.Frag}{G0:Hp}{L0:List Addr}{H0 G:Hp}{L:List Addr}{M:Ms}{H:Hp}{d:Dt}{v:V}{q:DQ}(e:Ex G0 L0 H0 G L H)(r:Rl K G L M H)(n:Den K G L d v)(h:q d M):Fin K G0 L0 H0 q v H:=⟨d,G,L,M,e,r,n,h⟩
theorem b9{K:PySem.W.Frag}{G0:Hp}{L0:List Addr}{H0 G:Hp}{L:List Addr}{M:Ms}{H:Hp}{d:Dt}{v:V}{q:DQ}(e:Ex G0 L0 H0 G L H)(r:Rl K G L M H)(h:q d M)(n:Den K G L d v:=by rfl):Fin K G0 L0 H0 q v H:=⟨d,G,L,M,e,r,n,h⟩
def tM:Dt→Dt→Ms→DQ→Prop
 | .int i, .int j,M,q=>q (.int (i+j)) M
 | .str a, .str b,M,q=>a.length+b.length≤sizeLine∧q (.str (a++b)) M
 | .lst a, .lst b,M,q=>a.length+b.length≤sizeLine∧q (.lst (a++b)) M
 | .tup a, .tup b,M,q=>(a≠[]∧a.length+b.length≤sizeLine)∧q (.tup (a++b)) M
 | _,_,_,_=>False
def ym:Dt→Dt→Ms→DQ→Prop
 | .int i, .int j,M,q=>q (.int (i - j)) M
 | _,_,_,_=>False
def Dr:Dt→Dt→Ms→DQ→Prop
 | .int i, .int j,M,q=>(Big i∧Big j)∧q (.int (i * j)) M
 | .lst a, .int k,M,q=>(-(2 ^ 63)≤k∧k < 2 ^ 63∧a.length * k.toNat≤sizeLine)∧q (.lst (List.replicate k.toNat a).flatten) M
 | _,_,_,_=>False
def FA:Dt→Dt→Ms→DQ→Prop
 | .int i, .int j,M,q=>(0 < j∧Big j)∧q (.int (i / j)) M
 | _,_,_,_=>False
def yn:Dt→Dt→Ms→DQ→Prop
 | .int i, .int j,M,q=>(j≠0∧Big j)∧q (.int (i.fdiv j)) M
 | _,_,_,_=>False
def Eg:Dt→Dt→Ms→DQ→Prop
 | .int i, .int j,M,q=>0 < j∧q (.int (i % j)) M
 | _,_,_,_=>False
def Fw:Dt→Dt→Ms→DQ→Prop
 | .int i, .int j,M,q=>zU i j∧q (.int (i ^ j.toNat)) M
 | _,_,_,_=>False
def Fx:Dt→Ms→DQ→Prop
 | .int i,M,q=>q (.int (-i)) M
 | _,_,_=>False
section
variable{K:PySem.W.Frag}
theorem HZ:OpD K (fun x y H Q=>(∃i j,x=V.int i∧y= .int j∧Q (.int (i+j)) H)∨(∃i j,x=V.str i∧y= .str j∧i.length+j.length≤sizeLine∧Q (.str (i++j)) H)∨EO x y H Q∨B9 K x y H Q) tM:=by
 intro G0 L0 H0 G L M H v1 v2 d1 d2 q e r n1 n2 h
 unfold tM at h
 split at h
 ·rename_i i j
  exact .inl ⟨i,j,n1,n2,b9 e r h⟩
 ·rename_i a b
  exact .inr (.inl ⟨a,b,n1,n2,h.1,b9 e r h.2⟩)
 ·rename_i a b
  obtain ⟨p1,w1,rfl,e1,m1⟩:=n1
  obtain ⟨p2,w2,rfl,e2,m2⟩:=n2
  refine .inr (.inr (.inl ⟨p1,p2,w1,w2,rfl,rfl,r.sub _ _ e1,r.sub _ _ e2,by rw [←m1.length,←m2.length];exact h.1,fun p hp=> ?_⟩))
  exact g9 e r hp (mi r hp (m1.app m2)) h.2
 ·rename_i a b
  obtain ⟨p1,w1,rfl,e1,m1⟩:=n1
  obtain ⟨p2,w2,rfl,e2,m2⟩:=n2
  have ne:w1≠[]:=fun z=>h.1.1 (by have:=m1.length;rw [z] at this;exact List.eq_nil_of_length_eq_zero this)
  refine .inr (.inr (.inr ⟨p1,p2,w1,w2,rfl,rfl, .inl (.inl (r.sub _ _ e1)), .inl (.inl (r.sub _ _ e2)),ne,by rw [←m1.length,←m2.length];exact h.1.2,fun z=> ?_,fun _ p hp=> ?_⟩))
  ·have hb:b=[]:=by have:=m2.length;rw [z] at this;exact List.eq_nil_of_length_eq_zero this
   subst hb
   rw [aa7] at h
   exact aS (d:= .tup a) e r ⟨p1,w1,rfl,e1,m1⟩ h.2
  ·exact g9 e r hp (mh r hp (m1.app m2)) h.2
 ·exact h.elim
theorem Hs:OpD K (rI0 fun i j=> .int (i - j)) ym:=by
 intro G0 L0 H0 G L M H v1 v2 d1 d2 q e r n1 n2 h
 unfold ym at h
 split at h
 ·exact ⟨_,_,n1,n2,b9 e r h⟩
 ·exact h.elim
theorem HC:OpD K (fun x y H Q=>(rI (fun i j=>Big i∧Big j) fun i j=> .int (i * j)) x y H Q∨EN x y H Q) Dr:=by
 intro G0 L0 H0 G L M H v1 v2 d1 d2 q e r n1 n2 h
 unfold Dr at h
 split at h
 ·exact .inl ⟨_,_,n1,n2,h.1,b9 e r h.2⟩
 ·rename_i a k
  obtain ⟨p1,w1,rfl,e1,m1⟩:=n1
  refine .inr ⟨p1,k,w1,rfl,n2,r.sub _ _ e1,h.1.1,h.1.2.1,by rw [←m1.length];exact h.1.2.2,fun p hp=> ?_⟩
  exact g9 e r hp (mi r hp (.of (oZ m1.pair k.toNat))) h.2
 ·exact h.elim
theorem HU:OpD K (rI (fun _ j=>j≠0∧Big j) fun i j=> .int (i.fdiv j)) FA:=by
 intro G0 L0 H0 G L M H v1 v2 d1 d2 q e r n1 n2 h
 unfold FA at h
 split at h
 ·rename_i i j
  have h0:=h.1.1
  refine ⟨_,_,n1,n2,⟨by omega,h.1.2⟩,aS (d:= .int (i.fdiv j)) e r rfl ?_⟩
  rw [abM i (aag h0)]
  exact h.2
 ·exact h.elim
theorem FI:OpD K (rI (fun _ j=>j≠0∧Big j) fun i j=> .int (i.fdiv j)) yn:=by
 intro G0 L0 H0 G L M H v1 v2 d1 d2 q e r n1 n2 h
 unfold yn at h
 split at h
 ·exact ⟨_,_,n1,n2,h.1,b9 e r h.2⟩
 ·exact h.elim
theorem HD:OpD K (rI (fun _ j=>0 < j) fun i j=> .int (i % j)) Eg:=by
 intro G0 L0 H0 G L M H v1 v2 d1 d2 q e r n1 n2 h
 unfold Eg at h
 split at h
 ·exact ⟨_,_,n1,n2,h.1,b9 e r h.2⟩
 ·exact h.elim
theorem Hx:OpD K (rI zU fun i j=> .int (i ^ j.toNat)) Fw:=by
 intro G0 L0 H0 G L M H v1 v2 d1 d2 q e r n1 n2 h
 unfold Fw at h
 split at h
 ·exact ⟨_,_,n1,n2,h.1,b9 e r h.2⟩
 ·exact h.elim
theorem HA:UnD K (rU fun i=> .int (-i)) Fx:=by
 intro G0 L0 H0 G L M H v1 d1 q e r n1 h
 unfold Fx at h
 split at h
 ·exact ⟨_,n1,b9 e r h⟩
 ·exact h.elim
end
section
variable{X:Cx}{R:St→XK}{a b c:Expr}{ta tb:DE}{pos:Pos}
theorem cz(ja:JE X R a ta)(jb:JE X R b tb):JE X R (.BinOp a .Add b pos) (dOp tM ta tb):=ya (CJ.or (sC.or (zc.or AI))) HZ ja jb
theorem pO(ja:JE X R a ta)(jb:JE X R b tb):JE X R (.BinOp a .Sub b pos) (dOp ym ta tb):=ya Cy Hs ja jb
theorem aO(ja:JE X R a ta)(jb:JE X R b tb):JE X R (.BinOp a .Mult b pos) (dOp Dr ta tb):=ya (AG.or za) HC ja jb
theorem js(ja:JE X R a ta)(jb:JE X R b tb):JE X R (.BinOp a .FloorDiv b pos) (dOp FA ta tb):=ya qL HU ja jb
theorem vF(ja:JE X R a ta)(jb:JE X R b tb):JE X R (.BinOp a .FloorDiv b pos) (dOp yn ta tb):=ya qL FI ja jb
theorem bQ(ja:JE X R a ta)(jb:JE X R b tb):JE X R (.BinOp a .Mod b pos) (dOp Eg ta tb):=ya CB HD ja jb
theorem g6(ja:JE X R a ta)(jb:JE X R b tb):JE X R (.BinOp a .Pow b pos) (dOp Fw ta tb):=ya Cz Hx ja jb
theorem C4(ja:JE X R a ta):JE X R (.UnaryOp .USub a pos) (dUn Fx ta):=HH BL HA ja
end
def fLt:Dt→Dt→Ms→DQ→Prop
 | .int i, .int j,M,q=>q (.bl (decide (i < j))) M
 | _,_,_,_=>False
def fLe:Dt→Dt→Ms→DQ→Prop
 | .int i, .int j,M,q=>q (.bl (decide (i≤j))) M
 | _,_,_,_=>False
def fGt:Dt→Dt→Ms→DQ→Prop
 | .int i, .int j,M,q=>q (.bl (decide (j < i))) M
 | _,_,_,_=>False
def fGe:Dt→Dt→Ms→DQ→Prop
 | .int i, .int j,M,q=>q (.bl (decide (j≤i))) M
 | _,_,_,_=>False
def pW:Dt→Option V
 | .non=>some .non
 | .bl b=>some (.bl b)
 | .int i=>some (.int i)
 | .str x=>some (.str x)
 | _=>none
def h9:List Dt→Option (List V)
 | []=>some []
 | d::ds=>match pW d,h9 ds with
  | some v,some vs=>some (v::vs)
  | _,_=>none
section
variable{K:PySem.W.Frag}{G:Hp}{L:List Addr}
theorem fF{d:Dt}{v u:V}(h:pW d=some u)(n:Den K G L d v):v=u∧dJ u=true:=by
 cases d <;> first | (cases h;exact ⟨n,rfl⟩) | cases h
theorem dY:∀{ds:List Dt} {vs us:List V},h9 ds=some us→aT K G L ds vs→vs=us∧us.all dJ=true
 | [],vs,us,h,n=>by
  cases h
  exact ⟨n,rfl⟩
 | d::ds,_,us,h,⟨v,r,e,n1,n2⟩=>by
  subst e
  unfold h9 at h
  split at h
  ·rename_i u1 u2 h1 h2
   cases h
   obtain ⟨a1,a2⟩:=fF h1 n1
   obtain ⟨b1,b2⟩:=dY h2 n2
   subst a1 b1
   exact ⟨rfl,by rw [abt,a2,b2];rfl⟩
  ·cases h
end
def Du:Dt→Dt→Ms→DQ→Prop
 | .int i, .int j,M,q=>q (.bl (decide (i=j))) M
 | .str i, .str j,M,q=>q (.bl (decide (i=j))) M
 | .bl i, .bl j,M,q=>q (.bl (decide (i=j))) M
 | .tup a, .tup b,M,q=>match h9 a,h9 b with
  | some us,some vs=>q (.bl (sY us vs)) M
  | _,_=>False
 | _,_,_,_=>False
def Ef:Dt→Dt→Ms→DQ→Prop
 | .int i, .int j,M,q=>q (.bl (!decide (i=j))) M
 | .str i, .str j,M,q=>q (.bl (!decide (i=j))) M
 | .bl i, .bl j,M,q=>q (.bl (!decide (i=j))) M
 | .tup a, .tup b,M,q=>match h9 a,h9 b with
  | some us,some vs=>q (.bl (!sY us vs)) M
  | _,_=>False
 | _,_,_,_=>False
def Fy:Dt→Dt→Ms→DQ→Prop
 | .non, .non,M,q=>q (.bl true) M
 | .bl _, .non,M,q=>q (.bl false) M
 | .int _, .non,M,q=>q (.bl false) M
 | .str _, .non,M,q=>q (.bl false) M
 | .tup _, .non,M,q=>q (.bl false) M
 | .lst _, .non,M,q=>q (.bl false) M
 | _,_,_,_=>False
section
variable{K:PySem.W.Frag}
theorem ltD:OpD K (rI0 fun i j=> .bl (decide (i < j))) fLt:=by
 intro G0 L0 H0 G L M H v1 v2 d1 d2 q e r n1 n2 h
 unfold fLt at h
 split at h
 ·exact ⟨_,_,n1,n2,b9 e r h⟩
 ·exact h.elim
theorem leD:OpD K (rI0 fun i j=> .bl (decide (i≤j))) fLe:=by
 intro G0 L0 H0 G L M H v1 v2 d1 d2 q e r n1 n2 h
 unfold fLe at h
 split at h
 ·exact ⟨_,_,n1,n2,b9 e r h⟩
 ·exact h.elim
theorem gtD:OpD K (rI0 fun i j=> .bl (decide (j < i))) fGt:=by
 intro G0 L0 H0 G L M H v1 v2 d1 d2 q e r n1 n2 h
 unfold fGt at h
 split at h
 ·exact ⟨_,_,n1,n2,b9 e r h⟩
 ·exact h.elim
theorem geD:OpD K (rI0 fun i j=> .bl (decide (j≤i))) fGe:=by
 intro G0 L0 H0 G L M H v1 v2 d1 d2 q e r n1 n2 h
 unfold fGe at h
 split at h
 ·exact ⟨_,_,n1,n2,b9 e r h⟩
 ·exact h.elim
theorem hJ{p q:Prop} [Decidable p] [Decidable q](h:p↔q):decide p=decide q:=decide_eq_decide.mpr h
theorem GR:OpD K (fun x y H Q=>rEq x y H Q∨Gx K x y H Q) Du:=by
 intro G0 L0 H0 G L M H v1 v2 d1 d2 q e r n1 n2 h
 unfold Du at h
 split at h
 ·rename_i i j
  cases n1;cases n2
  exact .inl ⟨rfl,aS (d:= .bl _) e r (by show V.bl _=V.bl _;rw [hJ (p:=V.int i=V.int j) (q:=i=j) ⟨fun z=>V.int.inj z,fun z=>by rw [z]⟩]) h⟩
 ·rename_i i j
  cases n1;cases n2
  exact .inl ⟨rfl,aS (d:= .bl _) e r (by show V.bl _=V.bl _;rw [hJ (p:=V.str i=V.str j) (q:=i=j) ⟨fun z=>V.str.inj z,fun z=>by rw [z]⟩]) h⟩
 ·rename_i i j
  cases n1;cases n2
  exact .inl ⟨rfl,aS (d:= .bl _) e r (by show V.bl _=V.bl _;rw [hJ (p:=V.bl i=V.bl j) (q:=i=j) ⟨fun z=>V.bl.inj z,fun z=>by rw [z]⟩]) h⟩
 ·rename_i a b
  obtain ⟨p1,w1,rfl,e1,m1⟩:=n1
  obtain ⟨p2,w2,rfl,e2,m2⟩:=n2
  split at h
  ·rename_i us vs h1 h2
   obtain ⟨rfl,a2⟩:=dY h1 m1
   obtain ⟨rfl,b2⟩:=dY h2 m2
   exact .inr ⟨p1,p2,_,_,rfl,rfl, .inl (.inl (r.sub _ _ e1)), .inl (.inl (r.sub _ _ e2)),a2,b2,b9 e r h⟩
  ·exact h.elim
 ·exact h.elim
theorem HB:OpD K (fun x y H Q=>rNe x y H Q∨Gs K x y H Q) Ef:=by
 intro G0 L0 H0 G L M H v1 v2 d1 d2 q e r n1 n2 h
 unfold Ef at h
 split at h
 ·rename_i i j
  cases n1;cases n2
  exact .inl ⟨rfl,aS (d:= .bl _) e r (by show V.bl _=V.bl _;rw [hJ (p:=V.int i=V.int j) (q:=i=j) ⟨fun z=>V.int.inj z,fun z=>by rw [z]⟩]) h⟩
 ·rename_i i j
  cases n1;cases n2
  exact .inl ⟨rfl,aS (d:= .bl _) e r (by show V.bl _=V.bl _;rw [hJ (p:=V.str i=V.str j) (q:=i=j) ⟨fun z=>V.str.inj z,fun z=>by rw [z]⟩]) h⟩
 ·rename_i i j
  cases n1;cases n2
  exact .inl ⟨rfl,aS (d:= .bl _) e r (by show V.bl _=V.bl _;rw [hJ (p:=V.bl i=V.bl j) (q:=i=j) ⟨fun z=>V.bl.inj z,fun z=>by rw [z]⟩]) h⟩
 ·rename_i a b
  obtain ⟨p1,w1,rfl,e1,m1⟩:=n1
  obtain ⟨p2,w2,rfl,e2,m2⟩:=n2
  split at h
  ·rename_i us vs h1 h2
   obtain ⟨rfl,a2⟩:=dY h1 m1
   obtain ⟨rfl,b2⟩:=dY h2 m2
   exact .inr ⟨p1,p2,_,_,rfl,rfl, .inl (.inl (r.sub _ _ e1)), .inl (.inl (r.sub _ _ e2)),a2,b2,b9 e r h⟩
  ·exact h.elim
 ·exact h.elim
theorem HJ:OpD K (fun x y H Q=>y= .non∧Q (.bl (decide (x= .non))) H) Fy:=by
 intro G0 L0 H0 G L M H v1 v2 d1 d2 q e r n1 n2 h
 unfold Fy at h
 split at h
 ·cases n1;exact ⟨n2,aS (d:= .bl true) e r (by show V.bl _=V.bl _;rw [decide_eq_true rfl]) h⟩
 ·cases n1;exact ⟨n2,aS (d:= .bl false) e r (by show V.bl _=V.bl _;rw [decide_eq_false (fun z=>nomatch z)]) h⟩
 ·cases n1;exact ⟨n2,aS (d:= .bl false) e r (by show V.bl _=V.bl _;rw [decide_eq_false (fun z=>nomatch z)]) h⟩
 ·cases n1;exact ⟨n2,aS (d:= .bl false) e r (by show V.bl _=V.bl _;rw [decide_eq_false (fun z=>nomatch z)]) h⟩
 ·obtain ⟨p1,w1,rfl,_⟩:=n1;exact ⟨n2,aS (d:= .bl false) e r (by show V.bl _=V.bl _;rw [decide_eq_false (fun z=>nomatch z)]) h⟩
 ·obtain ⟨p1,w1,rfl,_⟩:=n1;exact ⟨n2,aS (d:= .bl false) e r (by show V.bl _=V.bl _;rw [decide_eq_false (fun z=>nomatch z)]) h⟩
 ·exact h.elim
end
section
variable{X:Cx}{R:St→XK}{a b c:Expr}{ta tb:DE}{pos:Pos}
theorem Fe(ja:JE X R a ta)(jb:JE X R b tb):JE X R (.Compare a [.Lt] [b] pos) (dOp fLt ta tb):=pQ CC ltD ja jb (fL _)
theorem zk(ja:JE X R a ta)(jb:JE X R b tb):JE X R (.Compare a [.LtE] [b] pos) (dOp fLe ta tb):=pQ E3 leD ja jb (fL _)
theorem HI(ja:JE X R a ta)(jb:JE X R b tb):JE X R (.Compare a [.GtE] [b] pos) (dOp fGe ta tb):=pQ E5 geD ja jb (fL _)
theorem Ee{k:Nat}(hr:dN k X.A)(ja:JE X R a ta)(jb:JE X R b tb):JE X R (.Compare a [.Eq] [b] pos) (dOp Du ta tb):=pQ (CH.or (zb hr.units0)) GR ja jb (fL _)
theorem sT(ja:JE X R a ta)(jb:JE X R b tb):JT X R (.Compare a [.Lt] [b] pos) (tJ (dOp fLt ta tb)):=hX CC ltD ja jb (fL _)
theorem AZ(ja:JE X R a ta)(jb:JE X R b tb):JT X R (.Compare a [.Gt] [b] pos) (tJ (dOp fGt ta tb)):=hX E4 gtD ja jb (fL _)
theorem gz{k:Nat}(hr:dN k X.A)(ja:JE X R a ta)(jb:JE X R b tb):JT X R (.Compare a [.Eq] [b] pos) (tJ (dOp Du ta tb)):=hX (CH.or (zb hr.units0)) GR ja jb (fL _)
theorem nB{k:Nat}(hr:dN k X.A)(ja:JE X R a ta)(jb:JE X R b tb):JT X R (.Compare a [.NotEq] [b] pos) (tJ (dOp Ef ta tb)):=hX (E2.or (CA hr.units0)) HB ja jb (fL _)
theorem CZ(ja:JE X R a ta)(jb:JE X R b tb):JT X R (.Compare a [.Is] [b] pos) (tJ (dOp Fy ta tb)):=hX CD HJ ja jb (fL _)
end
def qv(M:Ms):Dt→Option (List Dt)
 | .lst xs=>some xs
 | .tup xs=>some xs
 | .scr ns=>some (ns.map .int)
 | .kt xs=>some xs
 | .loc k=>match M[k]? with
  | some (.lst xs)=>some xs
  | _=>none
 | _=>none
theorem kS{K:PySem.W.Frag}{G:Hp}{L:List Addr}{M:Ms}{H:Hp}{d:Dt}{v:V}{xs:List Dt}(r:Rl K G L M H)(n:Den K G L d v)(h:qv M d=some xs):∃a vs,v= .ref a∧(SqL K H a vs∨SqT K H a vs)∧aT K G L xs vs:=by
 cases d with
 | lst ds=>cases h;obtain ⟨a,vs,rfl,e,m⟩:=n;exact ⟨a,vs,rfl, .inl (.of (r.sub _ _ e)),m⟩
 | tup ds=>cases h;obtain ⟨a,vs,rfl,e,m⟩:=n;exact ⟨a,vs,rfl, .inr (.of (r.sub _ _ e)),m⟩
 | kt ds=>cases h;obtain ⟨a,vs,rfl,e,m⟩:=n;exact ⟨a,vs,rfl, .inr (r.sub.sqT e),m⟩
 | scr ns=>cases h;obtain ⟨a,rfl,e⟩:=n;exact ⟨a,_,rfl, .inl (r.sub.seq e),fq⟩
 | loc k=>
  obtain ⟨a,rfl,e⟩:=n
  have h:(match M[k]? with | some (.lst xs)=>some xs | _=>none)=some xs:=h
  split at h
  ·rename_i ys hm
   cases h
   obtain ⟨_,vs,e1,m1⟩:=r.ats k a _ e hm
   exact ⟨a,vs,rfl, .inl (.of e1),m1⟩
  ·cases h
 | _=>cases h
theorem BA{K:PySem.W.Frag}{G:Hp}{L:List Addr}{ds:List Dt}{vs:List V}{i:Int}{d:Dt}(n:aT K G L ds vs)(h:atI ds i=some d):∃v,atI vs i=some v∧Den K G L d v:=by
 unfold atI at h⊢
 rw [←n.length]
 cases q:ixN ds.length i with
 | none=>rw [q] at h;cases h
 | some j=>
  rw [q] at h
  obtain ⟨v,e,m⟩:=n.get h
  exact ⟨v,e,m⟩
def fIx:Dt→Dt→Ms→DQ→Prop
 | .str z, .int i,M,q=>z.length≤sizeLine∧match atI z.cps.toList i with
  | some c=>q (.str ⟨#[c]⟩) M
  | none=>False
 | d, .int i,M,q=>match qv M d with
  | some xs=>(match atI xs i with
   | some y=>q y M
   | none=>False)
  | none=>False
 | _,_,_,_=>False
def ik:List Dt→Ms→DQ→Prop
 | [.str z],M,q=>z.length≤sizeLine∧q (.int z.length) M
 | [d],M,q=>match qv M d with
  | some xs=>q (.int xs.length) M
  | none=>False
 | _,_,_=>False
section
variable{K:PySem.W.Frag}
theorem ixD:OpD K (rIx K) fIx:=by
 intro G0 L0 H0 G L M H v1 v2 d1 d2 q e r n1 n2 h
 unfold fIx at h
 split at h
 ·rename_i z i
  split at h
  ·rename_i c hc
   exact .inr (.inr ⟨z,i,c,n1,n2,h.1,hc,b9 e r h.2⟩)
  ·exact h.2.elim
 ·rename_i d i _
  split at h
  ·rename_i xs hx
   split at h
   ·rename_i y hy
    obtain ⟨a,vs,rfl,hs,m⟩:=kS r n1 hx
    obtain ⟨v,e1,m1⟩:=BA m hy
    rcases hs with hs | hs
    ·exact .inl ⟨a,vs,i,v,rfl,n2,hs,e1,aS e r m1 h⟩
    ·exact .inr (.inl ⟨a,vs,i,v,rfl,n2,hs,e1,aS e r m1 h⟩)
   ·exact h.elim
  ·exact h.elim
 ·exact h.elim
theorem HF:CaD K (fun xs H Q=>(∃z,xs=[V.str z]∧z.length≤sizeLine∧Q (.int z.length) H)∨(∃p ys,xs=[V.ref p]∧(SqL K H p ys∨SqT K H p ys)∧Q (.int ys.length) H)) ik:=by
 intro G0 L0 H0 G L M H vs ds q e r n h
 unfold ik at h
 split at h
 ·rename_i z
  obtain ⟨v,rfl,n1⟩:=bw n
  cases n1
  exact .inl ⟨z,rfl,h.1,b9 e r h.2⟩
 ·rename_i d _
  obtain ⟨v,rfl,n1⟩:=bw n
  split at h
  ·rename_i xs hx
   obtain ⟨a,ws,rfl,hs,m⟩:=kS r n1 hx
   exact .inr ⟨a,ws,rfl,hs,aS (d:= .int xs.length) e r (by show V.int _=V.int _;rw [m.length]) h⟩
  ·exact h.elim
 ·exact h.elim
end
section
variable{X:Cx}{R:St→XK}{a b c:Expr}{ta tb:DE}{pos:Pos}
theorem aG(ja:JE X R a ta)(jb:JE X R b tb)(hs:qh b:=by exact fun _ _=>rfl):JE X R (.Subscript a b pos) (dOp fIx ta tb):=Ff Dd ixD ja jb hs
variable{x:Str}{p:Pos}{e:Expr}{es:List Expr}{t:DA}{id T:String}{r:List V→Hp→VK→Prop}{f:List Dt→Ms→DQ→Prop}
theorem g7(hc:eS X (.builtin id) r)(cd:CaD X.K r f)(hm:X.mg x=none)(hv:bootBuiltins x=some (.builtin id))(ha:JA X R (e::es) t)(hg:Gl X x:=by rfl)(hn:x≠"__name__":=by decide)(hdb:(x==("__debug__":Str))=false:=by decide)
  (he:starEach (e::es) X.env=(false,eval e X.env)::starEach es X.env:=by rfl) (hpl:(backTo pos (starEach es X.env)).any (·.1)=false:=by rfl):JE X R (.Call (.Name x p) (e::es) [] pos) (dFn f t):=
 .of (xP hc hg hm hv ha hn hdb he hpl) fun σ H G L ρ M q x r n h hx=>DO cd r n h hx
theorem lY(hc:eS X (.type T) r)(cd:CaD X.K r f)(hm:X.mg x=none)(hv:bootBuiltins x=some (.type T))(ha:JA X R (e::es) t)(hg:Gl X x:=by rfl)(hn:x≠"__name__":=by decide)(hdb:(x==("__debug__":Str))=false:=by decide)
  (he:starEach (e::es) X.env=(false,eval e X.env)::starEach es X.env:=by rfl) (hpl:(backTo pos (starEach es X.env)).any (·.1)=false:=by rfl):JE X R (.Call (.Name x p) (e::es) [] pos) (dFn f t):=
 .of (uX hc hg hm hv ha hn hdb he hpl) fun σ H G L ρ M q x r n h hx=>DO cd r n h hx
theorem cW(hm:X.mg "len"=none)(ha:JA X R [e] t)(he:starEach [e] X.env=(false,eval e X.env)::starEach [] X.env:=by rfl)(hpl:(backTo pos (starEach [] X.env)).any (·.1)=false:=by rfl)(hg:Gl X "len":=by rfl):JE X R (.Call (.Name "len" p) [e] [] pos) (dFn ik t):=
 g7 (n9.or oa) HF hm PySem.boot_len ha hg (by decide) (by decide) he hpl
end
section
variable{X:Cx}
theorem og:eS X (.type "int") (fun xs H Q=>∃x n,xs=[.str x]∧PySem.intText? x=some n∧x.length≤640∧Q (.int n) H):=by
 intro pins s σ H xs us Q I rs h
 obtain ⟨x,n,rfl,hn,hl,q⟩:=h
 obtain ⟨w,rfl,u,rfl⟩:=jO rs
 exact PySem.W.KIN.call_text hn hl ⟨.int n,H,I.tok _,⟨_,rfl⟩,q⟩
end
def zz:List Dt→Ms→DQ→Prop
 | [.int i],M,q=>q (.int i) M
 | [.bl b],M,q=>q (.int (if b then 1 else 0)) M
 | [.str x],M,q=>x.length≤640∧match PySem.intText? x with
  | some n=>q (.int n) M
  | none=>False
 | _,_,_=>False
def FE:List Dt→Ms→DQ→Prop
 | [.int i],M,q=>q (.int (if i < 0 then -i else i)) M
 | _,_,_=>False
def FC:List Dt→Ms→DQ→Prop
 | [d],M,q=>∃bs:List Bool,qv M d=some (bs.map Dt.bl)∧(∀k,d≠ .kt k)∧(∀k,d≠ .tup k)∧q (.bl (bs.any id)) M
 | _,_,_=>False
def CS:Dt→Option Value
 | .non=>some (.type "NoneType")
 | .bl _=>some (.type "bool")
 | .int _=>some (.type "int")
 | .str _=>some (.type "str")
 | .lst _=>some (.type "list")
 | .tup _=>some (.type "tuple")
 | _=>none
def GY:Dt→Option Value
 | .ty T=>some (.type T)
 | .ref C=>some (.ref C)
 | _=>none
section
variable{K:PySem.W.Frag}
theorem nW{G:Hp}{L:List Addr}:∀{l:List Str},aT K G L (l.map Dt.str) (l.map V.str)
 | []=>rfl
 | _::_=>⟨_,_,rfl,rfl,nW⟩
theorem iC{G:Hp}{L:List Addr}:∀{bs:List Bool} {vs:List V},aT K G L (bs.map Dt.bl) vs→vs=bs.map V.bl
 | [],_,h=>h
 | b::bs,_,⟨v,r,e,h1,h2⟩=>by
  subst e
  rw [iC h2,show v=V.bl b from h1]
  rfl
theorem HK:CaD K (fun xs H Q=>((∃i,xs=[V.int i]∧Q (.int i) H)∨∃k,xs=[V.bl k]∧Q (.int (if k then 1 else 0)) H)∨∃x n,xs=[V.str x]∧PySem.intText? x=some n∧x.length≤640∧Q (.int n) H) zz:=by
 intro G0 L0 H0 G L M H vs ds q e r n h
 unfold zz at h
 split at h
 ·rename_i i
  obtain ⟨v,rfl,n1⟩:=bw n
  cases n1
  exact .inl (.inl ⟨i,rfl,b9 e r h⟩)
 ·rename_i i
  obtain ⟨v,rfl,n1⟩:=bw n
  cases n1
  exact .inl (.inr ⟨i,rfl,b9 e r h⟩)
 ·rename_i x
  obtain ⟨v,rfl,n1⟩:=bw n
  cases n1
  split at h
  ·rename_i m hm
   exact .inr ⟨x,m,rfl,hm,h.1,b9 e r h.2⟩
  ·exact h.2.elim
 ·exact h.elim
theorem Ig:CaD K (fun xs H Q=>∃i,xs=[V.int i]∧Q (.int (if i < 0 then -i else i)) H) FE:=by
 intro G0 L0 H0 G L M H vs ds q e r n h
 unfold FE at h
 split at h
 ·rename_i i
  obtain ⟨v,rfl,n1⟩:=bw n
  cases n1
  exact ⟨i,rfl,b9 e r h⟩
 ·exact h.elim
theorem Ia:CaD K (Gz K) FC:=by
 intro G0 L0 H0 G L M H vs ds q e r n h
 unfold FC at h
 split at h
 ·rename_i d
  obtain ⟨bs,hs,nk,nt,h⟩:=h
  obtain ⟨v,rfl,n1⟩:=bw n
  cases d with
  | lst xs=>
   cases hs
   obtain ⟨a,ws,rfl,e1,m⟩:=n1
   exact ⟨a,bs,rfl,by rw [←iC m];exact .of (r.sub _ _ e1),b9 e r h⟩
  | loc k=>
   obtain ⟨a,rfl,e1⟩:=n1
   have hs:(match M[k]? with | some (.lst xs)=>some xs | _=>none)=some (bs.map Dt.bl):=hs
   split at hs
   ·rename_i ys hm
    cases hs
    obtain ⟨_,ws,e2,m⟩:=r.ats k a _ e1 hm
    exact ⟨a,bs,rfl,by rw [←iC m];exact .of e2,b9 e r h⟩
   ·cases hs
  | tup xs=>exact absurd rfl (nt xs)
  | kt xs=>exact absurd rfl (nk xs)
  | scr ns=>
   have e0:ns.map Dt.int=bs.map Dt.bl:=aal hs
   cases ns with
   | nil=>
    cases bs with
    | nil=>obtain ⟨a,rfl,e1⟩:=n1;exact ⟨a,[],rfl,r.sub.seq e1,b9 e r h⟩
    | cons _ _=>cases e0
   | cons _ _=>
    cases bs with
    | nil=>cases e0
    | cons _ _=>cases e0
  | _=>cases hs
 ·exact h.elim
theorem tW{G:Hp}{L:List Addr}{M:Ms}{H:Hp}{d:Dt}{v:V}{t:Value}(r:Rl K G L M H)(n:Den K G L d v)(h:CS d=some t):oz K H v t:=by
 cases d with
 | non=>cases h;cases n;exact .non
 | bl b=>cases h;cases n;exact .bl _
 | int i=>cases h;cases n;exact .int _
 | str x=>cases h;cases n;exact .str _
 | lst xs=>cases h;obtain ⟨a,ws,rfl,e,_⟩:=n;exact .lst (r.sub _ _ e)
 | tup xs=>cases h;obtain ⟨a,ws,rfl,e,_⟩:=n;exact .tup (r.sub _ _ e)
 | _=>cases h
theorem Br{G:Hp}{L:List Addr}{d:Dt}{v:V}{t:Value}(n:Den K G L d v)(h:GY d=some t):Eh v=some t:=by
 cases d with
 | ty T=>cases n;exact h
 | ref C=>cases n;exact h
 | _=>cases h
end
section
variable{X:Cx}{R:St→XK}{o a e e1 e2:Expr}{es:List Expr}{to ta te:DE}{t:DA}{name:Str}{apos cpos pos p p2:Pos}{T id:String}
theorem oi:bootBuiltins "int"=some (.type "int"):=by decide+kernel
theorem wJ:bootBuiltins "abs"=some (.builtin "abs"):=by decide+kernel
theorem wH:bootBuiltins "any"=some (.builtin "any"):=by decide+kernel
theorem ip:bootBuiltins "isinstance"=some (.builtin "isinstance"):=by decide+kernel
theorem tD:bootBuiltins "bool"=some (.type "bool"):=by decide+kernel
theorem qa:bootBuiltins "tuple"=some (.type "tuple"):=by decide+kernel
theorem kJ:bootBuiltins "list"=some (.type "list"):=by decide+kernel
theorem Ed{x:Str}{T:String}(hm:X.mg x=none)(hv:bootBuiltins x=some (.type T))(hg:Gl X x:=by rfl)(hn:x≠"__name__":=by decide)(hd:(x==("__debug__":Str))=false:=by decide):JE X R (.Name x p) (dC (.ty T)):=j_c (AA (v:= .ty T) hg hm hv rfl hn hd) fun _ _=>rfl
theorem nF{x:Str}{z:Int}(hm:∃tk,X.mg x=some (.int z tk))(hg:Gl X x:=by rfl)(hd:(x==("__debug__":Str))=false:=by decide):JE X R (.Name x p) (dC (.int z)):=let ⟨tk,hm⟩:=hm;j_c (uV (v:= .int z) hg hm ⟨tk,rfl⟩ hd) fun _ _=>rfl
end
def Its(x:Str):It:=⟨fun i _=>i < x.cps.size,fun i H v H'=>H'=H∧∃c,x.cps[i]? =some c∧v= .str ⟨#[c]⟩,fun i _=>x.cps.size≤i⟩
theorem tY{P:Program}{w:World}{K:PySem.W.Frag}{tg:Expr}(x:Str)(t:Tok)(it:Addr):dF P w K tg (Its x) [it] it (fun i h=>h.IsStrIter it "str_ascii_iterator" x t i) where
 mem:=by simp
 obj:=fun i h st b hb=>by
  have e:b=it:=by simpa using hb
  subst e
  obtain ⟨o,e,c,d⟩:=st
  exact ⟨o,e,fun v z=>by rw [d] at z;cases z⟩
 keep:=fun i h h' st k=>let ⟨o,ho,r⟩:=st;⟨o,k it (by simp) o ho,r⟩
 item:=by
  intro X hP hw hK hc i pins s σ H E I hf st hg
  subst hP hw hK
  obtain ⟨f0,f1,f2,f3,f4,f5⟩:=hf it (by simp)
  have hg:i < x.cps.size:=hg
  refine wpAny_pyNext_ascii_item st (c:=x.cps[i]) (by simp [hg]) fun h' st' sb=> ?_
  have I1:Inv X pins σ H {s with heap:=h',toks:=s.toks+1}:=I.turned (fun b o hb e=>(sb.2 b hb).trans e) f0 f1 f3 f4 f5
  obtain ⟨o,e,c,d⟩:=id st'
  exact ⟨_,rfl,vR (s:={s with heap:=h',toks:=s.toks+1}) e c d (by decide) ⟨.str ⟨#[x.cps[i]]⟩,H,I1,⟨_,rfl⟩,⟨rfl,_,by simp [hg],rfl⟩,st',fun b hb=>(hf b hb).1⟩⟩
 done:=by
  intro X hP hw hK hc i pins s σ H E I hf st hg
  subst hP hw hK
  obtain ⟨f0,f1,f2,f3,f4,f5⟩:=hf it (by simp)
  have hg:x.cps.size≤i:=hg
  exact wpAny_pyNext_ascii_end (I.ok.hd hc) st (by simp;omega) fun h' eb=>⟨rfl,I.turned (t':=s.toks) (fun b o hb e=>eb b o hb e) f0 f1 f3 f4 f5⟩
 self:=fun _ _ _ _ _ st h=>wpAny_pyIter_striter_ascii st h
theorem tX{P:Program}{w:World}{K:PySem.W.Frag}{tg:Expr}(x:Str)(t:Tok)(it:Addr):dF P w K tg (Its x) [it] it (fun i h=>h.IsStrIter it "str_iterator" x t i) where
 mem:=by simp
 obj:=fun i h st b hb=>by
  have e:b=it:=by simpa using hb
  subst e
  obtain ⟨o,e,c,d⟩:=st
  exact ⟨o,e,fun v z=>by rw [d] at z;cases z⟩
 keep:=fun i h h' st k=>let ⟨o,ho,r⟩:=st;⟨o,k it (by simp) o ho,r⟩
 item:=by
  intro X hP hw hK hc i pins s σ H E I hf st hg
  subst hP hw hK
  obtain ⟨f0,f1,f2,f3,f4,f5⟩:=hf it (by simp)
  have hg:i < x.cps.size:=hg
  refine wpAny_pyNext_wide_item st (c:=x.cps[i]) (by simp [hg]) fun h' st' sb=> ?_
  have I1:Inv X pins σ H {s with heap:=h',toks:=s.toks+1}:=I.turned (fun b o hb e=>(sb.2 b hb).trans e) f0 f1 f3 f4 f5
  obtain ⟨o,e,c,d⟩:=id st'
  exact ⟨_,rfl,vR (s:={s with heap:=h',toks:=s.toks+1}) e c d (by decide) ⟨.str ⟨#[x.cps[i]]⟩,H,I1,⟨_,rfl⟩,⟨rfl,_,by simp [hg],rfl⟩,st',fun b hb=>(hf b hb).1⟩⟩
 done:=by
  intro X hP hw hK hc i pins s σ H E I hf st hg
  subst hP hw hK
  obtain ⟨f0,f1,f2,f3,f4,f5⟩:=hf it (by simp)
  have hg:x.cps.size≤i:=hg
  exact wpAny_pyNext_wide_end (I.ok.hd hc) st (by simp;omega) fun h' eb=>⟨rfl,I.turned (t':=s.toks) (fun b o hb e=>eb b o hb e) f0 f1 f3 f4 f5⟩
 self:=fun _ _ _ _ _ st h=>wpAny_pyIter_striter_wide st h
def qt(z:Str):List Dt:=z.cps.toList.map fun c=>Dt.str ⟨#[c]⟩
theorem BK{K:PySem.W.Frag}{G:Hp}{L:List Addr}{z:Str}:Yl K (Its z) (qt z) G L where
 go :=fun i G1 L1 M1 H1 d g l r e=>by
  unfold qt at e
  rw [aak] at e
  cases q:z.cps.toList[i]? with
  | none=>rw [q] at e;cases e
  | some c=>
   rw [q] at e
   cases e
   have hi:i < z.cps.size:=by
    have:=(aaf.mp q).1
    simpa using this
   refine ⟨hi,fun v' H' ⟨eH,c',e',y⟩=> ?_⟩
   subst eH y
   have:c'=c:=by
    rw [←Array.getElem?_toList,q] at e'
    exact (aal e').symm
   subst this
   exact ⟨G1, .refl _ _ _,r,rfl⟩
 stop:=fun i G1 L1 M1 H1 g l r e=>by
  unfold qt at e
  show z.cps.size≤i
  simpa using e
def Fl(M:Ms):Dt→Option (List Dt)
 | .lst xs=>some xs
 | .tup xs=>some xs
 | .scr ns=>some (ns.map .int)
 | .kt xs=>some xs
 | .str z=>some (qt z)
 | _=>none
section
variable{X:Cx}{R:St→XK}{tg e:Expr}{te:DE}
theorem pS{pins:List (Addr×Obj)}{σ:St}{H:Hp}{s:Shared}{a:Addr}{vs:List V}{Q:It→Hp→Prop}{E:Value→Shared→Prop}(I:Inv X pins σ H s)(hq:SqL X.K H a vs)(q:Q (Itl X.K a) H):wpAny (model X.prog X.w) X.A (pyIter (.ref a)) (PIE X pins σ tg Q) E s:=by
 obtain ⟨its,rv,p,hz⟩:=I.list hq
 refine wpAny_pyIter_list p.isList ?_
 refine ⟨s.heap.objs.size,[s.heap.objs.size],_,_,H,rfl,I.kept (t':=s.toks) fun b o e=>Heap.get?_push_of_some _ e,tZ a _,⟨_,Heap.get?_push_size _ rfl,rfl,rfl⟩,fun b hb=> ?_,q⟩
 have e:b=s.heap.objs.size:=by simpa using hb
 subst e
 exact I.fpOk (aah _) (I.hok.fresh (aah _))
theorem zo{pins:List (Addr×Obj)}{σ:St}{H:Hp}{s:Shared}{a:Addr}{vs:List V}{Q:It→Hp→Prop}{E:Value→Shared→Prop}(I:Inv X pins σ H s)(hq:SqT X.K H a vs)(q:Q (Itt X.K a) H):wpAny (model X.prog X.w) X.A (pyIter (.ref a)) (PIE X pins σ tg Q) E s:=by
 obtain ⟨its,rv,p,hz⟩:=I.tuple hq
 refine wpAny_pyIter_tuple (show s.heap.IsTuple a its.toArray from p) ?_
 refine ⟨s.heap.objs.size,[s.heap.objs.size],_,_,H,rfl,I.kept (t':=s.toks) fun b o e=>Heap.get?_push_of_some _ e,rY a _,⟨_,Heap.get?_push_size _ rfl,rfl,rfl⟩,fun b hb=> ?_,q⟩
 have e:b=s.heap.objs.size:=by simpa using hb
 subst e
 exact I.fpOk (aah _) (I.hok.fresh (aah _))
theorem Dh{pins:List (Addr×Obj)}{σ:St}{H:Hp}{s:Shared}{z:Str}{t:Tok}{Q:It→Hp→Prop}{E:Value→Shared→Prop}(I:Inv X pins σ H s)(q:Q (Its z) H):wpAny (model X.prog X.w) X.A (pyIter (.str z t)) (PIE X pins σ tg Q) E s:=by
 have fp:∀b∈[s.heap.objs.size],tG X pins H b:=fun b hb=>by
  have e:b=s.heap.objs.size:=by simpa using hb
  subst e
  exact I.fpOk (aah _) (I.hok.fresh (aah _))
 cases ha:z.cps.all (· < 128)
 ·exact wpAny_pyIter_wide ha ⟨s.heap.objs.size,[s.heap.objs.size],_,_,H,rfl,I.kept (t':=s.toks) fun b o e=>Heap.get?_push_of_some _ e,tX z t _,⟨_,Heap.get?_push_size _ rfl,rfl,rfl⟩,fp,q⟩
 ·exact wpAny_pyIter_ascii ha ⟨s.heap.objs.size,[s.heap.objs.size],_,_,H,rfl,I.kept (t':=s.toks) fun b o e=>Heap.get?_push_of_some _ e,tY z t _,⟨_,Heap.get?_push_size _ rfl,rfl,rfl⟩,fp,q⟩
end
def FY:DF:=fun ds _ q _=>∃ns:List Int,ds=[.scr ns]∧ns.length≤63∧∀M',q (.bl true) M'
def uh(K:PySem.W.Frag):Sp:=fun vs H Q _=>∃(a:Addr) (ns:List Int),vs=[.ref a]∧SqL K H a (ns.map V.int)∧ns.length≤63∧∀H',Q (.bl true) H'
theorem CP{P:Program}{w:World}{K:PySem.W.Frag}{mg:Str→Option Value}{base:Heap}{k:Nat}{f:Addr}{fd:FuncData}{x:Str}(F:bK P w K mg base (CX1 P w) k f fd [x] (spD K FY)):bK P w K mg base CX0 k f fd [x] (uh K):=by
 have sp:∀vs H Q E,uh K vs H Q E→spD K FY vs H Q E0:=by
  rintro vs H Q E ⟨a,ns,rfl,hS,hl,hQ⟩
  refine ⟨H,[],[.scr ns],[],fun d _=>d= .bl true,fun _ _ _=>False,⟨.refl _,rfl,List.nodup_nil,fun k a m h=>by simp at h⟩,⟨_,_,rfl,⟨a,rfl,hS⟩,rfl⟩,⟨ns,rfl,hl,fun _=>rfl⟩,fun v H' ⟨d,G',L',M',_,_,n,e⟩=> ?_,fun _ _ _ _ _ _ _ h=>h.elim⟩
  subst e
  rw [show v=V.bl true from n]
  exact hQ H'
 refine ⟨fun vs H Q E h=>F.len vs H Q E0 (sp vs H Q E h),fun A outer s H args us vs Q E hr he hb hv h=>codeAny_mono (F.run A outer s H args us vs Q E0 hr he hb hv (sp vs H Q E h)) fun r s' hq=> ?_⟩
 cases r with
 | error e=>
  obtain ⟨_,_,_,_,_,_,_,_,hE⟩:=hq
  exact hE.elim
 | ok fl=>cases fl <;> exact hq
def B2(c:DT)(tb:DS):DS:=fun Dn ρ M=>∃W:Nat→En→Ms→Prop,(∃m,W m ρ M)∧∀m ρ M,W m ρ M→
 c ρ M (fun b M1=>(b=true→∃N:En→Ms→Prop,(∀ρ' M',N ρ' M'→∃m',m' < m∧W m' ρ' M')∧tb {Dn with nx:=N,ct:=N,bk:=Dn.nx} ρ M1)∧(b=false→Dn.nx ρ M1)) Dn.x
def Ht(i j:Nat)(t:DA):DS:=fun Dn ρ M=>t ρ M (fun ds M1=>match ds with
 | [a,b]=>Dn.nx ((ρ.set i (some a)).set j (some b)) M1
 | _=>False) Dn.x
section
variable{X:Cx}{R:St→XK}{c a b:Expr}{body:List Stmt}{tc:DT}{tb:DS}{pos:Pos}
theorem qW(hc:JT X R c tc)(hb:JSs X R body tb)(hp:PassesOwn (model X.prog X.w) X.A X.env X.xe:=by first | exact PassesOwn.never | exact PassesOwn.leaving):JS X R (.While c body [] pos) (B2 tc tb):= .of (xC hp hc hb) fun σ H G L ρ M Dn rl n h hx=>by
 obtain ⟨W,⟨m0,w0⟩,turn⟩:=h
 refine ⟨fun m σ' H'=>iH X.K G L H (W m) σ' H',⟨m0,ρ,G,L,M, .refl _ _ _,rl,n,w0⟩,fun m σ' H' ⟨ρ',G',L',M',e',r',n',w'⟩=> ?_⟩
 refine ⟨G',L',ρ',M',_,_,r',n',turn m ρ' M' w',hx.on e',fun v H1 ⟨G1,L1,M1,e1,r1,h1⟩=> ?_⟩
 cases v with
 | true=>
  obtain ⟨N,hN,hb⟩:=h1.1 rfl
  refine Df ⟨iH X.K G L H N,fun σ2 H2 ⟨ρ2,G2,L2,M2,e2,r2,n2,h2⟩=> ?_, ?_⟩
  ·obtain ⟨m',hm,w2⟩:=hN ρ2 M2 h2
   exact ⟨m',hm,ρ2,G2,L2,M2,e2,r2,n2,w2⟩
  ·have e01:=e'.trans e1
   exact ⟨G1,L1,ρ',M1,_,r1,n'.mono e1,hb,hx.on e01,⟨fun _ _ f=>iH.back e01 f,fun _ _ f=>Fin.back e01 f,fun _ _ f=>iH.back e01 f,fun _ _ f=>iH.back e01 f⟩⟩
 | false=>exact Dg ⟨ρ',G1,L1,M1,e'.trans e1,r1,n'.mono e1,h1.2 rfl⟩
theorem zj{i j:Nat}{x y:Str}{t:DA}{px py pt:Pos}{kt k2 pt2}(hN:X.N.Nodup)(hi:X.N[i]? =some x)(hj:X.N[j]? =some y)(ha:JA X R [a,b] t)(hij:i≠j:=by decide)
  (hx:X.env.scope.names.lookup x=some .local:=by rfl) (hy:X.env.scope.names.lookup y=some .local:=by rfl)
  (hw:swappedStores [.Tuple [.Name x px, .Name y py] kt pt] (.Tuple [a,b] k2 pt2) X.env=pure (some [x,y]):=by rfl) (hc:X.calm=true:=by rfl)
  (hs:swapsWithSole [.Tuple [.Name x px, .Name y py] kt pt] (.Tuple [a,b] k2 pt2) pos.line X.env=pure false:=by rfl):
  JS X R (.Assign [.Tuple [.Name x px, .Name y py] kt pt] (.Tuple [a,b] k2 pt2) pos) (Ht i j t):= .of (Cj hc hN hi hj hij hx hy ha hw hs) fun σ H G L ρ M Dn rl n h hx=>by
 refine ⟨G,L,ρ,M,_,_,rl,n,h,hx,fun vs H1 ⟨ds,G1,L1,M1,e1,r1,n1,h1⟩=> ?_⟩
 (try dsimp only at h1)
 split at h1
 ·obtain ⟨v,u,rfl,m1,m2⟩:=fG n1
  exact ⟨v,u,rfl,_,G1,L1,M1,e1,r1,((n.mono e1).set i m1).set j m2,h1⟩
 ·exact h1.elim
end
section
variable{X:Cx}{R:St→XK}{e e2 o:Expr}{es:List Expr}{t:DA}{to ta tb:DE}{a b:Expr}{p pos apos cpos:Pos}
theorem yc(hm:X.mg "abs"=none)(ha:JA X R [e] t)(he:starEach [e] X.env=(false,eval e X.env)::starEach [] X.env:=by rfl)(hpl:(backTo pos (starEach [] X.env)).any (·.1)=false:=by rfl)(hg:Gl X "abs":=by rfl):JE X R (.Call (.Name "abs" p) [e] [] pos) (dFn FE t):=
 g7 yz Ig hm wJ ha hg (by decide) (by decide) he hpl
theorem Fi(hm:X.mg "any"=none)(ha:JA X R [e] t)(hc:X.calm=true:=by rfl)(he:starEach [e] X.env=(false,eval e X.env)::starEach [] X.env:=by rfl)(hpl:(backTo pos (starEach [] X.env)).any (·.1)=false:=by rfl)(hg:Gl X "any":=by rfl):JE X R (.Call (.Name "any" p) [e] [] pos) (dFn FC t):=
 g7 (yx hc) Ia hm wH ha hg (by decide) (by decide) he hpl
theorem C6(hm:X.mg "int"=none)(ha:JA X R [e] t)(he:starEach [e] X.env=(false,eval e X.env)::starEach [] X.env:=by rfl)(hpl:(backTo pos (starEach [] X.env)).any (·.1)=false:=by rfl)(hg:Gl X "int":=by rfl):JE X R (.Call (.Name "int" p) [e] [] pos) (dFn zz t):=
 lY (wD.or og) HK hm oi ha hg (by decide) (by decide) he hpl
end
theorem nZ{te:DE}{cs:En}{f:Dt→Dt}{M:Ms}{k:List Dt→Ms→Prop}:∀(xs acc:List Dt),(∀x∈xs,∀q:DQ,q (f x) M→te (some x::cs) M q noX)→k (acc++xs.map f) M→wz te cs xs acc M k
 | [],acc,_,h=>by rw [List.map_nil,aa7] at h;exact h
 | x::xs,acc,ht,h=>ht x List.mem_cons_self _ (nZ xs (acc++[f x]) (fun y hy=>ht y (List.mem_cons_of_mem _ hy)) (by simpa using h))
theorem az{d y:Dt}{xs:List Dt}{i:Int}{M:Ms}{q:DQ}(hs:qv M d=some xs)(h:atI xs i=some y)(k:q y M):fIx d (.int i) M q:=by
 cases d with
 | str z=>cases hs
 | _=>
  unfold fIx
  simp only [hs,h]
  exact k
theorem aJ{d:Dt}{xs:List Dt}{M:Ms}{q:DQ}(hs:qv M d=some xs)(k:q (.int xs.length) M):ik [d] M q:=by
 cases d with
 | str z=>cases hs
 | _=>
  unfold ik
  simp only [hs]
  exact k
theorem bO{α:Type}{x:α}{xs:List α}:atI (x::xs) 0=some x:=aB (j:=0) rfl
theorem uG(bs:List Bool):(List.range bs.length).all (fun i=>bs.getD i false)=bs.all id:=by
 induction bs with
 | nil=>rfl
 | cons b bs ih=>
  rw [aat,abF,abt,List.all_map,abt,←ih]
  rfl
def GA(K:PySem.W.Frag):List V→Hp→VK→Prop:=fun xs H Q=>∃(p:Addr) (bs:List Bool),xs=[.ref p]∧SqL K H p (bs.map V.bl)∧Q (.bl (bs.all id)) H
section
variable{X:Cx}
theorem yy (hc : X.calm = true) : eS X (.builtin "all") (GA X.K) := by
  intro pins s σ H xs us Q I r h
  obtain ⟨p, bs, rfl, hq, q⟩ := h
  obtain ⟨u, rfl, r1⟩ := jO r
  cases r1
  obtain ⟨its, rv, pl, hz⟩ := I.list hq
  have eits := oF rv
  subst eits
  refine call_all_walk (wpAny_pyIter_list pl.isList ?_)
  have lp : p < s.heap.objs.size := by obtain ⟨o, e, _⟩ := pl.isList; exact Heap.lt_size e
  refine ⟨s.heap.objs.size, _, _, _, _, _, fun i => bs.getD i false, rfl, Walks.list (show X.A.in1.handled = none from I.ok.hd hc) s.heap.objs.size p (aaz lp) (bs.map Value.bool).toArray, ⟨⟨_, Heap.get?_push_size _ rfl, rfl, rfl⟩, pl.isList.at fun o e => Heap.get?_push_of_some _ e⟩, qr, fun h' tk hk => ?_⟩
  refine ⟨.bl (bs.all id), H, I.kept fun b o e => hk b o (fun z => by have : b = s.heap.objs.size := by simpa using z
                                                                      exact aaW _ (this ▸ Heap.lt_size e)) (Heap.get?_push_of_some _ e), ?_, q⟩
  rw [aas, aac, uG]
  rfl
end
def FD:List Dt→Ms→DQ→Prop
 | [.lst xs],M,q=>∃bs:List Bool,xs=bs.map Dt.bl∧q (.bl (bs.all id)) M
 | _,_,_=>False
theorem Ib{K:PySem.W.Frag}:CaD K (GA K) FD:=by
 intro G0 L0 H0 G L M H vs ds q e r n h
 unfold FD at h
 split at h
 ·rename_i xs
  obtain ⟨bs,rfl,h⟩:=h
  obtain ⟨v,rfl,n1⟩:=bw n
  obtain ⟨a,ws,rfl,e1,m⟩:=n1
  exact ⟨a,bs,rfl,by rw [←iC m];exact .of (r.sub _ _ e1),b9 e r h⟩
 ·exact h.elim
def EH(i j:Nat)(t:DE):DS:=fun Dn ρ M=>t ρ M (fun d M1=>match d with
 | .tup [a,b]=>Dn.nx ((ρ.set i (some a)).set j (some b)) M1
 | _=>False) Dn.x
section
variable{X:Cx}{R:St→XK}{e o:Expr}{es:List Expr}{t:DA}{to te:DE}{p pos apos cpos:Pos}
theorem wI:bootBuiltins "all"=some (.builtin "all"):=by decide+kernel
theorem Fj(hm:X.mg "all"=none)(ha:JA X R [e] t)(hc:X.calm=true:=by rfl)(he:starEach [e] X.env=(false,eval e X.env)::starEach [] X.env:=by rfl)(hpl:(backTo pos (starEach [] X.env)).any (·.1)=false:=by rfl)(hg:Gl X "all":=by rfl):JE X R (.Call (.Name "all" p) [e] [] pos) (dFn FD t):=
 g7 (yy hc) Ib hm wI ha hg (by decide) (by decide) he hpl
variable{i j k:Nat}{tg:Expr}
theorem A0(he:JE X R e te)(hg:PG X tg (Dk X.K 2 (ma (g8 i) (ma (g8 j) Dm))))(hs:swapsWithSole [tg] e pos.line X.env=pure false:=by rfl)(hw:swappedStores [tg] e X.env=pure none:=by rfl)
  (h1:(assignEach [tg] X.env).map (·.2)=[assign tg X.env]:=by rfl):JS X R (.Assign [tg] e pos) (EH i j te):= .of (y4 he hg hs hw h1) fun σ H G L ρ M Dn rl n h hx=>by
 refine ⟨G,L,ρ,M,_,_,rl,n,h,hx,fun v H1 ⟨d1,G1,L1,M1,e1,r1,n1,h1⟩=> ?_⟩
 (try dsimp only at h1)
 split at h1
 ·rename_i a b
  obtain ⟨p,vs,rfl,e,m⟩:=n1
  obtain ⟨v1,v2,rfl,m1,m2⟩:=fG m
  exact ⟨p,_,rfl, .inl (.inl (r1.sub _ _ e)),rfl,v1,_,rfl,v2,_,rfl,rfl,_,G1,L1,M1,e1,r1,((n.mono e1).set i m1).set j m2,h1⟩
 ·exact h1.elim
end
mutual
def Dt.under(n:Nat):Dt→Prop
 | .non=>True
 | .bl _=>True
 | .int _=>True
 | .str _=>True
 | .tup ds=>Dt.underL n ds
 | .lst ds=>Dt.underL n ds
 | .obj _ _ ds=>Dt.underL n ds
 | .loc k=>k < n
 | .ref _=>True
 | .ty _=>True
 | .scr _=>True
 | .kt ds=>Dt.underL n ds
 | .exc _ _ ds=>Dt.underL n ds
 | .exn _ _ _ _ ds=>Dt.underL n ds
def Dt.underL(n:Nat):List Dt→Prop
 | []=>True
 | d::ds=>Dt.under n d∧Dt.underL n ds
end
def MO.under(n:Nat):MO→Prop
 | .lst ds=>Dt.underL n ds
 | .ins _ _ ds=>Dt.underL n ds
 | .dct _ ds=>Dt.underL n ds
mutual
inductive Frz(n:Nat)(E:Ms):Dt→Dt→Prop
 | old {d:Dt} (h:d.under n):Frz n E d d
 | tup {ds es:List Dt} (h:mw n E ds es):Frz n E (.tup ds) (.tup es)
 | lst {ds es:List Dt} (h:mw n E ds es):Frz n E (.lst ds) (.lst es)
 | obj {C:Addr} {ns:List Str} {ds es:List Dt} (h:mw n E ds es):Frz n E (.obj C ns ds) (.obj C ns es)
 | newL {k:Nat} {ds es:List Dt} (hk:n≤k) (e:E[k - n]? =some (.lst ds)) (h:mw n E ds es):Frz n E (.loc k) (.lst es)
 | newO {k:Nat} {C:Addr} {ns:List Str} {ds es:List Dt} (hk:n≤k) (e:E[k - n]? =some (.ins C ns ds)) (h:mw n E ds es):Frz n E (.loc k) (.obj C ns es)
inductive mw(n:Nat)(E:Ms):List Dt→List Dt→Prop
 | nil:mw n E [] []
 | cons {d e:Dt} {ds es:List Dt} (h:Frz n E d e) (t:mw n E ds es):mw n E (d::ds) (e::es)
end
theorem mw.length{n:Nat}{E:Ms}:∀{ds es:List Dt},mw n E ds es→ds.length=es.length
 | [],es,h=>by cases h;rfl
 | d::ds,es,h=>by
  cases h with
  | cons h t=>rw [aat,aat,mw.length t]
theorem mw.old{n:Nat}{E:Ms}:∀{ds:List Dt},Dt.underL n ds→mw n E ds ds
 | [],_=> .nil
 | _::_,h=> .cons (.old h.1) (mw.old h.2)
section
variable{K:PySem.W.Frag}{G G':Hp}{L0 t:List Addr}{n:Nat}
mutual
theorem nV(hn:L0.length=n)(g:gf G G'):∀(d:Dt) (v:V),d.under n→Den K G (L0++t) d v→Den K G' L0 d v
 | .non,_,_,h=>h
 | .bl _,_,_,h=>h
 | .int _,_,_,h=>h
 | .str _,_,_,h=>h
 | .tup ds,_,u,⟨a,vs,e,h1,h2⟩=>⟨a,vs,e,g _ _ h1,bC hn g ds vs u h2⟩
 | .lst ds,_,u,⟨a,vs,e,h1,h2⟩=>⟨a,vs,e,g _ _ h1,bC hn g ds vs u h2⟩
 | .obj C ns ds,_,u,⟨a,dx,vs,e,h1,hl,h2⟩=>⟨a,dx,vs,e,g _ _ h1,hl,bC hn g ds vs u h2⟩
 | .loc k,_,u,⟨a,e,h1⟩=>⟨a,e,by
   have u:k < n:=u
   rwa [aar (by rw [hn];exact u)] at h1⟩
 | .ref _,_,_,h=>h
 | .ty _,_,_,h=>h
 | .scr _,_,_,⟨a,e,h1⟩=>⟨a,e,g.seq h1⟩
 | .kt ds,_,u,⟨a,vs,e,h1,h2⟩=>⟨a,vs,e,g.sqT h1,bC hn g ds vs u h2⟩
 | .exc _ _ ds,_,u,⟨a,od,vs,e,h1,h2,h3,h4⟩=>⟨a,od,vs,e,g _ _ h1,h2.imp (fun z=>z) (fun ⟨dx,z1,z2⟩=>⟨dx,z1,g _ _ z2⟩),h3,bC hn g ds vs u h4⟩
 | .exn _ _ _ _ ds,_,u,⟨vs,e,h2,h3,h4⟩=>⟨vs,e,h2.imp (fun z=>z) (fun ⟨dx,z1,z2⟩=>⟨dx,z1,g _ _ z2⟩),h3,bC hn g ds vs u h4⟩
theorem bC(hn:L0.length=n)(g:gf G G'):∀(ds:List Dt) (vs:List V),Dt.underL n ds→aT K G (L0++t) ds vs→aT K G' L0 ds vs
 | [],_,_,h=>h
 | d::ds,_,u,⟨v,r,e,h1,h2⟩=>⟨v,r,e,nV hn g d v u.1 h1,bC hn g ds r u.2 h2⟩
end
theorem vm{H:Hp}{a:Addr}(hn:L0.length=n)(g:gf G G'){m:MO}(u:m.under n)(h:MOk K G (L0++t) H a m):MOk K G' L0 H a m:=by
 cases m with
 | lst ds=>obtain ⟨vs,e,h⟩:=h;exact ⟨vs,e,bC hn g _ _ u h⟩
 | ins C ns ds=>obtain ⟨dx,vs,e,hl,h⟩:=h;exact ⟨dx,vs,e,hl,bC hn g _ _ u h⟩
 | dct ks ds=>obtain ⟨vs,e,hl,h⟩:=h;exact ⟨vs,e,hl,bC hn g _ _ u h⟩
end
open Classical in
noncomputable def tK(G H:Hp)(t:List Addr):Hp:=fun b=>if b∈t then H b else G b
theorem u6{G H:Hp}{t:List Addr}{b:Addr}(h:b∈t):tK G H t b=H b:=by unfold tK;rw [if_pos h]
theorem iy{G H:Hp}{t:List Addr}{b:Addr}(h:b∉t):tK G H t b=G b:=by unfold tK;rw [if_neg h]
section
variable{K:PySem.W.Frag}{G:Hp}{L0 t:List Addr}{M0 E:Ms}{H:Hp}
theorem ff(r:Rl K G (L0++t) (M0++E) H):gf G (tK G H t):=fun b u e=>by
 by_cases hb:b∈t
 ·obtain ⟨_,_,_,_,g,_⟩:=r.at_mem (a:=b) (aav _ hb)
  rw [g] at e;cases e
 ·rw [iy hb];exact e
theorem zx(r:Rl K G (L0++t) (M0++E) H)(hn:L0.length=M0.length){k:Nat}{a:Addr}{m:MO}(hk:M0.length≤k)(e:(L0++t)[k]? =some a)(em:E[k - M0.length]? =some m):tK G H t a=H a∧MOk K G (L0++t) H a m:=by
 have e2:(M0++E)[k]? =some m:=by rw [aaw hk];exact em
 obtain ⟨_,q⟩:=r.ats k a m e e2
 rw [aaw (by rw [hn];exact hk)] at e
 exact ⟨u6 (aaj e),q⟩
theorem A9(r:Rl K G (L0++t) (M0++E) H)(hn:L0.length=M0.length){d d':Dt}(f:Frz M0.length E d d'):∀v,Den K G (L0++t) d v→Den K (tK G H t) L0 d' v:=by
 refine Frz.rec (motive_1:=fun d d' _=>∀v,Den K G (L0++t) d v→Den K (tK G H t) L0 d' v) (motive_2:=fun ds es _=>∀vs,aT K G (L0++t) ds vs→aT K (tK G H t) L0 es vs) ?_ ?_ ?_ ?_ ?_ ?_ ?_ ?_ f
 ·exact fun {d} u v h=>nV hn (ff r) d v u h
 ·exact fun {ds es} f ih v ⟨a,vs,e,h1,h2⟩=>⟨a,vs,e,ff r _ _ h1,ih vs h2⟩
 ·exact fun {ds es} f ih v ⟨a,vs,e,h1,h2⟩=>⟨a,vs,e,ff r _ _ h1,ih vs h2⟩
 ·exact fun {C ns ds es} f ih v ⟨a,dx,vs,e,h1,hl,h2⟩=>⟨a,dx,vs,e,ff r _ _ h1,hl.trans f.length,ih vs h2⟩
 ·intro k ds es hk em f ih v ⟨a,e,h1⟩
  obtain ⟨o,vs,e1,h2⟩:=zx r hn hk h1 em
  exact ⟨a,vs,e,o.trans e1,ih vs h2⟩
 ·intro k C ns ds es hk em f ih v ⟨a,e,h1⟩
  obtain ⟨o,dx,vs,e1,hl,h2⟩:=zx r hn hk h1 em
  exact ⟨a,dx,vs,e,o.trans e1,hl.trans f.length,ih vs h2⟩
 ·exact fun vs h=>h
 ·exact fun {d e ds es} f t ih1 ih2 vs ⟨v,r,e,h1,h2⟩=>⟨v,r,e,ih1 v h1,ih2 r h2⟩
end
def HP(n:Nat)(q:DQ):DQ:=fun d M=>∃M' E d',M=M'++E∧M'.length=n∧(∀m∈M',MO.under n m)∧Frz n E d d'∧q d' M'
theorem Fin.frz{K:PySem.W.Frag}{G0:Hp}{L0:List Addr}{M0:Ms}{H0:Hp}{q:DQ}{v:V}{H:Hp}(r0:Rl K G0 L0 M0 H0)(f:Fin K G0 L0 H0 (HP M0.length q) v H):Fin K G0 L0 H0 q v H:=by
 obtain ⟨d,G,L,M,ex,r,dn,M',E,d',rfl,hl,hu,fz,hq⟩:=f
 obtain ⟨t,rfl⟩:=ex.l
 have hn:L0.length=M'.length:=by rw [hl];exact r0.len
 have dis:∀b,b∈L0→b∉t:=fun b h1 h2=>(List.nodup_append.mp r.nd).2.2 b h1 b h2 rfl
 have sm:=ff r
 refine ⟨d',tK G H t,L0,M',⟨ex.g.trans sm, .refl _,fun b h1 h2=> ?_,ex.out,fun b h=> .inl h,ex.dom⟩,⟨fun b u e=> ?_,hn,(List.nodup_append.mp r.nd).1,fun k a m h1 h2=> ?_⟩,A9 r hn (hl▸fz) v dn,hq⟩
 ·have hb:b∉t:=fun z=>(ex.new b (aav _ z)).elim (fun y=>dis b y z) h2
  rw [iy hb];exact ex.fr b h1 h2
 ·by_cases hb:b∈t
  ·rw [u6 hb] at e;exact e
  ·rw [iy hb] at e;exact r.sub b u e
 ·have k1:k < L0.length:=(aaf.mp h1).1
  have e1:(L0++t)[k]? =some a:=by rw [aar k1];exact h1
  have e2:(M'++E)[k]? =some m:=by rw [aar (by rw [←hn];exact k1)];exact h2
  obtain ⟨g,q⟩:=r.ats k a m e1 e2
  exact ⟨by rw [iy (dis a (aaj h1))];exact g,vm (n:=M'.length) hn sm (by rw [hl];exact hu m (aaj h2)) q⟩
section
variable{X:Cx}{R:St→XK}{e:Expr}{t:DE}
theorem eI{st:Stmt}:JS X R st (fun _ _ _=>False):=fun _ _ _ _ _ _ ⟨_,_,_,_,_,_,_,h,_,_⟩=>h.elim
end
def yQ(C:Addr)(m:Str)(sp:Sp)(dvs:List V)(R:St→XK)(ta:TE)(t:TA):TE:=fun σ H Q=>ta σ H fun x H1=>∃a dx fs,x= .ref a∧H1 a=some (.ins C dx fs)∧fs.lookup m=none∧
 t σ H1 fun vs H2=>sp (x::(vs++dvs)) H2 Q (R σ)
def BQ(C:Addr)(sp:Sp)(dvs:List V)(R:St→XK)(t:TA):TE:=fun σ H Q=>t σ H fun vs H1=>∀x dx,H1 x=none→H1 dx=none→dx≠x→
 sp (.ref x::(vs++dvs)) (upd (upd H1 dx (.own x)) x (.ins C dx [])) (fun v H2=>v= .non∧Q (.ref x) H2) (R σ)
section
variable{X:Cx}{CX:CXT}{k:Nat}{f C:Addr}{fd:FuncData}{ps:List Str}{sp:Sp}{dvs:List V}{ds:List Value}{R:St→XK}{x m:Str}{p pos apos:Pos}{e o:Expr}{es:List Expr}{ta:TE}{t:TA}
theorem xG{pl:Sem Bool}(he:PE X o ta)(c:Cls X.K C)(hm:Ej X.K C m f)(F:bK X.prog X.w X.K X.mg X.base CX k f fd ps sp)(hr:dN k X.A)(hb:ir X.K fd ps ds)(hd:bF dvs ds)(hx:cX CX X R)(ha:PA X (e::es) t)
  (hst:starEach (e::es) X.env=(false,eval e X.env)::starEach es X.env:=by rfl) (hpl:(backTo pos (starEach es X.env)).any (·.1)=false:=by rfl)
  (ht:eval (.Call (.Attribute o m apos) (e::es) [] pos) X.env=(do
   let ov←eval o X.env
   standAt apos.atName
   let (f,first)←holding [ov] (getMethod ov m pl)
   callWith pos f first (backTo pos (starEach (e::es) X.env)) (backToKw pos (keywordEach [] X.env))):=by rfl):
  PE X (.Call (.Attribute o m apos) (e::es) [] pos) (yQ C m sp dvs R ta t):=by
 intro pins s σ H Q I h
 refine PySem.W.methodCall_KW (pl:=pl) (thn (he pins s σ H _ I h) fun u s1 ⟨x,H1,I1,rx,a,dx,fs,ex,ea,l,q⟩=> ?_) ht
 subst ex
 obtain rfl:u=Value.ref a:=rx
 refine kD I1 ea c hm l ?_
 refine PySem.W.callWith_K (first:=[.ref a]) (h₀:=X.base) I.ok.mod.kin hm.kp (thn (ha pos pins s1 σ H1 _ I1 q) fun us s2 ⟨vs,H2,I2,r,q2⟩=>⟨I2.kIn, ?_⟩) hst hpl
 exact oS (us:= .ref a::us) (vs:= .ref a::vs) F hr hb hd hx I2 (.cons rfl r) q2
theorem uU{pl:Sem Bool}(he:PE X o ta)(c:Cls X.K C)(hm:Ej X.K C m f)(F:bK X.prog X.w X.K X.mg X.base CX k f fd ps sp)(hr:dN k X.A)(hb:ir X.K fd ps ds)(hd:bF dvs ds)(hx:cX CX X R)
  (ht:eval (.Call (.Attribute o m apos) [] [] pos) X.env=(do
   let ov←eval o X.env
   standAt apos.atName
   let (f,first)←holding [ov] (getMethod ov m pl)
   callWith pos f first (backTo pos (starEach [] X.env)) (backToKw pos (keywordEach [] X.env))):=by rfl):
  PE X (.Call (.Attribute o m apos) [] [] pos) (yQ C m sp dvs R ta Gk):=by
 intro pins s σ H Q I h
 refine PySem.W.methodCall_KW (pl:=pl) (thn (he pins s σ H _ I h) fun u s1 ⟨x,H1,I1,rx,a,dx,fs,ex,ea,l,q⟩=> ?_) ht
 subst ex
 obtain rfl:u=Value.ref a:=rx
 refine kD I1 ea c hm l ?_
 exact PySem.W.callWith_K0 (first:=[.ref a]) I1.kIn hm.kp (oS (us:=[.ref a]) (vs:=[.ref a]) F hr hb hd hx I1 (.cons rfl .nil) q)
theorem uz{pins:List (Addr×Obj)}{σ:St}{H:Hp}{s:Shared}{Q:VK}{us:List Value}{vs:List V}(M:Mk X.K C f)(F:bK X.prog X.w X.K X.mg X.base CX k f fd ps sp)(hr:dN (k+1) X.A)(hb:ir X.K fd ps ds)(hd:bF dvs ds)
  (hx:cX CX X R) (I:Inv X pins σ H s) (r:bF vs us)
  (h:∀x dx,H x=none→H dx=none→dx≠x→sp (.ref x::(vs++dvs)) (upd (upd H dx (.own x)) x (.ins C dx [])) (fun v H2=>v= .non∧Q (.ref x) H2) (R σ)):
  wpAny (model X.prog X.w) X.A (call (.ref C) us) (EP X pins σ Q) X.xe s:=by
 have hq:=h (s.heap.objs.size+1) s.heap.objs.size (I.hok.fresh (Nat.le_succ _)) (I.hok.fresh (aah _)) (aaz (abi _))
 have I2:=Inv.made (C:=C) I
 have r2:bF (V.ref (s.heap.objs.size+1)::(vs++dvs)) (Value.ref (s.heap.objs.size+1)::(us++ds)):= .cons rfl (r.append hd)
 have hl:(Value.ref (s.heap.objs.size+1)::us++ds).length=ps.length:=by
  have e:=r2.length
  rw [F.len _ _ _ _ hq] at e
  exact e.symm
 refine wpAny_call (xX (f:=f) I.kIn M.makes M.init (beq_iff_eq.mp M.fn) (codeAny_mono (F.run _ X.stack _ _ ⟨Value.ref (s.heap.objs.size+1)::us,[]⟩ (Value.ref (s.heap.objs.size+1)::(us++ds)) _ _ (R σ) (hr.make C us [])
  (I2.env0.make C us []) (hb _ (Value.ref (s.heap.objs.size+1)::us) I2.kIn hl) r2 hq) fun r s' hq'=> ?_))
 cases r with
 | error e=>exact hx pins σ _ _ e s' I2 hq'
 | ok fl=>
  cases fl with
  | ret u=>
   obtain ⟨v,H',I3,rv,ev,q3⟩:=I2.after hq'
   subst ev
   exact ⟨rv,⟨V.ref (s.heap.objs.size+1),H',I3,rfl,q3⟩⟩
  | next=>exact False.elim hq'
  | brk=>exact False.elim hq'
  | cont=>exact False.elim hq'
theorem xH(M:Mk X.K C f)(F:bK X.prog X.w X.K X.mg X.base CX k f fd ps sp)(hr:dN (k+1) X.A)(hg:Gl X x)(hm:X.mg x=some (.ref C))(hb:ir X.K fd ps ds)(hd:bF dvs ds)(hx:cX CX X R)
  (ha:PA X (e::es) t) (hdb:(x==("__debug__":Str))=false:=by decide) (he:starEach (e::es) X.env=(false,eval e X.env)::starEach es X.env:=by rfl) (hpl:(backTo pos (starEach es X.env)).any (·.1)=false:=by rfl):
  PE X (.Call (.Name x p) (e::es) [] pos) (BQ C sp dvs R t):=by
 intro pins s σ H Q I h
 refine wpAny_Call_Name_kw (lS I hg hm ?_ hdb)
 refine PySem.W.callWith_K (h₀:=X.base) I.ok.mod.kin M.kp (thn (ha pos pins s σ H _ I h) fun us s1 ⟨vs,H1,I1,r,q⟩=>⟨I1.kIn, ?_⟩) he hpl
 exact uz M F hr hb hd hx I1 r q
end
def Gb(C:Addr)(M:Ms)(d:Dt)(ns:List Str)(ds:List Dt):Prop:=d= .obj C ns ds∨∃k,d= .loc k∧M[k]? =some (.ins C ns ds)
section
variable{K:PySem.W.Frag}{G:Hp}{L:List Addr}{M:Ms}{H:Hp}{C:Addr}{d:Dt}{v:V}{ns:List Str}{ds:List Dt}
theorem AL(r:Rl K G L M H)(n:Den K G L d v)(o:Gb C M d ns ds):∃a dx vs,v= .ref a∧H a=some (.ins C dx (ns.zip vs))∧ns.length=ds.length∧aT K G L ds vs:=by
 rcases o with rfl | ⟨k,rfl,hm⟩
 ·obtain ⟨a,dx,vs,e,h1,hl,h2⟩:=n
  exact ⟨a,dx,vs,e,r.sub _ _ h1,hl,h2⟩
 ·obtain ⟨a,e,h1⟩:=n
  obtain ⟨_,dx,vs,h2,hl,h3⟩:=r.ats k a _ h1 hm
  exact ⟨a,dx,vs,e,h2,hl,h3⟩
theorem ql{f:Str}:∀{ns:List Str} {ds:List Dt} {vs:List V} {d:Dt},aT K G L ds vs→(ns.zip ds).lookup f=some d→∃v,(ns.zip vs).lookup f=some v∧Den K G L d v
 | [],_,_,_,_,h=>by simp at h
 | _::_,[],_,_,_,h=>by simp at h
 | g::ns,d::ds,_,d',⟨v,r,rfl,h1,h2⟩,h=>by
  rw [aaQ,abq] at h
  rw [aaQ,abq]
  cases q:f==g with
  | true=>rw [q] at h;cases h;exact ⟨v,rfl,h1⟩
  | false=>rw [q] at h;exact ql h2 h
theorem kO{f:Str}:∀{ns:List Str} {ds:List Dt} {vs:List V},aT K G L ds vs→(ns.zip ds).lookup f=none→(ns.zip vs).lookup f=none
 | [],_,_,_,_=>by simp
 | _::_,[],_,h,_=>by
  have h:_=_:=h
  subst h;simp
 | g::ns,d::ds,_,⟨v,r,rfl,h1,h2⟩,h=>by
  rw [aaQ,abq] at h
  rw [aaQ,abq]
  cases q:f==g with
  | true=>rw [q] at h;cases h
  | false=>rw [q] at h;exact kO h2 h
theorem qD{f:Str}{v:V}:∀{ns:List Str} {vs:List V},ns.length=vs.length→f∉ns→my f v (ns.zip vs)=(ns++[f]).zip (vs++[v])
 | [],[],_,_=>rfl
 | g::ns,x::vs,hl,h=>by
  have hg:¬g=f:=fun z=>h (by rw [z];exact aae)
  show (if g=f then (g,v)::ns.zip vs else (g,x)::my f v (ns.zip vs))=(g,x)::(ns++[f]).zip (vs++[v])
  rw [if_neg hg,qD (by simpa using hl) fun z=>h (List.mem_cons_of_mem _ z)]
 | [],_::_,hl,_=>by simp at hl
 | _::_,[],hl,_=>by simp at hl
end
def HX(C:Addr)(f:Str)(t:DE):DE:=fun ρ M q x=>t ρ M (fun d M1=>∃ns ds v,Gb C M1 d ns ds∧(ns.zip ds).lookup f=some v∧q v M1) x
def DH(C:Addr)(m:Str)(T:DF)(to:DE)(ta:DA):DE:=fun ρ M q x=>to ρ M (fun d M1=>(∃ns ds,Gb C M1 d ns ds∧(ns.zip ds).lookup m=none)∧ta ρ M1 (fun ds M2=>T (d::ds) M2 q (fun C fs M'=>x ρ C fs M')) x) x
def FL(C:Addr)(T:DF)(ta:DA):DE:=fun ρ M q x=>ta ρ M (fun ds M1=>T (.loc M1.length::ds) (M1++[.ins C [] []]) (fun d M2=>d= .non∧q (.loc M1.length) M2) (fun C fs M'=>x ρ C fs M')) x
def B4(C:Addr)(f:Str)(to tv:DE):DS:=fun Dn ρ M=>tv ρ M (fun y M1=>to ρ M1 (fun d M2=>∃k ns ds,d= .loc k∧M2[k]? =some (.ins C ns ds)∧f∉ns∧ns.length < 1000∧Dn.nx ρ (M2.set k (.ins C (ns++[f]) (ds++[y])))) Dn.x) Dn.x
structure mv(P:Program)(w:World)(K:PySem.W.Frag)(mg:Str→Option Value)(base:Heap)(k:Nat)(C:Addr)(m:Str)(ps:List Str)(T:DF)(f:Addr)(fd:FuncData):Prop where
 ok:bK P w K mg base (CX1 P w) k f fd ps (spD K T)
 b:ir K fd ps []
 c:Cls K C
 m:Ej K C m f
structure Gf(P:Program)(w:World)(K:PySem.W.Frag)(mg:Str→Option Value)(base:Heap)(k:Nat)(x:Str)(C:Addr)(ps:List Str)(T:DF)(f:Addr)(fd:FuncData):Prop where
 ok:bK P w K mg base (CX1 P w) k f fd ps (spD K T)
 b:ir K fd ps []
 k:Mk K C f
 m:mg x=some (.ref C)
section
variable{X:Cx}{R:St→XK}{C:Addr}{f m x:Str}{T:DF}{k k':Nat}{a:Addr}{fd:FuncData}{ps:List Str}{e o value:Expr}{es:List Expr}{pos pos' apos p:Pos}{to te tv:DE}{ta:DA}
theorem vE(c:Cls X.K C)(n:fQ X.K C f)(he:JE X R e te)(hb:attributeBase e f X.env (eval e X.env)=eval e X.env:=by rfl):JE X R (.Attribute e f pos) (HX C f te):=
 .of (Cu he hb) fun σ H G L ρ M q x rl en h hx=>by
  refine ⟨G,L,ρ,M,_,x,rl,en,h,hx,fun v H1 ⟨d1,G1,L1,M1,e1,r1,n1,ns,ds,y,ob,hl,h1⟩=> ?_⟩
  obtain ⟨p,dx,vs,rfl,hp,_,dn⟩:=AL r1 n1 ob
  obtain ⟨u,hu,du⟩:=ql dn hl
  exact ⟨p,C,dx,_,u,rfl,hp,c,n,hu,y,G1,L1,M1,e1,r1,du,h1⟩
theorem h7{pl:Sem Bool}(D:mv X.prog X.w X.K X.mg X.base k C m ps T a fd)(hr:dN k' X.A)(hx:cX (CX1 X.prog X.w) X R)(ho:JE X R o to)(ha:JA X R (e::es) ta)(hk:k≤k':=by decide)
  (hst:starEach (e::es) X.env=(false,eval e X.env)::starEach es X.env:=by rfl) (hpl:(backTo pos (starEach es X.env)).any (·.1)=false:=by rfl)
  (ht:eval (.Call (.Attribute o m apos) (e::es) [] pos) X.env=(do
   let ov←eval o X.env
   standAt apos.atName
   let (f,first)←holding [ov] (getMethod ov m pl)
   callWith pos f first (backTo pos (starEach (e::es) X.env)) (backToKw pos (keywordEach [] X.env))):=by rfl):
  JE X R (.Call (.Attribute o m apos) (e::es) [] pos) (DH C m T to ta):=
 .of (xG (pl:=pl) ho D.c D.m D.ok (hr.mono hk) D.b .nil hx ha hst hpl ht) fun σ H G L ρ M q x rl en h hx=>by
  refine ⟨G,L,ρ,M,_,x,rl,en,h,hx,fun v H1 ⟨d1,G1,L1,M1,e1,r1,n1,⟨ns,ds,ob,hl⟩,h1⟩=> ?_⟩
  obtain ⟨p,dx,vs,rfl,hp,_,dn⟩:=AL r1 n1 ob
  refine ⟨p,dx,_,rfl,hp,kO dn hl,G1,L1,ρ,M1,_,x,r1,en.mono e1,h1,hx.on e1,fun us H2 ⟨ds2,G2,L2,M2,e2,r2,n2,h2⟩=> ?_⟩
  show spD X.K T (V.ref p::(us++[])) H2 _ _
  rw [aa7]
  have e12:=e1.trans e2
  exact ⟨G2,L2,d1::ds2,M2,q,_,r2,⟨_,_,rfl,Den.mono e2.g e2.l _ _ n1,n2⟩,h2,fun v H' f=>Fin.back e12 f,fun C fs M' G' L' H' od hq e' r' y=>hx σ ρ C fs M' G' L' H' od hq (e12.trans e') r' (en.mono (e12.trans e')) y⟩
theorem jo{pl:Sem Bool}(D:mv X.prog X.w X.K X.mg X.base k C m ps T a fd)(hr:dN k' X.A)(hx:cX (CX1 X.prog X.w) X R)(ho:JE X R o to)(hk:k≤k':=by decide)
  (ht:eval (.Call (.Attribute o m apos) [] [] pos) X.env=(do
   let ov←eval o X.env
   standAt apos.atName
   let (f,first)←holding [ov] (getMethod ov m pl)
   callWith pos f first (backTo pos (starEach [] X.env)) (backToKw pos (keywordEach [] X.env))):=by rfl):
  JE X R (.Call (.Attribute o m apos) [] [] pos) (DH C m T to FV):=
 .of (uU (pl:=pl) ho D.c D.m D.ok (hr.mono hk) D.b .nil hx ht) fun σ H G L ρ M q x rl en h hx=>by
  refine ⟨G,L,ρ,M,_,x,rl,en,h,hx,fun v H1 ⟨d1,G1,L1,M1,e1,r1,n1,⟨ns,ds,ob,hl⟩,h1⟩=> ?_⟩
  obtain ⟨p,dx,vs,rfl,hp,_,dn⟩:=AL r1 n1 ob
  refine ⟨p,dx,_,rfl,hp,kO dn hl, ?_⟩
  show spD X.K T (V.ref p::([]++[])) H1 _ _
  exact ⟨G1,L1,[d1],M1,q,_,r1,⟨_,_,rfl,n1,rfl⟩,h1,fun v H' f=>Fin.back e1 f,fun C fs M' G' L' H' od hq e' r' y=>hx σ ρ C fs M' G' L' H' od hq (e1.trans e') r' (en.mono (e1.trans e')) y⟩
theorem C5(D:Gf X.prog X.w X.K X.mg X.base k x C ps T a fd)(hr:dN k' X.A)(hx:cX (CX1 X.prog X.w) X R)(ha:JA X R (e::es) ta)(hk:k+1≤k':=by decide)(hg:Gl X x:=by rfl)(hdb:(x==("__debug__":Str))=false:=by decide)
  (he:starEach (e::es) X.env=(false,eval e X.env)::starEach es X.env:=by rfl) (hpl:(backTo pos (starEach es X.env)).any (·.1)=false:=by rfl):JE X R (.Call (.Name x p) (e::es) [] pos) (FL C T ta):=
 .of (xH D.k D.ok (hr.mono hk) hg D.m D.b .nil hx ha hdb he hpl) fun σ H G L ρ M q x rl en h hx=>by
  refine ⟨G,L,ρ,M,_,x,rl,en,h,hx,fun vs H1 ⟨ds,G1,L1,M1,e1,r1,n1,h1⟩ y dx hy hdx hne=> ?_⟩
  show spD X.K T (V.ref y::(vs++[])) _ _ _
  rw [aa7]
  have ra:=r1.newG (o:= .own y) hdx
  have ea:=r1.exG (o:= .own y) hdx
  have hy2:upd H1 dx (HO.own y) y=none:=by rw [aw (Ne.symm hne)];exact hy
  have rb:=ra.newM (p:=y) (o:= .ins C dx []) (m:= .ins C [] []) hy2 ⟨dx,[],aD,rfl,rfl⟩
  have eb:=ra.exM (p:=y) (o:= .ins C dx []) hy2
  have e2:=ea.trans eb
  have e12:=e1.trans e2
  refine ⟨_,_, .loc M1.length::ds,_,_,_,rb,⟨_,_,rfl,⟨y,rfl, ?_⟩,aT.mono e2.g e2.l _ _ n1⟩,h1,fun v H' ⟨d,G',L',M',e',r',dn,hd,hq⟩=> ?_,fun C fs M' G' L' H' od hq e' r' z=>hx σ ρ C fs M' G' L' H' od hq (e12.trans e') r' (en.mono (e12.trans e')) z⟩
  ·rw [←r1.len,List.getElem?_append_right (Nat.le_refl _)];simp
  ·subst hd
   refine ⟨dn, .loc M1.length,G',L',M',e12.trans e',r',⟨y,rfl,e'.l.get ?_⟩,hq⟩
   rw [←r1.len,List.getElem?_append_right (Nat.le_refl _)];simp
theorem vz(c:Cls X.K C)(n:fQ X.K C f)(ho:JE X R o to)(hv:JE X R value tv)(hs:swapsWith value (some (.Attribute o f pos')) pos.line X.env=pure false:=by rfl):JS X R (.Assign [.Attribute o f pos'] value pos) (B4 C f to tv):=
 .of (Ck ho hv hs) fun σ H G L ρ M Dn rl en h hx=>by
  refine ⟨G,L,ρ,M,_,_,rl,en,h,hx,fun y H1 ⟨dy,G1,L1,M1,e1,r1,n1,h1⟩=> ?_⟩
  refine ⟨G1,L1,ρ,M1,_,_,r1,en.mono e1,h1,hx.on e1,fun u H2 ⟨du,G2,L2,M2,e2,r2,n2,k,ns,ds,ed,hm,hf,hz,h2⟩=> ?_⟩
  subst ed
  obtain ⟨p,rfl,hp⟩:=n2
  obtain ⟨_,dx,vs,hH,hl,dn⟩:=r2.ats k p _ hp hm
  have hlv:ns.length=vs.length:=hl.trans dn.length
  refine ⟨p,C,dx,_,rfl,hH,c,n,by rw [aaY,←hlv,ab1];exact hz, ?_⟩
  rw [qD hlv hf]
  exact ⟨ρ,G2,L2,_,(e1.trans e2).trans (r2.exS hp),r2.setM (m:= .ins C (ns++[f]) (ds++[dy])) hp ⟨dx,_,aD,by rw [aai,aai,hl];rfl,dn.app ⟨_,_,rfl,Den.mono e2.g e2.l _ _ n1,rfl⟩⟩,(en.mono (e1.trans e2)).mono (r2.exS (o:= .own p) hp),h2⟩
end
def sX:List Dt→Ms→DQ→Prop
 | [d],M,q=>match qv M d with
  | some xs=>q (.loc M.length) (M++[.lst xs])
  | none=>False
 | _,_,_=>False
section
variable{K:PySem.W.Frag}
theorem E9:CaD K (fun xs H Q=>∃p ys,xs=[V.ref p]∧(SqL K H p ys∨SqT K H p ys)∧∀l,H l=none→Q (.ref l) (upd H l (.lst ys))) sX:=by
 intro G0 L0 H0 G L M H vs ds q e r n h
 unfold sX at h
 split at h
 ·rename_i d
  obtain ⟨v,rfl,n1⟩:=bw n
  split at h
  ·rename_i xs hs
   obtain ⟨a,us,rfl,hq,dn⟩:=kS r n1 hs
   exact ⟨a,us,rfl,hq,fun l hl=>fZ e r hl dn h⟩
  ·exact h.elim
 ·exact h.elim
end
section
variable{X:Cx}{R:St→XK}{e o i value:Expr}{t:DA}{to ti tv:DE}{p pos apos cpos tpos:Pos}
theorem nE(hm:X.mg "list"=none)(ha:JA X R [e] t)(hg:Gl X "list":=by rfl)(he:starEach [e] X.env=(false,eval e X.env)::starEach [] X.env:=by rfl)(hpl:(backTo pos (starEach [] X.env)).any (·.1)=false:=by rfl):JE X R (.Call (.Name "list" p) [e] [] pos) (dFn sX t):=
 lY n8 E9 hm kJ ha hg (by decide) (by decide) he hpl
def HY(to:DE)(t:DA):DE:=fun ρ M q x=>to ρ M (fun d M1=>(∃k xs,d= .loc k∧M1[k]? =some (.lst xs))∧t ρ M1 (fun ds M2=>∃k xs y,d= .loc k∧ds=[y]∧M2[k]? =some (.lst xs)∧xs.length < sizeLine∧q .non (M2.set k (.lst (xs++[y])))) x) x
theorem eL(ho:JE X R o to)(ha:JA X R [e] t)(hbase:attributeBase o "append" X.env (eval o X.env)=eval o X.env:=by rfl)
  (hfew:((backTo cpos (starEach [e] X.env)).all (fun x=> !x.1)&&(backToKw cpos (keywordEach [] X.env)).all (fun x=>x.1.isSome)
   &&decide (([e]:List Expr).length+([]:List Keyword).length+(if ([]:List Keyword).isEmpty then 0 else 1) < 30))=true:=by rfl)
  (hline:(apos.endLine==cpos.line)=true:=by rfl) (hs:starEach [e] X.env=(false,eval e X.env)::starEach [] X.env:=by rfl) (hplain:(backTo cpos (starEach [] X.env)).any (·.1)=false:=by rfl):
  JE X R (.Call (.Attribute o "append" apos) [e] [] cpos) (HY to t):=
 .of (EX PySem.F.plainAttrs_list PySem.F.slot_list_append PySem.F.type_list_append (r:=uH) jd ho ha hbase hfew hline hs hplain) fun σ H G L ρ M q x rl n h hx=>by
  refine ⟨G,L,ρ,M,_,x,rl,n,h,hx,fun v H1 ⟨d1,G1,L1,M1,e1,r1,n1,⟨k,xs,ed,hm⟩,h1⟩=> ?_⟩
  subst ed
  obtain ⟨a,rfl,hk⟩:=n1
  obtain ⟨_,vs,hH,_⟩:=r1.ats k a _ hk hm
  refine ⟨.inl ⟨rfl,vs, .of hH⟩,G1,L1,ρ,M1,_,x,r1,n.mono e1,h1,hx.on e1,fun us H2 ⟨ds,G2,L2,M2,e2,r2,n2,k',xs',y,ek,ed,hm2,hz,h2⟩=> ?_⟩
  cases ek
  subst ed
  obtain ⟨u,rfl,n3⟩:=bw n2
  have hk2:=e2.l.get hk
  obtain ⟨_,vs2,hH2,dn2⟩:=r2.ats k a _ hk2 hm2
  refine ⟨a,vs2,u,rfl,rfl,hH2,by rw [←dn2.length];exact hz, .non,G2,L2,_,(e1.trans e2).trans (r2.exS hk2),r2.setM (m:= .lst (xs'++[y])) hk2 ⟨_,aD,dn2.app ⟨_,_,rfl,n3,rfl⟩⟩,rfl,h2⟩
def mT(to ti tv:DE):DS:=fun Dn ρ M=>tv ρ M (fun y M1=>to ρ M1 (fun d M2=>ti ρ M2 (fun di M3=>∃k i xs j,d= .loc k∧di= .int i∧M3[k]? =some (.lst xs)∧ixN xs.length i=some j∧Dn.nx ρ (M3.set k (.lst (xs.set j y)))) Dn.x) Dn.x) Dn.x
theorem gA(ho:JE X R o to)(hi:JE X R i ti)(hv:JE X R value tv)(hs:swapsWithSole [.Subscript o i tpos] value pos.line X.env=pure false:=by rfl)(hw:swappedStores [.Subscript o i tpos] value X.env=pure none:=by rfl)
  (h1:(assignEach [.Subscript o i tpos] X.env).map (·.2)=[assign (.Subscript o i tpos) X.env]:=by rfl)
  (ha:∀v,assign (.Subscript o i tpos) X.env v=(do
   let ov←holding [v] (eval o X.env)
   let iv←holding [v,ov] (eval i X.env)
   standAt tpos
   holding [v,ov,iv] (setItem ov iv v)
   release [v,ov,iv] []):=by intro _;rfl):JS X R (.Assign [.Subscript o i tpos] value pos) (mT to ti tv):=
 .of (y4 hv (Cn (t:=B7) ho hi xx ha) hs hw h1) fun σ H G L ρ M Dn rl n h hx=>by
  refine ⟨G,L,ρ,M,_,_,rl,n,h,hx,fun v H1 ⟨dv,G1,L1,M1,e1,r1,n1,h1⟩=> ?_⟩
  refine ⟨G1,L1,ρ,M1,_,_,r1,n.mono e1,h1,hx.on e1,fun ov H2 ⟨d,G2,L2,M2,e2,r2,n2,h2⟩=> ?_⟩
  refine ⟨G2,L2,ρ,M2,_,_,r2,(n.mono e1).mono e2,h2,(hx.on e1).on e2,fun iv H3 ⟨di,G3,L3,M3,e3,r3,n3,k,i,xs,j,ed,ei,hm,hj,h3⟩=> ?_⟩
  subst ed ei
  obtain ⟨a,rfl,hk⟩:=n2
  have n3:iv= .int i:=n3
  subst n3
  have hk3:=e3.l.get hk
  obtain ⟨_,vs,hH,dn⟩:=r3.ats k a _ hk3 hm
  have e23:=e2.trans e3
  have dv3:=Den.mono e23.g e23.l _ _ n1
  refine ⟨a,vs,i,j,rfl,rfl,hH,by rw [←dn.length];exact hj,ρ,G3,L3,_,((e1.trans e2).trans e3).trans (r3.exS hk3),r3.setM (m:= .lst (xs.set j dv)) hk3 ⟨_,aD, .of (uM dv3 j dn.pair)⟩,(((n.mono e1).mono e2).mono e3).mono (r3.exS (o:= .own a) hk3),h3⟩
end
abbrev DK:=En→Ms→(List Dt→(Ms→Prop)→Ms→Prop)→DX→Prop
structure YlK(K:PySem.W.Frag)(J:It)(xs:List Dt)(ok:Ms→Prop)(G0:Hp)(L0:List Addr):Prop where
 go:∀(i:Nat) G L M H (d:Dt),gf G0 G→Pre L0 L→Rl K G L M H→ok M→xs[i]? =some d→J.go i H∧∀v H',J.yld i H v H'→∃G',Ex G L H G' L H'∧Rl K G' L M H'∧Den K G' L d v
 stop:∀(i:Nat) G L M H,gf G0 G→Pre L0 L→Rl K G L M H→ok M→xs.length≤i→J.stop i H
inductive Ij(K:PySem.W.Frag)(G0:Hp)(L0:List Addr)(H0:Hp)(q:List Dt→(Ms→Prop)→Ms→Prop)(J:It)(H:Hp):Prop
 | mk (xs:List Dt) (ok:Ms→Prop) (G:Hp) (L:List Addr) (M:Ms) (e:Ex G0 L0 H0 G L H) (r:Rl K G L M H) (y:YlK K J xs ok G L) (h:q xs ok M)
inductive Eb(K:PySem.W.Frag)(R:St→XK)(t:DK)(σ:St)(H:Hp)(Q:It→Hp→Prop):Prop
 | mk (G:Hp) (L:List Addr) (ρ:En) (M:Ms) (q:List Dt→(Ms→Prop)→Ms→Prop) (x:DX) (r:Rl K G L M H) (n:EnD K G L ρ σ) (h:t ρ M q x) (hx:XOk K G L H R x) (hQ:∀J H1,Ij K G L H q J H1→Q J H1)
def JK(X:Cx)(R:St→XK)(tg iter:Expr)(t:DK):Prop:=PI X tg iter (Eb X.K R t)
structure Src(K:PySem.W.Frag)(a:Addr)(xs:List Dt)(ok:Ms→Prop)(G0:Hp)(L0:List Addr):Prop where
 at_:∀G L M H,gf G0 G→Pre L0 L→Rl K G L M H→ok M→∃vs,SqL K H a vs∧aT K G L xs vs
def oy(M:Ms):Dt→Option (List Dt×(Ms→Prop))
 | .lst xs=>some (xs,fun _=>True)
 | .scr ns=>some (ns.map .int,fun _=>True)
 | .loc k=>match M[k]? with
  | some (.lst xs)=>some (xs,fun M'=>M'[k]? =some (.lst xs))
  | _=>none
 | _=>none
theorem mL{K:PySem.W.Frag}{G:Hp}{L:List Addr}{M:Ms}{H:Hp}{d:Dt}{v:V}{xs:List Dt}{ok:Ms→Prop}(r:Rl K G L M H)(n:Den K G L d v)(h:oy M d=some (xs,ok)):∃a vs,v= .ref a∧SqL K H a vs∧Src K a xs ok G L∧ok M:=by
 cases d with
 | lst ds=>
  cases h
  obtain ⟨a,vs,rfl,e,m⟩:=n
  exact ⟨a,vs,rfl, .of (r.sub _ _ e),⟨fun G' L' M' H' g l r' _=>⟨vs, .of (r'.sub _ _ (g _ _ e)),aT.mono g l _ _ m⟩⟩,trivial⟩
 | scr ns=>
  cases h
  obtain ⟨a,rfl,e⟩:=n
  exact ⟨a,_,rfl,r.sub.seq e,⟨fun G' L' M' H' g l r' _=>⟨_,r'.sub.seq (g.seq e),fq⟩⟩,trivial⟩
 | loc k=>
  obtain ⟨a,rfl,e⟩:=n
  have h:(match M[k]? with | some (.lst xs)=>some (xs,fun M':Ms=>M'[k]? =some (.lst xs)) | _=>none)=some (xs,ok):=h
  split at h
  ·rename_i ys hm
   cases h
   obtain ⟨_,vs,e1,m1⟩:=r.ats k a _ e hm
   refine ⟨a,vs,rfl, .of e1,⟨fun G' L' M' H' g l r' hk=> ?_⟩,hm⟩
   obtain ⟨_,vs2,e2,m2⟩:=r'.ats k a _ (l.get e) hk
   exact ⟨vs2, .of e2,m2⟩
  ·cases h
 | _=>cases h
theorem xm{K:PySem.W.Frag}{G:Hp}{L:List Addr}{a:Addr}{xs:List Dt}{ok:Ms→Prop}(s:Src K a xs ok G L):YlK K (Itl K a) xs ok G L where
 go:=fun i G1 L1 M1 H1 d g l r k e=>by
  obtain ⟨vs,hs,n⟩:=s.at_ G1 L1 M1 H1 g l r k
  obtain ⟨v,e1,n1⟩:=n.get e
  exact ⟨⟨vs,v,hs,e1⟩,fun v' H' ⟨eH,y⟩=>by
   subst eH
   have e2:=y vs hs
   rw [e1] at e2;cases e2
   exact ⟨G1, .refl _ _ _,r,n1⟩⟩
 stop:=fun i G1 L1 M1 H1 g l r k e=>by
  obtain ⟨vs,hs,n⟩:=s.at_ G1 L1 M1 H1 g l r k
  exact ⟨vs,hs,by rw [←n.length];exact e⟩
def pR(M:Ms):Dt→Option (List Dt×(Ms→Prop))
 | .loc k=>oy M (.loc k)
 | d=>(Fl M d).map fun xs=>(xs,fun _=>True)
def gB(t:DE):DK:=fun ρ M q x=>t ρ M (fun d M1=>match pR M1 d with
 | some (xs,ok)=>q xs ok M1
 | none=>False) x
theorem cG{X:Cx}{R:St→XK}{tg e:Expr}{te:DE}(h:JE X R e te):JK X R tg e (gB te):=by
 intro pins s σ H Q I ⟨G,L,ρ,M,q,x,rl,n,ht,hx,hQ⟩
 refine thn (h pins s σ H (Fin X.K G L H _) I ⟨G,L,ρ,M,_,x,rl,n,ht,hx,fun _ _ f=>f⟩) fun u s1 ⟨v,H1,I1,rv,d,G1,L1,M1,e1,r1,n1,h1⟩=> ?_
 (try dsimp only at h1)
 cases hi:pR M1 d with
 | none=>rw [hi] at h1;exact h1.elim
 | some p=>
  obtain ⟨xs,ok⟩:=p
  rw [hi] at h1
  have fin:∀J,YlK X.K J xs ok G1 L1→Q J H1:=fun J y=>hQ J H1 ⟨xs,ok,G1,L1,M1,e1,r1,y,h1⟩
  have up:∀{J},ok=(fun _=>True)→Yl X.K J xs G1 L1→YlK X.K J xs ok G1 L1:=fun eo y=>by
   subst eo
   exact ⟨fun i G L M H d g l r _ e=>y.go i G L M H d g l r e,fun i G L M H g l r _ e=>y.stop i G L M H g l r e⟩
  cases d with
  | loc k=>
   obtain ⟨a,vs,rfl,hs,sr,_⟩:=mL r1 n1 hi
   cases rv
   exact pS I1 hs (fin _ (xm sr))
  | lst ds=>
   cases hi
   obtain ⟨a,vs,rfl,e,m⟩:=n1
   cases rv
   exact pS I1 (vs:=vs) (.of (r1.sub _ _ e)) (fin _ (up rfl (tQ (fun G' g=> .of (g _ _ e)) m)))
  | scr ns=>
   cases hi
   obtain ⟨a,rfl,e⟩:=n1
   cases rv
   exact pS I1 (r1.sub.seq e) (fin _ (up rfl (tQ (fun G' g=>g.seq e) fq)))
  | tup ds=>
   cases hi
   obtain ⟨a,vs,rfl,e,m⟩:=n1
   cases rv
   exact zo I1 (vs:=vs) (.of (r1.sub _ _ e)) (fin _ (up rfl (yJ (fun G' g=> .of (g _ _ e)) m)))
  | kt ds=>
   cases hi
   obtain ⟨a,vs,rfl,e,m⟩:=n1
   cases rv
   exact zo I1 (r1.sub.sqT e) (fin _ (up rfl (yJ (fun G' g=>g.sqT e) m)))
  | str z=>
   cases hi
   cases n1
   obtain ⟨t,rfl⟩:=rv
   exact Dh I1 (fin _ (up rfl BK))
  | _=>cases hi
def yj(g:Dt→En→(En→Prop)→Prop)(tb:DS)(Dn:ow)(ok:Ms→Prop):List Dt→En→Ms→Prop
 | [],ρ,M=>ok M∧Dn.nx ρ M
 | x::xs,ρ,M=>ok M∧g x ρ fun ρ'=>tb {Dn with nx:=yj g tb Dn ok xs,ct:=yj g tb Dn ok xs,bk:=Dn.nx} ρ' M
def uv(ti:DK)(g:Dt→En→(En→Prop)→Prop)(tb:DS):DS:=fun Dn ρ M=>ti ρ M (fun xs ok M1=>yj g tb Dn ok xs ρ M1) Dn.x
section
variable{X:Cx}{R:St→XK}{tg iter:Expr}{body:List Stmt}{ti:DK}{gg:TG}{g:Dt→En→(En→Prop)→Prop}{tb:DS}{pos:Pos}
theorem eJ(hi:JK X R tg iter ti)(hg:PG X tg gg)(gd:GD X.K gg g)(hb:JSs X R body tb)(hp:PassesOwn (model X.prog X.w) X.A X.env X.xe:=by first | exact PassesOwn.never | exact PassesOwn.leaving)(hc:X.calm=true:=by rfl)(hs:∀x,foldedSetIterable iter X.env x=pure x:=by intro _;rfl):
  JS X R (.For tg iter body [] pos) (uv ti g tb):= .of (y3 hp hc hi hg hb hs) fun σ H G L ρ M Dn rl n h hx=>by
 refine ⟨G,L,ρ,M,_,_,rl,n,h,hx,fun J H1 ⟨xs,ok,G1,L1,M1,e1,r1,y,h1⟩=> ?_⟩
 refine ⟨fun i m σ' H'=>m+i=xs.length∧iH X.K G1 L1 H1 (fun ρ' M'=>yj g tb Dn ok (xs.drop i) ρ' M') σ' H',⟨xs.length,rfl,ρ,G1,L1,M1, .refl _ _ _,r1,n.mono e1,by rw [abO];exact h1⟩, ?_⟩
 rintro i m σ' H' ⟨hm,ρ',G',L',M',e',r',n',h'⟩
 by_cases hi:i < xs.length
 ·right
  have hd:xs[i]? =some xs[i]:=aaa hi
  rw [aaU hi] at h'
  obtain ⟨hok,h'⟩:=h'
  obtain ⟨go,yl⟩:=y.go i G' L' M' H' _ e'.g e'.l r' hok hd
  refine ⟨go,iH X.K G1 L1 H1 (fun ρ' M'=>yj g tb Dn ok (xs.drop (i+1)) ρ' M'),fun σ2 H2 f=>⟨m - 1,by omega,by omega,f⟩,fun v H2 hy=> ?_⟩
  obtain ⟨G2,e2,r2,n2⟩:=yl v H2 hy
  refine gd G2 L' M' H2 _ v ρ' σ' _ _ r2 n2 (n'.mono e2) h' fun ρ3 σ3 n3 h3=> ?_
  refine ⟨G2,L',ρ3,M',_,r2,n3,h3,hx.on (e1.trans (e'.trans e2)),⟨fun _ _ f=>iH.back (e'.trans e2) f,fun _ _ f=>Fin.back (e1.trans (e'.trans e2)) f,fun _ _ f=>iH.back (e1.trans (e'.trans e2)) f,fun _ _ f=>iH.back (e'.trans e2) f⟩⟩
 ·left
  rw [abm (by omega)] at h'
  exact ⟨y.stop i G' L' M' H' e'.g e'.l r' h'.1 (by omega),ρ',G',L',M',e1.trans e',r',n',h'.2⟩
end
def sZ(te:DE)(cs:En)(ok:Ms→Prop):List Dt→List Dt→Ms→(List Dt→Ms→Prop)→Prop
 | [],acc,M,k=>ok M∧k acc M
 | x::xs,acc,M,k=>ok M∧te (some x::cs) M (fun d M1=>sZ te cs ok xs (acc++[d]) M1 k) noX
def rK(ti:DK)(te:DE)(caps:List Nat):DE:=fun ρ M q x=>ti ρ M (fun xs ok M1=>xs.length≤sizeLine∧sZ te (n6 caps ρ) ok xs [] M1 (fun ys M2=>q (.lst ys) M2)) x
theorem rM{K:PySem.W.Frag}{J:It}{te:DE}{caps:List Nat}{ρ:En}{σ:St}{G1:Hp}{L1:List Addr}{M1:Ms}{H1:Hp}{xs:List Dt}{ok:Ms→Prop}{Dl:Addr}{Q:VK}{k:List Dt→Ms→Prop}(r1:Rl K G1 L1 M1 H1)(n:EnD K G1 L1 ρ σ)(y:YlK K J xs ok G1 L1)(hD:H1 Dl=none)(hz:xs.length≤sizeLine)
  (h:sZ te (n6 caps ρ) ok xs [] M1 k)
  (fin:∀G2 L2 M2 H2 ds vs,Ex G1 L1 H1 G2 L2 H2→Rl K G2 L2 M2 H2→G2 Dl=none→Dl∉L2→H2 Dl=some (.lst vs)→aT K G2 L2 ds vs→k ds M2→Q (.ref Dl) H2):
  yH J (tL K (fun _=>E0) te) (gG caps σ) Q H1 Dl:=by
 refine ⟨fun i m ys H2=>m+i=xs.length∧H2 Dl=some (.lst ys)∧∃acc G2 L2 M2,Ex G1 L1 H1 G2 L2 H2∧Rl K G2 L2 M2 H2∧G2 Dl=none∧Dl∉L2∧aT K G2 L2 acc ys∧acc.length=i∧sZ te (n6 caps ρ) ok (xs.drop i) acc M2 k,⟨xs.length,rfl,aD,[],G1,L1,M1, ?_⟩, ?_⟩
 ·have gn:G1 Dl=none:=r1.sub.free hD
  refine ⟨⟨.refl _, .refl _,fun _ h _=>h,fun b u h1 _=>by rw [aw (fun z=>by rw [z,hD] at h1;cases h1)];exact h1,fun _ h=> .inl h,fun b h=>by rw [aw (fun z=>h (by rw [z];exact hD))];exact h⟩,⟨fun b u e=>by rw [aw (fun z=>by rw [z,gn] at e;cases e)];exact r1.sub b u e,r1.len,r1.nd,fun i a m h1 h2=> ?_⟩,gn,r1.memN hD,rfl,rfl,by rw [abO];exact h⟩
  obtain ⟨q1,q2⟩:=r1.ats i a m h1 h2
  exact ⟨q1,q2.mono (.refl _) (.refl _) (aw fun z=>q2.there (by rw [z];exact hD))⟩
 ·rintro i m ys H2 ⟨hm,hacc,acc,G2,L2,M2,e2,r2,g2,l2,n2,la,h2⟩
  refine ⟨hacc, ?_⟩
  by_cases hi:i < xs.length
  ·right
   have hd:xs[i]? =some xs[i]:=aaa hi
   rw [aaU hi] at h2
   obtain ⟨hok,h2⟩:=h2
   obtain ⟨go,yl⟩:=y.go i G2 L2 M2 H2 _ e2.g e2.l r2 hok hd
   refine ⟨go,fun v H3 hy=> ?_⟩
   obtain ⟨G3,e3,r3,n3⟩:=yl v H3 hy
   refine ⟨G3,L2,_,M2,_,noX,r3,zF ((n.mono e2).mono e3) caps n3,h2,tR,fun v4 H4 ⟨d4,G4,L4,M4,e4,r4,n4,h4⟩=> ?_⟩
   have h3:H3 Dl=some (.lst ys):=e3.out _ _ hacc l2
   have g3:G3 Dl=none:=e3.fr _ g2 (by rw [hacc];simp)
   have h4':H4 Dl=some (.lst ys):=e4.out _ _ h3 l2
   have g4:G4 Dl=none:=e4.fr _ g3 (by rw [h3];simp)
   have l4:Dl∉L4:=fun z=>(e4.new _ z).elim l2 fun q=>by rw [h3] at q;cases q
   have e24:=e3.trans e4
   have lenys:ys.length=i:=by rw [←n2.length];exact la
   have ne1:∀{b:Addr} {u:HO},H1 b=some u→b≠Dl:=fun e z=>by rw [z,hD] at e;cases e
   refine ⟨h4',by omega,m - 1,by omega,by omega,aD,acc++[d4],G4,L4,M4, ?_, ?_,g4,l4,(aT.mono e24.g e24.l _ _ n2).app ⟨_,_,rfl,n4,rfl⟩,by rw [aai,la];rfl,h4⟩
   ·have e14:=e2.trans e24
    exact ⟨e14.g,e14.l,e14.fr,fun b u h1 h2=>by rw [aw (ne1 h1)];exact e14.out b u h1 h2,e14.new,fun b h=>by
     by_cases hb:b=Dl
     ·rw [hb,aD];simp
     ·rw [aw hb];exact e14.dom b h⟩
   ·refine ⟨fun b u e=>by rw [aw (fun z=>by rw [z,g4] at e;cases e)];exact r4.sub b u e,r4.len,r4.nd,fun i a m h1 h2=> ?_⟩
    obtain ⟨q1,q2⟩:=r4.ats i a m h1 h2
    exact ⟨q1,q2.mono (.refl _) (.refl _) (aw fun z=>l4 (by rw [←z];exact aaj h1))⟩
  ·left
   rw [abm (by omega)] at h2
   exact ⟨y.stop i G2 L2 M2 H2 e2.g e2.l r2 h2.1 (by omega),fin G2 L2 M2 H2 acc ys e2 r2 g2 l2 hacc n2 h2.2⟩
section
variable{X:Cx}{R:St→XK}{elt iter:Expr}{x:Str}{px:Pos}{scope:Scope}{pos:Pos}{ti:DK}{te:DE}{ys:List Str}{caps:List Nat}
theorem fm(S:cU X scope x ys caps)(hi:JK X R (.Name x px) iter ti)(he:∀C s H fp,JE (Cx.comp X (x::ys) scope C s H fp) (fun _=>E0) elt te)(hc:X.calm=true:=by rfl)(hs:∀x,foldedSetIterable iter X.env x=pure x:=by intro _;rfl):
  JE X R (.ListComp elt [⟨.Name x px,iter,[],0⟩] scope pos) (rK ti te caps):= .of (uW (wi:=Eb X.K R ti) (te:=tL X.K (fun _=>E0) te) S hc hi he hs) fun σ H G L ρ M q x rl n h hx=>by
 refine ⟨G,L,ρ,M,_,x,rl,n,h,hx,fun J H1 ⟨xs,ok,G1,L1,M1,e1,r1,y,hz,h1⟩ D hD=> ?_⟩
 exact rM r1 (n.mono e1) y hD hz h1 fun G2 L2 M2 H2 ds vs e2 r2 g2 l2 h2 n2 k=>Fin.back e1 (lH e2 r2 hD g2 l2 h2 n2 k)
theorem eG{i:Nat}{y:Str}{py spos:Pos}(hN:X.N.Nodup)(hiy:X.N[i]? =some y)(hy:Loc X.env.scope y)(S:cU X scope x ys caps)(hi:JK X R (.Name x px) iter ti)(he:∀C s H fp,JE (Cx.comp X (x::ys) scope C s H fp) (fun _=>E0) elt te)(hc:X.calm=true:=by rfl)
  (hsw:swapsWith (.ListComp elt [⟨.Name x px,iter,[],0⟩] scope pos) (some (.Name y py)) spos.line X.env=pure true:=by rfl) (hs:∀x,foldedSetIterable iter X.env x=pure x:=by intro _;rfl)
  (hf:X.fn y=true∨X.env.scope.names.lookup y=some .local:=by first | exact .inl rfl | exact .inr rfl | assumption):
  JS X R (.Assign [.Name y py] (.ListComp elt [⟨.Name x px,iter,[],0⟩] scope pos) spos) (EI i (rK ti te caps)):= .of (sA (wi:=Eb X.K R ti) (te:=tL X.K (fun _=>E0) te) hN hiy hy S hc hi he hsw hs hf) fun σ H G L ρ M Dn rl n h hx=>by
 refine ⟨G,L,ρ,M,_,_,rl,n,h,hx,fun J H1 ⟨xs,ok,G1,L1,M1,e1,r1,y,hz,h1⟩ D hD=> ?_⟩
 refine rM r1 (n.mono e1) y hD hz h1 fun G2 L2 M2 H2 ds vs e2 r2 g2 l2 h2 n2 k=> ?_
 obtain ⟨d,G3,L3,M3,e3,r3,n3,h3⟩:=lH (q:=fun d M=>Dn.nx (ρ.set i (some d)) M) e2 r2 hD g2 l2 h2 n2 k
 exact ⟨_,G3,L3,M3,e1.trans e3,r3,((n.mono e1).mono e3).set i n3,h3⟩
end
theorem mD:∀{ns:List Int} {us:List Value},bF (ns.map V.int) us→∃ts:List (Int×Tok),us=ts.map (fun p=>Value.int p.1 p.2)∧ts.map (·.1)=ns
 | [],_,h=>by cases h;exact ⟨[],rfl,rfl⟩
 | n::ns,_,h=>by
  cases h with
  | cons r t=>
   obtain ⟨tk,rfl⟩:=r
   obtain ⟨ts,rfl,rfl⟩:=mD t
   exact ⟨(n,tk)::ts,rfl,rfl⟩
def Gr(K:PySem.W.Frag):List V→Hp→VK→Prop:=fun xs H Q=>∃(p:Addr) (ns:List Int),xs=[.ref p]∧SqL K H p (ns.map V.int)∧Q (.int ns.sum) H
theorem yw{X:Cx}(hc:X.calm=true):eS X (.builtin "sum") (Gr X.K):=by
 intro pins s σ H xs us Q I r h
 obtain ⟨p,ns,rfl,hq,q⟩:=h
 obtain ⟨u,rfl,r1⟩:=jO r
 cases r1
 obtain ⟨its,rv,pl,hz⟩:=I.list hq
 obtain ⟨ts,rfl,rfl⟩:=mD rv
 have e:(ts.map fun p=>Value.int p.1 p.2).toArray=intItems ts.toArray:=by simp [intItems]
 have hl:=pl.isList
 rw [e] at hl
 refine sum_intListG (I.ok.hd hc) hl fun h' tk t' hk=> ?_
 refine ⟨.int (ts.map (·.1)).sum,H,I.kept hk,⟨t', ?_⟩,q⟩
 rw [preSum_eq,List.take_of_length_le (by simp)]
def Fv:List Dt→Ms→DQ→Prop
 | [d],M,q=>∃ns:List Int,qv M d=some (ns.map .int)∧(∃xs ok,oy M d=some (xs,ok))∧q (.int ns.sum) M
 | _,_,_=>False
theorem kH{K:PySem.W.Frag}{G:Hp}{L:List Addr}:∀{ns:List Int} {vs:List V},aT K G L (ns.map Dt.int) vs→vs=ns.map V.int
 | [],_,h=>h
 | _::_,_,⟨v,r,e,h1,h2⟩=>by
  have h1:v=_:=h1
  rw [e,h1,kH h2];rfl
theorem iz{M:Ms}{d:Dt}{xs:List Dt}{ok:Ms→Prop}(h:oy M d=some (xs,ok)):qv M d=some xs:=by
 cases d with
 | lst ds=>cases h;rfl
 | scr ns=>cases h;rfl
 | loc k=>
  have h:(match M[k]? with | some (.lst xs)=>some (xs,fun M':Ms=>M'[k]? =some (.lst xs)) | _=>none)=some (xs,ok):=h
  show (match M[k]? with | some (.lst xs)=>some xs | _=>none)=some xs
  split at h
  ·rename_i ys hm;cases h;rfl
  ·cases h
 | _=>cases h
theorem Hr{K:PySem.W.Frag}:CaD K (Gr K) Fv:=by
 intro G0 L0 H0 G L M H vs ds q e r n h
 unfold Fv at h
 split at h
 ·rename_i d
  obtain ⟨v,rfl,n1⟩:=bw n
  obtain ⟨ns,hs,⟨xs,ok,hl⟩,hq⟩:=h
  obtain ⟨a,us,rfl,sq,sr,hok⟩:=mL r n1 hl
  rw [iz hl] at hs
  cases hs
  obtain ⟨ws,sq2,dn⟩:=sr.at_ G L M H (.refl _) (.refl _) r hok
  rw [kH dn] at sq2
  exact ⟨a,ns,rfl,sq2, .int ns.sum,G,L,M,e,r,rfl,hq⟩
 ·exact h.elim
theorem wG:bootBuiltins "sum"=some (.builtin "sum"):=by decide+kernel
theorem tm:bootBuiltins "enumerate"=some (.type "enumerate"):=by decide+kernel
section
variable{X:Cx}{R:St→XK}{e a b:Expr}{t:DA}{ta tb:DE}{p pos:Pos}
theorem C2(hm:X.mg "sum"=none)(ha:JA X R [e] t)(hc:X.calm=true:=by rfl)(hg:Gl X "sum":=by rfl)(he:starEach [e] X.env=(false,eval e X.env)::starEach [] X.env:=by rfl)(hpl:(backTo pos (starEach [] X.env)).any (·.1)=false:=by rfl):JE X R (.Call (.Name "sum" p) [e] [] pos) (dFn Fv t):=
 g7 (yw hc) Hr hm wG ha hg (by decide) (by decide) he hpl
def GO:Dt→Dt→Ms→DQ→Prop:=fun d e M q=>∃u xs us,pW d=some u∧qv M e=some xs∧h9 xs=some us∧q (.bl (inV u us)) M
theorem HL{K:PySem.W.Frag}:OpD K (rIn K false) GO:=by
 intro G0 L0 H0 G L M H v1 v2 d1 d2 q e r n1 n2 ⟨u,xs,us,h1,h2,h3,hq⟩
 obtain ⟨rfl,fu⟩:=fF h1 n1
 obtain ⟨a,vs,rfl,sq,dn⟩:=kS r n2 h2
 obtain ⟨rfl,fs⟩:=dY h3 dn
 exact ⟨a,vs,rfl,sq,fu,fs, .bl _,G,L,M,e,r,rfl,hq⟩
theorem zi(ja:JE X R a ta)(jb:JE X R b tb)(hm:behindInMarks .In b=false:=by rfl):JT X R (.Compare a [.In] [b] pos) (tJ (dOp GO ta tb)):=hX u7 HL ja jb hm
end
theorem Inv.turnedNew{X:Cx}{pins:List (Addr×Obj)}{σ:St}{H:Hp}{s:Shared}{h':Heap}{its:List Addr}{T:Addr}{o:HO}{t':Nat}(I:Inv X pins σ H s)(k:∀b u,b∉its→s.heap.get? b=some u→h'.get? b=some u)(f:∀b∈its,tG X pins H b)(hT:s.heap.objs.size≤T)(new:cf X.prog X.w (upd H T o) h' T o):
  Inv X pins σ (upd H T o) {s with heap:=h',toks:=t'}:=by
 have hn:=I.hok.fresh hT
 have nin:∀b u,H b=some u→b∉its:=fun b u e z=>by rw [(f b z).1] at e;cases e
 refine I.call (ch:=its) (g':=s.gens) (d':=s.drawn) (t':=t') ⟨fun b u q _ _ hb=>k b u hb q,fun b u q _ _ hb=>⟨u.slots,k b u hb q⟩,fun b u q n _=> ?_,fun b u q hb=>⟨u,k b u hb q⟩,fun b xs q=> ?_,fun b u xs q=> ?_,fun b ps q=>⟨#[], ?_⟩⟩ (fun b u e=> ?_) I.bare fun b hb=> ?_
 ·rw [aw (aaz (aam (Heap.lt_size q) hT))];exact n
 ·rw [aw (bA q hn)];exact q
 ·rw [aw (bA q hn)];exact q
 ·rw [aw (bA q hn),q];simp
 ·by_cases hb:b=T
  ·subst hb;rw [aD] at e;cases e;exact new
  ·rw [aw hb] at e
   refine (I.hok b u e).stay (fun c v hc q=>k c v ?_ q) (fun c q=>by rw [aw (bA q hn)];exact q) fun c xs q=>by rw [aw (bA q hn)];exact q
   rcases hc with z | z
   ·rw [z];exact nin b u e
   ·exact nin c _ z
 ·obtain ⟨f0,f1,f2,f3,f4,f5⟩:=f b hb
  exact ⟨f3,f1,f4,f5⟩
def Ite(K:PySem.W.Frag)(l:Addr):It:=
 ⟨fun i H=>∃xs x,SqL K H l xs∧xs[i]? =some x,fun i H v H'=>∃p x,H p=none∧v= .ref p∧H'=upd H p (.tup [.int i,x])∧∀xs,SqL K H l xs→xs[i]? =some x,fun i H=>∃xs,SqL K H l xs∧xs.length≤i⟩
theorem ua{P:Program}{w:World}{K:PySem.W.Frag}{elts:List Expr}{x1:Nat}{tp:Pos}(l it e:Addr)(hne:e≠it):dF P w K (.Tuple elts x1 tp) (Ite K l) [e,it] e (fun i h=>(∃old,IsEnum h e it i old)∧h.IsListIter it l i) where
 mem:=by simp
 obj:=fun i h st b hb=>by
  obtain ⟨⟨old,he⟩,hi⟩:=st
  rcases aaG.mp hb with rfl | hb
  ·exact ⟨_,he,fun v z=>by
    have z':Data.fields _=Data.cell v:=z
    cases z'⟩
  ·have e:b=it:=by simpa using hb
   subst e
   obtain ⟨o,e,c,d⟩:=hi
   exact ⟨o,e,fun v z=>by rw [d] at z;cases z⟩
 keep:=fun i h h' st k=>by
  obtain ⟨⟨old,he⟩,hi⟩:=st
  exact ⟨⟨old,k e (by simp) _ he⟩,hi.at fun o q=>k it (by simp) o q⟩
 item:=by
  intro X hP hw hK hc i pins s σ H E I hf st hg
  subst hP hw hK
  obtain ⟨⟨old,he⟩,hi⟩:=st
  obtain ⟨xs,x,hq,hx⟩:=hg
  obtain ⟨its,rv,p,hz⟩:=I.list hq
  obtain ⟨u,hu,ru⟩:=rv.get hx
  refine wpAny_pyNext_enum_item he hi p.isList (x:=u) (by simpa using hu) hne fun h' ho hi' hT hsz hk=> ?_
  refine ⟨_,rfl,wpAny_letOwnedTupleGo_enum (s:={s with heap:=h',toks:=s.toks+1}) ho fun h2 he2 sb=> ?_⟩
  have sb:Heap.SameBut e h' h2:=sb
  have elt:e < s.heap.objs.size:=Heap.lt_size he
  have ilt:it < s.heap.objs.size:=by obtain ⟨o,q,_⟩:=hi;exact Heap.lt_size q
  have neT:s.heap.objs.size≠e:=abU elt
  have hT2:h2.get? s.heap.objs.size=some {cls:= .type "tuple",data:= .seq #[.int i s.toks,u]}:=(sb.2 _ neT).trans hT
  have I2:Inv X pins σ (upd H s.heap.objs.size (.tup [.int i,x])) {s with heap:=h2,toks:=s.toks+1}:=by
   refine I.turnedNew (its:=[e,it]) (fun b o hb q=> ?_) hf (aah _) ?_
   ·have h1:b≠e:=fun z=>hb (by simp [z])
    have h3:b≠it:=fun z=>hb (by simp [z])
    exact (sb.2 b h1).trans (hk b o h1 h3 q)
   ·refine ⟨by simp [sizeLine_eq],[.int i s.toks,u], .cons ⟨_,rfl⟩ (.cons ru .nil), ?_⟩
    exact ⟨_,hT2,rfl,0,rfl⟩
  have iter:h2.IsListIter it l (i+1):=hi'.at fun o q=>(sb.2 it (Ne.symm hne)).trans q
  refine ⟨.ref s.heap.objs.size,_,I2,rfl,⟨s.heap.objs.size,x,I.hok.fresh (Nat.le_refl _),rfl,rfl,fun ys hy=>by rw [I.list_inj hy hq];exact hx⟩,⟨⟨u,by simpa using he2⟩,iter⟩,fun b hb=> ?_⟩
  have nb:b≠s.heap.objs.size:=by
   rcases aaG.mp hb with rfl | hb
   ·exact aaz elt
   ·have:b=it:=by simpa using hb
    subst this;exact aaz ilt
  rw [aw nb];exact (hf b hb).1
 done:=by
  intro X hP hw hK hc i pins s σ H E I hf st hg
  subst hP hw hK
  obtain ⟨⟨old,he⟩,hi⟩:=st
  obtain ⟨xs,hq,hx⟩:=hg
  obtain ⟨its,rv,p,hz⟩:=I.list hq
  have hl:=rv.length
  obtain ⟨f0,f1,f2,f3,f4,f5⟩:=hf it (by simp)
  refine wpAny_pyNext_enum_end (I.ok.hd hc) he hi p.isList (by simp;omega) fun h' ext=>⟨rfl,I.turned (t':=s.toks) (fun b o hb q=>ext b o hb q) f0 f1 f3 f4 f5⟩
 self:=fun _ _ _ _ _ st h=>by
  obtain ⟨⟨old,he⟩,_⟩:=st
  exact wpAny_pyIter_enum he h
def jC:Nat→List Dt→List Dt
 | _,[]=>[]
 | n,x::xs=> .tup [.int n,x]::jC (n+1) xs
theorem ia:∀(n:Nat) (xs:List Dt),(jC n xs).length=xs.length
 | _,[]=>rfl
 | n,_::xs=>by unfold jC;rw [List.length_cons,List.length_cons,ia]
theorem nR:∀{n i:Nat} {xs:List Dt} {d:Dt},(jC n xs)[i]? =some d→∃x,xs[i]? =some x∧d= .tup [.int ((n+i:Nat):Int),x]
 | n,i,[],d,h=>by simp [jC] at h
 | n,0,x::xs,d,h=>by
  unfold jC at h
  simp at h
  exact ⟨x,rfl,by rw [←h];simp⟩
 | n,i+1,x::xs,d,h=>by
  unfold jC at h
  obtain ⟨y,h1,h2⟩:=nR (n:=n+1) (i:=i) (xs:=xs) (d:=d) (by simpa using h)
  exact ⟨y,by simpa using h1,by rw [h2,show n+1+i=n+(i+1) by omega]⟩
theorem xn{K:PySem.W.Frag}{G:Hp}{L:List Addr}{a:Addr}{xs:List Dt}{ok:Ms→Prop}(s:Src K a xs ok G L):YlK K (Ite K a) (jC 0 xs) ok G L where
 go:=fun i G1 L1 M1 H1 d g l r k e=>by
  obtain ⟨vs,hs,n⟩:=s.at_ G1 L1 M1 H1 g l r k
  obtain ⟨y,ey,rfl⟩:=nR e
  obtain ⟨v,e1,n1⟩:=n.get ey
  refine ⟨⟨vs,v,hs,e1⟩,fun v' H' ⟨p,x,hp,ev,eH,hx⟩=> ?_⟩
  subst ev eH
  have e2:=hx vs hs
  rw [e1] at e2;cases e2
  refine ⟨_,r.exG hp,r.newG hp,mh (ds:=[.int ((0+i:Nat):Int),y]) r hp ⟨_,_,rfl, ?_,_,_,rfl,n1,rfl⟩⟩
  show V.int i=V.int _
  rw [Nat.zero_add]
 stop:=fun i G1 L1 M1 H1 g l r k e=>by
  obtain ⟨vs,hs,n⟩:=s.at_ G1 L1 M1 H1 g l r k
  exact ⟨vs,hs,by rw [←n.length,←ia 0];exact e⟩
def Fq(t:DA):DK:=fun ρ M q x=>t ρ M (fun ds M1=>∃d xs ok,ds=[d]∧oy M1 d=some (xs,ok)∧q (jC 0 xs) ok M1) x
theorem vB{X:Cx}{R:St→XK}{elts:List Expr}{x1:Nat}{tp:Pos}{a:Expr}{t:DA}{p pos:Pos}(hm:X.mg "enumerate"=none)(ha:JA X R [a] t)(hg:Gl X "enumerate":=by rfl)(hs:starEach [a] X.env=[(false,eval a X.env)]:=by rfl):JK X R (.Tuple elts x1 tp) (.Call (.Name "enumerate" p) [a] [] pos) (Fq t):=by
 intro pins s σ H Q I ⟨G,L,ρ,M,q,x,rl,n,ht,hx,hQ⟩
 refine Call_ (jg I hg hm tm (PyProof.Rows.callWith_type1 (thn (ha pos pins s σ H (Ek X.K G L H _) I ⟨G,L,ρ,M,_,x,rl,n,ht,hx,fun _ _ f=>f⟩) fun us s1 ⟨vs,H1,I1,rv,ds,G1,L1,M1,e1,r1,n1,d,xs,ok,ed,hl,h1⟩=> ?_) hs rfl))
 subst ed
 obtain ⟨v,rfl,n2⟩:=bw n1
 obtain ⟨b,ws,rfl,sq,sr,_⟩:=mL r1 n2 hl
 obtain ⟨u,rfl,ru⟩:=bF.one rv
 cases ru
 obtain ⟨its,_,pl,_⟩:=I1.list sq
 refine call_enumerate_list pl.isList fun h' he hi hz hk=> ?_
 have I2:Inv X pins σ H1 {s1 with heap:=h'}:=I1.kept (t':=s1.toks) hk
 refine wpAny_pyIter_enum (s:={s1 with heap:=h'}) he ⟨s1.heap.objs.size+1,[s1.heap.objs.size+1,s1.heap.objs.size],_,_,H1,rfl,I2,ua b s1.heap.objs.size (s1.heap.objs.size+1) (abU (abi _)),⟨⟨_,he⟩,hi⟩,fun c hc=> ?_,hQ _ _ ⟨_,ok,G1,L1,M1,e1,r1,xn sr,h1⟩⟩
 have hc:s1.heap.objs.size≤c:=by
  rcases aaG.mp hc with rfl | hc
  ·exact Nat.le_succ _
  ·have:c=s1.heap.objs.size:=by simpa using hc
   rw [this];exact aah _
 have f:=I1.fpOk (H':=H1) hc (I1.hok.fresh hc)
 exact f
def x9(M:Ms):Dt→Option Value
 | .loc k=>match M[k]? with
  | some (.lst _)=>some (.type "list")
  | _=>none
 | d=>CS d
def Ds(K:PySem.W.Frag):List Dt→Ms→DQ→Prop:=fun ds M q=>∃d c t t' b,ds=[d,c]∧x9 M d=some t∧GY c=some t'∧PySem.W.kitOne K t t'=some b∧q (.bl b) M
section
variable{K:PySem.W.Frag}
theorem rX{G:Hp}{L:List Addr}{M:Ms}{H:Hp}{d:Dt}{v:V}{t:Value}(r:Rl K G L M H)(n:Den K G L d v)(h:x9 M d=some t):oz K H v t:=by
 by_cases hd:∃k,d= .loc k
 ·obtain ⟨k,rfl⟩:=hd
  obtain ⟨a,rfl,e⟩:=n
  have h:(match M[k]? with | some (.lst _)=>some (Value.type "list") | _=>none)=some t:=h
  split at h
  ·rename_i xs hm
   cases h
   obtain ⟨_,vs,e1,_⟩:=r.ats k a _ e hm
   exact .lst e1
  ·cases h
 ·refine tW r n ?_
  cases d with
  | loc k=>exact absurd ⟨k,rfl⟩ hd
  | _=>exact h
theorem Fm:CaD K (fun xs H Q=>∃x c t t' b,xs=[x,c]∧oz K H x t∧Eh c=some t'∧PySem.W.kitOne K t t'=some b∧Q (.bl b) H) (Ds K):=by
 intro G0 L0 H0 G L M H vs ds q e r n ⟨d,c,t,t',b,ed,h1,h2,hb,h⟩
 subst ed
 obtain ⟨v,u,rfl,n1,n2⟩:=fG n
 exact ⟨v,u,t,t',b,rfl,rX r n1 h1,Br n2 h2,hb,b9 e r h⟩
end
section
variable{X:Cx}{R:St→XK}{e e2:Expr}{t:DA}{p pos:Pos}
theorem qX(K:PySem.W.Frag)(hm:X.mg "isinstance"=none)(ha:JA X R [e,e2] t)(he:starEach [e,e2] X.env=(false,eval e X.env)::starEach [e2] X.env:=by rfl)(hpl:(backTo pos (starEach [e2] X.env)).any (·.1)=false:=by rfl)(hg:Gl X "isinstance":=by rfl)(hK:X.K=K:=by rfl):JE X R (.Call (.Name "isinstance" p) [e,e2] [] pos) (dFn (Ds K) t):=by
 subst hK
 exact g7 p9 Fm hm ip ha hg (by decide) (by decide) he hpl
theorem mJ:∀{zs:List Str} {us:List Value},Paired (fun (z:Str) (u:Value)=>∃tk,u= .str z tk) zs us→bF (zs.map V.str) us
 | _,_, .nil=> .nil
 | _,_, .cons h t=> .cons h (mJ t)
theorem C7{x:Str}{zs:List Str}(hm:∃a o its n,X.mg x=some (.ref a)∧X.K.lookup a=some o∧o.cls= .type "tuple"∧o.data= .seq its n∧its.size≤sizeLine∧Paired (fun (z:Str) (u:Value)=>∃tk,u= .str z tk) zs its.toList)(hg:Gl X x:=by rfl)(hd:(x==("__debug__":Str))=false:=by decide):JE X R (.Name x pos) (dC (.kt (zs.map .str))):=by
 obtain ⟨a,o,its,n,h1,h2,h3,h4,h5,h6⟩:=hm
 exact j_c (v:= .ref a) (uV hg h1 rfl hd) fun G L=>⟨a,zs.map V.str,rfl, .inr ⟨o,its,n,h2,h3,h4,h5,mJ h6⟩,nW⟩
end
theorem dZ{te:DE}{cs:En}{ok:Ms→Prop}{f:Dt→Dt}:∀{xs acc:List Dt} {M:Ms} {k:List Dt→Ms→Prop},ok M→(∀x∈xs,∀q:DQ,q (f x) M→te (some x::cs) M q noX)→k (acc++xs.map f) M→sZ te cs ok xs acc M k
 | [],acc,M,k,ho,_,h=>⟨ho,by simpa using h⟩
 | x::xs,acc,M,k,ho,hf,h=>⟨ho,hf x List.mem_cons_self _ (dZ ho (fun y hy=>hf y (List.mem_cons_of_mem _ hy)) (by simpa using h))⟩
theorem cM{g:Dt→En→(En→Prop)→Prop}{tb:DS}{Dn:ow}{ok:Ms→Prop}(J:List Dt→En→Ms→Prop)(hok:∀xs ρ M,J xs ρ M→ok M)
  (step:∀x xs ρ M,J (x::xs) ρ M→(∀ρ M,J xs ρ M→yj g tb Dn ok xs ρ M)→g x ρ fun ρ'=>tb {Dn with nx:=yj g tb Dn ok xs,ct:=yj g tb Dn ok xs,bk:=Dn.nx} ρ' M)
  (fin:∀ρ M,J [] ρ M→Dn.nx ρ M):∀(xs:List Dt) (ρ:En) (M:Ms),J xs ρ M→yj g tb Dn ok xs ρ M
 | [],ρ,M,h=>⟨hok _ _ _ h,fin _ _ h⟩
 | x::xs,ρ,M,h=>⟨hok _ _ _ h,step x xs ρ M h fun ρ' M' h'=>cM J hok step fin xs ρ' M' h'⟩
section
variable{K:PySem.W.Frag}{G:Hp}{L:List Addr}
mutual
theorem DC:∀(d:Dt) (v:V),Den K G L d v→d.under L.length
 | .non,_,_=>trivial
 | .bl _,_,_=>trivial
 | .int _,_,_=>trivial
 | .str _,_,_=>trivial
 | .tup ds,_,⟨a,vs,e,h1,h2⟩=>dM ds vs h2
 | .lst ds,_,⟨a,vs,e,h1,h2⟩=>dM ds vs h2
 | .obj C ns ds,_,⟨a,dx,vs,e,h1,hl,h2⟩=>dM ds vs h2
 | .loc k,_,⟨a,e,h1⟩=>(aaf.mp h1).1
 | .ref _,_,_=>trivial
 | .ty _,_,_=>trivial
 | .scr _,_,_=>trivial
 | .kt ds,_,⟨a,vs,e,h1,h2⟩=>dM ds vs h2
 | .exc _ _ ds,_,⟨a,od,vs,e,h1,h2,h3,h4⟩=>dM ds vs h4
 | .exn _ _ _ _ ds,_,⟨vs,e,h2,h3,h4⟩=>dM ds vs h4
theorem dM:∀(ds:List Dt) (vs:List V),aT K G L ds vs→Dt.underL L.length ds
 | [],_,_=>trivial
 | d::ds,_,⟨v,r,e,h1,h2⟩=>⟨DC d v h1,dM ds r h2⟩
end
theorem Rl.un{M:Ms}{H:Hp}(r:Rl K G L M H):∀m∈M,MO.under M.length m:=fun m hm=>by
 obtain ⟨k,hk,e⟩:=aa3 hm
 have em:M[k]? =some m:=by rw [aaa hk,e]
 have el:L[k]? =some (L[k]'(by rw [r.len];exact hk)):=aaa _
 obtain ⟨_,q⟩:=r.ats k _ m el em
 rw [←r.len]
 cases m with
 | lst ds=>obtain ⟨vs,_,h⟩:=q;exact dM _ _ h
 | ins C ns ds=>obtain ⟨dx,vs,_,_,h⟩:=q;exact dM _ _ h
 | dct ks ds=>obtain ⟨vs,_,_,h⟩:=q;exact dM _ _ h
end
def frzU(M0:Ms)(q:DQ):DQ:=fun d M=>∃E d',M=M0++E∧Frz M0.length E d d'∧q d' M0
theorem Fin.frzU{K:PySem.W.Frag}{G0:Hp}{L0:List Addr}{M0:Ms}{H0:Hp}{q:DQ}{v:V}{H:Hp}(r0:Rl K G0 L0 M0 H0)(f:Fin K G0 L0 H0 (frzU M0 q) v H):Fin K G0 L0 H0 q v H:=by
 obtain ⟨d,G,L,M,ex,r,dn,E,d',e,fz,hq⟩:=f
 exact Fin.frz r0 ⟨d,G,L,M,ex,r,dn,M0,E,d',e,rfl,r0.un,fz,hq⟩
def dFz(t:DE):DE:=fun ρ M q x=>t ρ M (frzU M q) x
theorem da{X:Cx}{R:St→XK}{e:Expr}{t:DE}(h:JE X R e t):JE X R e (dFz t):= .of h fun σ H G L ρ M q x rl n ht hx=>⟨G,L,ρ,M,_,x,rl,n,ht,hx,fun v H1 f=>Fin.frzU rl f⟩
theorem A7{M0:Ms}{q:DQ}{d:Dt}(hu:d.under M0.length)(h:q d M0):frzU M0 q d M0:=⟨[],d,by simp, .old hu,h⟩
theorem jA{M0 E:Ms}{q:DQ}{d d':Dt}(f:Frz M0.length E d d')(h:q d' M0):frzU M0 q d (M0++E):=⟨E,d',rfl,f,h⟩
def eQ(f:Expr→Option Dt):List Expr→Option (List Dt)
 | []=>some []
 | e::es=>match f e,eQ f es with
  | some d,some ds=>some (d::ds)
  | _,_=>none
def fv:Nat→Expr→Option Dt
 | 0,e=>match e with
  | .Constant (.int i) _ _=>some (.int i)
  | .Constant (.str x) _ _=>some (.str x)
  | _=>none
 | n+1,e=>match e with
  | .Constant (.int i) _ _=>some (.int i)
  | .Constant (.str x) _ _=>some (.str x)
  | .Tuple es _ _=>if es.length≤100 then (eQ (fv n) es).map .tup else none
  | .List es _=>if es.length≤100 then (eQ (fv n) es).map .lst else none
  | _=>none
theorem r8{n:Nat}{e:Expr}{d:Dt}{es:List Expr}{env:Env}(h:fv n e=some d):starEach (e::es) env=(false,eval e env)::starEach es env:=by
 cases n <;> (unfold fv at h;split at h <;> first | rfl | cases h)
theorem gc{f:Expr→Option Dt}:∀{es:List Expr} {ds:List Dt},eQ f es=some ds→ds.length=es.length
 | [],ds,h=>by cases h;rfl
 | e::es,ds,h=>by
  unfold eQ at h
  split at h
  ·rename_i d ds' h1 h2
   cases h
   rw [aat,aat,gc h2]
  ·cases h
section
variable{X:Cx}{R:St→XK}
theorem lX{n:Nat}(ih:∀(e:Expr) (d:Dt),fv n e=some d→JE X R e (dC d)):∀(es:List Expr) (ds:List Dt),eQ (fv n) es=some ds→JA X R es (fun _ M q _=>q ds M)
 | [],ds,h=>by cases h;exact af
 | e::es,ds,h=>by
  unfold eQ at h
  split at h
  ·rename_i d ds' h1 h2
   cases h
   exact aa (ih e d h1) (lX ih es ds' h2) (hs:=r8 h1)
  ·cases h
theorem ui{n:Nat}(h:n≤100):n≤sizeLine:=aau h (by decide)
theorem JE.imp{e:Expr}{t t':DE}(h:JE X R e t)(hi:∀ρ M q x,t' ρ M q x→t ρ M q x):JE X R e t':= .of h fun σ H G L ρ M q x rl n ht hx=>⟨G,L,ρ,M,q,x,rl,n,hi _ _ _ _ ht,hx,fun _ _ f=>f⟩
theorem dI:∀(n:Nat) {e:Expr} {d:Dt},fv n e=some d→JE X R e (dC d)
 | 0,e,d,h=>by
  unfold fv at h
  split at h
  ·cases h;exact av
  ·cases h;exact kz
  ·cases h
 | n +1,e,d,h=>by
  unfold fv at h
  split at h
  ·cases h;exact av
  ·cases h;exact kz
  ·split at h
   ·rename_i es _ _ hl
    cases hc:eQ (fv n) es with
    | none=>rw [hc] at h;cases h
    | some ds=>
     rw [hc] at h
     cases h
     exact (eU (lX (fun e d=>dI n) es ds hc)).imp fun ρ M q x hq=>⟨ui (by rw [gc hc];exact hl),hq⟩
   ·cases h
  ·split at h
   ·rename_i es _ hl
    cases hc:eQ (fv n) es with
    | none=>rw [hc] at h;cases h
    | some ds=>
     rw [hc] at h
     cases h
     exact (jr (lX (fun e d=>dI n) es ds hc)).imp fun ρ M q x hq=>⟨ui (by rw [gc hc];exact hl),hq⟩
   ·cases h
  ·cases h
end
theorem wF:bootBuiltins "zip"=some (.type "zip"):=by decide+kernel
theorem Inv.turnedL{X:Cx}{pins:List (Addr×Obj)}{σ:St}{H:Hp}{s:Shared}{h':Heap}{its:List Addr}{t':Nat}(I:Inv X pins σ H s)(k:∀b u,b∉its→s.heap.get? b=some u→h'.get? b=some u)(f:∀b∈its,tG X pins H b):
  Inv X pins σ H {s with heap:=h',toks:=t'}:=by
 have nin:∀b u,H b=some u→b∉its:=fun b u e z=>by rw [(f b z).1] at e;cases e
 refine I.call (ch:=its) (g':=s.gens) (d':=s.drawn) (t':=t') ⟨fun b u q _ _ hb=>k b u hb q,fun b u q _ _ hb=>⟨u.slots,k b u hb q⟩,fun b u q n _=>n,fun b u q hb=>⟨u,k b u hb q⟩,fun b xs q=>q,fun b u xs q=>q,fun b ps q=>⟨#[],by rw [q];simp⟩⟩ (fun b u e=> ?_) I.bare fun b hb=> ?_
 ·refine (I.hok b u e).stay (fun c v hc q=>k c v ?_ q) (fun c q=>q) fun c xs q=>q
  rcases hc with z | z
  ·rw [z];exact nin b u e
  ·exact nin c _ z
 ·obtain ⟨f0,f1,f2,f3,f4,f5⟩:=f b hb
  exact ⟨f3,f1,f4,f5⟩
def Itz(K:PySem.W.Frag)(l1 l2:Addr):It:=
 ⟨fun i H=>∃xs ys x y,SqL K H l1 xs∧SqL K H l2 ys∧xs[i]? =some x∧ys[i]? =some y,
  fun i H v H'=>∃p x y,H p=none∧v= .ref p∧H'=upd H p (.tup [x,y])∧(∀xs,SqL K H l1 xs→xs[i]? =some x)∧∀ys,SqL K H l2 ys→ys[i]? =some y,
  fun i H=>∃xs ys,SqL K H l1 xs∧SqL K H l2 ys∧(xs.length≤i∨ys.length≤i)⟩
theorem xp {P : Program} {w : World} {K : PySem.W.Frag} {elts : List Expr} {x1 : Nat} {tp : Pos} {l1 l2 i1 i2 TI TO z : Addr} (D : ZipApart z TI TO i1 i2 l1 l2) : dF P w K (.Tuple elts x1 tp) (Itz K l1 l2) [z, TI, TO, i1, i2] z (fun i h => (∃ a b, IsZip h z TI TO .none ∧ IsPair h TI (.ref i1) (.ref i2) ∧ IsPair h TO a b) ∧ h.IsListIter i1 l1 i ∧ h.IsListIter i2 l2 i) where
  mem := by simp
  obj := fun i h st b hb => by
    obtain ⟨⟨a, c, hz, hTI, hTO⟩, h1, h2⟩ := st
    simp only [List.mem_cons, List.not_mem_nil, or_false] at hb
    rcases hb with rfl | rfl | rfl | rfl | rfl
    · exact ⟨_, hz, fun v z => by
        have z' : Data.fields _ = Data.cell v := z
        cases z'⟩
    · exact ⟨_, hTI, fun v z => by
        have z' : Data.seq _ = Data.cell v := z
        cases z'⟩
    · exact ⟨_, hTO, fun v z => by
        have z' : Data.seq _ = Data.cell v := z
        cases z'⟩
    · obtain ⟨o, e, c, d⟩ := h1
      exact ⟨o, e, fun v z => by rw [d] at z; cases z⟩
    · obtain ⟨o, e, c, d⟩ := h2
      exact ⟨o, e, fun v z => by rw [d] at z; cases z⟩
  keep := fun i h h' st k => by
    obtain ⟨⟨a, c, hz, hTI, hTO⟩, h1, h2⟩ := st
    exact ⟨⟨a, c, k z (by simp) _ hz, k TI (by simp) _ hTI, k TO (by simp) _ hTO⟩, h1.at fun o q => k i1 (by simp) o q, h2.at fun o q => k i2 (by simp) o q⟩
  item := by
    intro X hP hw hK hc i pins s σ H E I hf st hg
    subst hP hw hK
    obtain ⟨⟨a, c, hz, hTI, hTO⟩, h1, h2⟩ := st
    obtain ⟨xs, ys, x, y, hq1, hq2, hx, hy⟩ := hg
    obtain ⟨its1, rv1, p1, _⟩ := I.list hq1
    obtain ⟨u1, hu1, ru1⟩ := rv1.get hx
    obtain ⟨its2, rv2, p2, _⟩ := I.list hq2
    obtain ⟨u2, hu2, ru2⟩ := rv2.get hy
    refine wpAny_pyNext_zip_item D hz hTI hTO h1 h2 p1.isList p2.isList (x := u1) (y := u2) (by simpa using hu1) (by simpa using hu2) fun h' hz' hTO' h1' h2' hT hsz hk => ?_
    refine ⟨_, rfl, wpAny_letOwnedTupleGo_zip (s := { s with heap := h' }) hz' fun h3 hz3 sb => ?_⟩
    have sb : Heap.SameBut z h' h3 := sb
    have zlt : z < s.heap.objs.size := Heap.lt_size hz
    have neT : s.heap.objs.size ≠ z := abU zlt
    have hT3 : h3.get? s.heap.objs.size = some { cls := .type "tuple", data := .seq #[u1, u2] } := (sb.2 _ neT).trans hT
    have lt : ∀ b ∈ [z, TI, TO, i1, i2], b < s.heap.objs.size := fun b hb => by
      simp only [List.mem_cons, List.not_mem_nil, or_false] at hb
      rcases hb with rfl | rfl | rfl | rfl | rfl
      · exact zlt
      · exact Heap.lt_size hTI
      · exact Heap.lt_size hTO
      · obtain ⟨o, q, _⟩ := h1; exact Heap.lt_size q
      · obtain ⟨o, q, _⟩ := h2; exact Heap.lt_size q
    have I2 : Inv X pins σ (upd H s.heap.objs.size (.tup [x, y])) { s with heap := h3, toks := s.toks } := by
      refine I.turnedNew (its := [z, TI, TO, i1, i2]) (fun b o hb q => ?_) hf (aah _) ?_
      · simp only [List.mem_cons, List.not_mem_nil, or_false, not_or] at hb
        obtain ⟨b1, b2, b3, b4, b5⟩ := hb
        exact (sb.2 b b1).trans (hk b o b1 b3 b4 b5 q)
      · refine ⟨by simp [sizeLine_eq], [u1, u2], .cons ru1 (.cons ru2 .nil), ?_⟩
        exact ⟨_, hT3, rfl, 0, rfl⟩
    refine ⟨.ref s.heap.objs.size, _, I2, rfl, ⟨s.heap.objs.size, x, y, I.hok.fresh (aah _), rfl, rfl, fun zs hzs => by rw [I.list_inj hzs hq1]; exact hx, fun zs hzs => by rw [I.list_inj hzs hq2]; exact hy⟩, ⟨⟨u1, u2, hz3, (sb.2 _ D.TIz).trans (hk _ _ D.TIz D.TITO D.TIi1 D.TIi2 hTI), (sb.2 _ D.TOz).trans hTO'⟩, h1'.at fun o q => (sb.2 i1 D.i1z).trans q, h2'.at fun o q => (sb.2 i2 D.i2z).trans q⟩, fun b hb => ?_⟩
    rw [aw (aaz (lt b hb))]; exact (hf b hb).1
  done := by
    intro X hP hw hK hc i pins s σ H E I hf st hg
    subst hP hw hK
    obtain ⟨⟨a, c, hz, hTI, hTO⟩, h1, h2⟩ := st
    obtain ⟨xs, ys, hq1, hq2, hx⟩ := hg
    obtain ⟨its1, rv1, p1, _⟩ := I.list hq1
    obtain ⟨its2, rv2, p2, _⟩ := I.list hq2
    have hl1 := rv1.length
    have hl2 := rv2.length
    refine wpAny_pyNext_zip_end (I.ok.hd hc) D hz hTI hTO h1 h2 p1.isList p2.isList (by rcases hx with hx | hx; · left; simp; omega
                                                                                        · right; simp; omega) fun h' ext => ⟨rfl, I.turnedL (t' := s.toks) (its := [z, TI, TO, i1, i2]) (fun b o hb q => ?_) hf⟩
    simp only [List.mem_cons, List.not_mem_nil, or_false, not_or] at hb
    obtain ⟨b1, b2, b3, b4, b5⟩ := hb
    exact ext b o b1 b3 b4 b5 q
  self := fun _ _ _ _ _ st h => by
    obtain ⟨⟨a, c, hz, _, _⟩, _⟩ := st
    exact wpAny_pyIter_zip hz h
def tI(xs ys:List Dt):List Dt:=(xs.zip ys).map fun p=> .tup [p.1,p.2]
theorem xk{xs ys:List Dt}{i:Nat}{d:Dt}(h:(tI xs ys)[i]? =some d):∃x y,xs[i]? =some x∧ys[i]? =some y∧d= .tup [x,y]:=by
 unfold tI at h
 rw [aak] at h
 cases e:(xs.zip ys)[i]? with
 | none=>rw [e] at h;cases h
 | some p=>
  rw [e] at h
  cases h
  obtain ⟨h1,h2⟩:=abP.mp e
  exact ⟨p.1,p.2,h1,h2,rfl⟩
theorem oB(xs ys:List Dt):(tI xs ys).length=min xs.length ys.length:=by
 unfold tI;rw [List.length_map,List.length_zip]
theorem zV{K:PySem.W.Frag}{G:Hp}{L:List Addr}{a b:Addr}{xs ys:List Dt}{ok ok':Ms→Prop}(s:Src K a xs ok G L)(s':Src K b ys ok' G L):YlK K (Itz K a b) (tI xs ys) (fun M=>ok M∧ok' M) G L where
 go:=fun i G1 L1 M1 H1 d g l r k e=>by
  obtain ⟨vs,hs,n⟩:=s.at_ G1 L1 M1 H1 g l r k.1
  obtain ⟨vs',hs',n'⟩:=s'.at_ G1 L1 M1 H1 g l r k.2
  obtain ⟨x,y,ex,ey,rfl⟩:=xk e
  obtain ⟨v,e1,n1⟩:=n.get ex
  obtain ⟨v',e1',n1'⟩:=n'.get ey
  refine ⟨⟨vs,vs',v,v',hs,hs',e1,e1'⟩,fun w H' ⟨p,x2,y2,hp,ev,eH,hx,hy⟩=> ?_⟩
  subst ev eH
  have e2:=hx vs hs
  rw [e1] at e2;cases e2
  have e3:=hy vs' hs'
  rw [e1'] at e3;cases e3
  exact ⟨_,r.exG hp,r.newG hp,mh (ds:=[x,y]) r hp ⟨_,_,rfl,n1,_,_,rfl,n1',rfl⟩⟩
 stop:=fun i G1 L1 M1 H1 g l r k e=>by
  obtain ⟨vs,hs,n⟩:=s.at_ G1 L1 M1 H1 g l r k.1
  obtain ⟨vs',hs',n'⟩:=s'.at_ G1 L1 M1 H1 g l r k.2
  refine ⟨vs,vs',hs,hs', ?_⟩
  rw [←n.length,←n'.length]
  rw [oB] at e
  omega
def HM(t:DA):DK:=fun ρ M q x=>t ρ M (fun ds M1=>∃d d' xs ys ok ok',ds=[d,d']∧oy M1 d=some (xs,ok)∧oy M1 d'=some (ys,ok')∧q (tI xs ys) (fun M=>ok M∧ok' M) M1) x
theorem vA{X:Cx}{R:St→XK}{elts:List Expr}{x1:Nat}{tp:Pos}{a a':Expr}{t:DA}{p pos:Pos}(hm:X.mg "zip"=none)(ha:JA X R [a,a'] t)(hg:Gl X "zip":=by rfl)(hs:starEach [a,a'] X.env=(false,eval a X.env)::starEach [a'] X.env:=by rfl)(hpl:(backTo pos (starEach [a'] X.env)).any (·.1)=false:=by rfl):JK X R (.Tuple elts x1 tp) (.Call (.Name "zip" p) [a,a'] [] pos) (HM t):=by
 intro pins s σ H Q I ⟨G,L,ρ,M,q,x,rl,n,ht,hx,hQ⟩
 refine Call_ (jg I hg hm wF (PyProof.Rows.callWith_type1 (thn (ha pos pins s σ H (Ek X.K G L H _) I ⟨G,L,ρ,M,_,x,rl,n,ht,hx,fun _ _ f=>f⟩) fun us s1 ⟨vs,H1,I1,rv,ds,G1,L1,M1,e1,r1,n1,d,d',xs,ys,ok,ok',ed,hl,hl',h1⟩=> ?_) hs hpl))
 subst ed
 obtain ⟨v,v',rfl,n2,n2'⟩:=fG n1
 obtain ⟨b,ws,rfl,sq,sr,_⟩:=mL r1 n2 hl
 obtain ⟨b',ws',rfl,sq',sr',_⟩:=mL r1 n2' hl'
 cases rv with
 | cons ru rv=>
  cases rv with
  | cons ru' rv=>
   cases rv
   cases ru
   cases ru'
   obtain ⟨its,_,pl,_⟩:=I1.list sq
   obtain ⟨its',_,pl',_⟩:=I1.list sq'
   have lt1:b < s1.heap.objs.size:=by obtain ⟨o,q,_⟩:=pl.isList;exact Heap.lt_size q
   have lt2:b' < s1.heap.objs.size:=by obtain ⟨o,q,_⟩:=pl'.isList;exact Heap.lt_size q
   refine call_zip_2 pl.isList pl'.isList fun h' hz hTI hTO hi hi' hsz hk=> ?_
   have I2:Inv X pins σ H1 {s1 with heap:=h'}:=I1.kept (t':=s1.toks) hk
   have D:ZipApart (s1.heap.objs.size+4) (s1.heap.objs.size+2) (s1.heap.objs.size+3) s1.heap.objs.size (s1.heap.objs.size+1) b b':=by
    have ne:∀i j:Nat,i≠j→s1.heap.objs.size+i≠s1.heap.objs.size+j:=fun i j h z=>h (Nat.add_left_cancel z)
    have n1:∀i:Nat,b≠s1.heap.objs.size+i:=fun i=>aaz (aam lt1 (abr _ _))
    have n2:∀i:Nat,b'≠s1.heap.objs.size+i:=fun i=>aaz (aam lt2 (abr _ _))
    exact ⟨ne 2 4 (by decide),ne 3 4 (by decide),ne 0 4 (by decide),ne 1 4 (by decide),ne 2 3 (by decide),ne 2 0 (by decide),ne 2 1 (by decide),ne 3 0 (by decide),ne 3 1 (by decide),ne 0 1 (by decide),n1 4,n1 3,n1 0,n1 1,n2 4,n2 3,n2 0,n2 1⟩
   refine wpAny_pyIter_zip (s:={s1 with heap:=h'}) hz ⟨s1.heap.objs.size+4,[s1.heap.objs.size+4,s1.heap.objs.size+2,s1.heap.objs.size+3,s1.heap.objs.size,s1.heap.objs.size+1],_,_,H1,rfl,I2,xp D,⟨⟨_,_,hz,hTI,hTO⟩,hi,hi'⟩,fun c hc=> ?_,hQ _ _ ⟨_,_,G1,L1,M1,e1,r1,zV sr sr',h1⟩⟩
   have hc:s1.heap.objs.size≤c:=by
    simp only [List.mem_cons,List.not_mem_nil,or_false] at hc
    rcases hc with rfl | rfl | rfl | rfl | rfl
    ·exact abr _ _
    ·exact abr _ _
    ·exact abr _ _
    ·exact aah _
    ·exact abr _ _
   have f:=I1.fpOk (H':=H1) hc (I1.hok.fresh hc)
   exact f
structure cK(X:Cx)(scope:Scope)(xs ys:List Str)(caps:List Nat):Prop where
 kind:scope.kind= .function
 nocell:∀p∈scope.names,p.2≠ .cell
 names:∀p∈scope.names,p.2= .local→scope.names.lookup p.1=some .local
 own:∀x∈xs,scope.names.lookup x=some .local
 free:∀p∈scope.names,p.2= .free→X.env.scope.names.lookup p.1=some .cell
 nd:(xs++ys).Nodup
 cap:∀q∈ys.zip caps,X.N[q.2]? =some q.1∧X.env.scope.names.lookup q.1=some .cell∧scope.names.lookup q.1=some .free
 len:ys.length=caps.length
theorem cK.has{X:Cx}{scope:Scope}{xs ys:List Str}{caps:List Nat}(S:cK X scope xs ys caps)(ok:X.Ok):∀p∈scope.names,p.2= .free→(X.env.cells.lookup p.1).isSome=true:=fun p hp hf=>by
 obtain ⟨c,e⟩:=ok.has p.1 (.inl (S.free p hp hf))
 rw [e];rfl
def BG(n:Nat)(gg:TG):Prop:=∀v (os cs:St) H (Q:St→Hp→Prop),os.length=n→gg v (os++cs) H Q→gg v (os++cs) H fun σ' H'=>(∃os':St,os'.length=n∧σ'=os'++cs)∧Q σ' H'
theorem vx{K:PySem.W.Frag}{n i j:Nat}(h:i < n)(h':j < n):BG n (Dk K 2 (ma (g8 i) (ma (g8 j) Dm))):=
 fun v os cs H Q hl ⟨a,xs,e,s,l,v1,r,e1,v2,r2,e2,e3,q⟩=>⟨a,xs,e,s,l,v1,r,e1,v2,r2,e2,e3,⟨(os.set i (some v1)).set j (some v2),by simp [hl],by
  rw [List.set_append_left _ _ (by omega),List.set_append_left _ _ (by rw [abA];omega)]⟩,q⟩
section
variable{X:Cx}{elt iter tg c:Expr}{xs:List Str}{scope:Scope}{pos:Pos}{wi:TI}{gg:TG}{tc:TT}{te:TE}{ys:List Str}{caps:List Nat}
theorem qK{i:Nat}{x:Str}{px:Pos}(S:cK X scope xs ys caps)(h:xs[i]? =some x)(C:Addr)(s:Shared)(H:Hp)(fp:List Addr):PG (Cx.comp X (xs++ys) scope C s H fp) (.Name x px) (g8 i):=by
 have hm:x∈xs:=aaj h
 have hi:(xs++ys)[i]? =some x:=by rw [aar (aaf.mp h).1];exact h
 exact aN S.nd hi (.inl (lookup_relabel_local (S.own x hm))) (.inr (lookup_relabel_local (S.own x hm)))
theorem Au{x y:Str}{px py:Pos}{k:Nat}(hc:X.calm=true)(S:cK X scope [x,y] ys caps)(C:Addr)(s:Shared)(H:Hp)(fp:List Addr):PG (Cx.comp X ([x,y]++ys) scope C s H fp) (.Tuple [.Name x px, .Name y py] k pos) (Dk X.K 2 (ma (g8 0) (ma (g8 1) Dm))):=
 kn (X:=Cx.comp X ([x,y]++ys) scope C s H fp) hc (bW (qK S (i:=0) rfl C s H fp) (bW (qK S (i:=1) rfl C s H fp) gY))
end
theorem Bw{K:PySem.W.Frag}{G:Hp}{L:List Addr}{ρ:En}{σ os:St}{n:Nat}(h:EnD K G L ρ σ)(caps:List Nat)(hl:os.length=n):EnD K G L (List.replicate n none++n6 caps ρ) (os++gG caps σ):=by
 have lc:(n6 caps ρ).length=(gG caps σ).length:=by unfold n6 gG;simp
 refine ⟨by rw [aai,aai,aaK,hl,lc],fun i d' e=> ?_⟩
 by_cases hi:i < n
 ·rw [aar (by rw [aaK];exact hi),abC,if_pos hi] at e
  cases e
 ·rw [aaw (by rw [aaK];omega),aaK] at e
  rw [aaw (by omega),hl]
  unfold n6 at e
  unfold gG
  rw [aak] at e⊢
  cases q:caps[i - n]? with
  | none=>rw [q] at e;cases e
  | some j=>
   rw [q] at e
   have e:(ρ[j]?).join=some d':=aal e
   have e:ρ[j]? =some (some d'):=by
    cases z:ρ[j]? with
    | none=>rw [z] at e;cases e
    | some o=>rw [z] at e;exact congrArg some e
   obtain ⟨v,hv,dn⟩:=h.ats j d' e
   exact ⟨v,by show some ((σ[j]?).join)=_;rw [hv];rfl,dn⟩
theorem wu(xs:List V)(k:Nat):xi xs (some (k:Int)) none=xs.drop k:=by
 unfold xi
 rw [HT.lg,HT.qx]
 by_cases h:k≤xs.length
 ·rw [abY h,abn (by rw [abj];omega)]
 ·rw [Nat.min_eq_right (by omega),List.drop_eq_nil_of_le (Nat.le_refl _),List.drop_eq_nil_of_le (by omega)];simp
section
variable{κ:Type} [DecidableEq κ]
def hV(kvs:List (κ×V))(k:κ):Option V:=(kvs.find? fun kv=>decide (kv.1=k)).map (·.2)
def jQ(kvs:List (κ×V))(k:κ)(v:V):List (κ×V):=
 if (kvs.any fun kv=>decide (kv.1=k))=true then kvs.map (fun kv=>if kv.1=k then (kv.1,v) else kv) else kvs++[(k,v)]
theorem cj{p:κ×V}{r:List (κ×V)}{k:κ}(e:p.1=k):hV (p::r) k=some p.2:=by simp [hV,List.find?_cons,e]
theorem bV{p:κ×V}{r:List (κ×V)}{k:κ}(e:¬p.1=k):hV (p::r) k=hV r k:=by simp [hV,List.find?_cons,e]
theorem iw(k:κ):∀kvs:List (κ×V),(kvs.any fun kv=>decide (kv.1=k))=(hV kvs k).isSome
 | []=>rfl
 | p::r=>by
  rw [abD]
  by_cases e:p.1=k
  ·simp only [cj e,decide_eq_true e,Bool.true_or,Option.isSome_some]
  ·rw [bV e,decide_eq_false e,Bool.false_or];exact iw k r
theorem mG(k j:κ)(y:V):∀kvs:List (κ×V),hV kvs k=none→hV (kvs++[(k,y)]) j=if j=k then some y else hV kvs j
 | [],_=>by
  by_cases e:k=j
  ·rw [if_pos e.symm];exact cj (p:=(k,y)) e
  ·rw [if_neg (fun z=>e z.symm)];exact bV (p:=(k,y)) e
 | p::r,hn=>by
  rw [List.cons_append]
  have hk:¬p.1=k:=fun z=>by rw [cj z] at hn;cases hn
  rw [bV hk] at hn
  have ih:=mG k j y r hn
  by_cases e:p.1=j
  ·rw [cj e,cj e,if_neg (fun z=>hk (e.trans z))]
  ·rw [bV e,bV e,ih]
theorem fY(kvs:List (κ×V))(k:κ)(v:V):(jQ kvs k v).length≤kvs.length+1:=by
 unfold jQ
 split
 ·rw [aac];omega
 ·rw [aai,aat,List.length_nil];omega
theorem xA{kvs:List (κ×V)}{k:κ}(v:V)(h:hV kvs k=none):jQ kvs k v=kvs++[(k,v)]:=by
 unfold jQ
 rw [iw,h]
 exact if_neg (by decide)
theorem mB.isSome_eq{o:Option V}{u:Option Value}(r:mB o u):o.isSome=u.isSome:=by
 cases o with
 | none=>cases u with
  | none=>rfl
  | some _=>exact (show False from r).elim
 | some _=>cases u with
  | none=>exact (show False from r).elim
  | some _=>rfl
theorem mB.getD{o:Option V}{u:Option Value}{d:V}{d':Value}(r:mB o u)(rd:bx d d'):bx (o.getD d) (u.getD d'):=by
 cases o with
 | none=>cases u with
  | none=>exact rd
  | some _=>exact (show False from r).elim
 | some _=>cases u with
  | none=>exact (show False from r).elim
  | some _=>exact r
theorem KV.val{kvs:List (κ×V)}{vs:List (κ×Value)}(r:KV kvs vs)(k:κ):mB (hV kvs k) (valueAt vs k):=by
 unfold KV at r
 induction r with
 | nil=>exact True.intro
 | @cons p q ps qs h t ih=>
  obtain ⟨h1,h2⟩:=h
  by_cases e:p.1=k
  ·have e':q.1=k:=h1.symm.trans e
   have b:valueAt (q::qs) k=some q.2:=by simp [valueAt,List.find?_cons,e']
   rw [cj e,b];exact h2
  ·have e':¬q.1=k:=fun z=>e (h1.trans z)
   have b:valueAt (q::qs) k=valueAt qs k:=by simp [valueAt,List.find?_cons,e']
   rw [bV e,b];exact ih
theorem KV.any{kvs:List (κ×V)}{vs:List (κ×Value)}(r:KV kvs vs)(k:κ):(kvs.any fun kv=>decide (kv.1=k))=vs.any fun kv=>decide (kv.1=k):=by
 unfold KV at r
 induction r with
 | nil=>rfl
 | cons h t ih=>rw [abD,abD,ih,h.1]
theorem KV.repl{kvs:List (κ×V)}{vs:List (κ×Value)}(r:KV kvs vs)(k:κ){y:V}{u:Value}(ry:bx y u):
  KV (kvs.map fun kv=>if kv.1=k then (kv.1,y) else kv) (vs.map fun kv=>if kv.1=k then (kv.1,u) else kv):=by
 unfold KV at r⊢
 induction r with
 | nil=>exact .nil
 | @cons p q ps qs h t ih=>
  rw [aaI,aaI]
  refine .cons ?_ ih
  obtain ⟨h1,h2⟩:=h
  by_cases e:p.1=k
  ·rw [if_pos e,if_pos (h1.symm.trans e)];exact ⟨h1,ry⟩
  ·rw [if_neg e,if_neg (fun z=>e (h1.trans z))];exact ⟨h1,h2⟩
theorem KV.put{kvs:List (κ×V)}{vs:List (κ×Value)}(r:KV kvs vs)(k:κ){y:V}{u:Value}(ry:bx y u):KV (jQ kvs k y) (stored vs k u):=by
 unfold jQ stored
 rw [r.any k]
 by_cases e:(vs.any fun kv=>decide (kv.1=k))=true
 ·rw [if_pos e,if_pos e];exact r.repl k ry
 ·rw [if_neg e,if_neg e];exact Paired.snoc r ⟨rfl,ry⟩
theorem KV.keys{kvs:List (κ×V)}{vs:List (κ×Value)}(r:KV kvs vs):kvs.map (·.1)=vs.map (·.1):=by
 unfold KV at r
 induction r with
 | nil=>rfl
 | cons h t ih=>rw [aaI,aaI,ih,h.1]
theorem KV.length{kvs:List (κ×V)}{vs:List (κ×Value)}(r:KV kvs vs):kvs.length=vs.length:=Paired.length r
end
theorem pM{P:Program}{w:World}{k:Key}{u:Value}(r:bx (kV k) u):(bD P w).is k u=true:=by
 cases k with
 | inl i=>obtain ⟨t,e⟩:=(show∃t,u=Value.int i t from r);subst e;exact pG P w i t
 | inr x=>obtain ⟨t,e⟩:=(show∃t,u=Value.str x t from r);subst e;exact pF P w x t
theorem nJ{P:Program}{w:World}:∀{ks:List Key} {us:List Value},bF (ks.map kV) us→ItemsAre (bD P w) ks us
 | [],_,r=>by rw [List.map_nil] at r;cases r;exact .nil
 | k::ks,_,r=>by
  rw [aaI] at r
  cases r with
  | cons h t=>exact .cons (pM h) (nJ t)
abbrev KT(H:Hp):List (List Key×V)→List (List Key×Addr×Value)→Prop:=Paired fun p q=>p.1=q.1∧H q.2.1=some (.tup (p.1.map kV))∧bx p.2 q.2.2
theorem KT.val{H:Hp}{kvs:List (List Key×V)}{xs:List (List Key×Addr×Value)}(r:KT H kvs xs)(k:List Key):mB (hV kvs k) ((atKey xs k).map (·.2)):=by
 induction r with
 | nil=>exact True.intro
 | @cons p q ps qs h t ih=>
  obtain ⟨h1,_,h2⟩:=h
  by_cases e:p.1=k
  ·have e':q.1=k:=h1.symm.trans e
   have b:atKey (q::qs) k=some q.2:=by simp [atKey,List.find?_cons,e']
   rw [cj e,b];exact h2
  ·have e':¬q.1=k:=fun z=>e (h1.trans z)
   have b:atKey (q::qs) k=atKey qs k:=by simp [atKey,List.find?_cons,e']
   rw [bV e,b];exact ih
theorem KT.repl{H:Hp}{kvs:List (List Key×V)}{xs:List (List Key×Addr×Value)}(r:KT H kvs xs)(k:List Key){y:V}{u:Value}(ry:bx y u):
  KT H (kvs.map fun kv=>if kv.1=k then (kv.1,y) else kv) (xs.map (putAt k u)):=by
 induction r with
 | nil=>exact .nil
 | @cons p q ps qs h t ih=>
  rw [aaI,aaI]
  refine .cons ?_ ih
  obtain ⟨h1,h2,h3⟩:=h
  unfold putAt
  by_cases e:p.1=k
  ·rw [if_pos e,if_pos (h1.symm.trans e)];exact ⟨h1,h2,ry⟩
  ·rw [if_neg e,if_neg (fun z=>e (h1.trans z))];exact ⟨h1,h2,h3⟩
theorem KT.put{H:Hp}{kvs:List (List Key×V)}{xs:List (List Key×Addr×Value)}(r:KT H kvs xs)(k:List Key){b:Addr}{y:V}{u:Value}(hb:H b=some (.tup (k.map kV)))(ry:bx y u):
  KT H (jQ kvs k y) (storedH xs k b u):=by
 have e:(kvs.any fun kv=>decide (kv.1=k))=(atKey xs k).isSome:=by
  rw [iw,(r.val k).isSome_eq,Option.isSome_map]
 unfold jQ storedH
 rw [e]
 by_cases q:(atKey xs k).isSome=true
 ·rw [if_pos q,if_pos q];exact r.repl k ry
 ·rw [if_neg q,if_neg q];exact Paired.snoc r ⟨rfl,hb,ry⟩
theorem KT.keeps{H H':Hp}{kvs:List (List Key×V)}{xs:List (List Key×Addr×Value)}(r:KT H kvs xs)(ht:∀b ys,H b=some (.tup ys)→H' b=some (.tup ys)):KT H' kvs xs:=
 Paired.mapP r fun _ _ z=>⟨z.1,ht _ _ z.2.1,z.2.2⟩
section
variable{P:Program}{w:World}{H:Hp}{h:Heap}{a:Addr}
theorem B6{u:HO}(ok:HOk P w H h)(e:Rd H a u):cf P w H h a u:=e.ok ok
theorem gD{kvs:List (Key×V)}(ok:HOk P w H h)(e:Rd H a (.dK kvs)):kvs.length≤sizeLine∧(a==sysModules)=false∧∃vs,KV kvs vs∧h.DictOf (bD P w) a vs:=
 show cf P w H h a (.dK kvs) from B6 ok e
theorem Bm{kvs:List (Key×V)}(ok:HOk P w H h)(e:H a=some (.dK kvs)):kvs.length≤sizeLine∧(a==sysModules)=false∧∃vs,KV kvs vs∧h.DictOf (bD P w) a vs:=gD ok (.inl e)
theorem ky{ks:List Key}(ok:HOk P w H h)(e:H a=some (.tup (ks.map kV))):(tupleKind (bD P w)).is h ks a:=by
 obtain ⟨_,its,r,o,h1,h2,n,h3⟩:=(show cf P w H h a (.tup (ks.map kV)) from ok a _ e)
 exact ⟨o,its.toArray,n,h1,h2,h3,by simpa using nJ r⟩
theorem pY{kvs:List (List Key×V)}(ok:HOk P w H h)(e:Rd H a (.dT kvs)):kvs.length≤sizeLine∧(a==sysModules)=false∧
  ∃xs,KT H kvs xs∧h.DictOfH (tupleKind (bD P w)) a xs:=by
 obtain ⟨z,y,xs,r,o,es,ep,h1,h2,h3,h4,h5⟩:=(show cf P w H h a (.dT kvs) from B6 ok e)
 refine ⟨z,y,xs,r,o,es,ep,h1,h2,h3,h4,fun x hx=> ?_,h5⟩
 have all:∀{l:List (List Key×V)} {m:List (List Key×Addr×Value)},KT H l m→∀x∈m,(tupleKind (bD P w)).is h x.1 x.2.1:=by
  intro l m q
  induction q with
  | nil=>intro x hx;exact nomatch hx
  | @cons p q ps qs hq t ih=>
   intro x hx
   rcases aaG.mp hx with e | hx
   ·subst e
    exact ky ok (by rw [←hq.1];exact hq.2.1)
   ·exact ih x hx
 exact all r x hx
theorem FH{kvs:List (List Key×V)}(ok:HOk P w H h)(e:H a=some (.dT kvs)):kvs.length≤sizeLine∧(a==sysModules)=false∧
  ∃xs,KT H kvs xs∧h.DictOfH (tupleKind (bD P w)) a xs:=pY ok (.inl e)
end
def xf(H:Hp)(a:Addr)(y:V)(r:Option V):Prop:=
 (∃kvs k,Rd H a (.dK kvs)∧y=kV k∧r=hV kvs k)∨∃kvs k b,Rd H a (.dT kvs)∧y= .ref b∧H b=some (.tup (k.map kV))∧r=hV kvs k
def D9(H:Hp)(a:Addr)(y v:V)(H':Hp):Prop:=
 (∃kvs k,H a=some (.dK kvs)∧y=kV k∧kvs.length < sizeLine∧H'=upd H a (.dK (jQ kvs k v)))∨
 ∃kvs k b,H a=some (.dT kvs)∧y= .ref b∧H b=some (.tup (k.map kV))∧kvs.length < sizeLine∧H'=upd H a (.dT (jQ kvs k v))
theorem D9.k{H:Hp}{a:Addr}{kvs:List (Key×V)}{k:Key}{v:V}(e:H a=some (.dK kvs))(hl:kvs.length < sizeLine):D9 H a (kV k) v (upd H a (.dK (jQ kvs k v))):= .inl ⟨kvs,k,e,rfl,hl,rfl⟩
section
variable{X:Cx}{pins:List (Addr×Obj)}{σ:St}{H:Hp}{s:Shared}{a:Addr}{y v:V}{u r:Value}{o:Option V}{A:Around}{E:Value→Shared→Prop}
theorem Inv.big(I:Inv X pins σ H s):sysModules < s.heap.objs.size:=by
 have h:mainGlobals < s.heap.objs.size:=(I.mod.glob.keeps I.bk).lt
 exact Nat.lt_trans (by decide) h
theorem wm{Q:Value→Shared→Prop}(hu:A.units+1 < cLine)(I:Inv X pins σ H s)(g:xf H a y (some v))(ry:bx y u)(h:∀w' s',Inv X pins σ H s'→bx v w'→Q w' s'):
  wpAny (model X.prog X.w) A (getItem (.ref a) u) Q E s:=by
 rcases g with ⟨kvs,k,e,ey,l⟩ | ⟨kvs,k,b,e,ey,eb,l⟩
 ·subst ey
  obtain ⟨z,hd,vs,rel,dd⟩:=gD I.hok e
  obtain ⟨w',hw,rw'⟩:=mB.some_of (v:=v) (o:=valueAt vs k) (by rw [l];exact rel.val k)
  exact wpAny_getItem_of (pM ry) dd.mapOf hw (h w' _ (I.tok _) rw')
 ·subst ey
  cases (show u=Value.ref b from ry)
  obtain ⟨z,hd,xs,rel,dd⟩:=pY I.hok e
  obtain ⟨w',hw,rw'⟩:=mB.some_of (v:=v) (o:=(atKey xs k).map (·.2)) (by rw [l];exact rel.val k)
  obtain ⟨p,hp,hp2⟩:=abG.mp hw
  refine wpAny_getItem_heap (tupleKind_room_in1 hu) (ky I.hok eb) dd hp ?_
  rw [hp2]
  exact h w' _ (I.tok _) rw'
theorem HW{Q:Value→Shared→Prop}(hu:A.units+1 < cLine)(I:Inv X pins σ H s)(g:xf H a y o)(ry:bx y u)(h:∀s',Inv X pins σ H s'→Q (.bool o.isSome) s'):
  wpAny (model X.prog X.w) A (compareOp .In u (.ref a)) Q E s:=by
 rcases g with ⟨kvs,k,e,ey,l⟩ | ⟨kvs,k,b,e,ey,eb,l⟩
 ·subst ey
  obtain ⟨z,hd,vs,rel,dd⟩:=gD I.hok e
  refine wpAny_in_of (pM ry) hd dd.mapOf ?_
  rw [←(rel.val k).isSome_eq,←l]
  exact h _ (I.tok _)
 ·subst ey
  cases (show u=Value.ref b from ry)
  obtain ⟨z,hd,xs,rel,dd⟩:=pY I.hok e
  refine wpAny_in_heap (tupleKind_room_in1 hu) (ky I.hok eb) hd dd ?_
  have q:=(rel.val k).isSome_eq
  rw [Option.isSome_map] at q
  rw [←q,←l]
  exact h _ (I.tok _)
theorem Bo{Q:Value→Shared→Prop}(hu:A.units+1 < cLine)(I:Inv X pins σ H s)(g:xf H a y o)(ry:bx y u)(h:∀s',Inv X pins σ H s'→Q (.bool (!o.isSome)) s'):
  wpAny (model X.prog X.w) A (compareOp .NotIn u (.ref a)) Q E s:=by
 rcases g with ⟨kvs,k,e,ey,l⟩ | ⟨kvs,k,b,e,ey,eb,l⟩
 ·subst ey
  obtain ⟨z,hd,vs,rel,dd⟩:=gD I.hok e
  refine wpAny_notIn_of (pM ry) hd dd.mapOf ?_
  rw [←(rel.val k).isSome_eq,←l]
  exact h _ (I.tok _)
 ·subst ey
  cases (show u=Value.ref b from ry)
  obtain ⟨z,hd,xs,rel,dd⟩:=pY I.hok e
  refine wpAny_notIn_heap (tupleKind_room_in1 hu) (ky I.hok eb) hd dd ?_
  have q:=(rel.val k).isSome_eq
  rw [Option.isSome_map] at q
  rw [←q,←l]
  exact h _ (I.tok _)
theorem mj{h':Heap}{t':Nat}{ob:HO}(I:Inv X pins σ H s)(mu:Mut (H a))(hs:Heap.SameBut a s.heap h')(he:∃q,h'.get? a=some q)(new:cf X.prog X.w (upd H a ob) h' a ob):
  Inv X pins σ (upd H a ob) {s with heap:=h',toks:=t'}:=
 I.write (x:=a) (e:=a) mu (.inl rfl) (fun b q hb z=>(hs.2 b hb).trans z) he new
theorem rH{P:Program}{w:World}{H':Hp}{h':Heap}{kvs:List (Key×V)}{vs:List (Key×Value)}(z:kvs.length≤sizeLine)(hd:(a==sysModules)=false)(rel:KV kvs vs)(dd:h'.DictOf (bD P w) a vs):
  cf P w H' h' a (.dK kvs):=⟨z,hd,vs,rel,dd⟩
theorem wk{H':Hp}{Q:Unit→Shared→Prop}(hu:A.units+1 < cLine)(I:Inv X pins σ H s)(g:D9 H a y v H')(ry:bx y u)(rv:bx v r)(h:∀s',Inv X pins σ H' s'→Q () s'):
  wpAny (model X.prog X.w) A (setItem (.ref a) u r) Q E s:=by
 rcases g with ⟨kvs,k,e,ey,l,eH⟩ | ⟨kvs,k,b,e,ey,eb,l,eH⟩
 ·subst ey eH
  obtain ⟨z,hd,vs,rel,dd⟩:=Bm I.hok e
  have hz:vs.length≤sizeLine:=by rw [←rel.length];exact z
  have hl:(jQ kvs k v).length≤sizeLine:=by have:=fY kvs k v;omega
  refine wpAny_setItem_pairs (hsz:=hz) (pM ry) dd fun h' dd' hs=>h _ ?_
  have he:∃q,h'.get? a=some q:=let ⟨q,_,_,hq,_⟩:=dd';⟨q,hq⟩
  exact mj I (by rw [e];exact True.intro) hs he (rH hl hd (rel.put k rv) dd')
 ·subst ey eH
  cases (show u=Value.ref b from ry)
  obtain ⟨z,hd,xs,rel,dd⟩:=FH I.hok e
  have hz:xs.length≤sizeLine:=by rw [←Paired.length rel];exact z
  have hl:(jQ kvs k v).length≤sizeLine:=by have:=fY kvs k v;omega
  refine wpAny_setItem_heap (hsz:=hz) (tupleKind_room_in1 hu) (ky I.hok eb) dd fun h' dd' hs=>h _ ?_
  obtain ⟨q,es,ep,hq,h2,h3,h4,_,h5⟩:=dd'
  refine mj I (by rw [e];exact True.intro) hs ⟨q,hq⟩ ⟨hl,hd,_,(rel.put k eb rv).keeps fun c ys ec=> ?_,q,es,ep,hq,h2,h3,h4,h5⟩
  rw [aw (E7 ec e (fun z=>nomatch z))]
  exact ec
end
def Ge(i:Expr):Prop:=∀ov iv,subscripted i false ov iv=operate [ov,iv] (getItem ov iv)
theorem Aa{prog:Program}{w:World}{A:Around}{E:Value→Shared→Prop}{s:Shared}{env:Env}{value slice:Expr}{pos:Pos}{T id:String}{Q:Value→Shared→Prop}
  (hl:typeLookup (.type T) "__getitem__"=pure (some (.builtin id))) (hs:Ge slice)
  (h:wpAny (model prog w) A (eval value env) (fun o s₁=>wpAny (model prog w) A (eval slice env) (fun i s₂=>s₂.TypeIs o T∧wpAny (model prog w) A (getItem o i) Q E s₂) E s₁) E s):
  wpAny (model prog w) A (eval (.Subscript value slice pos) env) Q E s:=by
 refine Subscript_ (wpAny_mono h (fun o s₁ h₁=>wpAny_mono h₁ (fun i s₂ h₂=> ?_) fun _ _ x=>x) fun _ _ x=>x)
 obtain ⟨hT,h₂⟩:=h₂
 unfold subscriptTail
 refine wpAny_bind ?_
 rw [getitemInPython_of_ne hT.not_modules]
 refine wpAny_bind (wpAny_specialOf hT hl ?_)
 have fin:wpAny (model prog w) A (subscripted slice false o i) (fun r s₃=>wpAny (model prog w) A (letTemporaryGo value o r >>= fun _=>pure r) Q E s₃) E s₂:=by
  rw [hs o i]
  exact wpAny_operating (wpAny_mono h₂ (fun r s₃ h₃=>wpAny_bind (wpAny_letTemporaryGo (wpAny_pure h₃))) fun _ _ x=>x)
 first
  | exact wpAny_pure (wpAny_bind fin)
  | exact wpAny_bind (wpAny_pure (wpAny_bind fin))
  | exact wpAny_bind fin
theorem pZ{X:Cx}{pins:List (Addr×Obj)}{σ:St}{H:Hp}{s:Shared}{a:Addr}{y:V}{o:Option V}(I:Inv X pins σ H s)(g:xf H a y o):s.TypeIs (.ref a) "dict":=by
 rcases g with ⟨kvs,k,e,_,_⟩ | ⟨kvs,k,b,e,_,_,_⟩
 ·obtain ⟨_,_,vs,_,dd⟩:=gD I.hok e
  exact dd.typeIs
 ·obtain ⟨_,_,xs,_,dd⟩:=pY I.hok e
  exact dd.typeIs
def EB(td ty:TE):TE:=fun σ H Q=>td σ H fun x H1=>ty σ H1 fun y H2=>∃a v,x= .ref a∧xf H2 a y (some v)∧Q v H2
def EL(td ty tv:TE):TS:=fun D σ H=>tv σ H fun v H1=>td σ H1 fun x H2=>ty σ H2 fun y H3=>∃a H4,x= .ref a∧D9 H3 a y v H4∧D.nx σ H4
section
variable{X:Cx}{o i e value:Expr}{pos pos' tpos:Pos}{td ty tv:TE}
theorem Ay(hu:X.A.units+1 < cLine)(ho:PE X o td)(hi:PE X i ty)(hs:Ge i):PE X (.Subscript o i pos) (EB td ty):=by
 intro pins s σ H Q I h
 refine Aa PySem.F.slot_dict_getitem.lookup hs (thn (ho pins s σ H _ I h) fun u s1 ⟨x,H1,I1,rx,q1⟩=>thn (hi pins s1 σ H1 _ I1 q1) fun iv s2 ⟨y,H2,I2,ry,a,v,ex,g,q2⟩=> ?_)
 subst ex
 obtain rfl:u=Value.ref a:=rx
 exact ⟨pZ I2 g,wm hu I2 g ry fun w' s3 I3 rw'=>⟨v,H2,I3,rw',q2⟩⟩
theorem Ar(hu:X.A.units+1 < cLine)(ho:PE X o td)(hi:PE X i ty)(hv:PE X value tv)(hs:swapsWith value (some (.Subscript o i pos')) pos.line X.env=pure false):
  PS X (.Assign [.Subscript o i pos'] value pos) (EL td ty tv):=by
 intro pins s σ H D I h
 refine wpAny_Assign_Subscript (thn (hv pins s σ H _ I h) fun r s1 ⟨v,H1,I1,rv,q1⟩=>thn (ho pins s1 σ H1 _ I1 q1) fun u s2 ⟨x,H2,I2,rx,q2⟩=>thn (hi pins s2 σ H2 _ I2 q2) fun iv s3 ⟨y,H3,I3,ry,a,H4,ex,g,q3⟩=> ?_) hs
 subst ex
 obtain rfl:u=Value.ref a:=rx
 exact wk hu I3 g ry rv fun s4 I4=>⟨σ,H4,I4,q3⟩
end
theorem rJ{P:Program}{w:World}{H:Hp}(h:Heap)(hb:sysModules < h.objs.size):cf P w H (h.push {cls:= .type "dict",data:= .dict #[]}) h.objs.size (.dK []):=
 ⟨abJ _,beq_eq_false_iff_ne.mpr (Ne.symm (aaz hb)),[], .nil,Heap.DictOf.new h⟩
def BR:TE:=fun _ H Q=>∀p,H p=none→Q (.ref p) (upd H p (.dK []))
section
variable{X:Cx}{pos:Pos}
theorem xJ:PE X (.Dict [] [] pos) BR:=fun pins s σ H Q I h=>
 wpAny_Dict_empty ⟨.ref s.heap.objs.size,_,I.laid (a:=s.heap.objs.size) (o:= .dK []) (t':=s.toks) (fun _ _ q=>Heap.get?_push_of_some _ q) (aah _) (rJ s.heap I.big),rfl,h _ (I.hok.fresh (aah _))⟩
end
def uc:List (TE×TE)→St→Hp→(List (V×V)→Hp→Prop)→Prop
 | [],_,H,Q=>Q [] H
 | (tk,tv)::r,σ,H,Q=>tk σ H fun x H1=>tv σ H1 fun y H2=>uc r σ H2 fun ps H3=>Q ((x,y)::ps) H3
abbrev VV:List (V×V)→List (Value×Value)→Prop:=Paired fun p q=>bx p.1 q.1∧bx p.2 q.2
def PPs(X:Cx)(pos:Pos)(keys:List (Option Expr))(values:List Expr)(trs:List (TE×TE)):Prop:=
 ∀(pins:List (Addr×Obj)) (s:Shared) (σ:St) (H:Hp) (Q:List (V×V)→Hp→Prop),Inv X pins σ H s→uc trs σ H Q→
  wpAny (model X.prog X.w) X.A (evalPairs (pairTrees keys values X.env pos)) (fun vs s'=>∃ps H',Inv X pins σ H' s'∧VV ps vs∧Q ps H') X.xe s
theorem As{X:Cx}{pos:Pos}:PPs X pos [] [] []:=fun pins s σ H Q I h=>pairTrees_nil_walk ⟨[],H,I, .nil,h⟩
theorem qG{X:Cx}{pos:Pos}{k v:Expr}{ks:List (Option Expr)}{vs:List Expr}{tk tv:TE}{trs:List (TE×TE)}(hk:PE X k tk)(hv:PE X v tv)(hr:PPs X pos ks vs trs):
  PPs X pos (some k::ks) (v::vs) ((tk,tv)::trs):=fun pins s σ H Q I h=>
 pairTrees_cons_walk (thn (hk pins s σ H _ I h) fun u s1 ⟨x,H1,I1,rx,q1⟩=>thn (hv pins s1 σ H1 _ I1 q1) fun w2 s2 ⟨y,H2,I2,ry,q2⟩=>
  thn (hr pins s2 σ H2 _ I2 q2) fun ws s3 ⟨ps,H3,I3,rel,q3⟩=>⟨(x,y)::ps,H3,I3, .cons ⟨rx,ry⟩ rel,q3⟩)
def fN(kvs more:List (Key×V)):List (Key×V):=more.foldl (fun acc kv=>jQ acc kv.1 kv.2) kvs
theorem KV.merge:∀{more:List (Key×V)} {rs:List (Key×Value)} {kvs:List (Key×V)} {vs:List (Key×Value)},KV more rs→KV kvs vs→KV (fN kvs more) (merged vs rs):=by
 intro more rs kvs vs r
 unfold KV at r
 induction r generalizing kvs vs with
 | nil=>intro q;exact q
 | @cons p q ps qs h t ih=>
  intro r0
  have e:KV (jQ kvs p.1 p.2) (stored vs q.1 q.2):=by
   have:=r0.put p.1 h.2
   rw [←h.1];exact this
  exact ih e
theorem eF:∀(more kvs:List (Key×V)),(fN kvs more).length≤kvs.length+more.length
 | [],kvs=>by show kvs.length≤kvs.length+0;omega
 | p::r,kvs=>by
  have h1:=eF r (jQ kvs p.1 p.2)
  have h2:=fY kvs p.1 p.2
  show (fN (jQ kvs p.1 p.2) r).length≤_
  rw [aat];omega
theorem kI{P:Program}{w:World}:∀{kvs:List (Key×V)} {ws:List (Value×Value)},VV (kvs.map fun kv=>(kV kv.1,kv.2)) ws→∃rs,Carries (bD P w) ws rs∧KV kvs rs
 | [],_,r=>by rw [List.map_nil] at r;cases r;exact ⟨[],True.intro, .nil⟩
 | p::kvs,_,r=>by
  rw [aaI] at r
  cases r with
  | @cons a b as bs h t=>
   obtain ⟨rs,c,q⟩:=kI (P:=P) (w:=w) t
   obtain ⟨b1,b2⟩:=b
   exact ⟨(p.1,b2)::rs,⟨pM h.1,rfl,c⟩, .cons ⟨rfl,h.2⟩ q⟩
def Ez(trs:List (TE×TE)):TE:=fun σ H Q=>∀p,H p=none→uc trs σ (upd H p (.dK [])) fun ps H2=>H2 p=some (.dK [])∧∃kvs:List (Key×V),ps=kvs.map (fun kv=>(kV kv.1,kv.2))∧kvs.length≤15∧Q (.ref p) (upd H2 p (.dK (fN [] kvs)))
theorem Ax{X:Cx}{pos:Pos}{keys:List (Option Expr)}{values:List Expr}{trs:List (TE×TE)}(h:PPs X pos keys values trs)(hall:keys.all (·.isSome)=true)(hl:keys.length=values.length)(h0:keys≠[])
  (h15:keys.length≤15):PE X (.Dict keys values pos) (Ez trs):=by
 intro pins s σ H Q I q
 have hn:=I.hok.fresh (aah s.heap.objs.size)
 have I1:=I.laid (a:=s.heap.objs.size) (o:= .dK []) (h':=s.heap.push {cls:= .type "dict",data:= .dict #[]}) (t':=s.toks) (fun _ _ q=>Heap.get?_push_of_some _ q) (aah _) (rJ s.heap I.big)
 refine wpAny_Dict_walk (knd:=bD X.prog X.w) hall hl h0 h15 (thn (h pins _ σ _ _ I1 (q _ hn)) fun ws s2 ⟨ps,H2,I2,rel,e,kvs,ep,lk,q2⟩=> ?_)
 subst ep
 obtain ⟨rs,c,rk⟩:=kI (P:=X.prog) (w:=X.w) rel
 obtain ⟨z,hd,vs0,r0,dd⟩:=Bm I2.hok e
 cases r0
 refine ⟨rs,c,dd,fun h' dd' hs=>⟨.ref s.heap.objs.size,_, ?_,rfl,q2⟩⟩
 have hz:(fN [] kvs).length≤sizeLine:=by
  have h1:=eF kvs []
  rw [List.length_nil] at h1
  rw [sizeLine_eq];omega
 have he:∃q,h'.get? s.heap.objs.size=some q:=let ⟨q,_,_,hq,_⟩:=dd';⟨q,hq⟩
 exact mj I2 (by rw [e];exact True.intro) hs he (rH hz hd (rk.merge .nil) dd')
structure M1(X:Cx)(o:Expr)(m:Str)(apos:Pos)(e:Expr)(cpos:Pos):Prop where
 base:attributeBase o m X.env (eval o X.env)=eval o X.env
 few:((backTo cpos (starEach [e] X.env)).all (fun x=> !x.1)&&(backToKw cpos (keywordEach [] X.env)).all (fun x=>x.1.isSome)
  &&decide (([e]:List Expr).length+([]:List Keyword).length+(if ([]:List Keyword).isEmpty then 0 else 1) < 30))=true
 line:(apos.endLine==cpos.line)=true
 trees:backTo cpos (starEach [e] X.env)=[(false,eval e X.env)]
def IsD(H:Hp)(a:Addr):Prop:=(∃kvs,Rd H a (.dK kvs))∨∃kvs,Rd H a (.dT kvs)
theorem zp{X:Cx}{pins:List (Addr×Obj)}{σ:St}{H:Hp}{s:Shared}{a:Addr}(I:Inv X pins σ H s)(d:IsD H a):
  s.TypeIs (.ref a) "dict"∧(∀b,Value.ref a= .ref b→∃ob,s.heap.get? b=some ob∧ob.dict=none)∧(a==sysModules)=false:=by
 rcases d with ⟨kvs,e⟩ | ⟨kvs,e⟩
 ·obtain ⟨_,hd,vs,_,dd⟩:=gD I.hok e
  refine ⟨dd.typeIs,fun b q=> ?_,hd⟩
  cases q
  obtain ⟨ob,_,_,h1,h2,_⟩:=dd
  exact ⟨ob,h1,h2.2.1⟩
 ·obtain ⟨_,hd,xs,_,dd⟩:=pY I.hok e
  refine ⟨dd.typeIs,fun b q=> ?_,hd⟩
  cases q
  obtain ⟨ob,_,_,h1,h2,_⟩:=dd
  exact ⟨ob,h1,h2.2.1⟩
section
variable{X:Cx}{pins:List (Addr×Obj)}{σ:St}{H:Hp}{s:Shared}{a:Addr}{y d:V}{u r:Value}{o:Option V}{A:Around}{E:Value→Shared→Prop}
theorem DD{Q:Value→Shared→Prop}(hu:A.units+1 < cLine)(I:Inv X pins σ H s)(g:xf H a y o)(ry:bx y u)(h:∀w' s',Inv X pins σ H s'→bx (o.getD .non) w'→Q w' s'):
  wpAny (model X.prog X.w) A (call (.builtin "dict.get") [.ref a,u]) Q E s:=by
 rcases g with ⟨kvs,k,e,ey,l⟩ | ⟨kvs,k,b,e,ey,eb,l⟩
 ·subst ey
  obtain ⟨z,hd,vs,rel,dd⟩:=gD I.hok e
  refine call_meetsIn PySem.F.slot_dict_get dd.typeIs PySem.F.entry_dict_get (PySem.F.args_dict_get_2 _ _) (meets_dict_get (bD X.prog X.w) a (pM ry) hd) ⟨_,dd.mapOf,h _ _ (I.tok _) ?_⟩
  rw [l]
  exact (rel.val k).getD rfl
 ·subst ey
  cases (show u=Value.ref b from ry)
  obtain ⟨z,hd,xs,rel,dd⟩:=pY I.hok e
  refine call_meetsIn PySem.F.slot_dict_get dd.typeIs PySem.F.entry_dict_get (PySem.F.args_dict_get_2 _ _) (meetsH_dict_get (tupleKind (bD X.prog X.w)) a b hd) ⟨tupleKind_room_in1 hu,k,xs,ky I.hok eb,dd,h _ _ (I.tok _) ?_⟩
  rw [l]
  exact (rel.val k).getD rfl
end
def BS(td ty:TE):TE:=fun σ H Q=>td σ H fun x H1=>∃a,x= .ref a∧IsD H1 a∧ty σ H1 fun y H2=>∃o,xf H2 a y o∧Q (o.getD .non) H2
section
variable{X:Cx}{o e f:Expr}{apos cpos:Pos}{td ty tx:TE}
theorem xK(hu:X.A.units+1 < cLine)(ho:PE X o td)(he:PE X e ty)(m:M1 X o "get" apos e cpos):PE X (.Call (.Attribute o "get" apos) [e] [] cpos) (BS td ty):=by
 intro pins s σ H Q I h
 refine wpAny_Call_method m.base m.few m.line PySem.F.plainAttrs_dict PySem.F.slot_dict_get PySem.F.type_dict_get (thn (ho pins s σ H _ I h) fun u s1 ⟨x,H1,I1,rx,a,ex,d,q1⟩=> ?_)
 subst ex
 obtain rfl:u=Value.ref a:=rx
 obtain ⟨t1,t2,_⟩:=zp I1 d
 refine ⟨t1,t2, ?_⟩
 rw [m.trees]
 refine Calls.callWith_builtin rfl (Calls.evalArgs_plain (Calls.spliced_cons (thn (he pins s1 σ H1 _ I1 q1) fun iv s2 ⟨y,H2,I2,ry,ov,g,q2⟩=>Calls.spliced_nil ?_)))
 exact DD hu I2 g ry fun w' s3 I3 rw'=>⟨_,H2,I3,rw',q2⟩
end
section
variable{X:Cx}{pins:List (Addr×Obj)}{σ:St}{H:Hp}{s:Shared}{a:Addr}{kvs:List (Key×V)}{A:Around}{E:Value→Shared→Prop}
theorem yu{Q:Value→Shared→Prop}(I:Inv X pins σ H s)(e:Rd H a (.dK kvs))(h:∀p s',H p=none→Inv X pins σ (upd H p (.dK kvs)) s'→Q (.ref p) s'):wpAny (model X.prog X.w) A (call (.type "dict") [.ref a]) Q E s:=by
 obtain ⟨z,hd,vs,rel,dd⟩:=gD I.hok e
 refine kt_call_dict hd dd (by rw [←rel.length];exact z) fun h' dd' hs=> ?_
 refine h _ _ (I.hok.fresh (aah _)) (I.laid (a:=s.heap.objs.size) (o:= .dK kvs) (t':=s.toks) (fun b q hq=> ?_) (aah _) (rH z (beq_eq_false_iff_ne.mpr (Ne.symm (aaz I.big))) rel dd'))
 exact (hs.2 b (aaz (Heap.lt_size hq))).trans (Heap.get?_push_of_some _ hq)
end
end L2
namespace Att
open PySem PySem.W PySem.Calls PyProof.Rows
end Att
namespace L2
open PySem PySem.Spec PyProof.Rows
end L2
/- THE LAST THEOREM (shape;LID,My.* are yours):
  My.Adr:a structure of the addresses that your layer names (classes,functions);My.Txt K t:a structure (Prop) of the equations tK K;
  My.txt_mk:{K} {implicit addresses ..} (e1:nsIn K mainGlobals "law"=some (some (.ref f))) (e2:K.lookup f=some ⟨oc,od, .func (fnOf "law" "law" params body scope dV kV doc pm an cdv ct),sl⟩) (e3:codeIn K cdv "law"=true) .. :∃t,My.Txt K t
set_option maxRecDepth 100000 in
set_option maxHeartbeats 0 in
theorem PySem.Challenge.cw_LID_holds : PySem.Challenge.rw_LID.Holds := by
 w_on;o_law;k_head;(case hw=>w_witness2)
 k_fill
 refine L2.oE (l:=PySem.Challenge.rw_LID) (n:=63) (k:=40) (x:="script") (CX:=fun w=> ..) (sp:=fun _=>My.sp_law) rfl (by decide) rfl ⟨rfl,by decide,by decide⟩ (fun w h Y=>PySem.W.kIn_of Y) ?F ?S ?C
 case F=>
  intro w mg fa h KX G hmg
  have T:∃t,My.Txt (L2.KOf KX) t:=by
   dsimp only [L2.KOf] -- K must stand as «<heap const> w.params» for k_is
   refine' My.txt_mk ?e1 ?e2 ?e3 ..
   (case e1=>PySem.W.k_is) -- in the order:a name->its address->its object->its parts
   (case e2=>PySem.W.k_is)
   ..
  obtain ⟨t,T⟩:=T
  have e0:=hmg.symm.trans (PySem.W.mg_of KX G T.law)
  cases e0 -- fa is the law's own address
  exact ⟨_,fun s u=> .of_eq rfl,fun base kb nb=>My.law_fn T kb nb⟩ -- if «.of_eq rfl» comes too early:refine' ⟨_, ?b,fun base kb nb=>My.law_fn T kb nb⟩;exact fun s u=> .of_eq rfl
 case S=>exact fun w H a ns hl hO hS=> ..
 case C=>exact ..
(the tactic k_is has no namespace:write k_is) -/
namespace L2
open PySem PySem.Spec PyProof.Rows
def AX:Dt→Option Key
 | .int i=>some (.inl i)
 | .str z=>some (.inr z)
 | _=>none
def aZ(ks:List Key)(ds:List Dt)(k:Key):Option Dt:=((ks.zip ds).find? fun p=>decide (p.1=k)).map (·.2)
theorem jj{K:PySem.W.Frag}{G:Hp}{L:List Addr}{d:Dt}{v:V}{k:Key}(h:AX d=some k)(n:Den K G L d v):v=kV k:=by
 cases d with
 | int i=>cases h;exact n
 | str z=>cases h;exact n
 | _=>cases h
theorem jE{K:PySem.W.Frag}{G:Hp}{L:List Addr}{k:Key}:∀{ks:List Key} {ds:List Dt} {vs:List V} {d:Dt},aT K G L ds vs→aZ ks ds k=some d→∃v,hV (ks.zip vs) k=some v∧Den K G L d v
 | [],_,_,_,_,h=>by cases h
 | _::_,[],_,_,_,h=>by cases h
 | c::ks,d0::ds,_,d,⟨v0,vs,e,n0,n⟩,h=>by
  subst e
  rw [aaQ]
  by_cases hc:c=k
  ·have h':aZ (c::ks) (d0::ds) k=some d0:=by unfold aZ;rw [List.zip_cons_cons,List.find?_cons_of_pos (by simpa using hc)];rfl
   rw [h'] at h;cases h
   exact ⟨v0,cj hc,n0⟩
  ·have h':aZ (c::ks) (d0::ds) k=aZ ks ds k:=by unfold aZ;rw [List.zip_cons_cons,List.find?_cons_of_neg (by simpa using hc)]
   rw [h'] at h
   obtain ⟨v,h1,h2⟩:=jE n h
   exact ⟨v,by rw [bV hc];exact h1,h2⟩
def DL(to ti:DE):DE:=fun ρ M q x=>to ρ M (fun d M1=>ti ρ M1 (fun di M2=>∃k ks ds key v,d= .loc k∧M2[k]? =some (.dct ks ds)∧AX di=some key∧aZ ks ds key=some v∧q v M2) x) x
theorem nj:∀(more acc:List (Key×V)),(∀p∈more,hV acc p.1=none)→(more.map (·.1)).Nodup→fN acc more=acc++more
 | [],acc,_,_=>by show acc=acc++[];rw [aa7]
 | p::more,acc,h,nd=>by
  show fN (jQ acc p.1 p.2) more=_
  rw [xA p.2 (h p aae),nj more _ (fun q hq=> ?_) (abz.mp nd).2]
  ·simp
  ·have e:=mG p.1 q.1 p.2 acc (h p aae)
   rw [show (acc++[(p.1,p.2)])=acc++[(p.1,p.2)] from rfl,e,if_neg]
   ·exact h q (aad _ hq)
   ·intro z
    exact (abz.mp nd).1 (aan.mpr ⟨q,hq,z⟩)
def tCs(z:Str):TE:=fun _ H Q=>Q (.str z) H
theorem pcs{X:Cx}{z:Str}{k:Nat}{pos:Pos}:PE X (.Constant (.str z) k pos) (tCs z):=y8
section
variable{X:Cx}{R:St→XK}{o i e:Expr}{to ti te:DE}{pos p:Pos}{k':Nat}
theorem kB(hr:dN k' X.A)(ho:JE X R o to)(hi:JE X R i ti)(hs:Ge i:=by intro _ _;rfl):JE X R (.Subscript o i pos) (DL to ti):=
 .of (Ay (vK hr) ho hi hs) fun σ H G L ρ M q x rl n h hx=>by
  refine ⟨G,L,ρ,M,_,x,rl,n,h,hx,fun v H1 ⟨d1,G1,L1,M1,e1,r1,n1,h1⟩=> ?_⟩
  refine ⟨G1,L1,ρ,M1,_,x,r1,n.mono e1,h1,hx.on e1,fun v2 H2 ⟨d2,G2,L2,M2,e2,r2,n2,k,ks,ds,key,y,ed,hm,hk,hg,h2⟩=> ?_⟩
  subst ed
  obtain ⟨a,rfl,hk1⟩:=n1
  have hk2:=e2.l.get hk1
  obtain ⟨_,vs,hH,hl,dn⟩:=r2.ats k a _ hk2 hm
  obtain ⟨u,hu,du⟩:=jE dn hg
  refine ⟨a,u,rfl, .inl ⟨_,key, .inl hH,jj hk n2,hu.symm⟩,aS (e1.trans e2) r2 du h2⟩
end
inductive EqH(K:PySem.W.Frag)(H:Hp):Nat→V→V→Bool→Prop
 | flat {n:Nat} {x y:V} (h1:dJ x=true) (h2:dJ y=true):EqH K H n x y (eqV x y)
 | tup {n:Nat} {a b:Addr} {xs ys:List V} {f:Nat→Bool} (h1:SqT K H a xs) (h2:SqT K H b ys) (h:∀j x y,xs[j]? =some x→ys[j]? =some y→EqH K H n x y (f j)):EqH K H (n+1) (.ref a) (.ref b) ((List.range (min xs.length ys.length)).all f&&xs.length==ys.length)
 | lst {n:Nat} {a b:Addr} {xs ys:List V} {f:Nat→Bool} (h1:SqL K H a xs) (h2:SqL K H b ys) (hl:xs.length=ys.length) (h:∀j x y,xs[j]? =some x→ys[j]? =some y→EqH K H n x y (f j)):EqH K H (n+1) (.ref a) (.ref b) ((List.range xs.length).all f)
 | len {n:Nat} {a b:Addr} {xs ys:List V} (h1:SqL K H a xs) (h2:SqL K H b ys) (hl:xs.length≠ys.length):EqH K H (n+1) (.ref a) (.ref b) false
theorem rD{x:V}(h:dJ x=true):eqV x x=true:=by
 cases x <;> first | rfl | (show (_==_)=true;simp) | cases h
section
variable{X:Cx}{pins:List (Addr×Obj)}{σ:St}{H:Hp}{s:Shared}
theorem rG(I:Inv X pins σ H s){n:Nat}{x y:V}{b:Bool}(h:EqH X.K H n x y b):x=y→b=true:=by
 induction h with
 | flat h1 h2=>intro e;subst e;exact rD h1
 | @tup n a b xs ys f h1 h2 h ih=>
  intro e
  cases e
  cases I.tuple_inj h1 h2
  rw [ab1,beq_self_eq_true,Bool.and_true]
  refine abl.mpr fun j hj=> ?_
  have hj:=aa0.mp hj
  exact ih j _ _ (aaa hj) (aaa hj) rfl
 | @lst n a b xs ys f h1 h2 hl h ih=>
  intro e
  cases e
  cases I.list_inj h1 h2
  refine abl.mpr fun j hj=> ?_
  have hj:=aa0.mp hj
  exact ih j _ _ (aaa hj) (aaa hj) rfl
 | len h1 h2 hl=>
  intro e
  cases e
  cases I.list_inj h1 h2
  exact absurd rfl hl
theorem dE{xs:List V}{its:List Value}(r:bF xs its){j:Nat}(h:j < its.toArray.size):∃x,xs[j]? =some x∧bx x its.toArray[j]:=by
 have hj:j < its.length:=by simpa using h
 have hx:j < xs.length:=by rw [r.length];exact hj
 obtain ⟨u,g,ru⟩:=r.get (aaa hx)
 rw [aaa hj] at g
 cases g
 exact ⟨_,List.getElem?_eq_getElem hx,by simpa using ru⟩
theorem zB(I:Inv X pins σ H s){n:Nat}{x y:V}{b:Bool}(h:EqH X.K H n x y b):∀{A:Around} {u v:Value},bx x u→bx y v→A.units+n < cLine→SeqAt.EqAt A s u v b:=by
 induction h with
 | flat h1 h2=>exact fun ru rv _=>nQ ru rv h1 h2
 | @tup n a b xs ys f h1 h2 h ih=>
  intro A u v ru rv hu
  cases ru
  cases rv
  by_cases e:a=b
  ·have:=rG I (.tup h1 h2 h) (congrArg V.ref e)
   rw [this,e]
   exact SeqAt.EqAt.same _
  ·obtain ⟨i1,v1,t1,_⟩:=I.tuple h1
   obtain ⟨i2,v2,t2,_⟩:=I.tuple h2
   have:=SeqAt.RcAt.tuples (A:=A) (e:=f) (show s.heap.IsTuple a i1.toArray from t1) (show s.heap.IsTuple b i2.toArray from t2) (by omega) (fun j g1 g2=>by
    obtain ⟨x,hx,rx⟩:=dE v1 g1
    obtain ⟨y,hy,ry⟩:=dE v2 g2
    exact ih j x y hx hy rx ry (by show A.units+1+n < cLine;omega))
   rw [aas,aas,←v1.length,←v2.length] at this
   exact SeqAt.EqAt.of_refs e this
 | @lst n a b xs ys f h1 h2 hl h ih=>
  intro A u v ru rv hu
  cases ru
  cases rv
  by_cases e:a=b
  ·have:=rG I (.lst h1 h2 hl h) (congrArg V.ref e)
   rw [this,e]
   exact SeqAt.EqAt.same _
  ·obtain ⟨i1,v1,t1,_⟩:=I.list h1
   obtain ⟨i2,v2,t2,_⟩:=I.list h2
   have:=SeqAt.RcAt.lists (A:=A) (e:=f) t1.isList t2.isList (by rw [aas,aas,←v1.length,←v2.length];exact hl) (by omega) (fun j g1 g2=>by
    obtain ⟨x,hx,rx⟩:=dE v1 g1
    obtain ⟨y,hy,ry⟩:=dE v2 g2
    exact ih j x y hx hy rx ry (by show A.units+1+n < cLine;omega))
   rw [aas,←v1.length] at this
   exact SeqAt.EqAt.of_refs e this
 | @len n a b xs ys h1 h2 hl=>
  intro A u v ru rv hu
  cases ru
  cases rv
  have e:a≠b:=fun e=>by
   subst e
   cases I.list_inj h1 h2
   exact hl rfl
  obtain ⟨i1,v1,t1,_⟩:=I.list h1
  obtain ⟨i2,v2,t2,_⟩:=I.list h2
  exact SeqAt.EqAt.of_refs e (SeqAt.RcAt.lists_lengths t1.isList t2.isList (by rw [List.size_toArray,List.size_toArray,←v1.length,←v2.length];simpa using hl) (by omega))
end
def Gy(K:PySem.W.Frag)(n:Nat):R2:=fun x y H Q=>∃a b c,x= .ref a∧y= .ref b∧EqH K H n x y c∧Q (.bl c) H
section
variable{X:Cx}
theorem CG{n:Nat}(hu:X.A.units+n < cLine):OpR X (compareOp .Eq) (Gy X.K n):=by
 intro pins s σ H x y v u Q I rx ry h
 obtain ⟨a,b,c,rfl,rfl,h,q⟩:=h
 cases rx
 cases ry
 cases h with
 | flat h1 h2=>cases h1
 | @tup n _ _ xs ys f h1 h2 h=>
  obtain ⟨i1,v1,t1,_⟩:=I.tuple h1
  obtain ⟨i2,v2,t2,_⟩:=I.tuple h2
  refine SeqAt.eq_tupleAt (e:=f) (show s.heap.IsTuple a i1.toArray from t1) (show s.heap.IsTuple b i2.toArray from t2) (by omega) (fun j g1 g2=> ?_) ?_
  ·obtain ⟨x,hx,rx⟩:=dE v1 g1
   obtain ⟨y,hy,ry⟩:=dE v2 g2
   exact zB I (h j x y hx hy) rx ry (by show X.A.units+1+n < cLine;omega)
  ·rw [aas,aas,←v1.length,←v2.length]
   exact ⟨.bl _,H,I,rfl,q⟩
 | @lst n _ _ xs ys f h1 h2 hl h=>
  obtain ⟨i1,v1,t1,_⟩:=I.list h1
  obtain ⟨i2,v2,t2,_⟩:=I.list h2
  refine SeqAt.eq_listAt (e:=f) t1.isList t2.isList (by rw [aas,aas,←v1.length,←v2.length];exact hl) (by omega) (fun j g1 g2=> ?_) ?_
  ·obtain ⟨x,hx,rx⟩:=dE v1 g1
   obtain ⟨y,hy,ry⟩:=dE v2 g2
   exact zB I (h j x y hx hy) rx ry (by show X.A.units+1+n < cLine;omega)
  ·rw [aas,←v1.length]
   exact ⟨.bl _,H,I,rfl,q⟩
 | @len n _ _ xs ys h1 h2 hl=>
  obtain ⟨i1,v1,t1,_⟩:=I.list h1
  obtain ⟨i2,v2,t2,_⟩:=I.list h2
  exact SeqAt.eq_list_lengthsAt t1.isList t2.isList (by rw [List.size_toArray,List.size_toArray,←v1.length,←v2.length];simpa using hl) (by omega) ⟨.bl _,H,I,rfl,q⟩
end
def nu(M:Ms):Dt→Option (List Dt)
 | .lst xs=>some xs
 | .scr ns=>some (ns.map .int)
 | .loc k=>match M[k]? with
  | some (.lst xs)=>some xs
  | _=>none
 | _=>none
inductive EqM(M:Ms):Nat→Dt→Dt→Bool→Prop
 | flat {n:Nat} {d e:Dt} {x y:V} (h1:pW d=some x) (h2:pW e=some y):EqM M n d e (eqV x y)
 | tup {n:Nat} {ds es:List Dt} {f:Nat→Bool} (h:∀j d e,ds[j]? =some d→es[j]? =some e→EqM M n d e (f j)):EqM M (n+1) (.tup ds) (.tup es) ((List.range (min ds.length es.length)).all f&&ds.length==es.length)
 | lst {n:Nat} {d e:Dt} {ds es:List Dt} {f:Nat→Bool} (h1:nu M d=some ds) (h2:nu M e=some es) (hl:ds.length=es.length) (h:∀j d e,ds[j]? =some d→es[j]? =some e→EqM M n d e (f j)):EqM M (n+1) d e ((List.range ds.length).all f)
 | len {n:Nat} {d e:Dt} {ds es:List Dt} (h1:nu M d=some ds) (h2:nu M e=some es) (hl:ds.length≠es.length):EqM M (n+1) d e false
theorem dw{K:PySem.W.Frag}{G:Hp}{L:List Addr}{M:Ms}{H:Hp}{d:Dt}{v:V}{xs:List Dt}(r:Rl K G L M H)(n:Den K G L d v)(h:nu M d=some xs):∃a vs,v= .ref a∧SqL K H a vs∧aT K G L xs vs:=by
 cases d with
 | lst ds=>cases h;obtain ⟨a,vs,rfl,e,m⟩:=n;exact ⟨a,vs,rfl, .of (r.sub _ _ e),m⟩
 | scr ns=>cases h;obtain ⟨a,rfl,e⟩:=n;exact ⟨a,_,rfl,r.sub.seq e,fq⟩
 | loc k=>
  obtain ⟨a,rfl,e⟩:=n
  have h:(match M[k]? with | some (.lst xs)=>some xs | _=>none)=some xs:=h
  split at h
  ·rename_i ys hm
   cases h
   obtain ⟨_,vs,e1,m1⟩:=r.ats k a _ e hm
   exact ⟨a,vs,rfl, .of e1,m1⟩
  ·cases h
 | _=>cases h
theorem aT.back{K:PySem.W.Frag}{G:Hp}{L:List Addr}{ds:List Dt}{vs:List V}{i:Nat}{v:V}(h:aT K G L ds vs)(e:vs[i]? =some v):∃d,ds[i]? =some d∧Den K G L d v:=by
 have hi:i < ds.length:=by rw [h.length];exact (aaf.mp e).1
 obtain ⟨v',e',n⟩:=h.get (aaa hi)
 rw [e] at e'
 cases e'
 exact ⟨_,aaa hi,n⟩
theorem FF{K:PySem.W.Frag}{G:Hp}{L:List Addr}{M:Ms}{H:Hp}(r:Rl K G L M H){n:Nat}{d e:Dt}{b:Bool}(h:EqM M n d e b):∀{v u:V},Den K G L d v→Den K G L e u→EqH K H n v u b:=by
 induction h with
 | flat h1 h2=>
  intro v u n1 n2
  obtain ⟨rfl,f1⟩:=fF h1 n1
  obtain ⟨rfl,f2⟩:=fF h2 n2
  exact .flat f1 f2
 | @tup n ds es f h ih=>
  intro v u n1 n2
  obtain ⟨a,vs,rfl,e1,m1⟩:=n1
  obtain ⟨b,us,rfl,e2,m2⟩:=n2
  rw [m1.length,m2.length]
  refine .tup (.of (r.sub _ _ e1)) (.of (r.sub _ _ e2)) fun j x y hx hy=> ?_
  obtain ⟨d,hd,dn⟩:=m1.back hx
  obtain ⟨e,he,en⟩:=m2.back hy
  exact ih j d e hd he dn en
 | @lst n d e ds es f h1 h2 hl h ih=>
  intro v u n1 n2
  obtain ⟨a,vs,rfl,s1,m1⟩:=dw r n1 h1
  obtain ⟨b,us,rfl,s2,m2⟩:=dw r n2 h2
  rw [m1.length]
  refine .lst s1 s2 (by rw [←m1.length,←m2.length];exact hl) fun j x y hx hy=> ?_
  obtain ⟨d,hd,dn⟩:=m1.back hx
  obtain ⟨e,he,en⟩:=m2.back hy
  exact ih j d e hd he dn en
 | @len n d e ds es h1 h2 hl=>
  intro v u n1 n2
  obtain ⟨a,vs,rfl,s1,m1⟩:=dw r n1 h1
  obtain ⟨b,us,rfl,s2,m2⟩:=dw r n2 h2
  exact .len s1 s2 (by rw [←m1.length,←m2.length];exact hl)
def Gd(M:Ms)(d:Dt):Prop:=(∃ds,d= .tup ds)∨∃xs,nu M d=some xs
theorem vg{K:PySem.W.Frag}{G:Hp}{L:List Addr}{M:Ms}{H:Hp}{d:Dt}{v:V}(r:Rl K G L M H)(n:Den K G L d v)(h:Gd M d):∃a,v= .ref a:=by
 rcases h with ⟨ds,rfl⟩ | ⟨xs,h⟩
 ·obtain ⟨a,vs,rfl,_⟩:=n;exact ⟨a,rfl⟩
 ·obtain ⟨a,vs,rfl,_⟩:=dw r n h;exact ⟨a,rfl⟩
def GP(n:Nat):Dt→Dt→Ms→DQ→Prop:=fun d e M q=>∃b,Gd M d∧Gd M e∧EqM M n d e b∧q (.bl b) M
theorem HQ{K:PySem.W.Frag}{n:Nat}:OpD K (Gy K n) (GP n):=by
 intro G0 L0 H0 G L M H v1 v2 d1 d2 q e r n1 n2 ⟨b,h1,h2,h,hq⟩
 obtain ⟨a,rfl⟩:=vg r n1 h1
 obtain ⟨a',rfl⟩:=vg r n2 h2
 exact ⟨a,a',b,rfl,rfl,FF r h n1 n2,b9 e r hq⟩
section
variable{X:Cx}{R:St→XK}{a b e l u:Expr}{ta tb te tl tu:DE}{t:DA}{pos p p2:Pos}{k':Nat}
theorem GN{A:Around}{k n:Nat}(hr:dN k A)(hn:n≤64):A.units+n < cLine:=aaM (Nat.add_le_add_left hn _) hr.units
theorem A1(n:Nat)(hr:dN k' X.A)(ja:JE X R a ta)(jb:JE X R b tb)(hn:n≤64:=by decide)(hm:behindInMarks .Eq b=false:=by rfl):JE X R (.Compare a [.Eq] [b] pos) (dOp (GP n) ta tb):=pQ (CG (GN hr hn)) HQ ja jb hm
theorem wq(xs:List V)(k:Nat):xi xs none (some (k:Int))=xs.take k:=by
 unfold xi
 rw [HT.lg,HT.qx,abO,Nat.sub_zero]
 by_cases h:k≤xs.length
 ·rw [abY h]
 ·rw [Nat.min_eq_right (by omega),abn (aah _),abn (by omega)]
def GU(te tl:DE):DE:=fun ρ M q x=>te ρ M (fun d M1=>tl ρ M1 (fun di M2=>∃ds n,nu M2 d=some ds∧di= .int (n:Nat)∧q (.loc M2.length) (M2++[.lst (ds.drop n)])) x) x
theorem jn(he:JE X R e te)(hl:JE X R l tl):JE X R (.Subscript e (.Slice (some l) none none p2) pos) (GU te tl):=
 .of (lF oI he (gW hl) uP) fun σ H G L ρ M q x rl n h hx=>by
  refine ⟨G,L,ρ,M,_,x,rl,n,h,hx,fun v H1 ⟨d1,G1,L1,M1,e1,r1,n1,h1⟩=> ?_⟩
  refine ⟨G1,L1,ρ,M1,_,x,r1,n.mono e1,h1,hx.on e1,fun v2 H2 ⟨d2,G2,L2,M2,e2,r2,n2,ds,k,ed,ei,h2⟩=> ?_⟩
  subst ei
  obtain ⟨a,vs,rfl,sq,m⟩:=dw r2 (Den.mono e2.g e2.l _ _ n1) ed
  have n2:v2= .int k:=n2
  subst n2
  refine ⟨k,rfl,a,vs,rfl,sq,fun p hp=> ?_⟩
  rw [wu]
  exact fZ (e1.trans e2) r2 hp (aT.of (lE k m.pair)) h2
end
open PySem PySem.SeqAt
def tO(prog:Program)(w:World)(A:Around)(s:Shared)(y x:Value)(b:Bool):Prop:=
 ∀(E:Value→Shared→Prop) (Q:Bool→Shared→Prop),Q b s→wpAny (model prog w) A (eqBool y x) Q E s
theorem uZ{K:Type} [DecidableEq K]{prog:Program}{w:World}{knd:KeyKind prog w K}{es:List DictEntry}{kvs:List (K×Value)}(p:Pairs knd es kvs):∀{i:Nat} {e:DictEntry},es[i]? =some e→∃k,kvs[i]? =some (k,e.val)∧knd.is k e.key=true:=by
 induction p with
 | nil=>intro i e h;simp at h
 | @cons e0 kv es kvs h1 h2 _ ih=>
  intro i e h
  cases i with
  | zero=>
   have:e0=e:=by simpa using h
   subst this
   exact ⟨kv.1,by rw [h2];rfl,h1⟩
  | succ i=>exact ih (by simpa using h)
theorem vZ{K:Type} [DecidableEq K]{prog:Program}{w:World}{knd:KeyKind prog w K}{es:Array DictEntry}{kvs:List (K×Value)}(p:Pairs knd es.toList kvs)(k:K):
  (valueAt kvs k=none∧(es.findIdx? fun e=>knd.is k e.key)=none)∨∃i e,valueAt kvs k=some e.val∧(es.findIdx? fun e=>knd.is k e.key)=some i∧es[i]? =some e:=by
 have hf:(es.find? fun e=>knd.is k e.key).map (·.val)=valueAt kvs k:=by
  rw [←Array.find?_toList];exact p.find k
 cases hi:es.findIdx? fun e=>knd.is k e.key with
 | none=>
  left
  refine ⟨?_,rfl⟩
  rw [←hf]
  have:(es.find? fun e=>knd.is k e.key)=none:=by
   rw [Array.find?_eq_none]
   rw [Array.findIdx?_eq_none_iff] at hi
   intro x hx
   simpa using hi x hx
  rw [this];rfl
 | some i=>
  right
  rw [Array.findIdx?_eq_some_iff_getElem] at hi
  obtain ⟨hlt,h1,h2⟩:=hi
  refine ⟨i,es[i], ?_,rfl,abQ hlt⟩
  rw [←hf]
  have:(es.find? fun e=>knd.is k e.key)=some es[i]:=by
   rw [Array.find?_eq_some_iff_getElem]
   exact ⟨h1,i,hlt,rfl,fun j hj=>by simpa using h2 j hj⟩
  rw [this];rfl
theorem mS{K:Type} [DecidableEq K]{prog:Program}{w:World}{knd:KeyKind prog w K}{A:Around}{E:Value→Shared→Prop}{s:Shared}{id:String}{a b:Addr}{kvs kvs2:List (K×Value)}(ha:s.heap.DictOf knd a kvs)(hb:s.heap.DictOf knd b kvs2)(hda:(a==sysModules)=false)(hdb:(b==sysModules)=false)(hl:kvs.length=kvs2.length)
  {e:Nat→Bool} (he:∀j k v,kvs[j]? =some (k,v)→(valueAt kvs2 k=none∧e j=false)∨∃v',valueAt kvs2 k=some v'∧tO prog w A s v v' (e j)) {Q:Bool→Shared→Prop} (h:Q ((List.range kvs.length).all e) s):
  wpAny (model prog w) A (Builtin.Dict.samePairs id a b) Q E s:=by
 obtain ⟨o1,es1,ep1,g1,x1,d1,k1,p1,n1⟩:=ha
 obtain ⟨o2,es2,ep2,g2,x2,d2,k2,p2,n2⟩:=hb
 have sa:∀{c:Addr} {Q:Unit→Shared→Prop},(c==sysModules)=false→Q () s→wpAny (model prog w) A (Builtin.Dict.showsAll c) Q E s:=fun hc hq=>by
  unfold Builtin.Dict.showsAll
  rw [if_neg (by rw [hc];decide)]
  exact wpAny_pure hq
 unfold Builtin.Dict.samePairs
 refine wpAny_bind (sa hda (wpAny_bind (sa hdb (wpAny_bind (wpAny_dictEntries g1 d1 (wpAny_bind (wpAny_dictEntries g2 d2 ?_)))))))
 have z1:es1.size=kvs.length:=by rw [←p1.length];simp
 have z2:es2.size=kvs2.length:=by rw [←p2.length];simp
 rw [if_neg (by rw [z1,z2,hl];simp)]
 refine wpAny_bind (wpAny_dictEpoch g1 d1 ?_)
 refine wpAny_bind ?_
 rw [Std.Legacy.Range.forIn_eq_forIn_range']
 have sz:[:es1.size].size=es1.size:=by simp [Std.Legacy.Range.size]
 rw [sz]
 refine wpAny_forIn_list _ (fun rest b s'=>s'=s∧b.1=none∧∃i,rest=List.range' i (es1.size - i)∧i≤es1.size∧((List.range i).all e=true)) _ ?_ ?_ _ _ ⟨rfl,rfl,0,by simp,Nat.zero_le _,rfl⟩
 ·rintro x rest b s' ⟨rfl,hb,i,hr,hi,hall⟩
  have hlt:i < es1.size:=by
   rcases Nat.lt_or_ge i es1.size with h' | h'
   ·exact h'
   ·rw [Nat.sub_eq_zero_of_le h'] at hr;cases hr
  rw [show es1.size - i=(es1.size - (i+1))+1 by omega,List.range'_succ] at hr
  injection hr with hx hrest
  subst hx
  refine wpAny_bind (wpAny_dictEntries g1 d1 ?_)
  rw [abQ hlt]
  dsimp only
  obtain ⟨k,hk1,hk2⟩:=uZ p1 (i:=x) (e:=es1[x]) (by rw [Array.getElem?_toList,abQ hlt])
  obtain ⟨k',hk3,hk4⟩:=k1 es1[x] (Array.getElem_mem hlt)
  obtain rfl:k=k':=knd.inj _ _ _ hk2 hk3
  rw [hk4]
  refine wpAny_bind (wpAny_mono (Q:=fun r s''=>s''=s'∧r=e x) (E:=E) ?_ (fun r s'' ⟨es,er⟩=> ?_) fun _ _ h'=>h')
  ·refine wpAny_holding (wpAny_bind (wpAny_dictFind_of hk2 g2 d2 k2 ?_))
   rcases he x k _ hk1 with ⟨h1,h2⟩ | ⟨v',h1,h2⟩
   ·rcases vZ p2 k with ⟨_,q⟩ | ⟨j,f,q,_⟩
    ·rw [q]
     exact wpAny_pure ⟨rfl,h2.symm⟩
    ·rw [h1] at q;cases q
   ·rcases vZ p2 k with ⟨q,_⟩ | ⟨j,f,q,q1,q2⟩
    ·rw [h1] at q;cases q
    ·rw [q1]
     dsimp only
     refine wpAny_bind (wpAny_dictEntries g2 d2 ?_)
     rw [q2]
     dsimp only
     rw [h1] at q
     obtain rfl:v'=f.val:=aal q
     exact wpAny_holding (h2 _ _ ⟨rfl,rfl⟩)
  ·subst es er
   cases hex:e x with
   | false=>
    rw [if_pos (by rfl)]
    refine wpAny_pure (wpAny_pure ?_)
    have:(List.range kvs.length).all e=false:=by
     rw [List.all_eq_false]
     exact ⟨x,aa0.mpr (by omega),by rw [hex];decide⟩
    rw [this] at h
    exact h
   | true=>
    rw [if_neg (by decide)]
    refine wpAny_bind (wpAny_dictEpoch g1 d1 ?_)
    rw [if_neg (by simp)]
    refine wpAny_pure ⟨rfl,rfl,x+1,hrest,by omega, ?_⟩
    rw [List.range_succ,List.all_append,hall]
    simp [hex]
 ·rintro ⟨b1,b2⟩ s' ⟨rfl,hb,i,hr,hi,hall⟩
  have hb:b1=none:=hb
  subst hb
  have:i=es1.size:=by
   have:=congrArg List.length hr
   rw [List.length_range'] at this
   simp at this;omega
  subst this
  rw [z1] at hall
  rw [hall] at h
  exact wpAny_pure h
theorem kY{K:Type} [DecidableEq K]{prog:Program}{w:World}{knd:KeyKind prog w K}{A:Around}{E:Value→Shared→Prop}{s:Shared}{id:String}{a b:Addr}{kvs kvs2:List (K×Value)}(ha:s.heap.DictOf knd a kvs)(hb:s.heap.DictOf knd b kvs2)(hda:(a==sysModules)=false)(hdb:(b==sysModules)=false)(hl:kvs.length≠kvs2.length)
  {Q:Bool→Shared→Prop} (h:Q false s):wpAny (model prog w) A (Builtin.Dict.samePairs id a b) Q E s:=by
 obtain ⟨o1,es1,ep1,g1,x1,d1,k1,p1,n1⟩:=ha
 obtain ⟨o2,es2,ep2,g2,x2,d2,k2,p2,n2⟩:=hb
 have sa:∀{c:Addr} {Q:Unit→Shared→Prop},(c==sysModules)=false→Q () s→wpAny (model prog w) A (Builtin.Dict.showsAll c) Q E s:=fun hc hq=>by
  unfold Builtin.Dict.showsAll
  rw [if_neg (by rw [hc];decide)]
  exact wpAny_pure hq
 unfold Builtin.Dict.samePairs
 refine wpAny_bind (sa hda (wpAny_bind (sa hdb (wpAny_bind (wpAny_dictEntries g1 d1 (wpAny_bind (wpAny_dictEntries g2 d2 ?_)))))))
 have z1:es1.size=kvs.length:=by rw [←p1.length];simp
 have z2:es2.size=kvs2.length:=by rw [←p2.length];simp
 rw [if_pos (by rw [z1,z2];simpa using hl)]
 exact wpAny_bind (wpAny_rule (wpAny_pure h))
section
variable{K:Type} [DecidableEq K]{prog:Program}{w:World}{knd:KeyKind prog w K}{A:Around}{E:Value→Shared→Prop}{s:Shared}{a b:Addr}{kvs kvs2:List (K×Value)}
theorem kG(ha:s.heap.DictOf knd a kvs)(hb:s.heap.DictOf knd b kvs2)(hu:A.units < cLine){c:Bool}(h:∀{E:Value→Shared→Prop} {Q:Bool→Shared→Prop},Q c s→wpAny (model prog w) A.in1 (Builtin.Dict.samePairs s!"dict.{"__eq__"}" a b) Q E s){Q:Value→Shared→Prop}(q:Q (.bool c) s):wpAny (model prog w) A (richCompare .Eq (.ref a) (.ref b)) Q E s:=by
 refine wpAny_richCompare_same_room ha.typeIs hb.typeIs F.slot_dict_eq (wpAny_call_entry F.slot_dict_eq ha.typeIs F.entry_dict_eq ?_ (F.args_dict_eq_2 _ _)) hu
 show wpAny _ _ (Builtin.Dict.dictSlotArgs "__eq__" ⟨[.ref a, .ref b],[]⟩ >>= _) _ _ s
 refine wpAny_bind ?_
 unfold Builtin.Dict.dictSlotArgs
 refine wpAny_bind (wpAny_notOrdered_dict ha.typeIs ?_)
 refine wpAny_bind (m:=slotArgs "__eq__" 1 _) (wpAny_pure ?_)
 refine wpAny_pure ?_
 refine wpAny_bind (wpAny_isInstance hb.typeIs isSubtype_dict_dict ?_)
 rw [if_neg (by decide)]
 refine wpAny_bind (wpAny_pure (wpAny_bind (wpAny_pure (wpAny_bind (h ?_)))))
 have e:(c==true)=c:=by cases c <;> rfl
 refine wpAny_pure ⟨Value.bool (c==true),rfl,⟨fun z=>(nomatch z), ?_⟩⟩
 rw [e];exact q
theorem wc(ha:s.heap.DictOf knd a kvs)(hb:s.heap.DictOf knd b kvs2)(hda:(a==sysModules)=false)(hdb:(b==sysModules)=false)(hu:A.units < cLine)(hl:kvs.length=kvs2.length){e:Nat→Bool}(he:∀j k v,kvs[j]? =some (k,v)→(valueAt kvs2 k=none∧e j=false)∨∃v',valueAt kvs2 k=some v'∧tO prog w A.in1 s v v' (e j))
  {Q:Value→Shared→Prop} (q:Q (.bool ((List.range kvs.length).all e)) s):wpAny (model prog w) A (richCompare .Eq (.ref a) (.ref b)) Q E s:=kG ha hb hu (fun h=>mS ha hb hda hdb hl he h) q
theorem mf(ha:s.heap.DictOf knd a kvs)(hb:s.heap.DictOf knd b kvs2)(hda:(a==sysModules)=false)(hdb:(b==sysModules)=false)(hu:A.units < cLine)(hl:kvs.length≠kvs2.length)
  {Q:Value→Shared→Prop} (q:Q (.bool false) s):wpAny (model prog w) A (richCompare .Eq (.ref a) (.ref b)) Q E s:=kG ha hb hu (fun h=>kY ha hb hda hdb hl h) q
theorem tO.same(v:Value):tO prog w A s v v true:=fun E Q h=>SeqAt.EqAt.same v prog w E Q h
theorem tO.of_refs{k:Bool}(hne:a≠b)(h:∀(E:Value→Shared→Prop) (Q:Value→Shared→Prop),Q (.bool k) s→wpAny (model prog w) A (richCompare .Eq (.ref a) (.ref b)) Q E s):tO prog w A s (.ref a) (.ref b) k:=fun E Q hq=>by
 unfold eqBool
 refine wpAny_holding ?_
 refine wpAny_ite_split (fun hab=>absurd (by have:=eq_of_beq hab;injection this) hne) (fun _=> ?_)
 exact wpAny_bind (h E _ (wpAny_truthy_bool hq))
end
inductive yF(H:Hp):Nat→V→V→Bool→Prop
 | flat {n:Nat} {x y:V} (h1:dJ x=true) (h2:dJ y=true):yF H n x y (eqV x y)
 | dct {n:Nat} {a b:Addr} {kvs kvs2:List (Key×V)} {e:Nat→Bool} (h1:Rd H a (.dK kvs)) (h2:Rd H b (.dK kvs2)) (hl:kvs.length=kvs2.length) (hn:∀j k v,kvs[j]? =some (k,v)→hV kvs2 k=none→e j=false)
   (h:∀j k v v',kvs[j]? =some (k,v)→hV kvs2 k=some v'→yF H n v v' (e j)):yF H (n+1) (.ref a) (.ref b) ((List.range kvs.length).all e)
 | len {n:Nat} {a b:Addr} {kvs kvs2:List (Key×V)} (h1:Rd H a (.dK kvs)) (h2:Rd H b (.dK kvs2)) (hl:kvs.length≠kvs2.length):yF H (n+1) (.ref a) (.ref b) false
theorem qo{κ:Type} [DecidableEq κ]:∀{kvs:List (κ×V)} {j:Nat} {k:κ} {v:V},(kvs.map (·.1)).Nodup→kvs[j]? =some (k,v)→hV kvs k=some v
 | [],j,k,v,_,h=>by simp at h
 | p::r,0,k,v,_,h=>by
  have:p=(k,v):=by simpa using h
  subst this
  exact cj rfl
 | p::r,j+1,k,v,hn,h=>by
  have h:r[j]? =some (k,v):=by simpa using h
  rw [aaI,abz] at hn
  have:¬p.1=k:=fun e=>hn.1 (by rw [e];exact aan.mpr ⟨_,aaj h,rfl⟩)
  rw [bV this]
  exact qo hn.2 h
theorem uE{H:Hp}{a:Addr}{u v:HO}(h1:Rd H a u)(h2:Rd H a v)(hu:∀o w,u≠ .frz o w)(hv:∀o w,v≠ .frz o w):u=v:=by
 rcases h1 with h1 | ⟨o,h1⟩ <;> rcases h2 with h2 | ⟨o',h2⟩ <;> rw [h1] at h2
 ·exact aal h2
 ·exact absurd (aal h2) (hu _ _)
 ·exact absurd (aal h2).symm (hv _ _)
 ·have:=aal h2
  injection this
theorem zh{κ:Type}:∀{kvs:List (κ×V)} {vs:List (κ×Value)},KV kvs vs→∀{j:Nat} {k:κ} {u:Value},vs[j]? =some (k,u)→∃v,kvs[j]? =some (k,v)∧bx v u
 | _,_, .nil,j,k,u,h=>by simp at h
 | _,_, .cons (a:=p) (b:=q) r t,0,k,u,h=>by
  have:q=(k,u):=by simpa using h
  subst this
  have e:p.1=k:=r.1
  exact ⟨p.2,by show some p=_;rw [←e],r.2⟩
 | _,_, .cons r t,j+1,k,u,h=>by
  obtain ⟨v,e,rv⟩:=zh t (show _=some (k,u) by simpa using h)
  exact ⟨v,by simpa using e,rv⟩
section
variable{X:Cx}{pins:List (Addr×Obj)}{σ:St}{H:Hp}{s:Shared}
theorem yt(I:Inv X pins σ H s){a:Addr}{kvs:List (Key×V)}(h:Rd H a (.dK kvs)):(kvs.map (·.1)).Nodup:=by
 obtain ⟨_,_,vs,r,o,es,ep,_,_,_,_,_,n⟩:=gD I.hok h
 rw [r.keys];exact n
theorem wd(I:Inv X pins σ H s){n:Nat}{x y:V}{b:Bool}(h:yF H n x y b):x=y→b=true:=by
 induction h with
 | flat h1 h2=>intro e;subst e;exact rD h1
 | @dct n a b kvs kvs2 f h1 h2 hl hn h ih=>
  intro e
  cases e
  have:=uE h1 h2 (fun _ _ z=>nomatch z) (fun _ _ z=>nomatch z)
  cases this
  refine abl.mpr fun j hj=> ?_
  have hj:=aa0.mp hj
  have g:kvs[j]? =some (kvs[j].1,kvs[j].2):=aaa hj
  exact ih j _ _ _ g (qo (yt I h1) g) rfl
 | len h1 h2 hl=>
  intro e
  cases e
  have:=uE h1 h2 (fun _ _ z=>nomatch z) (fun _ _ z=>nomatch z)
  cases this
  exact absurd rfl hl
theorem zW{kvs:List (Key×V)}{vs:List (Key×Value)}(r:KV kvs vs)(k:Key):(hV kvs k=none∧valueAt vs k=none)∨∃v u,hV kvs k=some v∧valueAt vs k=some u∧bx v u:=by
 have:=r.val k
 cases h1:hV kvs k with
 | none=>
  cases h2:valueAt vs k with
  | none=>exact .inl ⟨rfl,rfl⟩
  | some u=>rw [h1,h2] at this;exact this.elim
 | some v=>
  cases h2:valueAt vs k with
  | none=>rw [h1,h2] at this;exact this.elim
  | some u=>rw [h1,h2] at this;exact .inr ⟨v,u,rfl,rfl,this⟩
theorem Dw(I:Inv X pins σ H s){n:Nat}{x y:V}{c:Bool}(h:yF H n x y c):∀{A:Around} {u v:Value},bx x u→bx y v→A.units+n < cLine→tO X.prog X.w A s u v c:=by
 induction h with
 | flat h1 h2=>exact fun ru rv _ E Q q=>nQ ru rv h1 h2 X.prog X.w E Q q
 | @dct n a b kvs kvs2 f h1 h2 hl hn h ih=>
  intro A u v ru rv hu
  cases ru
  cases rv
  by_cases e:a=b
  ·have:=wd I (.dct h1 h2 hl hn h) (congrArg V.ref e)
   rw [this,e]
   exact tO.same _
  ·obtain ⟨_,z1,vs,r1,d1⟩:=gD I.hok h1
   obtain ⟨_,z2,vs2,r2,d2⟩:=gD I.hok h2
   refine tO.of_refs e fun E Q q=> ?_
   rw [r1.length] at q
   refine wc d1 d2 z1 z2 (by omega) (by rw [←r1.length,←r2.length];exact hl) (fun j k u hj=> ?_) q
   obtain ⟨v,hv,rv⟩:=zh r1 hj
   rcases zW r2 k with ⟨q1,q2⟩ | ⟨v',u',q1,q2,q3⟩
   ·exact .inl ⟨q2,hn j k v hv q1⟩
   ·exact .inr ⟨u',q2,ih j k v v' hv q1 rv q3 (by show A.units+1+n < cLine;omega)⟩
 | @len n a b kvs kvs2 h1 h2 hl=>
  intro A u v ru rv hu
  cases ru
  cases rv
  have e:a≠b:=fun e=>by
   subst e
   have:=uE h1 h2 (fun _ _ z=>nomatch z) (fun _ _ z=>nomatch z)
   cases this
   exact hl rfl
  obtain ⟨_,z1,vs,r1,d1⟩:=gD I.hok h1
  obtain ⟨_,z2,vs2,r2,d2⟩:=gD I.hok h2
  exact tO.of_refs e fun E Q q=>mf d1 d2 z1 z2 (by omega) (by rw [←r1.length,←r2.length];exact hl) q
end
section
variable{X:Cx}{R:St→XK}{a b e f o:Expr}{ta tb te tf to:DE}{t:DA}{pos p apos cpos:Pos}{k':Nat}
theorem nY{K:PySem.W.Frag}{G:Hp}{L:List Addr}{k:Key}:∀{ks:List Key} {ds:List Dt} {vs:List V},aT K G L ds vs→aZ ks ds k=none→hV (ks.zip vs) k=none
 | [],_,_,_,_=>rfl
 | _::_,[],_,h,_=>by cases h;rfl
 | c::ks,d0::ds,_,⟨v0,vs,e,n0,n⟩,h=>by
  subst e
  rw [aaQ]
  by_cases hc:c=k
  ·have h':aZ (c::ks) (d0::ds) k=some d0:=by unfold aZ;rw [List.zip_cons_cons,List.find?_cons_of_pos (by simpa using hc)];rfl
   rw [h'] at h;cases h
  ·have h':aZ (c::ks) (d0::ds) k=aZ ks ds k:=by unfold aZ;rw [List.zip_cons_cons,List.find?_cons_of_neg (by simpa using hc)]
   rw [h'] at h
   rw [bV hc]
   exact nY n h
end
def zg(M:Ms):Dt→Option (List Dt)
 | .lst xs=>some xs
 | .loc k=>match M[k]? with
  | some (.lst xs)=>some xs
  | _=>none
 | _=>none
theorem pH{K:PySem.W.Frag}{G:Hp}{L:List Addr}{M:Ms}{H:Hp}{d:Dt}{v:V}{xs:List Dt}(r:Rl K G L M H)(n:Den K G L d v)(h:zg M d=some xs):∃a vs,v= .ref a∧H a=some (.lst vs)∧aT K G L xs vs:=by
 cases d with
 | lst ds=>cases h;obtain ⟨a,vs,rfl,e,m⟩:=n;exact ⟨a,vs,rfl,r.sub _ _ e,m⟩
 | loc k=>
  obtain ⟨a,rfl,e⟩:=n
  have h:(match M[k]? with | some (.lst xs)=>some xs | _=>none)=some xs:=h
  split at h
  ·rename_i ys hm
   cases h
   obtain ⟨_,vs,e1,m1⟩:=r.ats k a _ e hm
   exact ⟨a,vs,rfl,e1,m1⟩
  ·cases h
 | _=>cases h
def Dv:Dt→Dt→Ms→DQ→Prop:=fun d e M q=>∃xs ys,zg M d=some xs∧zg M e=some ys∧xs.length+ys.length≤sizeLine∧q (.lst (xs++ys)) M
theorem FQ{K:PySem.W.Frag}:OpD K EO Dv:=by
 intro G0 L0 H0 G L M H v1 v2 d1 d2 q e r n1 n2 ⟨xs,ys,h1,h2,hz,hq⟩
 obtain ⟨p1,w1,rfl,e1,m1⟩:=pH r n1 h1
 obtain ⟨p2,w2,rfl,e2,m2⟩:=pH r n2 h2
 refine ⟨p1,p2,w1,w2,rfl,rfl,e1,e2,by rw [←m1.length,←m2.length];exact hz,fun p hp=> ?_⟩
 exact g9 e r hp (mi r hp (m1.app m2)) hq
section
variable{X:Cx}{R:St→XK}{a b:Expr}{ta tb:DE}{pos:Pos}
theorem ju(ja:JE X R a ta)(jb:JE X R b tb):JE X R (.BinOp a .Add b pos) (dOp Dv ta tb):=ya zc FQ ja jb
end
section
variable{X:Cx}{R:St→XK}{e l:Expr}{te tl:DE}{pos p2:Pos}
def zD(te tl:DE):DE:=fun ρ M q x=>te ρ M (fun d M1=>tl ρ M1 (fun di M2=>∃ds n,nu M2 d=some ds∧di= .int (n:Nat)∧q (.loc M2.length) (M2++[.lst (ds.take n)])) x) x
theorem pP(he:JE X R e te)(hl:JE X R l tl):JE X R (.Subscript e (.Slice none (some l) none p2) pos) (zD te tl):=
 .of (lF oI he uP (gW hl)) fun σ H G L ρ M q x rl n h hx=>by
  refine ⟨G,L,ρ,M,_,x,rl,n,h,hx,fun v H1 ⟨d1,G1,L1,M1,e1,r1,n1,h1⟩=> ?_⟩
  refine ⟨G1,L1,ρ,M1,_,x,r1,n.mono e1,h1,hx.on e1,fun v2 H2 ⟨d2,G2,L2,M2,e2,r2,n2,ds,k,ed,ei,h2⟩=> ?_⟩
  subst ei
  obtain ⟨a,vs,rfl,sq,m⟩:=dw r2 (Den.mono e2.g e2.l _ _ n1) ed
  have n2:v2= .int k:=n2
  subst n2
  refine ⟨k,rfl,a,vs,rfl,sq,fun p hp=> ?_⟩
  rw [wq]
  exact fZ (e1.trans e2) r2 hp (aT.of (lC k m.pair)) h2
end
theorem jY(elt target iter:Expr)(scope:Scope)(pos:Pos)(it acc:Value)(env:Env):
  compTurn (.ListComp elt [⟨target,iter,[],0⟩] scope pos) 0 it acc env=(standAt iter.pos >>= fun _=>pyNext it >>= fun r=>match r with
   | none=>pure (.done .next)
   | some v=>letOwnedTupleGo target it v >>= fun _=>assign target env v >>= fun _=>
    (eval elt env >>= fun x=>call (.builtin "list.append") [acc,x] >>= fun _=>pure ()) >>= fun _=>again (.compLoop (.ListComp elt [⟨target,iter,[],0⟩] scope pos) 0 it acc env)):=by
 unfold compTurn
 dsimp only [List.getElem?_cons_zero,List.getElem?_cons_succ,List.getElem?_nil]
 simp only [List.forIn_cons,List.forIn_nil,bind_assoc,pure_bind,if_true]
 rfl
def xg(J:It)(n:Nat)(gg:TG)(te:TE)(cs:St)(Q:VK)(H1:Hp)(D:Addr):Prop:=
 ∃W:Nat→Nat→List V→Hp→Prop,(∃m,W 0 m [] (upd H1 D (.lst [])))∧∀i m ys H2,W i m ys H2→H2 D=some (.lst ys)∧
  ((J.stop i H2∧Q (.ref D) H2)∨(J.go i H2∧∀x H3,J.yld i H2 x H3→∀os:St,os.length=n→gg x (os++cs) H3 fun σ' H3'=>te σ' H3' fun y H5=>H5 D=some (.lst ys)∧ys.length < sizeLine∧∃m',m' < m∧W (i+1) m' (ys++[y]) (upd H5 D (.lst (ys++[y])))))
def BU(wi:TI)(n:Nat)(gg:TG)(te:TE)(caps:List Nat):TE:=fun σ H Q=>wi σ H fun J H1=>∀D,H1 D=none→xg J n gg te (gG caps σ) Q H1 D
section
variable{X:Cx}{elt iter tg:Expr}{xs:List Str}{scope:Scope}{pos:Pos}{wi:TI}{gg:TG}{te:TE}{ys:List Str}{caps:List Nat}
theorem wy(S:cK X scope xs ys caps)(hc:X.calm=true)(hg:∀C s H fp,PG (Cx.comp X (xs++ys) scope C s H fp) tg gg)(hk:BG xs.length gg)(he:∀C s H fp,PE (Cx.comp X (xs++ys) scope C s H fp) elt te)
  {pins:List (Addr×Obj)} {σ:St} {H2:Hp} {s2:Shared} {it:Addr} {fp:List Addr} {tn:Nat→Heap→Prop} {J:It} {Q:V→Hp→Prop} {PQ:Value→Addr→Result→Shared→Prop} (I:Inv X pins σ H2 s2) (T:dF X.prog X.w X.K tg J fp it tn) (t0:tn 0 s2.heap) (f2:∀b∈fp,tG X pins H2 b)
  (h:∀D,H2 D=none→xg J xs.length gg te (gG caps σ) Q H2 D)
  (hPQ:∀D C s' H',Inv X pins σ H' s'→Q (.ref D) H'→(∃m,s'.heap.Ns C m)→H' C=none→X.s₀.heap.objs.size≤C→C≠X.env.locals→(∀z c,X.env.cells.lookup z=some c→c≠C)→(∀p∈X.pn++pins,p.1≠C)→PQ (.ref D) C (.ok .next) s'):
  wpAny (model X.prog X.w) X.A (newList []) (fun acc s3=>wpAny (model X.prog X.w) X.A (newFunctionEnv scope X.env.globals (mz X.env scope.names []) [] X.env.qual none .none (some X.env)) (fun cenv s4=>
   codeAny (model X.prog X.w) X.A (.compStart (.ListComp elt [⟨tg,iter,[],0⟩] scope pos) 0 (.ref it) acc {cenv with scope:=relabel scope X.env}) (PQ acc cenv.locals) s4) X.xe s3) X.xe s2:=by
 have hD:H2 s2.heap.objs.size=none:=I.fresh
 obtain ⟨W,⟨m0,w0⟩,step⟩:=h _ hD
 refine wpAny_newObj_type ?_
 have I3:Inv X pins σ (upd H2 s2.heap.objs.size (.lst [])) {s2 with heap:=s2.heap.push {cls:= .type "list",data:= .seq ([]:List Value).toArray}}:=Inv.lnew (t':=s2.toks) I (ys:=[]) (its:=[]) .nil (abJ _)
 generalize hH3:upd H2 s2.heap.objs.size (.lst [])=H3 at I3 w0
 generalize hs3:({s2 with heap:=s2.heap.push {cls:= .type "list",data:= .seq ([]:List Value).toArray}}:Shared)=s3 at I3
 have hfp3:∀b∈fp,H3 b=none:=fun b hb=>by
  obtain ⟨o,e,_⟩:=T.obj _ _ t0 b hb
  rw [←hH3,aw (aaz (Heap.lt_size e))]
  exact (f2 b hb).1
 have t3:tn 0 s3.heap:=T.keep _ _ _ t0 fun b hb o e=>by rw [←hs3];exact Heap.get?_push_of_some _ e
 refine wpAny_newFunctionEnv S.nocell (fun y hy=>nomatch hy) (fun h4 ns4 sb4=> ?_) S.kind
 have hC:H3 s3.heap.objs.size=none:=I3.fresh
 have kp:∀b o,s3.heap.get? b=some o→h4.get? b=some o:=fun b o e=>
  (sb4.2 b (aaz (Heap.lt_size e))).trans (Heap.get?_push_of_some _ e)
 generalize hs4:({s3 with heap:=h4,toks:=s3.toks+([]:List (Str×Value)).length}:Shared)=s4
 have e4:s4.heap=h4:=by rw [←hs4]
 have cne:∀z c,X.env.cells.lookup z=some c→c≠s3.heap.objs.size:=fun z c e q=>by
  obtain ⟨v,w⟩:=I3.cell z c e
  exact aaW _ (q▸w.lt)
 have cl_in:∀z c,(mz X.env scope.names []).lookup z=some c→X.env.cells.lookup z=some c:=fun z c e=>jG scope.names [] (S.has I.ok) (fun q=>nomatch q) e
 have Lne:s3.heap.objs.size≠X.env.locals:=abU I3.lt
 have ok:(Cx.comp X (xs++ys) scope s3.heap.objs.size s3 H3 fp).Ok:=by
  refine ⟨I3.ok.mod,S.kind,I3.ok.glob,I3.ok.blt,aah _,fun z z' c e1 e2=>I3.ok.inj z z' c (cl_in z c e1) (cl_in z' c e2),fun z hz=> ?_,fun z c hz=>(by cases hz),I3.ok.hd,I3.ok.frames, .inl rfl,fun b hb=>⟨?_,fun z c e=> ?_⟩,I3.bs, ?_,fun b o e hb=> ?_,fun b hb hf=> ?_,I3.stack,I3.stkFree⟩
  ·have:=gF (env:=X.env) scope.names [] (.inl (uC S.nocell hz))
   exact aa4.mp this
  ·obtain ⟨o,e,_⟩:=T.obj _ _ t3 b hb
   exact aaz (Heap.lt_size e)
  ·exact (f2 b hb).2.2.2.2.1 z c (cl_in z c e)
  ·exact aau I3.ok.bsz I3.sz
  ·obtain ⟨_,_,_,hy,_⟩:=f2 b hb
   have e0:=(I3.ok.bs b o e).1
   rcases hy with hy | hy
   ·exact I3.ok.noex b o e hy
   ·exact absurd (aam (Heap.lt_size e0) hy) (aaW _)
  ·obtain ⟨_,hl,hfs,_⟩:=f2 b hb
   exact (aaG.mp (I3.stkSub b hf)).elim hl hfs
 have hlen:((List.replicate xs.length (none:Option V))++gG caps σ).length=(xs++ys).length:=by
  rw [aai,aai,aaK,S.len]
  unfold gG
  rw [aac]
 have I4:Inv X pins σ H3 s4:=by
  rw [←hs4]
  exact I3.kept kp
 have Ic:Inv (Cx.comp X (xs++ys) scope s3.heap.objs.size s3 H3 fp) [] ((List.replicate xs.length (none:Option V))++gG caps σ) H3 s4:=by
  refine ⟨ok,by rw [←hs4];rfl,I4.bare,Un.kept (by rw [e4];exact kp),⟨_,by rw [e4];exact ns4,fun i z v e1 e2 e3=> ?_⟩,fun z c e=>I4.cell z c (cl_in z c e),hC,fun z c e=>I4.freeC z c (cl_in z c e),(fun p hp=>nomatch hp),I4.hok,hlen⟩
  have e1:(xs++ys)[i]? =some z:=e1
  by_cases hi:i < xs.length
  ·rw [aar (by rw [aaK];exact hi),abC,if_pos hi] at e2
   cases e2
  ·obtain ⟨j,rfl⟩:∃j,i=xs.length+j:=⟨i - xs.length,by omega⟩
   have e1:ys[j]? =some z:=by
    rw [aaw (by omega),Nat.add_sub_cancel_left] at e1
    exact e1
   have e2:(gG caps σ)[j]? =some (some v):=by
    rw [aaw (by rw [aaK];omega),aaK,Nat.add_sub_cancel_left] at e2
    exact e2
   unfold gG at e2
   rw [aak] at e2
   cases hi:caps[j]? with
   | none=>rw [hi] at e2;cases e2
   | some i=>
    rw [hi] at e2
    have e2:(σ[i]?).join=some v:=aal e2
    have e2:σ[i]? =some (some v):=by
     cases q:σ[i]? with
     | none=>rw [q] at e2;cases e2
     | some o=>rw [q] at e2;exact congrArg some e2
    obtain ⟨c1,c2,c3⟩:=S.cap (z,i) (tP e1 hi)
    have c4:=lA (env:=X.env) I.ok.kind c2 c3
    have c3:(z,NameKind.free)∈scope.names:=PySem.mem_of_lookup c3
    obtain ⟨m,hn,hl⟩:=I4.loc
    obtain ⟨u,r,lk⟩:=hl i z v c1 e2 (.inr (.inl c2))
    refine ⟨u,r, .inr ⟨.inl c4, ?_⟩⟩
    rcases lk with ⟨k,_⟩ | ⟨_,c,hc',z'⟩
    ·exact absurd ((show X.env.scope.names.lookup z=some .local from k).symm.trans c2) (by decide)
    ·obtain ⟨d,hd⟩:=aa4.mp (gF (env:=X.env) scope.names [] (.inl c3))
     have:=cl_in z d hd
     rw [hc'] at this
     cases this
     exact ⟨c,hd,z'⟩
 have loop:codeAny (model X.prog X.w) X.A (.compLoop (.ListComp elt [⟨tg,iter,[],0⟩] scope pos) 0 (.ref it) (.ref s2.heap.objs.size) (compEnvC scope (mz X.env scope.names []) s3.heap.objs.size X.env)) (PQ (.ref s2.heap.objs.size) s3.heap.objs.size) s4:=by
  have fpC:∀{H':Hp},(∀b∈fp,H' b=none)→∀b∈fp,tG (Cx.comp X (xs++ys) scope s3.heap.objs.size s3 H3 fp) [] H' b:=fun hn b hb=>
   ⟨hn b hb,(ok.exf b hb).1,ok.exfs b hb, .inl hb,(ok.exf b hb).2,(fun p hp=>nomatch hp)⟩
  refine codeAny_loop rfl (fun n s'=>∃(i:Nat) (zs:List V) (os:St) (H':Hp),os.length=xs.length∧Inv (Cx.comp X (xs++ys) scope s3.heap.objs.size s3 H3 fp) [] (os++gG caps σ) H' s'∧tn i s'.heap∧(∀b∈fp,H' b=none)∧W i n zs H') (fun n s5 z=> ?_) m0 ⟨0,[],List.replicate xs.length none,H3,by rw [aaK],Ic,T.keep _ _ _ t3 (fun b hb o e=>by rw [e4];exact kp b o e),hfp3,w0⟩
  obtain ⟨i,zs,os,H5,l5,I5,t5,fr5,w5⟩:=z
  show wpAny _ _ ((compTurn _ 0 (.ref it) _ _).onRaise _) _ _ s5
  refine wpAny_noted ?_
  rw [jY]
  refine wpAny_bind (wpAny_standAt (wpAny_bind ?_))
  obtain ⟨hacc,stop | go⟩:=step i n zs H5 w5
  ·obtain ⟨stop,q⟩:=stop
   refine thn (T.done (Cx.comp X (xs++ys) scope s3.heap.objs.size s3 H3 fp) rfl rfl rfl hc i [] s5 _ H5 _ I5 (fpC fr5) t5 stop) fun r s6 ⟨hr,I6⟩=> ?_
   subst hr
   refine wpAny_pure (hPQ _ _ s6 H5 ?_ q ?_ I6.free ?_ Lne cne fun p hp z=> ?_)
   ·refine I3.call' I6.os I6.base I6.hok I6.bare fun b hb=> ?_
    obtain ⟨_,g1,_,g3,g4,g5⟩:=f2 b hb
    exact ⟨g3,g1,g4,g5⟩
   ·obtain ⟨m,hn,_⟩:=I6.loc
    exact ⟨m,hn⟩
   ·exact I3.sz
   ·exact aaz (Heap.lt_size (I3.pin p hp).1) z
  ·obtain ⟨go,turn⟩:=go
   refine thn (T.item (Cx.comp X (xs++ys) scope s3.heap.objs.size s3 H3 fp) rfl rfl rfl hc i [] s5 _ H5 _ I5 (fpC fr5) t5 go) fun r s6 ⟨u,hr,h6⟩=> ?_
   subst hr
   refine wpAny_bind (thn h6 fun _ s7 ⟨y,H7,I7,r7,y7,t7,fr7⟩=> ?_)
   have I7':=I7.pinned (fpC fr7) (T.obj _ _ t7)
   refine wpAny_bind (wpAny_mono (hg _ _ _ _ _ s7 _ H7 y u _ I7' r7 (hk y os _ H7 _ l5 (turn y _ y7 os l5))) (fun _ s8 z8=> ?_) fun _ _ f=>f.elim)
   obtain ⟨σ8,H8,I8,⟨os8,l8,e8⟩,q8⟩:=z8
   subst e8
   refine wpAny_bind (wpAny_bind (wpAny_mono (he _ _ _ _ _ s8 _ _ _ I8 q8) (fun u10 s10 z10=> ?_) fun _ _ f=>f.elim))
   obtain ⟨v10,H10,I10,r10,a10,l10,m10,hm10,w10⟩:=z10
   refine wpAny_bind (wpAny_mono (jd (X:=Cx.comp X (xs++ys) scope s3.heap.objs.size s3 H3 fp) _ s10 _ H10 (.ref s2.heap.objs.size) [v10] _ [u10] (fun _ H'=>H'=upd H10 s2.heap.objs.size (.lst (zs++[v10]))) I10 rfl (.cons r10 .nil) ⟨_,zs,v10,rfl,rfl,a10,l10,rfl⟩) (fun _ s11 z11=> ?_) fun _ _ f=>f.elim)
   obtain ⟨_,H11,I11,_,e11⟩:=z11
   subst e11
   refine wpAny_pure (wpAny_pure ⟨rfl,m10,hm10,i+1,zs++[v10],os8,_,l8,I11.unpinned,T.keep _ _ _ t7 fun b hb o e=>(I11.pin (b,o) (aav _ (aav _ (df hb e)))).1,fun b hb=> ?_,w10⟩)
   obtain ⟨o,e,_⟩:=T.obj _ _ t7 b hb
   exact (I11.pin (b,o) (aav _ (aav _ (df hb e)))).2.1
 exact codeAny_compStart_list loop (T.self X.A 0 _ _ _ (T.keep _ _ _ t3 (fun b hb o e=>by rw [e4];exact kp b o e)) loop)
theorem xM(S:cK X scope xs ys caps)(hc:X.calm=true)(hi:PI X tg iter wi)(hg:∀C s H fp,PG (Cx.comp X (xs++ys) scope C s H fp) tg gg)(hk:BG xs.length gg)(he:∀C s H fp,PE (Cx.comp X (xs++ys) scope C s H fp) elt te)(hs:∀x,foldedSetIterable iter X.env x=pure x:=by intro _;rfl):
  PE X (.ListComp elt [⟨tg,iter,[],0⟩] scope pos) (BU wi xs.length gg te caps):=by
 intro pins s σ H Q I h
 rw [eval_ListComp]
 refine wpAny_comprehension_free (use:=none) rfl hs (hU (S.has I.ok)) S.kind S.names (thn (hi pins s σ H _ I h) fun v s1 h1=>thn h1 fun itv s2 h2=> ?_)
 obtain ⟨it,fp,tn,J,H2,rfl,I2,T,t0,f2,q⟩:=h2
 refine wy S hc hg hk he (Q:=Q) I2 T t0 f2 q fun D C s' H' I' q' n' hC hz hL hcc hp=> ?_
 obtain ⟨m,n'⟩:=n'
 exact ⟨m,n',fun h' sb=>⟨.ref D,H',I'.turned (it:=C) (t':=s'.toks) (fun b o hb e=>(sb.2 b hb).trans e) hC hL (.inr hz) hcc hp,rfl,q'⟩⟩
end
def wA(g:Dt→En→(En→Prop)→Prop)(te:DE)(ρ0:En)(ok:Ms→Prop):List Dt→List Dt→Ms→(List Dt→Ms→Prop)→Prop
 | [],acc,M,k=>ok M∧k acc M
 | x::xs,acc,M,k=>ok M∧g x ρ0 fun ρ'=>te ρ' M (fun d M2=>wA g te ρ0 ok xs (acc++[d]) M2 k) noX
def zE(n:Nat)(ti:DK)(g:Dt→En→(En→Prop)→Prop)(te:DE)(caps:List Nat):DE:=fun ρ M q x=>ti ρ M (fun xs ok M1=>xs.length≤sizeLine∧wA g te (List.replicate n none++n6 caps ρ) ok xs [] M1 (fun ys M2=>q (.lst ys) M2)) x
theorem yv{K:PySem.W.Frag}{J:It}{gg:TG}{g:Dt→En→(En→Prop)→Prop}{te:DE}{caps:List Nat}{nn:Nat}{ρ:En}{σ:St}{G1:Hp}{L1:List Addr}{M1:Ms}{H1:Hp}{xs:List Dt}{ok:Ms→Prop}{Dl:Addr}{Q:VK}{k:List Dt→Ms→Prop}(gd:GD K gg g)(r1:Rl K G1 L1 M1 H1)(n:EnD K G1 L1 ρ σ)(y:YlK K J xs ok G1 L1)(hD:H1 Dl=none)(hz:xs.length≤sizeLine)
  (h:wA g te (List.replicate nn none++n6 caps ρ) ok xs [] M1 k)
  (fin:∀G2 L2 M2 H2 ds vs,Ex G1 L1 H1 G2 L2 H2→Rl K G2 L2 M2 H2→G2 Dl=none→Dl∉L2→H2 Dl=some (.lst vs)→aT K G2 L2 ds vs→k ds M2→Q (.ref Dl) H2):
  xg J nn gg (tL K (fun _=>E0) te) (gG caps σ) Q H1 Dl:=by
 refine ⟨fun i m ys H2=>m+i=xs.length∧H2 Dl=some (.lst ys)∧∃acc G2 L2 M2,Ex G1 L1 H1 G2 L2 H2∧Rl K G2 L2 M2 H2∧G2 Dl=none∧Dl∉L2∧aT K G2 L2 acc ys∧acc.length≤i∧wA g te (List.replicate nn none++n6 caps ρ) ok (xs.drop i) acc M2 k,⟨xs.length,rfl,aD,[],G1,L1,M1, ?_⟩, ?_⟩
 ·have gn:G1 Dl=none:=r1.sub.free hD
  refine ⟨⟨.refl _, .refl _,fun _ h _=>h,fun b u h1 _=>by rw [aw (fun z=>by rw [z,hD] at h1;cases h1)];exact h1,fun _ h=> .inl h,fun b h=>by rw [aw (fun z=>h (by rw [z];exact hD))];exact h⟩,⟨fun b u e=>by rw [aw (fun z=>by rw [z,gn] at e;cases e)];exact r1.sub b u e,r1.len,r1.nd,fun i a m h1 h2=> ?_⟩,gn,r1.memN hD,rfl,aah _,by rw [abO];exact h⟩
  obtain ⟨q1,q2⟩:=r1.ats i a m h1 h2
  exact ⟨q1,q2.mono (.refl _) (.refl _) (aw fun z=>q2.there (by rw [z];exact hD))⟩
 ·rintro i m ys H2 ⟨hm,hacc,acc,G2,L2,M2,e2,r2,g2,l2,n2,la,h2⟩
  refine ⟨hacc, ?_⟩
  have ne1:∀{b:Addr} {u:HO},H1 b=some u→b≠Dl:=fun e z=>by rw [z,hD] at e;cases e
  by_cases hi:i < xs.length
  ·right
   have hd:xs[i]? =some xs[i]:=aaa hi
   rw [aaU hi] at h2
   obtain ⟨hok,h2⟩:=h2
   obtain ⟨go,yl⟩:=y.go i G2 L2 M2 H2 _ e2.g e2.l r2 hok hd
   refine ⟨go,fun v H3 hy os hos=> ?_⟩
   obtain ⟨G3,e3,r3,n3⟩:=yl v H3 hy
   have h3:H3 Dl=some (.lst ys):=e3.out _ _ hacc l2
   have g3:G3 Dl=none:=e3.fr _ g2 (by rw [hacc];simp)
   refine gd G3 L2 M2 H3 _ v _ _ _ _ r3 n3 (Bw ((n.mono e2).mono e3) caps hos) h2 fun ρ' σ' n' h'=> ?_
   refine ⟨G3,L2,ρ',M2,_,noX,r3,n',h',tR,fun v5 H5 ⟨d5,G5,L5,M5,e5,r5,n5,h5⟩=> ?_⟩
   have h5':H5 Dl=some (.lst ys):=e5.out _ _ h3 l2
   have g5:G5 Dl=none:=e5.fr _ g3 (by rw [h3];simp)
   have l5:Dl∉L5:=fun z=>(e5.new _ z).elim l2 fun q=>by rw [h3] at q;cases q
   have e35:=e3.trans e5
   have lenys:ys.length=acc.length:=by rw [←n2.length]
   refine ⟨h5',by omega,m - 1,by omega,by omega,aD,acc++[d5],G5,L5,M5, ?_, ?_,g5,l5,(aT.mono e35.g e35.l _ _ n2).app ⟨_,_,rfl,n5,rfl⟩,by rw [aai];show acc.length+1≤i+1;omega,h5⟩
   ·have e15:=e2.trans e35
    exact ⟨e15.g,e15.l,e15.fr,fun b u h1 h2=>by rw [aw (ne1 h1)];exact e15.out b u h1 h2,e15.new,fun b h=>by
     by_cases hb:b=Dl
     ·rw [hb,aD];simp
     ·rw [aw hb];exact e15.dom b h⟩
   ·refine ⟨fun b u e=>by rw [aw (fun z=>by rw [z,g5] at e;cases e)];exact r5.sub b u e,r5.len,r5.nd,fun i a m h1 h2=> ?_⟩
    obtain ⟨q1,q2⟩:=r5.ats i a m h1 h2
    exact ⟨q1,q2.mono (.refl _) (.refl _) (aw fun z=>l5 (by rw [←z];exact aaj h1))⟩
  ·left
   rw [abm (by omega)] at h2
   exact ⟨y.stop i G2 L2 M2 H2 e2.g e2.l r2 h2.1 (by omega),fin G2 L2 M2 H2 acc ys e2 r2 g2 l2 hacc n2 h2.2⟩
section
variable{X:Cx}{R:St→XK}{elt iter:Expr}{x y:Str}{px py tp:Pos}{scope:Scope}{pos:Pos}{ti:DK}{te:DE}{ys:List Str}{caps:List Nat}{kk:Nat}
theorem vG(S:cK X scope [x,y] ys caps)(hi:JK X R (.Tuple [.Name x px, .Name y py] kk tp) iter ti)(he:∀C s H fp,JE (Cx.comp X (x::y::ys) scope C s H fp) (fun _=>E0) elt te)(hc:X.calm=true:=by rfl)(hs:∀x,foldedSetIterable iter X.env x=pure x:=by intro _;rfl):
  JE X R (.ListComp elt [⟨.Tuple [.Name x px, .Name y py] kk tp,iter,[],0⟩] scope pos) (zE 2 ti (g2 0 1) te caps):= .of (xM (wi:=Eb X.K R ti) (te:=tL X.K (fun _=>E0) te) S hc hi (Au hc S) (vx (Nat.zero_lt_succ 1) (abi 1)) he hs) fun σ H G L ρ M q x rl n h hx=>by
 refine ⟨G,L,ρ,M,_,x,rl,n,h,hx,fun J H1 ⟨xs,ok,G1,L1,M1,e1,r1,y,hz,h1⟩ D hD=> ?_⟩
 exact yv nM r1 (n.mono e1) y hD hz h1 fun G2 L2 M2 H2 ds vs e2 r2 g2 l2 h2 n2 k=>Fin.back e1 (lH e2 r2 hD g2 l2 h2 n2 k)
end
theorem jF{g:Dt→En→(En→Prop)→Prop}{te:DE}{ρ0:En}{ok:Ms→Prop}{M:Ms}{k:List Dt→Ms→Prop}(ho:ok M)(f:Dt→Dt):∀(xs acc:List Dt),(∀x∈xs,∀q:DQ,q (f x) M→g x ρ0 fun ρ'=>te ρ' M q noX)→k (acc++xs.map f) M→wA g te ρ0 ok xs acc M k
 | [],acc,_,h=>⟨ho,by simpa using h⟩
 | x::xs,acc,ht,h=>⟨ho,ht x List.mem_cons_self _ (jF ho f xs _ (fun y hy=>ht y (List.mem_cons_of_mem _ hy)) (by simpa using h))⟩
theorem wx(xs:List V)(a b:Nat):xi xs (some (a:Int)) (some (b:Int))=(xs.drop a).take (b - a):=by
 unfold xi
 rw [HT.lg,HT.lg]
 by_cases ha:a≤xs.length
 ·rw [abY ha]
  by_cases hb:b≤xs.length
  ·rw [abY hb]
  ·rw [Nat.min_eq_right (by omega),abn (by rw [abj];omega),abn (by rw [abj];omega)]
 ·have h1:min a xs.length=xs.length:=Nat.min_eq_right (by omega)
  rw [h1,List.drop_of_length_le (aah xs.length),List.drop_of_length_le (show xs.length≤a by omega)]
  simp
section
variable{X:Cx}{R:St→XK}{e l u a b:Expr}{te tl tu ta tb:DE}{pos p2:Pos}
def FK(te tl tu:DE):DE:=fun ρ M q x=>te ρ M (fun d M1=>tl ρ M1 (fun di M2=>∃n:Nat,di= .int n∧tu ρ M2 (fun du M3=>∃ds m,nu M3 d=some ds∧du= .int (m:Nat)∧q (.loc M3.length) (M3++[.lst ((ds.drop n).take (m - n))])) x) x) x
theorem nD(he:JE X R e te)(hl:JE X R l tl)(hu:JE X R u tu):JE X R (.Subscript e (.Slice (some l) (some u) none p2) pos) (FK te tl tu):=
 .of (lF oI he (gW hl) (gW hu)) fun σ H G L ρ M q x rl n h hx=>by
  refine ⟨G,L,ρ,M,_,x,rl,n,h,hx,fun v H1 ⟨d1,G1,L1,M1,e1,r1,n1,h1⟩=> ?_⟩
  refine ⟨G1,L1,ρ,M1,_,x,r1,n.mono e1,h1,hx.on e1,fun v2 H2 ⟨d2,G2,L2,M2,e2,r2,n2,k,ek,h2⟩=> ?_⟩
  subst ek
  have n2:v2= .int k:=n2
  subst n2
  refine ⟨k,rfl,G2,L2,ρ,M2,_,x,r2,(n.mono e1).mono e2,h2,(hx.on e1).on e2,fun v3 H3 ⟨d3,G3,L3,M3,e3,r3,n3,ds,m,ed,em,h3⟩=> ?_⟩
  subst em
  have e23:=e2.trans e3
  obtain ⟨a,vs,rfl,sq,dn⟩:=dw r3 (Den.mono e23.g e23.l _ _ n1) ed
  have n3:v3= .int m:=n3
  subst n3
  refine ⟨m,rfl,a,vs,rfl,sq,fun p hp=> ?_⟩
  rw [wx]
  exact fZ (e1.trans e23) r3 hp (aT.of (lC (m - k) (lE k dn.pair))) h3
def Dp:Dt→Dt→Ms→DQ→Prop:=fun d e M q=>∃xs k,zg M d=some xs∧e= .int k∧ -(2 ^ 63)≤k∧k < 2 ^ 63∧xs.length * k.toNat≤sizeLine∧q (.loc M.length) (M++[.lst (List.replicate k.toNat xs).flatten])
theorem EM{K:PySem.W.Frag}:OpD K EN Dp:=by
 intro G0 L0 H0 G L M H v1 v2 d1 d2 q e r n1 n2 ⟨xs,k,h1,h2,a,b,hz,hq⟩
 obtain ⟨p1,w1,rfl,e1,m1⟩:=pH r n1 h1
 subst h2
 have n2:v2= .int k:=n2
 subst n2
 refine ⟨p1,k,w1,rfl,rfl,e1,a,b,by rw [←m1.length];exact hz,fun p hp=> ?_⟩
 exact fZ e r hp (aT.of (oZ m1.pair k.toNat)) hq
theorem vD(ja:JE X R a ta)(jb:JE X R b tb):JE X R (.BinOp a .Mult b pos) (dOp Dp ta tb):=ya za EM ja jb
end
def inK(ks:List Key)(k:Key):Bool:=ks.any fun c=>decide (c=k)
theorem iu{k:Key}:∀{ks:List Key} {vs:List V},ks.length=vs.length→(hV (ks.zip vs) k).isSome=inK ks k
 | [],[],_=>rfl
 | c::ks,v::vs,h=>by
  have h:ks.length=vs.length:=by simpa using h
  rw [aaQ]
  by_cases e:c=k
  ·rw [cj e];subst e;simp [inK]
  ·rw [bV e,iu h]
   unfold inK
   rw [abD,decide_eq_false e,Bool.false_or]
section
variable{X:Cx}{R:St→XK}{o i e a b:Expr}{to ti te ta tb:DE}{pos p:Pos}{k':Nat}
theorem zm:JE X R (.Dict [] [] pos) (fun _ M q _=>q (.loc M.length) (M++[.dct [] []])):=
 .of xJ fun σ H G L ρ M q x rl n h hx=>by
  intro p hp
  exact ⟨.loc M.length,G,L++[p],_,rl.exM hp,rl.newM (m:= .dct [] []) hp ⟨[],aD,rfl,rfl⟩,⟨p,rfl,by rw [←rl.len,List.getElem?_append_right (Nat.le_refl _)];simp⟩,h⟩
def GQ:Dt→Dt→Ms→DQ→Prop:=fun di d M q=>∃k ks ds key,d= .loc k∧M[k]? =some (.dct ks ds)∧AX di=some key∧q (.bl (inK ks key)) M
theorem CI(hu:X.A.units+1 < cLine):OpR X (compareOp .In) (fun y x H Q=>∃a o,x=V.ref a∧xf H a y o∧Q (.bl o.isSome) H):=by
 intro pins s σ H x y u v Q I rx ry ⟨a,o,ex,g,q⟩
 subst ex
 obtain rfl:v=Value.ref a:=ry
 exact HW hu I g rx fun s3 I3=>⟨.bl o.isSome,H,I3,rfl,q⟩
theorem HV{K:PySem.W.Frag}:OpD K (fun y x H Q=>∃a o,x=V.ref a∧xf H a y o∧Q (.bl o.isSome) H) GQ:=by
 intro G0 L0 H0 G L M H v1 v2 d1 d2 q e r n1 n2 ⟨k,ks,ds,key,ed,hm,hk,h⟩
 subst ed
 obtain ⟨a,rfl,hk1⟩:=n2
 obtain ⟨_,vs,hH,hl,dn⟩:=r.ats k a _ hk1 hm
 refine ⟨a,_,rfl, .inl ⟨_,key, .inl hH,jj hk n1,rfl⟩, ?_⟩
 have hl2:ks.length=vs.length:=hl.trans dn.length
 rw [iu hl2]
 exact b9 e r h
theorem Fh(hr:dN k' X.A)(ja:JE X R a ta)(jb:JE X R b tb)(hm:behindInMarks .In b=false:=by rfl):JE X R (.Compare a [.In] [b] pos) (dOp GQ ta tb):=pQ (CI (vK hr)) HV ja jb hm
end
def fH(ks:List Key)(k:Key):List Key:=if inK ks k=true then ks else ks++[k]
def jP{α:Type}(k:Key)(v:α):List Key→List α→List α
 | c::ks,x::xs=>(if c=k then v else x)::jP k v ks xs
 | _,_=>[]
def eD{α:Type}(ks:List Key)(k:Key)(xs:List α)(v:α):List α:=if inK ks k=true then jP k v ks xs else xs++[v]
theorem iZ{α:Type}{k:Key}{v:α}:∀{ks:List Key} {xs:List α},ks.length=xs.length→(jP k v ks xs).length=ks.length
 | [],[],_=>rfl
 | _::ks,_::xs,h=>by
  have h:ks.length=xs.length:=by simpa using h
  show (jP k v ks xs).length+1=ks.length+1
  rw [iZ h]
theorem mU{k:Key}{v:V}:∀{ks:List Key} {vs:List V},ks.length=vs.length→(ks.zip vs).map (fun kv=>if kv.1=k then (kv.1,v) else kv)=ks.zip (jP k v ks vs)
 | [],[],_=>rfl
 | c::ks,x::vs,h=>by
  have h:ks.length=vs.length:=by simpa using h
  rw [aaQ,aaI,mU h]
  show _=(c,if c=k then v else x)::ks.zip (jP k v ks vs)
  congr 1
  show (if c=k then (c,v) else (c,x))=_
  split <;> rfl
theorem i0{K:PySem.W.Frag}{G:Hp}{L:List Addr}{k:Key}{d:Dt}{v:V}(n:Den K G L d v):∀{ks:List Key} {ds:List Dt} {vs:List V},aT K G L ds vs→ks.length=ds.length→aT K G L (jP k d ks ds) (jP k v ks vs)
 | [],[],_,h,_=>by cases h;rfl
 | c::ks,x::ds,_,⟨y,vs,e,n0,ns⟩,hl=>by
  subst e
  have hl:ks.length=ds.length:=by simpa using hl
  refine ⟨_,_,rfl, ?_,i0 n ns hl⟩
  show Den K G L (if c=k then d else x) (if c=k then v else y)
  split
  ·exact n
  ·exact n0
theorem yZ{k:Key}{v:V}{ks:List Key}{vs:List V}(h:ks.length=vs.length):jQ (ks.zip vs) k v=(fH ks k).zip (eD ks k vs v):=by
 unfold jQ fH eD
 rw [iw,iu h]
 split
 ·exact mU h
 ·rw [List.zip_append h];rfl
def qy(to ti tv:DE):DS:=fun Dn ρ M=>tv ρ M (fun y M1=>to ρ M1 (fun d M2=>ti ρ M2 (fun di M3=>∃k ks ds key,d= .loc k∧M3[k]? =some (.dct ks ds)∧AX di=some key∧ks.length < 1000∧Dn.nx ρ (M3.set k (.dct (fH ks key) (eD ks key ds y)))) Dn.x) Dn.x) Dn.x
section
variable{X:Cx}{R:St→XK}{o i value:Expr}{to ti tv:DE}{pos pos':Pos}{k':Nat}
theorem lW(hr:dN k' X.A)(ho:JE X R o to)(hi:JE X R i ti)(hv:JE X R value tv)(hs:swapsWith value (some (.Subscript o i pos')) pos.line X.env=pure false:=by rfl):JS X R (.Assign [.Subscript o i pos'] value pos) (qy to ti tv):=
 .of (Ar (vK hr) ho hi hv hs) fun σ H G L ρ M Dn rl n h hx=>by
  refine ⟨G,L,ρ,M,_,_,rl,n,h,hx,fun v H1 ⟨dv,G1,L1,M1,e1,r1,n1,h1⟩=> ?_⟩
  refine ⟨G1,L1,ρ,M1,_,_,r1,n.mono e1,h1,hx.on e1,fun ov H2 ⟨d,G2,L2,M2,e2,r2,n2,h2⟩=> ?_⟩
  refine ⟨G2,L2,ρ,M2,_,_,r2,(n.mono e1).mono e2,h2,(hx.on e1).on e2,fun iv H3 ⟨di,G3,L3,M3,e3,r3,n3,k,ks,ds,key,ed,hm,hk,hlen,h3⟩=> ?_⟩
  subst ed
  obtain ⟨a,rfl,hka⟩:=n2
  have hk3:=e3.l.get hka
  obtain ⟨_,vs,hH,hl,dn⟩:=r3.ats k a _ hk3 hm
  have e23:=e2.trans e3
  have dv3:=Den.mono e23.g e23.l _ _ n1
  have hl2:ks.length=vs.length:=hl.trans dn.length
  obtain rfl:iv=kV key:=jj hk n3
  have z:(ks.zip vs).length < sizeLine:=by
   rw [aaY]
   exact aaM (Nat.min_le_left _ _) (Nat.lt_trans hlen (by decide))
  refine ⟨a,_,rfl,D9.k hH z,ρ,G3,L3,_,((e1.trans e2).trans e3).trans (r3.exS hk3),r3.setM (m:= .dct (fH ks key) (eD ks key ds dv)) hk3 ⟨eD ks key vs v,by rw [aD,yZ hl2], ?_, ?_⟩,(((n.mono e1).mono e2).mono e3).mono (r3.exS (o:= .own a) hk3),h3⟩
  ·unfold fH eD
   split
   ·rw [iZ hl]
   ·rw [aai,aai,hl];rfl
  ·unfold eD
   split
   ·exact i0 dv3 dn hl
   ·exact dn.app ⟨_,_,rfl,dv3,rfl⟩
end
inductive EqD(M:Ms):Nat→Dt→Dt→Bool→Prop
 | flat {n:Nat} {d e:Dt} {x y:V} (h1:pW d=some x) (h2:pW e=some y):EqD M n d e (eqV x y)
 | dct {n k1 k2:Nat} {ks ks2:List Key} {ds ds2:List Dt} {f:Nat→Bool} (h1:M[k1]? =some (.dct ks ds)) (h2:M[k2]? =some (.dct ks2 ds2)) (hl:ks.length=ks2.length) (hn:∀j k,ks[j]? =some k→aZ ks2 ds2 k=none→f j=false)
   (h:∀j k d d',ks[j]? =some k→ds[j]? =some d→aZ ks2 ds2 k=some d'→EqD M n d d' (f j)):EqD M (n+1) (.loc k1) (.loc k2) ((List.range ks.length).all f)
 | len {n k1 k2:Nat} {ks ks2:List Key} {ds ds2:List Dt} (h1:M[k1]? =some (.dct ks ds)) (h2:M[k2]? =some (.dct ks2 ds2)) (hl:ks.length≠ks2.length):EqD M (n+1) (.loc k1) (.loc k2) false
theorem gE{K:PySem.W.Frag}{G:Hp}{L:List Addr}:∀{ds:List Dt} {vs:List V},aT K G L ds vs→∀{j:Nat} {v:V},vs[j]? =some v→∃d,ds[j]? =some d∧Den K G L d v
 | [],vs,h,j,v,e=>by cases h;simp at e
 | d::ds,_,⟨y,r,e0,n0,ns⟩,0,v,e=>by
  subst e0
  have:y=v:=by simpa using e
  subst this
  exact ⟨d,rfl,n0⟩
 | d::ds,_,⟨y,r,e0,n0,ns⟩,j+1,v,e=>by
  subst e0
  obtain ⟨d',h1,h2⟩:=gE ns (show r[j]? =some v by simpa using e)
  exact ⟨d',by simpa using h1,h2⟩
theorem p5{K:PySem.W.Frag}{G:Hp}{L:List Addr}{k:Key}:∀{ks:List Key} {ds:List Dt} {vs:List V},aT K G L ds vs→ks.length=ds.length→(aZ ks ds k=none∧hV (ks.zip vs) k=none)∨∃d v,aZ ks ds k=some d∧hV (ks.zip vs) k=some v∧Den K G L d v
 | [],ds,vs,_,_=> .inl ⟨rfl,rfl⟩
 | c::ks,[],vs,_,hl=>by simp at hl
 | c::ks,d::ds,_,⟨y,r,e0,n0,ns⟩,hl=>by
  subst e0
  have hl:ks.length=ds.length:=by simpa using hl
  have e1:aZ (c::ks) (d::ds) k=if c=k then some d else aZ ks ds k:=by
   unfold aZ
   rw [aaQ,List.find?_cons]
   by_cases e:c=k
   ·rw [if_pos e];simp [e]
   ·rw [if_neg e];simp [e]
  rw [aaQ,e1]
  by_cases e:c=k
  ·rw [if_pos e,cj e]
   exact .inr ⟨d,y,rfl,rfl,n0⟩
  ·rw [if_neg e,bV e]
   exact p5 ns hl
theorem FG{K:PySem.W.Frag}{G:Hp}{L:List Addr}{M:Ms}{H:Hp}(r:Rl K G L M H){n:Nat}{d e:Dt}{c:Bool}(h:EqD M n d e c):∀{x y:V},Den K G L d x→Den K G L e y→yF H n x y c:=by
 induction h with
 | flat h1 h2=>
  intro x y n1 n2
  obtain ⟨e1,f1⟩:=fF h1 n1
  obtain ⟨e2,f2⟩:=fF h2 n2
  subst e1 e2
  exact .flat f1 f2
 | @dct n k1 k2 ks ks2 ds ds2 f h1 h2 hl hn h ih=>
  intro x y n1 n2
  obtain ⟨a,rfl,a1⟩:=n1
  obtain ⟨b,rfl,b1⟩:=n2
  obtain ⟨_,vs,hH,hz,dn⟩:=r.ats k1 a _ a1 h1
  obtain ⟨_,vs2,hH2,hz2,dn2⟩:=r.ats k2 b _ b1 h2
  have l1:(ks.zip vs).length=ks.length:=by rw [aaY,←dn.length,hz,ab1]
  have l2:(ks2.zip vs2).length=ks2.length:=by rw [aaY,←dn2.length,hz2,ab1]
  have:=yF.dct (H:=H) (n:=n) (e:=f) (.inl hH) (.inl hH2) (by rw [l1,l2];exact hl) (fun j k v hj hv=>by
   obtain ⟨g1,g2⟩:=abP.mp hj
   rcases p5 (k:=k) dn2 hz2 with ⟨q1,_⟩ | ⟨d',v',_,q2,_⟩
   ·exact hn j k g1 q1
   ·rw [hv] at q2;cases q2) (fun j k v v' hj hv=>by
   obtain ⟨g1,g2⟩:=abP.mp hj
   obtain ⟨d0,g3,g4⟩:=gE dn g2
   rcases p5 (k:=k) dn2 hz2 with ⟨_,q1⟩ | ⟨d',v2,q1,q2,q3⟩
   ·rw [hv] at q1;cases q1
   ·rw [hv] at q2
    obtain rfl:v'=v2:=aal q2
    exact ih j k d0 d' g1 g3 q1 g4 q3)
  rwa [l1] at this
 | @len n k1 k2 ks ks2 ds ds2 h1 h2 hl=>
  intro x y n1 n2
  obtain ⟨a,rfl,a1⟩:=n1
  obtain ⟨b,rfl,b1⟩:=n2
  obtain ⟨_,vs,hH,hz,dn⟩:=r.ats k1 a _ a1 h1
  obtain ⟨_,vs2,hH2,hz2,dn2⟩:=r.ats k2 b _ b1 h2
  have l1:(ks.zip vs).length=ks.length:=by rw [aaY,←dn.length,hz,ab1]
  have l2:(ks2.zip vs2).length=ks2.length:=by rw [aaY,←dn2.length,hz2,ab1]
  exact .len (.inl hH) (.inl hH2) (by rw [l1,l2];exact hl)
section
variable{X:Cx}{R:St→XK}{o i e f a b v1 v2:Expr}{to ti te ta tb tx t1 t2:DE}{t:DA}{pos p apos cpos:Pos}{k':Nat}
def v7:Dt→Dt→Ms→DQ→Prop:=fun di d M q=>∃k ks ds key,d= .loc k∧M[k]? =some (.dct ks ds)∧AX di=some key∧q (.bl (!inK ks key)) M
theorem va(hu:X.A.units+1 < cLine):OpR X (compareOp .NotIn) (fun y x H Q=>∃a o,x=V.ref a∧xf H a y o∧Q (.bl (!o.isSome)) H):=by
 intro pins s σ H x y u v Q I rx ry ⟨a,o,ex,g,q⟩
 subst ex
 obtain rfl:v=Value.ref a:=ry
 exact Bo hu I g rx fun s3 I3=>⟨.bl (!o.isSome),H,I3,rfl,q⟩
theorem Bl{K:PySem.W.Frag}:OpD K (fun y x H Q=>∃a o,x=V.ref a∧xf H a y o∧Q (.bl (!o.isSome)) H) v7:=by
 intro G0 L0 H0 G L M H v1 v2 d1 d2 q e r n1 n2 ⟨k,ks,ds,key,ed,hm,hk,h⟩
 subst ed
 obtain ⟨a,rfl,hk1⟩:=n2
 obtain ⟨_,vs,hH,hl,dn⟩:=r.ats k a _ hk1 hm
 refine ⟨a,_,rfl, .inl ⟨_,key, .inl hH,jj hk n1,rfl⟩, ?_⟩
 have hl2:ks.length=vs.length:=hl.trans dn.length
 rw [iu hl2]
 exact b9 e r h
theorem nC(hr:dN k' X.A)(ja:JE X R a ta)(jb:JE X R b tb)(hm:behindInMarks .NotIn b=false:=by rfl):JT X R (.Compare a [.NotIn] [b] pos) (tJ (dOp v7 ta tb)):=hX (va (vK hr)) Bl ja jb hm
theorem oh:eS X (.type "dict") (fun xs H Q=>∃a kvs,xs=[V.ref a]∧Rd H a (.dK kvs)∧∀p,H p=none→Q (.ref p) (upd H p (.dK kvs))):=by
 intro pins s σ H xs us Q I r ⟨a,kvs,ex,e,q⟩
 subst ex
 cases r with
 | cons r1 r2=>
  cases r2
  cases r1
  exact yu I e fun p s' hp I'=>⟨.ref p,_,I',rfl,q p hp⟩
def Bc:List Dt→Ms→DQ→Prop
 | [d],M,q=>∃k ks ds,d= .loc k∧M[k]? =some (.dct ks ds)∧q (.loc M.length) (M++[.dct ks ds])
 | _,_,_=>False
theorem FJ{K:PySem.W.Frag}:CaD K (fun xs H Q=>∃a kvs,xs=[V.ref a]∧Rd H a (.dK kvs)∧∀p,H p=none→Q (.ref p) (upd H p (.dK kvs))) Bc:=by
 intro G0 L0 H0 G L M H vs ds q e r n h
 unfold Bc at h
 split at h
 ·rename_i d
  obtain ⟨v,rfl,n1⟩:=bw n
  obtain ⟨k,ks,ds,ed,hm,h⟩:=h
  subst ed
  obtain ⟨a,rfl,hk⟩:=n1
  obtain ⟨_,vs,hH,hl,dn⟩:=r.ats k a _ hk hm
  refine ⟨a,_,rfl, .inl hH,fun p hp=> ?_⟩
  exact ⟨.loc M.length,G,L++[p],_,e.trans (r.exM hp),r.newM (m:= .dct ks ds) hp ⟨vs,aD,hl,aT.mono (.refl _) ⟨[p],rfl⟩ _ _ dn⟩,⟨p,rfl,by rw [←r.len,List.getElem?_append_right (Nat.le_refl _)];simp⟩,h⟩
 ·exact h.elim
theorem tq:bootBuiltins "dict"=some (.type "dict"):=by decide+kernel
theorem nG(hm:X.mg "dict"=none)(ha:JA X R [e] t)(hg:Gl X "dict":=by rfl)(he:starEach [e] X.env=(false,eval e X.env)::starEach [] X.env:=by rfl)(hpl:(backTo pos (starEach [] X.env)).any (·.1)=false:=by rfl):JE X R (.Call (.Name "dict" p) [e] [] pos) (dFn Bc t):=
 lY oh FJ hm tq ha hg (by decide) (by decide) he hpl
end
section
variable{X:Cx}{R:St→XK}{o e f v1 v2:Expr}{to te tx t1 t2:DE}{pos apos cpos:Pos}
theorem AE{K:PySem.W.Frag}{G1:Hp}{L1:List Addr}{H1 G:Hp}{L:List Addr}{M:Ms}{H:Hp}{p:Addr}{ks:List Key}{ds:List Dt}{vs:List V}{q:DQ}(e:Ex G1 L1 H1 G L H)(r:Rl K G L M H)(hp1:H1 p=none)(hg:G p=none)(hl:p∉L)(h:H p=some (.dK (ks.zip vs)))(hk:ks.length=ds.length)(n:aT K G L ds vs)(k:q (.loc M.length) (M++[.dct ks ds])):Fin K G1 L1 H1 q (.ref p) H:=by
 refine ⟨.loc M.length,G,L++[p],M++[.dct ks ds],⟨e.g,e.l.trans ⟨[p],rfl⟩,e.fr,e.out,fun b hb=> ?_,e.dom⟩,⟨r.sub,by rw [List.length_append,List.length_append,r.len];rfl,List.nodup_append.mpr ⟨r.nd,by simp,fun a ha b hb=> ?_⟩,fun k a m h1 h2=> ?_⟩,⟨p,rfl,by rw [←r.len,List.getElem?_append_right (Nat.le_refl _)];simp⟩,k⟩
 ·rcases aaN.mp hb with z | z
  ·exact e.new b z
  ·have e:b=p:=by simpa using z
   right;rw [e];exact hp1
 ·have e:b=p:=by simpa using hb
  rw [e];exact fun z=>hl (z▸ha)
 ·by_cases hk':k < L.length
  ·rw [aar hk'] at h1
   rw [aar (by rw [←r.len];exact hk')] at h2
   obtain ⟨q1,q2⟩:=r.ats k a m h1 h2
   exact ⟨q1,q2.mono (.refl _) ⟨[p],rfl⟩ rfl⟩
  ·have e:k=L.length:=by
    have:=(aaf.mp h1).1
    rw [aai] at this
    simp at this
    omega
   rw [e,aaw (aah _)] at h1
   rw [e,r.len,aaw (aah _)] at h2
   simp at h1 h2
   subst h1 h2
   exact ⟨hg,vs,h,hk,aT.mono (.refl _) ⟨[p],rfl⟩ _ _ n⟩
theorem A2{z1 z2:Str}{c1 c2:Nat}{p1 p2:Pos}(hv1:JE X R v1 t1)(hv2:JE X R v2 t2)(hne:z1≠z2:=by decide):
  JE X R (.Dict [some (.Constant (.str z1) c1 p1),some (.Constant (.str z2) c2 p2)] [v1,v2] pos) (fun ρ M q x=>t1 ρ M (fun d1 M1=>t2 ρ M1 (fun d2 M2=>q (.loc M2.length) (M2++[.dct [Sum.inr z1,Sum.inr z2] [d1,d2]])) x) x):=
 .of (Ax (qG pcs hv1 (qG pcs hv2 As)) rfl rfl (by simp) (by show 2≤15;decide)) fun σ H G L ρ M q x rl n h hx=>by
  intro p hp
  have gn:G p=none:=rl.sub.free hp
  have ln:p∉L:=rl.memN hp
  have e0:Ex G L H G L (upd H p (.dK [])):=⟨.refl _, .refl _,fun _ h _=>h,fun b u h1 _=>by rw [aw (fun z=>by rw [z,hp] at h1;cases h1)];exact h1,fun _ h=> .inl h,fun b h=>by rw [aw (fun z=>h (by rw [z];exact hp))];exact h⟩
  have r0:Rl X.K G L M (upd H p (.dK [])):=⟨fun b u e=>by rw [aw (fun z=>by rw [z,gn] at e;cases e)];exact rl.sub b u e,rl.len,rl.nd,fun i a m h1 h2=>by
   obtain ⟨q1,q2⟩:=rl.ats i a m h1 h2
   exact ⟨q1,q2.mono (.refl _) (.refl _) (aw fun z=>q2.there (by rw [z];exact hp))⟩⟩
  refine ⟨G,L,ρ,M,_,x,r0,n,h,hx.on e0,fun u1 H1 ⟨d1,G1,L1,M1,e1,r1,n1,h1⟩=> ?_⟩
  have hp1:H1 p=some (.dK []):=e1.out _ _ aD ln
  have g1:G1 p=none:=e1.fr _ gn (by rw [aD];simp)
  have l1:p∉L1:=fun z=>(e1.new _ z).elim ln fun q=>by rw [aD] at q;cases q
  refine ⟨G1,L1,ρ,M1,_,x,r1,n.mono (e0.trans e1),h1,hx.on (e0.trans e1),fun u2 H2 ⟨d2,G2,L2,M2,e2,r2,n2,h2⟩=> ?_⟩
  have hp2:H2 p=some (.dK []):=e2.out _ _ hp1 l1
  have g2:G2 p=none:=e2.fr _ g1 (by rw [hp1];simp)
  have l2:p∉L2:=fun z=>(e2.new _ z).elim l1 fun q=>by rw [hp1] at q;cases q
  refine ⟨hp2,[(Sum.inr z1,u1),(Sum.inr z2,u2)],rfl,by show 2≤15;decide, ?_⟩
  rw [nj _ [] (fun _ _=>rfl) (by simp [hne]),List.nil_append]
  have e02:=(e0.trans e1).trans e2
  have gne:∀{b:Addr} {w:HO},G2 b=some w→b≠p:=fun e z=>by rw [z,g2] at e;cases e
  refine AE (G:=G2) (L:=L2) (M:=M2) (ks:=[Sum.inr z1,Sum.inr z2]) (ds:=[d1,d2]) (vs:=[u1,u2]) ⟨e02.g,e02.l,e02.fr,fun b w h1 h2=> ?_,e02.new,fun b h=> ?_⟩ ⟨fun b w e=> ?_,r2.len,r2.nd,fun i a m h1 h2=> ?_⟩ hp g2 l2 aD rfl ⟨_,_,rfl,Den.mono e2.g e2.l _ _ n1,_,_,rfl,n2,rfl⟩ h2
  ·rw [aw (fun z=>by rw [z,hp] at h1;cases h1)];exact e02.out b w h1 h2
  ·by_cases hb:b=p
   ·rw [hb,aD];simp
   ·rw [aw hb];exact e02.dom b h
  ·rw [aw (gne e)];exact r2.sub b w e
  ·obtain ⟨q1,q2⟩:=r2.ats i a m h1 h2
   exact ⟨q1,q2.mono (.refl _) (.refl _) (aw fun z=>l2 (by rw [←z];exact aaj h1))⟩
end
def GF:Dt→Bool
 | .non=>true
 | _=>false
theorem AQ{K:PySem.W.Frag}{G:Hp}{L:List Addr}{d:Dt}{v:V}(n:Den K G L d v):decide (v= .non)=GF d:=by
 cases d with
 | non=>cases n;rfl
 | bl b=>cases n;rfl
 | int i=>cases n;rfl
 | str x=>cases n;rfl
 | tup ds=>obtain ⟨a,vs,rfl,_⟩:=n;rfl
 | lst ds=>obtain ⟨a,vs,rfl,_⟩:=n;rfl
 | obj C ns ds=>obtain ⟨a,dx,vs,rfl,_⟩:=n;rfl
 | loc k=>obtain ⟨a,rfl,_⟩:=n;rfl
 | ref a=>cases n;rfl
 | ty m=>cases n;rfl
 | scr ns=>obtain ⟨a,rfl,_⟩:=n;rfl
 | kt ds=>obtain ⟨a,vs,rfl,_⟩:=n;rfl
 | exc C ns ds=>obtain ⟨a,od,vs,rfl,_⟩:=n;rfl
 | exn x C od ns ds=>obtain ⟨vs,rfl,_⟩:=n;rfl
def Dq:Dt→Dt→Ms→DQ→Prop:=fun d e M q=>e= .non∧q (.bl (!GF d)) M
theorem E6{K:PySem.W.Frag}:OpD K (fun x y H Q=>y= .non∧Q (.bl (!decide (x= .non))) H) Dq:=by
 intro G0 L0 H0 G L M H v1 v2 d1 d2 q e r n1 n2 ⟨e2,h⟩
 subst e2
 refine ⟨n2, ?_⟩
 rw [AQ n1]
 exact b9 e r h
section
variable{X:Cx}{R:St→XK}{a b:Expr}{ta tb:DE}{pos:Pos}
theorem AY(ja:JE X R a ta)(jb:JE X R b tb):JT X R (.Compare a [.IsNot] [b] pos) (tJ (dOp Dq ta tb)):=hX AF E6 ja jb (fL _)
end
def gX{α:Type}(is:List Nat)(xs:List α):List α:=is.filterMap fun i=>xs[i]?
theorem y6{α β:Type}{F:α→β→Prop}:∀{xs:List α} {ys:List β},Paired F xs ys→∀{i:Nat} {x:α},xs[i]? =some x→∃y,ys[i]? =some y∧F x y
 | _,_, .nil,i,x,h=>by simp at h
 | _,_, .cons r t,0,x,h=>by
  obtain rfl:=aal h
  exact ⟨_,rfl,r⟩
 | _,_, .cons r t,i+1,x,h=>by
  obtain ⟨y,e,f⟩:=y6 t (show _=some x by simpa using h)
  exact ⟨y,by simpa using e,f⟩
theorem lD{α β:Type}{F:α→β→Prop}{xs:List α}{ys:List β}(p:Paired F xs ys):∀is:List Nat,Paired F (gX is xs) (gX is ys)
 | []=> .nil
 | i::is=>by
  have ih:=lD p is
  unfold gX at ih⊢
  rw [abT,abT]
  cases hx:xs[i]? with
  | none=>
   have:ys[i]? =none:=by
    rw [List.getElem?_eq_none_iff] at hx⊢
    rw [←Paired.length p];exact hx
   rw [this];exact ih
  | some x=>
   obtain ⟨y,hy,r⟩:=y6 p hx
   rw [hy];exact .cons r ih
theorem uR{a b:Nat}(its:List Value)(hb:0 < b)(ha:a≤its.length):slicePick its.toArray (some (a:Int)) none (some (b:Int))=(gX (sliceRange a its.length b) its).toArray:=by
 have hs:sliceBounds (some (a:Int)) none (some (b:Int)) its.length=((a:Int),(its.length:Int),(b:Int)):=by
  unfold sliceBounds
  have h1:(b:Int) > 0:=by omega
  have h2:¬(a:Int) < 0:=by omega
  simp only [Option.getD_some,h1,if_true,h2,if_false]
  refine Prod.ext ?_ rfl
  show max (0:Int) (min (a:Int) (its.length:Int))=a
  omega
 unfold slicePick
 rw [aas,hs]
 congr 1
 unfold gX
 congr 1
 funext i
 simp
section
variable{X:Cx}{e l k:Expr}{te tl tk:TE}{pos p2:Pos}
def Es(K:PySem.W.Frag)(a b:Nat)(te tl tk:TE):TE:=fun σ H Q=>te σ H fun x H1=>tl σ H1 fun y H2=>∃i:Int,y= .int i∧some i=some (a:Int)∧tk σ H2 fun z H3=>∃j:Int,z= .int j∧some j=some (b:Int)∧∃c xs,x= .ref c∧SqL K H3 c xs∧a≤xs.length∧(sliceRange a xs.length b).length≤xs.length∧∀p,H3 p=none→Q (.ref p) (upd H3 p (.lst (gX (sliceRange a xs.length b) xs)))
theorem xE{α:Type}{xs:List α}:∀is:List Nat,(gX is xs).length≤is.length:=fun is=>List.length_filterMap_le _ _
theorem Av{a b:Nat}(hb:0 < b)(he:PE X e te)(hl:PE X l tl)(hk:PE X k tk):PE X (.Subscript e (.Slice (some l) none (some k) p2) pos) (Es X.K a b te tl tk):=by
 intro pins s σ H Q I h
 refine Subscript_ (thn (he pins s σ H _ I h) fun v s1 ⟨x,H1,I1,r1,q1⟩=> ?_)
 refine wpAny_Slice (thn (gW hl pins s1 σ H1 (fun o H2=>o=some (a:Int)∧tk σ H2 fun z H3=>∃j:Int,z= .int j∧some j=some (b:Int)∧∃c xs,x= .ref c∧SqL X.K H3 c xs∧a≤xs.length∧(sliceRange a xs.length b).length≤xs.length∧∀p,H3 p=none→Q (.ref p) (upd H3 p (.lst (gX (sliceRange a xs.length b) xs)))) I1 q1) fun vl s2 ⟨o1,H2,I2,pl,el,q2⟩=> ?_)
 rw [evalPart_none]
 refine wpAny_pure ?_
 refine thn (gW hk pins s2 σ H2 (fun o H3=>o=some (b:Int)∧∃c xs,x= .ref c∧SqL X.K H3 c xs∧a≤xs.length∧(sliceRange a xs.length b).length≤xs.length∧∀p,H3 p=none→Q (.ref p) (upd H3 p (.lst (gX (sliceRange a xs.length b) xs)))) I2 q2) fun vs s3 ⟨o,H3,I3,ps,eo,c,xs,ex,hx,ha,hn,q⟩=> ?_
 subst el eo ex
 cases r1
 have I4:Inv X pins σ H3 {s3 with heap:=s3.heap.push {cls:= .type "slice",data:= .fields #[vl, .none,vs]}}:=I3.kept (t':=s3.toks) fun b ob q=>Heap.get?_push_of_some _ q
 obtain ⟨its,r,ht,hz⟩:=I4.list hx
 have hlen:=r.length
 show wpAny (model X.prog X.w) X.A (subscriptTail e (.Slice (some l) none (some k) p2) (.ref c) (.ref s3.heap.objs.size)) (EP X pins σ Q) X.xe {s3 with heap:=s3.heap.push {cls:= .type "slice",data:= .fields #[vl, .none,vs]}}
 refine tail_any (ops:=[.ref c, .ref s3.heap.objs.size]) ht.isList.typeIs slot_list_getitem.lookup ?_ (by with_unfolding_all rfl)
 refine wpAny_getItem_list_slice ht.isList (Heap.IsSliceOf.new ..) pl .none ps (fun z=>by injection z with z;omega) ?_ (by rw [aas] <;> omega)
 rw [uR its hb (by omega),←hlen]
 refine ⟨.ref _,_,I4.laid (t':=s3.toks) (o:= .lst (gX (sliceRange a xs.length b) xs)) (fun b ob q=>Heap.get?_push_of_some _ q) (aah _) ?_,rfl,q _ (I4.hok.fresh (aah _))⟩
 exact ⟨aau (xE _) (aau hn hz),_,0,lD r _,Heap.get?_push_size _ rfl⟩
end
def EA(td te:TE):TE:=fun σ H Q=>td σ H fun x H1=>∃a,x= .ref a∧IsD H1 a∧te σ H1 fun y H2=>∃b kvs more,y= .ref b∧a≠b∧H2 a=some (.dK kvs)∧Rd H2 b (.dK more)∧kvs.length+more.length≤sizeLine∧Q .non (upd H2 a (.dK (fN kvs more)))
section
variable{X:Cx}{o e:Expr}{apos cpos:Pos}{td te:TE}
theorem Aw(ho:PE X o td)(he:PE X e te)(m:M1 X o "update" apos e cpos):PE X (.Call (.Attribute o "update" apos) [e] [] cpos) (EA td te):=by
 intro pins s σ H Q I h
 refine wpAny_Call_method m.base m.few m.line PySem.F.plainAttrs_dict PySem.F.slot_dict_update PySem.F.type_dict_update (thn (ho pins s σ H _ I h) fun u s1 ⟨x,H1,I1,rx,a,ex,d,q1⟩=> ?_)
 subst ex
 obtain rfl:u=Value.ref a:=rx
 obtain ⟨t1,t2,_⟩:=zp I1 d
 refine ⟨t1,t2, ?_⟩
 rw [m.trees]
 refine Calls.callWith_builtin rfl (Calls.evalArgs_plain (Calls.spliced_cons (thn (he pins s1 σ H1 _ I1 q1) fun iv s2 ⟨y,H2,I2,ry,b,kvs,more,ey,hne,hA,hB,hz,q2⟩=>Calls.spliced_nil ?_)))
 subst ey
 obtain rfl:iv=Value.ref b:=ry
 obtain ⟨z1,d1,vs,r1,dd1⟩:=Bm I2.hok hA
 obtain ⟨z2,d2,rs,r2,dd2⟩:=gD I2.hok hB
 refine call_meetsIn PySem.F.slot_dict_update dd1.typeIs PySem.F.entry_dict_update (PySem.F.args_dict_update_2 _ _) (meets_dict_update (bD X.prog X.w) a b hne d2) ⟨vs,rs,dd1,dd2,by rw [←r1.length,←r2.length];exact hz,fun h' hm _ hs=> ?_⟩
 have hex:∃q,h'.get? a=some q:=let ⟨q,_,_,hq,_⟩:=hm;⟨q,hq⟩
 exact ⟨.non,_,mj (t':=s2.toks) I2 (by rw [hA];exact True.intro) hs hex (rH (aau (eF more kvs) hz) d1 (KV.merge r2 r1) hm),rfl,q2⟩
end
section
open PySem.AutoSeq1 (wpAny_loadPart')
open PySem.MeetsSeq PySem.MeetsSeq2 PySem.MeetsSeq3 PySem.SeqRoads2
variable{prog:Program}{w:World}
theorem kq{l b:Addr}{xs ys:Array Value}{n n2:Nat}{dd dd2:Option Addr}{sl sl2:Array (Option Value)}(hz:xs.size=ys.size)(e:Nat→Bool):
  ∀k i:Nat,xs.size - i=k→MeetsIn prog w (Builtin.«list.__eq__.loop» ⟨[.ref l, .ref b,rawInt i,rawInt 2],[]⟩) (fun A R s=>s.heap.get? l=some {cls:= .type "list",dict:=dd,data:= .seq xs n,slots:=sl}∧s.heap.get? b=some {cls:= .type "list",dict:=dd2,data:= .seq ys n2,slots:=sl2}∧
   (∀j (h1:j < xs.size) (h2:j < ys.size),tO prog w A.in1 s xs[j] ys[j] (e j))∧R (.ok (.ret (.bool (((List.range xs.size).drop i).all e)))) s)
 | 0,i,hk=>fun A R s h=>by
  obtain ⟨hp,g,d,tk,os⟩:=s
  obtain ⟨h1,h2,h3,h4⟩:=h
  wp_walk using wpAny_loadPart' h1,wpAny_loadPart' h2
  have a1:xs[((i:Nat):Int).toNat]? =none:=by simp;omega
  have a2:ys[((i:Nat):Int).toNat]? =none:=by simp;omega
  have a3:(List.range xs.size).drop i=[]:=by simp;omega
  rw [a3] at h4
  rw [a1,a2]
  wp_walk using wpAny_loadPart' h1,wpAny_loadPart' h2
  show R (.ok (.ret (.bool (xs.size==ys.size)))) _
  rw [hz]
  simpa using h4
 | k+1,i,hk=>fun A R s h=>by
  obtain ⟨hp,g,d,tk,os⟩:=s
  obtain ⟨h1,h2,h3,h4⟩:=h
  wp_walk using wpAny_loadPart' h1,wpAny_loadPart' h2
  have l1:i < xs.size:=by omega
  have l2:i < ys.size:=by omega
  have a1:xs[((i:Nat):Int).toNat]? =some xs[i]:=by simp [l1]
  have a2:ys[((i:Nat):Int).toNat]? =some ys[i]:=by simp [l2]
  have a3:(List.range xs.size).drop i=i::(List.range xs.size).drop (i+1):=by simp [List.drop_eq_getElem_cons,l1]
  have a4:((i:Int)+1)=((i+1:Nat):Int):=by push_cast;rfl
  rw [a3,abt] at h4
  rw [a1,a2]
  refine wpAny_bind (h3 i l1 l2 _ _ ?_)
  cases hc:e i with
  | true=>
   rw [hc] at h4
   wp_walk
   rw [a4]
   refine ⟨plainId_quiet plain_eq_loop _,codeAny_builtin entry_eq_loop ?_⟩
   rw [Around.under_plainId plain_eq_loop _]
   exact kq hz e k (i+1) (by omega) A R _ ⟨h1,h2,h3,by simpa using h4⟩
  | false=>
   rw [hc] at h4
   wp_walk using wpAny_loadPart' h1,wpAny_loadPart' h2
   rw [a1,a2]
   wp_walk
   simpa using h4
theorem xZ{l b:Addr}{xs ys:Array Value}{n n2:Nat}{dd dd2:Option Addr}{sl sl2:Array (Option Value)}(hz:xs.size=ys.size)(e:Nat→Bool):
  MeetsIn prog w (Builtin.«list.__eq__» ⟨[.ref l, .ref b],[]⟩) (fun A R s=>s.heap.get? l=some {cls:= .type "list",dict:=dd,data:= .seq xs n,slots:=sl}∧s.heap.get? b=some {cls:= .type "list",dict:=dd2,data:= .seq ys n2,slots:=sl2}∧
   (∀j (h1:j < xs.size) (h2:j < ys.size),tO prog w A.in1 s xs[j] ys[j] (e j))∧R (.ok (.ret (.bool ((List.range xs.size).all e)))) s):=fun A R s h=>by
 obtain ⟨hp,g,d,tk,os⟩:=s
 obtain ⟨h1,h2,h3,h4⟩:=h
 have f3:=PySem.AutoSeq1.sub_list_list
 have hne:¬(xs.size != ys.size)=true:=by simp [hz]
 wp_walk using wpAny_loadPart' h1,wpAny_loadPart' h2
 refine ⟨plainId_quiet plain_eq_loop _,codeAny_builtin entry_eq_loop ?_⟩
 rw [Around.under_plainId plain_eq_loop _]
 exact kq hz e _ 0 rfl A R _ ⟨h1,h2,h3,by simpa using h4⟩
end
def B8(K:PySem.W.Frag)(n:Nat):R2:=fun x y H Q=>∃a b xs ys e,x= .ref a∧y= .ref b∧SqL K H a xs∧SqL K H b ys∧xs.length=ys.length∧(∀j u v,xs[j]? =some u→ys[j]? =some v→yF H n u v (e j))∧Q (.bl ((List.range xs.length).all e)) H
theorem AH{X:Cx}{n:Nat}(hu:X.A.units+(n+1) < cLine):OpR X (compareOp .Eq) (B8 X.K n):=by
 intro pins s σ H x y v u Q I rx ry ⟨a,b,xs,ys,e,ex,ey,h1,h2,hl,h,q⟩
 subst ex ey
 cases rx
 cases ry
 obtain ⟨its,r1,p1,z1⟩:=I.list h1
 obtain ⟨jts,r2,p2,z2⟩:=I.list h2
 obtain ⟨o1,n1,g1,c1,d1,y1⟩:=p1
 obtain ⟨o2,n2,g2,c2,d2,y2⟩:=p2
 obtain ⟨cls,dd,data,sl⟩:=o1
 obtain ⟨cls2,dd2,data2,sl2⟩:=o2
 have l1:=r1.length
 have l2:=r2.length
 simp only at c1 d1 c2 d2 y1 y2
 subst c1 c2 y1 y2
 show wpAny _ _ (richCompare .Eq _ _) _ _ s
 have hz:its.toArray.size=jts.toArray.size:=by rw [aas,aas];omega
 have hu1:X.A.units < cLine:=by omega
 rw [l1] at q
 refine wpAny_richCompare_same_room (T:="list") ⟨_,g1,rfl⟩ ⟨_,g2,rfl⟩ PySem.F.slot_list_eq (call_meetsIn PySem.F.slot_list_eq ⟨_,g1,rfl⟩ PySem.F.entry_list_eq (PySem.F.args_list_eq_2 _ _) (xZ hz e) ⟨g1,g2,fun j j1 j2=> ?_,⟨fun z=>(nomatch z),⟨.bl _,H,I,rfl,by simpa using q⟩⟩⟩) hu1
 ·rw [aas] at j1 j2
  have e1:xs[j]? =some (xs[j]'(by omega)):=aaa _
  have e2:ys[j]? =some (ys[j]'(by omega)):=aaa _
  obtain ⟨u1,q1,rv1⟩:=r1.get e1
  obtain ⟨u2,q2,rv2⟩:=r2.get e2
  have w1:its.toArray[j]=u1:=by
   have:=aaa j1
   rw [q1] at this
   simpa using (Option.some.inj this).symm
  have w2:jts.toArray[j]=u2:=by
   have:=aaa j2
   rw [q2] at this
   simpa using (Option.some.inj this).symm
  rw [w1,w2]
  exact Dw I (h j _ _ e1 e2) rv1 rv2 (by show X.A.units+1+n < cLine;omega)
section
variable{X:Cx}{R:St→XK}{o e l k a b:Expr}{to te tl tk ta tb:DE}{pos p2 apos cpos:Pos}{k':Nat}
def DG(a b:Nat)(te tl tk:DE):DE:=fun ρ M q x=>te ρ M (fun d M1=>tl ρ M1 (fun di M2=>di= .int a∧tk ρ M2 (fun dk M3=>∃ds,nu M3 d=some ds∧dk= .int b∧a≤ds.length∧(sliceRange a ds.length b).length≤ds.length∧q (.loc M3.length) (M3++[.lst (gX (sliceRange a ds.length b) ds)])) x) x) x
theorem C3{a b:Nat}(he:JE X R e te)(hl:JE X R l tl)(hk:JE X R k tk)(hb:0 < b:=by decide):JE X R (.Subscript e (.Slice (some l) none (some k) p2) pos) (DG a b te tl tk):=
 .of (Av hb he hl hk) fun σ H G L ρ M q x rl n h hx=>by
  refine ⟨G,L,ρ,M,_,x,rl,n,h,hx,fun v H1 ⟨d1,G1,L1,M1,e1,r1,n1,h1⟩=> ?_⟩
  refine ⟨G1,L1,ρ,M1,_,x,r1,n.mono e1,h1,hx.on e1,fun v2 H2 ⟨d2,G2,L2,M2,e2,r2,n2,ei,h2⟩=> ?_⟩
  subst ei
  have n2:v2= .int a:=n2
  subst n2
  refine ⟨_,rfl,rfl,G2,L2,ρ,M2,_,x,r2,(n.mono e1).mono e2,h2,(hx.on e1).on e2,fun v3 H3 ⟨d3,G3,L3,M3,e3,r3,n3,ds,ed,ek,ha,hn,h3⟩=> ?_⟩
  subst ek
  have n3:v3= .int b:=n3
  subst n3
  have e23:=e2.trans e3
  obtain ⟨c,vs,rfl,sq,m⟩:=dw r3 (Den.mono e23.g e23.l _ _ n1) ed
  have hl:=m.length
  refine ⟨_,rfl,rfl,c,vs,rfl,sq,by rw [←hl];exact ha,by rw [←hl];exact hn,fun p hp=> ?_⟩
  rw [←hl]
  exact fZ (e1.trans e23) r3 hp (aT.of (lD m.pair _)) h3
def FO(to te:DE):DE:=fun ρ M q x=>to ρ M (fun d M1=>(∃k ks ds,d= .loc k∧M1[k]? =some (.dct ks ds))∧te ρ M1 (fun di M2=>∃k ks ds key,d= .loc k∧M2[k]? =some (.dct ks ds)∧AX di=some key∧q ((aZ ks ds key).getD .non) M2) x) x
theorem yb(hr:dN k' X.A)(ho:JE X R o to)(he:JE X R e te)(m:M1 X o "get" apos e cpos:=by exact ⟨rfl,rfl,rfl,rfl⟩):JE X R (.Call (.Attribute o "get" apos) [e] [] cpos) (FO to te):=
 .of (xK (vK hr) ho he m) fun σ H G L ρ M q x rl n h hx=>by
  refine ⟨G,L,ρ,M,_,x,rl,n,h,hx,fun v H1 ⟨d1,G1,L1,M1,e1,r1,n1,⟨k0,ks0,ds0,ed0,hm0⟩,h1⟩=> ?_⟩
  subst ed0
  obtain ⟨a,rfl,hk⟩:=n1
  obtain ⟨_,vs0,hH0,_,_⟩:=r1.ats k0 a _ hk hm0
  refine ⟨a,rfl, .inl ⟨_, .inl hH0⟩,G1,L1,ρ,M1,_,x,r1,n.mono e1,h1,hx.on e1,fun v2 H2 ⟨d2,G2,L2,M2,e2,r2,n2,k,ks,ds,key,ed,hm,hkey,h3⟩=> ?_⟩
  cases ed
  have hk3:=e2.l.get hk
  obtain ⟨_,vs,hH,_,dn⟩:=r2.ats k0 a _ hk3 hm
  refine ⟨_, .inl ⟨_,key, .inl hH,jj hkey n2,rfl⟩, ?_⟩
  cases hg:aZ ks ds key with
  | none=>
   rw [hg] at h3
   rw [nY dn hg]
   exact aS (e1.trans e2) r2 (show Den X.K G2 L2 .non V.non from rfl) h3
  | some d=>
   rw [hg] at h3
   obtain ⟨u,hu,du⟩:=jE dn hg
   rw [hu]
   exact aS (e1.trans e2) r2 du h3
def mI(ks:List Key):List Key→List Key
 | []=>ks
 | k::r=>mI (fH ks k) r
def oG(ks:List Key)(ds:List Dt):List Key→List Dt→List Dt
 | k::r,d::ds2=>oG (fH ks k) (eD ks k ds d) r ds2
 | _,_=>ds
theorem Cb{α:Type}{ks:List Key}{k:Key}{xs:List α}{v:α}(h:ks.length=xs.length):(fH ks k).length=(eD ks k xs v).length:=by
 unfold fH eD
 split
 ·rw [iZ h]
 ·rw [aai,aai,h];rfl
theorem Cc{K:PySem.W.Frag}{G:Hp}{L:List Addr}{ks:List Key}{k:Key}{ds:List Dt}{vs:List V}{d:Dt}{v:V}(n:Den K G L d v)(h:aT K G L ds vs)(hl:ks.length=ds.length):aT K G L (eD ks k ds d) (eD ks k vs v):=by
 unfold eD
 split
 ·exact i0 n h hl
 ·exact h.app ⟨_,_,rfl,n,rfl⟩
theorem tV{K:PySem.W.Frag}{G:Hp}{L:List Addr}:∀{ks2:List Key} {ds2:List Dt} {vs2:List V} {ks:List Key} {ds:List Dt} {vs:List V},ks2.length=ds2.length→aT K G L ds2 vs2→ks.length=ds.length→aT K G L ds vs→
  ∃us,fN (ks.zip vs) (ks2.zip vs2)=(mI ks ks2).zip us∧(mI ks ks2).length=(oG ks ds ks2 ds2).length∧aT K G L (oG ks ds ks2 ds2) us
 | [],[],_,ks,ds,vs,_,h2,hl,h=>by cases h2;exact ⟨vs,rfl,hl,h⟩
 | k::ks2,d::ds2,_,ks,ds,vs,hl2,⟨v,vs2,e,n0,ns⟩,hl,h=>by
  subst e
  have hl2:ks2.length=ds2.length:=by simpa using hl2
  obtain ⟨us,e1,e2,e3⟩:=tV (ks:=fH ks k) (ds:=eD ks k ds d) (vs:=eD ks k vs v) hl2 ns (Cb hl) (Cc n0 h hl)
  refine ⟨us, ?_,e2,e3⟩
  rw [aaQ]
  show fN (jQ (ks.zip vs) k v) (ks2.zip vs2)=(mI (fH ks k) ks2).zip us
  rw [yZ (hl.trans h.length),e1]
def DJ(to te:DE):DE:=fun ρ M q x=>to ρ M (fun d M1=>(∃k ks ds,d= .loc k∧M1[k]? =some (.dct ks ds))∧te ρ M1 (fun d2 M2=>∃k k2 ks ds ks2 ds2,d= .loc k∧d2= .loc k2∧k≠k2∧M2[k]? =some (.dct ks ds)∧M2[k2]? =some (.dct ks2 ds2)∧ks.length+ks2.length≤1000∧q .non (M2.set k (.dct (mI ks ks2) (oG ks ds ks2 ds2)))) x) x
theorem zl(ho:JE X R o to)(he:JE X R e te)(m:M1 X o "update" apos e cpos:=by exact ⟨rfl,rfl,rfl,rfl⟩):JE X R (.Call (.Attribute o "update" apos) [e] [] cpos) (DJ to te):=
 .of (Aw ho he m) fun σ H G L ρ M q x rl n h hx=>by
  refine ⟨G,L,ρ,M,_,x,rl,n,h,hx,fun v H1 ⟨d1,G1,L1,M1,e1,r1,n1,⟨k0,ks0,ds0,ed0,hm0⟩,h1⟩=> ?_⟩
  subst ed0
  obtain ⟨a,rfl,hk⟩:=n1
  obtain ⟨_,vs0,hH0,_,_⟩:=r1.ats k0 a _ hk hm0
  refine ⟨a,rfl, .inl ⟨_, .inl hH0⟩,G1,L1,ρ,M1,_,x,r1,n.mono e1,h1,hx.on e1,fun v2 H2 ⟨d2,G2,L2,M2,e2,r2,n2,k,k2,ks,ds,ks2,ds2,ed,ed2,hne,hm,hm2,hz,h3⟩=> ?_⟩
  cases ed
  subst ed2
  have hk3:=e2.l.get hk
  obtain ⟨b,rfl,hkb⟩:=n2
  obtain ⟨_,vs,hH,hl,dn⟩:=r2.ats k0 a _ hk3 hm
  obtain ⟨_,vs2,hH2,hl2,dn2⟩:=r2.ats k2 b _ hkb hm2
  have z1:(ks.zip vs).length≤ks.length:=by rw [aaY];exact Nat.min_le_left _ _
  have z2:(ks2.zip vs2).length≤ks2.length:=by rw [aaY];exact Nat.min_le_left _ _
  have sz:(1000:Nat)≤sizeLine:=by decide
  obtain ⟨us,u1,u2,u3⟩:=tV hl2 dn2 hl dn
  have ab:a≠b:=fun z=>by
   subst z
   have i1:=(aaf.mp hk3).1
   have:=(List.getElem?_inj (l:=L2) i1 r2.nd).mp (hk3.trans hkb.symm)
   exact hne this
  refine ⟨b,_,_,rfl,ab,hH, .inl hH2,by omega, ?_⟩
  exact ⟨.non,G2,L2,_,(e1.trans e2).trans (r2.exS hk3),r2.setM (m:= .dct (mI ks ks2) (oG ks ds ks2 ds2)) hk3 ⟨us,by rw [aD,u1],u2,u3⟩,rfl,h3⟩
def Fz(n:Nat):Dt→Dt→Ms→DQ→Prop:=fun d e M q=>∃ds es f,nu M d=some ds∧nu M e=some es∧ds.length=es.length∧(∀j u v,ds[j]? =some u→es[j]? =some v→EqD M n u v (f j))∧q (.bl ((List.range ds.length).all f)) M
theorem HR{K:PySem.W.Frag}{n:Nat}:OpD K (B8 K n) (Fz n):=by
 intro G0 L0 H0 G L M H v1 v2 d1 d2 q e r n1 n2 ⟨ds,es,f,h1,h2,hl,h,hq⟩
 obtain ⟨a,xs,rfl,s1,m1⟩:=dw r n1 h1
 obtain ⟨b,ys,rfl,s2,m2⟩:=dw r n2 h2
 refine ⟨a,b,xs,ys,f,rfl,rfl,s1,s2,by rw [←m1.length,←m2.length];exact hl,fun j u v hu hv=> ?_,by rw [←m1.length];exact b9 e r hq⟩
 obtain ⟨u',g1,k1⟩:=gE m1 hu
 obtain ⟨v',g2,k2⟩:=gE m2 hv
 exact FG r (h j u' v' g1 g2) k1 k2
theorem Fg(n:Nat)(hr:dN k' X.A)(ja:JE X R a ta)(jb:JE X R b tb)(hn:n+1≤64:=by decide)(hm:behindInMarks .Eq b=false:=by rfl):JE X R (.Compare a [.Eq] [b] pos) (dOp (Fz n) ta tb):=pQ (AH (GN hr hn)) HR ja jb hm
end
end L2
namespace Fr0
def g(a b:Int):Int:=(Int.gcd a b:Nat)
theorem vX{a b:Int}(h:b≠0):0 < g a b:=by
 have:=Int.gcd_pos_of_ne_zero_right a h
 unfold g;omega
theorem zu{a:Int}(h:0≤a):g a 0=a:=by
 unfold g;rw [Int.gcd_zero_right];omega
theorem zv{a b:Int}(hb:0 < b):g b (a.fmod b)=g a b:=by
 unfold g
 rw [abo a (aag hb),Int.gcd_comm a b]
 congr 1
 refine Int.gcd_right_eq_iff.mpr fun c hc=> ?_
 rw [Int.emod_def]
 constructor
 ·intro h
  have:=Int.dvd_add h (Int.dvd_mul_of_dvd_left (c:=a / b) hc)
  rwa [Int.sub_add_cancel] at this
 ·intro h
  exact Int.dvd_sub h (Int.dvd_mul_of_dvd_left (c:=a / b) hc)
theorem Dj(a b:Int):g (if a < 0 then -a else a) (if b < 0 then -b else b)=g a b:=by
 unfold g
 split <;> split <;> simp
def dv(t b:Int):Int:=if b < 0 then -(g t b) else g t b
def bB(t b:Int):Int×Int:=(t.fdiv (dv t b),b.fdiv (dv t b))
theorem yq{t b:Int}(h:b≠0):dv t b≠0:=by
 have:=vX (a:=t) h
 unfold dv;split <;> omega
theorem rC{k p:Int}(h:k≠0):(k * p).fdiv k=p:=by
 rw [aaL];exact Int.mul_fdiv_cancel p h
theorem yp{t b:Int}(h:b≠0):∃p q:Int,t=dv t b * p∧b=dv t b * q∧0 < q∧Int.gcd p q=1:=by
 have hg:=vX (a:=t) h
 have h0:0 < Int.gcd t b:=Int.gcd_pos_of_ne_zero_right t h
 obtain ⟨p,hp⟩:=Int.gcd_dvd_left t b
 obtain ⟨q,hq⟩:=Int.gcd_dvd_right t b
 have hc:Int.gcd p q=1:=by
  have e:=Int.gcd_ediv_gcd_ediv_gcd h0
  have n0:(Int.gcd t b:Int)≠0:=by omega
  have e1:t / (Int.gcd t b:Int)=p:=by
   conv=>lhs;arg 1;rw [hp]
   exact aa5 p n0
  have e2:b / (Int.gcd t b:Int)=q:=by
   conv=>lhs;arg 1;rw [hq]
   exact aa5 q n0
  rwa [e1,e2] at e
 have hp':t=g t b * p:=hp
 have hq':b=g t b * q:=hq
 by_cases hb:b < 0
 ·have hd:dv t b= -(g t b):=by unfold dv;rw [if_pos hb]
  refine ⟨-p, -q, ?_, ?_, ?_, ?_⟩
  ·rw [hd,Int.neg_mul_neg];exact hp'
  ·rw [hd,Int.neg_mul_neg];exact hq'
  ·have:g t b * q < 0:=by rw [←hq'];exact hb
   by_cases q0:0≤q
   ·exact absurd (aaR (aag hg) q0) (by omega)
   ·omega
  ·simpa using hc
 ·have hd:dv t b=g t b:=by unfold dv;rw [if_neg hb]
  refine ⟨p,q,by rw [hd];exact hp',by rw [hd];exact hq', ?_,hc⟩
  have:0 < g t b * q:=by rw [←hq'];omega
  exact Int.pos_of_mul_pos_right this hg
theorem dX {t b : Int} (h : b ≠ 0) : ∃ p q : Int, bB t b = (p, q) ∧ 0 < q ∧ Int.gcd p q = 1 ∧ t = dv t b * p ∧ b = dv t b * q := by
  obtain ⟨p, q, hp, hq, h0, hc⟩ := yp (t := t) h
  have n0 := yq (t := t) h
  refine ⟨p, q, ?_, h0, hc, hp, hq⟩
  unfold bB
  have e1 : t.fdiv (dv t b) = p := by conv => lhs; arg 1; rw [hp]
                                      exact rC n0
  have e2 : b.fdiv (dv t b) = q := by conv => lhs; arg 1; rw [hq]
                                      exact rC n0
  rw [e1, e2]
theorem bN{t b:Int}(h:b≠0):t * (bB t b).2=b * (bB t b).1:=by
 obtain ⟨p,q,e,_,_,hp,hq⟩:=dX (t:=t) h
 rw [e]
 show t * q=b * p
 calc t * q=dv t b * p * q:=by rw [←hp]
  _=dv t b * q * p:=by rw [Int.mul_assoc,aaL p q,←Int.mul_assoc]
  _=b * p:=by rw [←hq]
theorem cB{t b:Int}(h:b≠0):0 < (bB t b).2:=by
 obtain ⟨p,q,e,h0,_⟩:=dX (t:=t) h
 rw [e];exact h0
theorem rq{t b:Int}(h:b≠0):Int.gcd (bB t b).1 (bB t b).2=1:=by
 obtain ⟨p,q,e,_,hc,_⟩:=dX (t:=t) h
 rw [e];exact hc
theorem jD{k m n:Int}(h:k∣m * n)(hc:Int.gcd k m=1):k∣n:=by
 have:=(Int.dvd_gcd_mul_iff_dvd_mul (k:=k) (n:=m) (m:=n)).mpr h
 rw [hc] at this
 simpa using this
theorem sQ{p q p' q':Int}(hq:0 < q)(hq':0 < q')(h:Int.gcd p q=1)(h':Int.gcd p' q'=1)(e:p * q'=p' * q):p=p'∧q=q':=by
 have d1:q∣q':=by
  have:q∣p * q':=⟨p',by rw [e,aaL]⟩
  exact jD this (by rw [Int.gcd_comm];exact h)
 have d2:q'∣q:=by
  have:q'∣p' * q:=⟨p,by rw [←e,aaL]⟩
  exact jD this (by rw [Int.gcd_comm];exact h')
 have eq:q=q':=Int.le_antisymm (abE hq' d1) (abE hq d2)
 subst eq
 exact ⟨Int.eq_of_mul_eq_mul_right (by omega) e,rfl⟩
theorem pV{t b p q:Int}(h:b≠0)(hq:0 < q)(hc:Int.gcd p q=1)(e:t * q=b * p):bB t b=(p,q):=by
 have h1:=bN (t:=t) h
 have h2:=cB (t:=t) h
 have h3:=rq (t:=t) h
 have h4:(bB t b).1 * q=p * (bB t b).2:=by
  have:b * ((bB t b).1 * q)=b * (p * (bB t b).2):=by
   rw [←Int.mul_assoc,←h1,Int.mul_right_comm,e,Int.mul_assoc]
  exact aaE h this
 have:=sQ h2 hq h3 hc h4
 exact Prod.ext this.1 this.2
theorem nO{p q:Int}(hq:0 < q)(hc:Int.gcd p q=1):bB p q=(p,q):=pV (by omega) hq hc (aaL _ _)
theorem nU{t b:Int}(h:b≠0):(dv t b).natAbs≤b.natAbs:=by
 have e:(dv t b).natAbs=Int.gcd t b:=by unfold dv g;split <;> omega
 rw [e]
 exact Int.gcd_le_natAbs_right t h
theorem rz {t b : Int} (h : b ≠ 0) : (bB t b).1.natAbs ≤ t.natAbs := by
  obtain ⟨p, q, e, _, _, hp, _⟩ := dX (t := t) h
  have n0 := yq (t := t) h
  rw [e]
  show p.natAbs ≤ t.natAbs
  have : t.natAbs = (dv t b).natAbs * p.natAbs := by conv => lhs; rw [hp]
                                                     exact aaS _ _
  rw [this]
  exact Nat.le_mul_of_pos_left _ (by omega)
theorem iB {t b : Int} (h : b ≠ 0) : (bB t b).2.natAbs ≤ b.natAbs := by
  obtain ⟨p, q, e, _, _, _, hq⟩ := dX (t := t) h
  have n0 := yq (t := t) h
  rw [e]
  show q.natAbs ≤ b.natAbs
  have : b.natAbs = (dv t b).natAbs * q.natAbs := by conv => lhs; rw [hq]
                                                     exact aaS _ _
  rw [this]
  exact Nat.le_mul_of_pos_left _ (by omega)
theorem Ba{t b:Int}(h:0 < b):bB t b=(t.fdiv (g t b),b.fdiv (g t b)):=by
 unfold bB dv
 rw [if_neg (by omega)]
end Fr0
namespace Tx
open PySem PySem.NumText
end Tx
namespace Bz
abbrev Row:=Nat→Int
abbrev Fn:=List Nat→Int
def Lx(x:Row):Fn→Fn
 | _,[]=>0
 | F,c::cs=>x c * F cs - Lx x (fun t=>F (c::t)) cs
theorem xb(x:Row):∀(cs:List Nat) (F G:Fn),Lx x (fun t=>F t+G t) cs=Lx x F cs+Lx x G cs
 | [],F,G=>by simp [Lx]
 | c::cs,F,G=>by
  have:=xb x cs (fun t=>F (c::t)) (fun t=>G (c::t))
  simp only [Lx]
  rw [this];grind
theorem jK(x:Row)(k:Int):∀(cs:List Nat) (F:Fn),Lx x (fun t=>k * F t) cs=k * Lx x F cs
 | [],F=>by simp [Lx]
 | c::cs,F=>by
  have:=jK x k cs (fun t=>F (c::t))
  simp only [Lx]
  rw [this];grind
theorem zS(x:Row)(cs:List Nat)(F G:Fn):Lx x (fun t=>F t - G t) cs=Lx x F cs - Lx x G cs:=by
 have h1:=xb x cs F (fun t=>(-1) * G t)
 have h2:=jK x (-1) cs G
 have e:(fun t=>F t - G t)=fun t=>F t+(-1) * G t:=by funext t;grind
 rw [e,h1,h2];grind
theorem xa(x:Row):∀(cs:List Nat),Lx x (fun _=>0) cs=0
 | []=>rfl
 | c::cs=>by simp only [Lx];rw [xa x cs];simp
theorem qk(x y:Row):∀(cs:List Nat) (F:Fn),Lx x (Lx y F) cs= - Lx y (Lx x F) cs
 | [],F=>rfl
 | c::cs,F=>by
  have ih:=qk x y cs (fun t=>F (c::t))
  have e1:(fun t=>Lx y F (c::t))=fun t=>y c * F t - Lx y (fun u=>F (c::u)) t:=rfl
  have e2:(fun t=>Lx x F (c::t))=fun t=>x c * F t - Lx x (fun u=>F (c::u)) t:=rfl
  show x c * Lx y F cs - Lx x (fun t=>Lx y F (c::t)) cs= -(y c * Lx x F cs - Lx y (fun t=>Lx x F (c::t)) cs)
  rw [e1,e2,zS,zS,jK,jK,ih]
  grind
theorem BF(x:Row)(cs:List Nat)(F:Fn):Lx x (Lx x F) cs=0:=by
 have:=qk x x cs F
 omega
theorem qj(x:Row)(d:Nat):∀(cs:List Nat) (F:Fn),Lx x F (cs++[d])=Lx x (fun t=>F (t++[d])) cs+(-1) ^ cs.length * (x d * F cs)
 | [],F=>by simp [Lx]
 | c::cs,F=>by
  have:=qj x d cs (fun t=>F (c::t))
  show x c * F (cs++[d]) - Lx x (fun t=>F (c::t)) (cs++[d])=_
  rw [this]
  show _=(x c * F (cs++[d]) - Lx x (fun t=>F (c::(t++[d]))) cs)+(-1) ^ (cs.length+1) * (x d * F (c::cs))
  have e:(fun t=>F (c::(t++[d])))=fun t=>(fun u=>F (c::u)) (t++[d]):=rfl
  rw [e,abu]
  grind
theorem rV(x:Row){F G:Fn}{n:Nat}:∀(cs:List Nat),(∀t,t.length+1=cs.length→F t=G t)→Lx x F cs=Lx x G cs:=by
 intro cs
 induction cs generalizing F G with
 | nil=>intro _;rfl
 | cons c cs ih=>
  intro h
  simp only [Lx]
  rw [h cs (by simp),ih (F:=fun t=>F (c::t)) (G:=fun t=>G (c::t)) fun t ht=>h (c::t) (by simp;omega)]
def aA(f:Nat→Int):Nat→Int
 | 0=>0
 | n+1=>aA f n+f n
theorem d9(f g:Nat→Int):∀n,aA (fun i=>f i+g i) n=aA f n+aA g n
 | 0=>rfl
 | n+1=>by simp only [aA];rw [d9 f g n];omega
theorem aC(k:Int)(f:Nat→Int):∀n,aA (fun i=>k * f i) n=k * aA f n
 | 0=>by simp [aA]
 | n+1=>by simp only [aA];rw [aC k f n,Int.mul_add]
theorem aq{f g:Nat→Int}:∀{n:Nat},(∀i,i < n→f i=g i)→aA f n=aA g n
 | 0,_=>rfl
 | n+1,h=>by simp only [aA];rw [aq fun i hi=>h i (by omega),h n (by omega)]
theorem eV{f:Nat→Int}{n:Nat}(h:∀i,i < n→f i=0):aA f n=0:=by
 rw [aq h]
 clear h
 induction n with
 | zero=>rfl
 | succ n ih=>simp only [aA];rw [ih];rfl
theorem fB{f:Nat→Int}{n j:Nat}(hj:j < n)(h:∀i,i < n→i≠j→f i=0):aA f n=f j:=by
 induction n with
 | zero=>omega
 | succ n ih=>
  simp only [aA]
  by_cases e:j=n
  ·subst e
   rw [eV fun i hi=>h i (by omega) (by omega)];omega
  ·rw [ih (by omega) fun i hi hne=>h i (by omega) hne,h n (by omega) (by omega)];omega
theorem gI(f:Nat→Int):∀n,aA f (n+1)=f 0+aA (fun i=>f (i+1)) n
 | 0=>by simp [aA]
 | n+1=>by
  have:=gI f n
  rw [show aA f (n+1+1)=aA f (n+1)+f (n+1) from rfl,this]
  simp only [aA];omega
theorem ck(f:Nat→Nat→Int)(m:Nat):∀n,aA (fun i=>aA (f i) m) n=aA (fun j=>aA (fun i=>f i j) n) m
 | 0=>by
  rw [show aA (fun i=>aA (f i) m) 0=0 from rfl]
  exact (eV fun _ _=>rfl).symm
 | n+1=>by
  rw [show aA (fun i=>aA (f i) m) (n+1)=aA (fun i=>aA (f i) m) n+aA (f n) m from rfl,ck f m n,←d9]
  rfl
theorem rT(x:Row):∀(cs:List Nat) (F:Fn),Lx x F cs=aA (fun p=>(-1) ^ p * (x (cs.getD p 0) * F (cs.eraseIdx p))) cs.length
 | [],F=>rfl
 | c::cs,F=>by
  have ih:=rT x cs (fun t=>F (c::t))
  show x c * F cs - Lx x (fun t=>F (c::t)) cs=_
  rw [aat,gI,ih]
  have e:aA (fun p=>(-1) ^ (p+1) * (x ((c::cs).getD (p+1) 0) * F ((c::cs).eraseIdx (p+1)))) cs.length= -1 * aA (fun p=>(-1) ^ p * (x (cs.getD p 0) * F (c::cs.eraseIdx p))) cs.length:=by
   rw [←aC]
   refine aq fun p _=> ?_
   simp only [List.getD_cons_succ,List.eraseIdx_cons_succ]
   rw [Int.pow_succ];grind
  rw [e]
  simp only [List.getD_cons_zero,List.eraseIdx_cons_zero,Int.pow_zero]
  omega
def F0:Fn:=fun cs=>if cs=[] then 1 else 0
def D:List Row→Fn
 | []=>F0
 | x::xs=>Lx x (D xs)
theorem jL(y:Row):∀(xs ys:List Row) (cs:List Nat),D (xs++y::ys) cs=(-1) ^ xs.length * D (y::(xs++ys)) cs
 | [],ys,cs=>by simp
 | x::xs,ys,cs=>by
  show Lx x (D (xs++y::ys)) cs=_
  have e:D (xs++y::ys)=fun t=>(-1) ^ xs.length * D (y::(xs++ys)) t:=by funext t;exact jL y xs ys t
  rw [e,jK]
  show (-1) ^ xs.length * Lx x (Lx y (D (xs++ys))) cs=(-1) ^ (xs.length+1) * Lx y (Lx x (D (xs++ys))) cs
  rw [qk x y,Int.pow_succ];grind
theorem Gi(y:Row)(xs ys zs:List Row)(cs:List Nat):D (xs++y::(ys++y::zs)) cs=0:=by
 rw [jL]
 have e:D (y::(xs++(ys++y::zs))) cs=Lx y (fun t=>D (xs++(ys++y::zs)) t) cs:=rfl
 have e2:(fun t=>D (xs++(ys++y::zs)) t)=fun t=>(-1) ^ (xs++ys).length * Lx y (D (xs++ys++zs)) t:=by
  funext t
  rw [←List.append_assoc,jL];rfl
 rw [e,e2,jK,BF];simp
def adj(rows:List Row)(cols:List Nat)(p k:Nat):Int:=(-1) ^ (p+k) * D (rows.eraseIdx k) (cols.eraseIdx p)
def zr:Row:=fun _=>0
theorem CO(n:Nat):((-1:Int) ^ n) * (-1) ^ n=1:=by
 induction n with
 | zero=>rfl
 | succ n ih=>rw [Int.pow_succ];grind
theorem xv{α:Type}:∀{l:List α} {k:Nat} (h:k < l.length),l=l.take k++l[k]::l.drop (k+1):=by
 intro l k h
 rw [List.getElem_cons_drop,List.take_append_drop]
theorem vo{α:Type}{l:List α}{i k:Nat}(hi:i < l.length)(hne:i≠k):l[i]∈l.eraseIdx k:=by
 rw [List.mem_eraseIdx_iff_getElem]
 exact ⟨i,hi,hne,rfl⟩
theorem PA{rows:List Row}{cols:List Nat}{i k:Nat}(hl:cols.length=rows.length)(hi:i < rows.length)(hk:k < rows.length):aA (fun p=>rows.getD i zr (cols.getD p 0) * adj rows cols p k) rows.length=if i=k then D rows cols else 0:=by
 have gi:rows.getD i zr=rows[i]:=by rw [aab,aaa hi];rfl
 have e:aA (fun p=>rows.getD i zr (cols.getD p 0) * adj rows cols p k) rows.length=(-1) ^ k * D (rows.getD i zr::rows.eraseIdx k) cols:=by
  show _=(-1) ^ k * Lx (rows.getD i zr) (D (rows.eraseIdx k)) cols
  rw [rT,←aC,hl]
  refine aq fun p _=> ?_
  unfold adj
  rw [Int.pow_add];grind
 rw [e,gi]
 by_cases h:i=k
 ·subst h
  rw [if_pos rfl]
  have s:=xv hi
  have f:=jL rows[i] (rows.take i) (rows.drop (i+1)) cols
  rw [←s,abS,abY (by omega)] at f
  rw [f,List.eraseIdx_eq_take_drop_succ]
 ·rw [if_neg h]
  obtain ⟨ys,zs,e2⟩:=List.append_of_mem (vo hi h)
  rw [e2]
  have:=Gi rows[i] [] ys zs cols
  rw [show D (rows[i]::(ys++rows[i]::zs)) cols=0 from this];simp
theorem qi(x:Row)(g:Nat→Int)(F:Nat→Fn)(cs:List Nat):∀n,Lx x (fun t=>aA (fun k=>g k * F k t) n) cs=aA (fun k=>g k * Lx x (F k) cs) n
 | 0=>xa x cs
 | n+1=>by
  have:=xb x cs (fun t=>aA (fun k=>g k * F k t) n) (fun t=>g n * F n t)
  show Lx x (fun t=>aA (fun k=>g k * F k t) n+g n * F n t) cs=_
  rw [this,qi x g F cs n,jK];rfl
theorem D8(c:Nat):∀(rows:List Row) (t:List Nat),D rows (t++[c])=aA (fun k=>(-1) ^ (t.length+k) * (rows.getD k zr c * D (rows.eraseIdx k) t)) rows.length
 | [],t=>by
  show F0 (t++[c])=0
  unfold F0;simp
 | x::xs,t=>by
  show Lx x (D xs) (t++[c])=_
  rw [qj,aat,gI]
  have e:Lx x (fun u=>D xs (u++[c])) t=aA (fun k=>(-1) ^ (t.length+(k+1)) * ((x::xs).getD (k+1) zr c * D ((x::xs).eraseIdx (k+1)) t)) xs.length:=by
   have e1:Lx x (fun u=>D xs (u++[c])) t=Lx x (fun u=>aA (fun k=>((-1) ^ (t.length+(k+1)) * xs.getD k zr c) * D (xs.eraseIdx k) u) xs.length) t:=by
    refine rV x (n:=0) t fun u hu=> ?_
    rw [D8 c xs u]
    refine aq fun k _=> ?_
    rw [←hu,show u.length+1+(k+1)=u.length+k+1+1 by omega,Int.pow_succ,Int.pow_succ];grind
   rw [e1,qi x (fun k=>(-1) ^ (t.length+(k+1)) * xs.getD k zr c) (fun k=>D (xs.eraseIdx k))]
   refine aq fun k _=> ?_
   simp only [List.getD_cons_succ,List.eraseIdx_cons_succ]
   show _=(-1) ^ (t.length+(k+1)) * (xs.getD k zr c * Lx x (D (xs.eraseIdx k)) t)
   grind
  rw [e]
  simp only [List.getD_cons_zero,List.eraseIdx_cons_zero,Nat.add_zero]
  omega
theorem yG{rows:List Row}{cols:List Nat}{y:Row}{c:Nat}(hl:cols.length=rows.length):D (rows++[y]) (cols++[c])=y c * D rows cols - aA (fun p=>y (cols.getD p 0) * aA (fun k=>adj rows cols p k * rows.getD k zr c) rows.length) rows.length:=by
 rw [jL,aa7]
 show (-1) ^ rows.length * Lx y (D rows) (cols++[c])=_
 rw [qj]
 have e1:Lx y (fun t=>D rows (t++[c])) cols= - ((-1) ^ rows.length * aA (fun p=>y (cols.getD p 0) * aA (fun k=>adj rows cols p k * rows.getD k zr c) rows.length) rows.length):=by
  have e2:Lx y (fun t=>D rows (t++[c])) cols=Lx y (fun t=>aA (fun k=>(-((-1) ^ (rows.length+k) * rows.getD k zr c)) * D (rows.eraseIdx k) t) rows.length) cols:=by
   refine rV y (n:=0) cols fun t ht=> ?_
   rw [D8 c rows t]
   refine aq fun k _=> ?_
   rw [←hl,←ht,show t.length+1+k=t.length+k+1 by omega,Int.pow_succ];grind
  rw [e2,qi y (fun k=> -((-1) ^ (rows.length+k) * rows.getD k zr c)) (fun k=>D (rows.eraseIdx k))]
  have e3:aA (fun k=> -((-1) ^ (rows.length+k) * rows.getD k zr c) * Lx y (D (rows.eraseIdx k)) cols) rows.length=aA (fun k=>aA (fun p=> -((-1) ^ rows.length) * (y (cols.getD p 0) * (adj rows cols p k * rows.getD k zr c))) rows.length) rows.length:=by
   refine aq fun k _=> ?_
   rw [rT,←aC,hl]
   refine aq fun p _=> ?_
   unfold adj
   rw [Int.pow_add,Int.pow_add];grind
  rw [e3,ck]
  have e4:aA (fun p=>aA (fun k=> -((-1) ^ rows.length) * (y (cols.getD p 0) * (adj rows cols p k * rows.getD k zr c))) rows.length) rows.length=aA (fun p=> -((-1) ^ rows.length) * (y (cols.getD p 0) * aA (fun k=>adj rows cols p k * rows.getD k zr c) rows.length)) rows.length:=by
   refine aq fun p _=> ?_
   rw [aC,aC]
  rw [e4,aC];grind
 rw [e1,hl]
 have s:=CO rows.length
 generalize ((-1:Int) ^ rows.length)=z at *
 generalize aA _ rows.length=q
 grind
theorem yX{rows:List Row}{cols:List Nat}{v:Nat→Int}{e:Int}{i k:Nat}(hl:cols.length=rows.length)(hi:i < rows.length)(hk:k < rows.length)
  (h:∀p,p < rows.length→aA (fun j=>v j * rows.getD j zr (cols.getD p 0)) rows.length=if i=p then e else 0):v k * D rows cols=e * adj rows cols i k:=by
 have a:aA (fun p=>aA (fun j=>v j * rows.getD j zr (cols.getD p 0)) rows.length * adj rows cols p k) rows.length=e * adj rows cols i k:=by
  rw [fB hi fun p hp hne=>by rw [h p hp,if_neg (Ne.symm hne)];simp]
  rw [h i hi,if_pos rfl]
 have b:aA (fun p=>aA (fun j=>v j * rows.getD j zr (cols.getD p 0)) rows.length * adj rows cols p k) rows.length=aA (fun j=>v j * aA (fun p=>rows.getD j zr (cols.getD p 0) * adj rows cols p k) rows.length) rows.length:=by
  have e1:aA (fun p=>aA (fun j=>v j * rows.getD j zr (cols.getD p 0)) rows.length * adj rows cols p k) rows.length=aA (fun p=>aA (fun j=>v j * (rows.getD j zr (cols.getD p 0) * adj rows cols p k)) rows.length) rows.length:=by
   refine aq fun p _=> ?_
   rw [aaL,←aC]
   refine aq fun j _=> ?_
   grind
  rw [e1,ck]
  refine aq fun j _=> ?_
  rw [←aC]
 rw [←a,b,fB hk fun j hj hne=>by rw [PA hl hj hk,if_neg hne];simp]
 rw [PA hl hk hk,if_pos rfl]
def ind(a k:Nat):Int:=if a=k then 1 else 0
def rv(A:Nat→Row)(n:Nat)(w:Row)(x:Nat):Int:=aA (fun k=>w k * A k x) n
theorem jx{f:Nat→Int}{a n:Nat}(h:a < n):aA (fun k=>ind a k * f k) n=f a:=by
 rw [fB h fun i _ hne=>by unfold ind;rw [if_neg (Ne.symm hne)];simp]
 unfold ind;rw [if_pos rfl];simp
theorem qz{A:Nat→Row}{n:Nat}{w u v:Row}{a b:Int}(h:∀k,w k=a * u k - b * v k)(x:Nat):rv A n w x=a * rv A n u x - b * rv A n v x:=by
 unfold rv
 have e:aA (fun k=>w k * A k x) n=aA (fun k=>a * (u k * A k x)+(-b) * (v k * A k x)) n:=aq fun k _=>by rw [h k];grind
 rw [e,d9,aC,aC];grind
theorem yW{A:Nat→Row}{n r:Nat}{w:Row}{g:Nat→Int}{u:Nat→Row}(h:∀k,w k=aA (fun j=>g j * u j k) r)(x:Nat):rv A n w x=aA (fun j=>g j * rv A n (u j) x) r:=by
 unfold rv
 have e:aA (fun k=>w k * A k x) n=aA (fun k=>aA (fun j=>g j * (u j k * A k x)) r) n:=aq fun k _=>by
  rw [h k,aaL,←aC]
  exact aq fun j _=>by grind
 rw [e,ck]
 exact aq fun j _=>aC _ _ _
theorem uy{A:Nat→Row}{n a:Nat}(h:a < n)(x:Nat):rv A n (ind a) x=A a x:=by
 unfold rv;exact jx (f:=fun k=>A k x) h
structure St(A:Nat→Row)(n:Nat)(ρ cols:List Nat)(q:Nat→Nat)(d:Int)(W:Nat→Row):Prop where
 lc:cols.length=ρ.length
 rn:ρ.length≤n
 qlt:∀i,i < n→q i < n
 ρlt:∀j,j < ρ.length→ρ.getD j 0 < n
 det:D (ρ.map A) cols=d
 wp:∀i,i < ρ.length→∀k,W i k=aA (fun j=>adj (ρ.map A) cols i j * ind (ρ.getD j 0) k) ρ.length
 wn:∀i,ρ.length≤i→i < n→∀k,W i k=d * ind (q i) k - aA (fun p=>A (q i) (cols.getD p 0) * W p k) ρ.length
 one:∀i p,i < ρ.length→p < ρ.length→rv A n (W i) (cols.getD p 0)=if i=p then d else 0
section
variable{A:Nat→Row}{n:Nat}{ρ cols:List Nat}{q:Nat→Nat}{d:Int}{W:Nat→Row}
theorem lP{j:Nat}(h:j < ρ.length):(ρ.map A).getD j zr=A (ρ.getD j 0):=by
 rw [aab,aak,aaa h,aab,aaa h];rfl
theorem St.rvp(s:St A n ρ cols q d W){i:Nat}(hi:i < ρ.length)(x:Nat):rv A n (W i) x=aA (fun j=>adj (ρ.map A) cols i j * A (ρ.getD j 0) x) ρ.length:=by
 rw [yW (u:=fun j=>ind (ρ.getD j 0)) (s.wp i hi)]
 exact aq fun j hj=>by rw [uy (s.ρlt j hj)]
theorem St.rvn(s:St A n ρ cols q d W){i:Nat}(h1:ρ.length≤i)(hi:i < n)(x:Nat):rv A n (W i) x=d * A (q i) x - aA (fun p=>A (q i) (cols.getD p 0) * rv A n (W p) x) ρ.length:=by
 have h:∀k,W i k=d * ind (q i) k - 1 * aA (fun p=>A (q i) (cols.getD p 0) * W p k) ρ.length:=fun k=>by rw [s.wn i h1 hi k];omega
 rw [qz h x,uy (s.qlt i hi),yW (w:=fun k=>aA (fun p=>A (q i) (cols.getD p 0) * W p k) ρ.length) (u:=W) (fun k=>rfl)]
 omega
theorem St.zero(s:St A n ρ cols q d W){i p:Nat}(h1:ρ.length≤i)(hi:i < n)(hp:p < ρ.length):rv A n (W i) (cols.getD p 0)=0:=by
 rw [s.rvn h1 hi]
 have e:aA (fun p'=>A (q i) (cols.getD p' 0) * rv A n (W p') (cols.getD p 0)) ρ.length=A (q i) (cols.getD p 0) * d:=by
  rw [fB hp fun p' hp' hne=>by rw [s.one p' p hp' hp,if_neg hne];simp]
  rw [s.one p p hp hp,if_pos rfl]
 rw [e];grind
theorem St.head(s:St A n ρ cols q d W)(hr:ρ.length < n)(c:Nat):D ((ρ++[q ρ.length]).map A) (cols++[c])=rv A n (W ρ.length) c:=by
 rw [aaZ,s.rvn (aah _) hr]
 show D (ρ.map A++[A (q ρ.length)]) (cols++[c])=_
 rw [yG (by rw [aac];exact s.lc),s.det,aac,aaL]
 congr 1
 refine aq fun p hp=> ?_
 rw [s.rvp hp]
 congr 1
 exact aq fun k hk=>by rw [lP hk]
theorem iF{a j:Nat}{l:List Nat}(h:j < l.length):(l++[a]).getD j 0=l.getD j 0:=by
 rw [aab,aar h,←aab]
theorem iE{a:Nat}{l:List Nat}:(l++[a]).getD l.length 0=a:=by simp
theorem mix(f:Nat→Int)(s:St A n ρ cols q d W)(a L:Int)(g:Nat→Int):
  aA (fun j=>(if j < ρ.length then a * g j+L * aA (fun p=>A (q ρ.length) (cols.getD p 0) * adj (ρ.map A) cols p j) ρ.length else -(L * d)) * f ((ρ++[q ρ.length]).getD j 0)) (ρ.length+1)
  =a * aA (fun j=>g j * f (ρ.getD j 0)) ρ.length - L * (d * f (q ρ.length) - aA (fun p=>A (q ρ.length) (cols.getD p 0) * aA (fun j=>adj (ρ.map A) cols p j * f (ρ.getD j 0)) ρ.length) ρ.length):=by
 rw [show∀F:Nat→Int,aA F (ρ.length+1)=aA F ρ.length+F ρ.length from fun _=>rfl,iE,if_neg (aaW _)]
 have e:aA (fun j=>(if j < ρ.length then a * g j+L * aA (fun p=>A (q ρ.length) (cols.getD p 0) * adj (ρ.map A) cols p j) ρ.length else -(L * d)) * f ((ρ++[q ρ.length]).getD j 0)) ρ.length
   =aA (fun j=>a * (g j * f (ρ.getD j 0))+L * aA (fun p=>A (q ρ.length) (cols.getD p 0) * (adj (ρ.map A) cols p j * f (ρ.getD j 0))) ρ.length) ρ.length:=by
  refine aq fun j hj=> ?_
  rw [if_pos hj,iF hj]
  have e2:aA (fun p=>A (q ρ.length) (cols.getD p 0) * (adj (ρ.map A) cols p j * f (ρ.getD j 0))) ρ.length=f (ρ.getD j 0) * aA (fun p=>A (q ρ.length) (cols.getD p 0) * adj (ρ.map A) cols p j) ρ.length:=by
   rw [←aC]
   exact aq fun p _=>by grind
  rw [e2];grind
 rw [e,d9,aC,aC,ck (fun j p=>A (q ρ.length) (cols.getD p 0) * (adj (ρ.map A) cols p j * f (ρ.getD j 0)))]
 have e3:aA (fun p=>aA (fun j=>A (q ρ.length) (cols.getD p 0) * (adj (ρ.map A) cols p j * f (ρ.getD j 0))) ρ.length) ρ.length=aA (fun p=>A (q ρ.length) (cols.getD p 0) * aA (fun j=>adj (ρ.map A) cols p j * f (ρ.getD j 0)) ρ.length) ρ.length:=
  aq fun p _=>aC _ _ _
 rw [e3];grind
theorem St.step(s:St A n ρ cols q d W)(hr:ρ.length < n)(c:Nat)(d0:d≠0)(h0:rv A n (W ρ.length) c≠0):
  ∃W':Nat→Row,St A n (ρ++[q ρ.length]) (cols++[c]) q (rv A n (W ρ.length) c) W'∧(∀k,W' ρ.length k=W ρ.length k)∧
   ∀i,i < n→i≠ρ.length→∀k,d * W' i k=rv A n (W ρ.length) c * W i k - rv A n (W i) c * W ρ.length k:=by
 have hd:=s.head hr c
 generalize hE:rv A n (W ρ.length) c=E at *
 have lr:((ρ++[q ρ.length]).map A).length=ρ.length+1:=by simp
 have lc':(cols++[c]).length=((ρ++[q ρ.length]).map A).length:=by rw [lr];simp [s.lc]
 have cg:∀p,p < ρ.length→(cols++[c]).getD p 0=cols.getD p 0:=fun p hp=>iF (by rw [s.lc];exact hp)
 have cl:(cols++[c]).getD ρ.length 0=c:=by rw [←s.lc];exact iE
 have rg:∀j,j < ρ.length+1→((ρ++[q ρ.length]).map A).getD j zr=A ((ρ++[q ρ.length]).getD j 0):=fun j hj=>lP (by simp;omega)
 have head:∀j,j < ρ.length+1→(if j < ρ.length then (0:Int) * 0+(-1) * aA (fun p=>A (q ρ.length) (cols.getD p 0) * adj (ρ.map A) cols p j) ρ.length else -((-1) * d))=adj ((ρ++[q ρ.length]).map A) (cols++[c]) ρ.length j:=fun j hj=>by
  have:=yX (rows:=(ρ++[q ρ.length]).map A) (cols:=cols++[c]) (v:=fun j=>if j < ρ.length then (0:Int) * 0+(-1) * aA (fun p=>A (q ρ.length) (cols.getD p 0) * adj (ρ.map A) cols p j) ρ.length else -((-1) * d)) (e:=E) (i:=ρ.length) (k:=j) lc' (by rw [lr];omega) (by rw [lr];exact hj) (fun p hp=>by
   rw [lr] at hp⊢
   have e1:=mix (fun a=>A a ((cols++[c]).getD p 0)) s 0 (-1) (fun _=>0)
   have e2:aA (fun j=>(if j < ρ.length then (0:Int) * 0+(-1) * aA (fun p=>A (q ρ.length) (cols.getD p 0) * adj (ρ.map A) cols p j) ρ.length else -((-1) * d)) * ((ρ++[q ρ.length]).map A).getD j zr ((cols++[c]).getD p 0)) (ρ.length+1)=_:=(aq fun j hj=>by rw [rg j hj]).trans e1
   rw [e2]
   have e3:d * A (q ρ.length) ((cols++[c]).getD p 0) - aA (fun p'=>A (q ρ.length) (cols.getD p' 0) * aA (fun j=>adj (ρ.map A) cols p' j * A (ρ.getD j 0) ((cols++[c]).getD p 0)) ρ.length) ρ.length=rv A n (W ρ.length) ((cols++[c]).getD p 0):=by
    rw [s.rvn (aah _) hr]
    congr 1
    exact aq fun p' hp'=>by rw [s.rvp hp']
   rw [e3]
   by_cases hpr:p < ρ.length
   ·rw [cg p hpr,s.zero (Nat.le_refl _) hr hpr,if_neg (by omega)];simp
   ·have:p=ρ.length:=by omega
    subst this
    rw [cl,hE,if_pos rfl];omega)
  rw [hd] at this
  refine aaE h0 ?_
  rw [←this];grind
 have hk:∀k,W ρ.length k=aA (fun j=>adj ((ρ++[q ρ.length]).map A) (cols++[c]) ρ.length j * ind ((ρ++[q ρ.length]).getD j 0) k) (ρ.length+1):=fun k=>by
  have e1:=mix (fun a=>ind a k) s 0 (-1) (fun _=>0)
  have e2:aA (fun j=>adj ((ρ++[q ρ.length]).map A) (cols++[c]) ρ.length j * ind ((ρ++[q ρ.length]).getD j 0) k) (ρ.length+1)=_:=(aq fun j hj=>by rw [←head j hj]).trans e1
  rw [e2,s.wn _ (aah _) hr k]
  have e3:aA (fun p=>A (q ρ.length) (cols.getD p 0) * W p k) ρ.length=aA (fun p=>A (q ρ.length) (cols.getD p 0) * aA (fun j=>adj (ρ.map A) cols p j * ind (ρ.getD j 0) k) ρ.length) ρ.length:=aq fun p hp=>by rw [s.wp p hp k]
  rw [e3];omega
 have above:∀i,i < ρ.length→∀j,j < ρ.length+1→(if j < ρ.length then E * adj (ρ.map A) cols i j+rv A n (W i) c * aA (fun p=>A (q ρ.length) (cols.getD p 0) * adj (ρ.map A) cols p j) ρ.length else -(rv A n (W i) c * d))=d * adj ((ρ++[q ρ.length]).map A) (cols++[c]) i j:=fun i hi j hj=>by
  have:=yX (rows:=(ρ++[q ρ.length]).map A) (cols:=cols++[c]) (v:=fun j=>if j < ρ.length then E * adj (ρ.map A) cols i j+rv A n (W i) c * aA (fun p=>A (q ρ.length) (cols.getD p 0) * adj (ρ.map A) cols p j) ρ.length else -(rv A n (W i) c * d)) (e:=d * E) (i:=i) (k:=j) lc' (by rw [lr];omega) (by rw [lr];exact hj) (fun p hp=>by
   rw [lr] at hp⊢
   have e1:=mix (fun a=>A a ((cols++[c]).getD p 0)) s E (rv A n (W i) c) (fun j=>adj (ρ.map A) cols i j)
   have e2:aA (fun j=>(if j < ρ.length then E * adj (ρ.map A) cols i j+rv A n (W i) c * aA (fun p=>A (q ρ.length) (cols.getD p 0) * adj (ρ.map A) cols p j) ρ.length else -(rv A n (W i) c * d)) * ((ρ++[q ρ.length]).map A).getD j zr ((cols++[c]).getD p 0)) (ρ.length+1)=_:=(aq fun j hj=>by rw [rg j hj]).trans e1
   rw [e2]
   have e3:d * A (q ρ.length) ((cols++[c]).getD p 0) - aA (fun p'=>A (q ρ.length) (cols.getD p' 0) * aA (fun j=>adj (ρ.map A) cols p' j * A (ρ.getD j 0) ((cols++[c]).getD p 0)) ρ.length) ρ.length=rv A n (W ρ.length) ((cols++[c]).getD p 0):=by
    rw [s.rvn (aah _) hr]
    congr 1
    exact aq fun p' hp'=>by rw [s.rvp hp']
   rw [e3,←s.rvp hi]
   by_cases hpr:p < ρ.length
   ·rw [cg p hpr,s.zero (aah _) hr hpr,s.one i p hi hpr]
    split <;> grind
   ·have:p=ρ.length:=by omega
    subst this
    rw [cl,hE,if_neg (by omega)];grind)
  rw [hd] at this
  refine aaE h0 ?_
  rw [Int.mul_comm,this];grind
 have abk:∀i,i < ρ.length→∀k,d * aA (fun j=>adj ((ρ++[q ρ.length]).map A) (cols++[c]) i j * ind ((ρ++[q ρ.length]).getD j 0) k) (ρ.length+1)=E * W i k - rv A n (W i) c * W ρ.length k:=fun i hi k=>by
  have e1:=mix (fun a=>ind a k) s E (rv A n (W i) c) (fun j=>adj (ρ.map A) cols i j)
  have e2:d * aA (fun j=>adj ((ρ++[q ρ.length]).map A) (cols++[c]) i j * ind ((ρ++[q ρ.length]).getD j 0) k) (ρ.length+1)=_:=((aC _ _ _).symm.trans (aq fun j hj=>by rw [above i hi j hj];grind)).trans e1
  rw [e2,s.wn _ (aah _) hr k,s.wp i hi k]
  have e3:aA (fun p=>A (q ρ.length) (cols.getD p 0) * W p k) ρ.length=aA (fun p=>A (q ρ.length) (cols.getD p 0) * aA (fun j=>adj (ρ.map A) cols p j * ind (ρ.getD j 0) k) ρ.length) ρ.length:=aq fun p hp=>by rw [s.wp p hp k]
  rw [e3]
 let V:Nat→Row:=fun i k=>if i=ρ.length then W ρ.length k else aA (fun j=>adj ((ρ++[q ρ.length]).map A) (cols++[c]) i j * ind ((ρ++[q ρ.length]).getD j 0) k) (ρ.length+1)
 let W':Nat→Row:=fun i k=>if i < ρ.length+1 then V i k else E * ind (q i) k - aA (fun p=>A (q i) ((cols++[c]).getD p 0) * V p k) (ρ.length+1)
 have Wr:∀k,W' ρ.length k=W ρ.length k:=fun k=>by
  show (if ρ.length < ρ.length+1 then (if ρ.length=ρ.length then W ρ.length k else _) else _)=_
  rw [if_pos (abi _),if_pos rfl]
 have Wi:∀i,i < ρ.length→∀k,W' i k=aA (fun j=>adj ((ρ++[q ρ.length]).map A) (cols++[c]) i j * ind ((ρ++[q ρ.length]).getD j 0) k) (ρ.length+1):=fun i hi k=>by
  show (if i < ρ.length+1 then (if i=ρ.length then _ else _) else _)=_
  rw [if_pos (by omega),if_neg (by omega)]
 have WV:∀p,p < ρ.length+1→∀k,W' p k=V p k:=fun p hp k=>by
  show (if p < ρ.length+1 then V p k else _)=_
  rw [if_pos hp]
 have Wn:∀i,ρ.length+1≤i→∀k,W' i k=E * ind (q i) k - aA (fun p=>A (q i) ((cols++[c]).getD p 0) * W' p k) (ρ.length+1):=fun i hi k=>by
  show (if i < ρ.length+1 then V i k else _)=_
  rw [if_neg (by omega)]
  congr 1
  exact aq fun p hp=>by rw [WV p hp]
 have H:∀i,i < n→i≠ρ.length→∀k,d * W' i k=E * W i k - rv A n (W i) c * W ρ.length k:=fun i hi hne k=>by
  by_cases hir:i < ρ.length
  ·rw [Wi i hir k];exact abk i hir k
  ·rw [Wn i (by omega) k,s.wn i (by omega) hi k,s.rvn (by omega) hi c]
   rw [show∀F:Nat→Int,aA F (ρ.length+1)=aA F ρ.length+F ρ.length from fun _=>rfl,cl,Wr]
   have e1:d * aA (fun p=>A (q i) ((cols++[c]).getD p 0) * W' p k) ρ.length=aA (fun p=>E * (A (q i) (cols.getD p 0) * W p k)+(-(W ρ.length k)) * (A (q i) (cols.getD p 0) * rv A n (W p) c)) ρ.length:=by
    rw [←aC]
    refine aq fun p hp=> ?_
    have:=abk p hp k
    rw [cg p hp,Wi p hp k]
    grind
   rw [d9,aC,aC] at e1
   grind
 refine ⟨W',⟨by simp [s.lc],by simp;omega,s.qlt,fun j hj=> ?_,hd,fun i hi k=> ?_,fun i h1 hi k=> ?_,fun i p hi hp=> ?_⟩,Wr,H⟩
 ·by_cases hjr:j < ρ.length
  ·rw [iF hjr];exact s.ρlt j hjr
  ·have:j=ρ.length:=by simp at hj;omega
   rw [this,iE];exact s.qlt _ hr
 ·rw [show (ρ++[q ρ.length]).length=ρ.length+1 by simp] at hi⊢
  by_cases hir:i < ρ.length
  ·exact Wi i hir k
  ·have:i=ρ.length:=by omega
   subst this
   rw [Wr k];exact hk k
 ·rw [show (ρ++[q ρ.length]).length=ρ.length+1 by simp] at h1⊢
  exact Wn i h1 k
 ·rw [show (ρ++[q ρ.length]).length=ρ.length+1 by simp] at hi hp
  have hrr:∀x,rv A n (W' ρ.length) x=rv A n (W ρ.length) x:=fun x=>by
   unfold rv;exact aq fun k _=>by rw [Wr k]
  by_cases hir:i < ρ.length
  ·have lin:d * rv A n (W' i) ((cols++[c]).getD p 0)=E * rv A n (W i) ((cols++[c]).getD p 0) - rv A n (W i) c * rv A n (W ρ.length) ((cols++[c]).getD p 0):=by
    have:=qz (A:=A) (n:=n) (w:=fun k=>d * W' i k) (u:=W i) (v:=W ρ.length) (a:=E) (b:=rv A n (W i) c) (fun k=>H i (by omega) (by omega) k) ((cols++[c]).getD p 0)
    rw [←this]
    unfold rv
    rw [←aC]
    exact aq fun k _=>by grind
   refine aaE d0 ?_
   rw [lin]
   by_cases hpr:p < ρ.length
   ·rw [cg p hpr,s.zero (aah _) hr hpr,s.one i p hir hpr]
    split <;> grind
   ·have:p=ρ.length:=by omega
    subst this
    rw [cl,hE,if_neg (by omega)];grind
  ·have:i=ρ.length:=by omega
   subst this
   rw [hrr]
   by_cases hpr:p < ρ.length
   ·rw [cg p hpr,s.zero (aah _) hr hpr,if_neg (by omega)]
   ·have:p=ρ.length:=by omega
    subst this
    rw [cl,hE,if_pos rfl]
end
theorem St.start{A:Nat→Row}{n:Nat}:St A n [] [] id 1 (fun i=>ind i) where
 lc:=rfl
 rn:=abJ _
 qlt:=fun _ h=>h
 ρlt:=fun _ h=>absurd h (abe _)
 det:=rfl
 wp:=fun _ h=>absurd h (abe _)
 wn:=fun i _ _ k=>by
  show ind i k=1 * ind i k - 0
  omega
 one:=fun _ _ h=>absurd h (abe _)
theorem St.perm{A:Nat→Row}{n:Nat}{ρ cols:List Nat}{q:Nat→Nat}{d:Int}{W:Nat→Row}(s:St A n ρ cols q d W){π:Nat→Nat}(h1:∀i,i < ρ.length→π i=i)(h2:∀i,ρ.length≤i→i < n→ρ.length≤π i∧π i < n):St A n ρ cols (fun i=>q (π i)) d (fun i=>W (π i)) where
 lc:=s.lc
 rn:=s.rn
 qlt:=fun i hi=>s.qlt _ (by
  by_cases h:i < ρ.length
  ·rw [h1 i h];exact hi
  ·exact (h2 i (by omega) hi).2)
 ρlt:=s.ρlt
 det:=s.det
 wp:=fun i hi k=>by
  show W (π i) k=_
  rw [h1 i hi];exact s.wp i hi k
 wn:=fun i hi hn k=>by
  obtain ⟨a,b⟩:=h2 i hi hn
  have:=s.wn (π i) a b k
  rw [this]
  congr 1
  exact aq fun p hp=>by rw [h1 p hp]
 one:=fun i p hi hp=>by
  show rv A n (W (π i)) _=_
  rw [h1 i hi];exact s.one i p hi hp
def Ab(x B:Int):Prop:= -B≤x∧x≤B
theorem Ab.mul{x y B C:Int}(h:Ab x B)(h':Ab y C):Ab (x * y) (B * C):=by
 obtain ⟨a,b⟩:=h
 obtain ⟨c,d⟩:=h'
 have B0:0≤B:=by omega
 have C0:0≤C:=by omega
 have hb:x.natAbs≤B.natAbs:=by omega
 have hc:y.natAbs≤C.natAbs:=by omega
 have hm:=Nat.mul_le_mul hb hc
 rw [←aaS,←aaS] at hm
 have p:=aaR B0 C0
 exact ⟨by omega,by omega⟩
theorem Ab.add{x y B C:Int}(h:Ab x B)(h':Ab y C):Ab (x+y) (B+C):=⟨by have:=h.1;have:=h'.1;omega,by have:=h.2;have:=h'.2;omega⟩
theorem Ab.sub{x y B C:Int}(h:Ab x B)(h':Ab y C):Ab (x - y) (B+C):=⟨by have:=h.1;have:=h'.2;omega,by have:=h.2;have:=h'.1;omega⟩
theorem Ab.mono{x B C:Int}(h:Ab x B)(h':B≤C):Ab x C:=⟨by have:=h.1;omega,by have:=h.2;omega⟩
theorem Ab.sum{f:Nat→Int}{B:Int}:∀{n:Nat},(∀i,i < n→Ab (f i) B)→Ab (aA f n) (n * B)
 | 0,_=>⟨by simp [aA],by simp [aA]⟩
 | n+1,h=>by
  have i:=Ab.sum (n:=n) fun i hi=>h i (by omega)
  have:=Ab.add i (h n (by omega))
  have e:(n:Int) * B+B=((n+1:Nat):Int) * B:=by rw [show ((n+1:Nat):Int)=(n:Int)+1 from rfl,Int.add_mul,Int.one_mul]
  rw [e] at this;exact this
theorem Ab.pow{k:Nat}{x B:Int}(h:Ab x B):Ab ((-1) ^ k * x) B:=by
 rcases (by induction k with
  | zero=>exact .inl rfl
  | succ k ih=>rw [Int.pow_succ];rcases ih with e | e <;> rw [e] <;> simp:((-1:Int) ^ k=1∨(-1:Int) ^ k= -1)) with e | e
 ·rw [e,Int.one_mul];exact h
 ·rw [e]
  obtain ⟨a,b⟩:=h
  exact ⟨by omega,by omega⟩
theorem Ab.det{B:Int}(B0:1≤B):∀(rows:List Row) (cols:List Nat),(∀x∈rows,∀c∈cols,Ab (x c) B)→cols.length≤12→Ab (D rows cols) ((12 * B) ^ rows.length)
 | [],cols,_,_=>by
  show Ab (F0 cols) ((12 * B) ^ 0)
  rw [Int.pow_zero]
  unfold F0
  split
  ·exact ⟨by decide,by decide⟩
  ·exact ⟨by decide,by decide⟩
 | x::rows,cols,h,hl=>by
  show Ab (Lx x (D rows) cols) _
  rw [rT,aat,abu]
  have P0:(0:Int)≤(12 * B) ^ rows.length:=abw (by omega)
  have each:∀p,p < cols.length→Ab ((-1) ^ p * (x (cols.getD p 0) * D rows (cols.eraseIdx p))) (B * (12 * B) ^ rows.length):=fun p hp=>by
   refine Ab.pow (Ab.mul ?_ (Ab.det B0 rows (cols.eraseIdx p) (fun y hy c hc=>h y (aad _ hy) c (abW hc)) ?_))
   ·rw [aab,aaa hp]
    exact h x aae _ (aaA hp)
   ·rw [List.length_eraseIdx];split <;> omega
  refine (Ab.sum each).mono ?_
  have Q0:0≤B * (12 * B) ^ rows.length:=aaR (by omega) P0
  have:=aay (show (cols.length:Int)≤12 by omega) Q0
  refine abf this ?_
  have e:12 * (B * (12 * B) ^ rows.length)=(12 * B) ^ rows.length * (12 * B):=by grind
  omega
section
variable{A:Nat→Row}{n:Nat}{ρ cols:List Nat}{q:Nat→Nat}{d:Int}{W:Nat→Row}
structure Bd(A:Nat→Row)(n m:Nat)(B:Int):Prop where
 b1:1≤B
 ab:∀k x,k < n→x < m→Ab (A k x) B
def top(B:Int)(r:Nat):Int:=(12 * B) ^ (r+3)
theorem qI{B:Int}{a b:Nat}(h:1≤B)(hab:a≤b):(12 * B) ^ a≤(12 * B) ^ b:=by
 obtain ⟨c,rfl⟩:=Nat.exists_eq_add_of_le hab
 rw [Int.pow_add]
 have p:(1:Int)≤(12 * B) ^ c:=by
  have:0 < (12 * B) ^ c:=Int.pow_pos (by omega)
  omega
 have q:(0:Int)≤(12 * B) ^ a:=abw (by omega)
 have:=aap p q
 omega
theorem St.abs(s:St A n ρ cols q d W){m:Nat}{B:Int}(b:Bd A n m B)(hc:∀c∈cols,c < m)(hr:ρ.length≤12):
  (∀i k,i < n→Ab (W i k) (top B ρ.length))∧(∀i x,i < n→x < m→Ab (rv A n (W i) x) (top B ρ.length))∧Ab d (top B ρ.length):=by
 have B0:=b.b1
 have mem:∀j,j < ρ.length→ρ.getD j 0∈ρ:=fun j hj=>by
  rw [aab,aaa hj];exact aaA hj
 have ρn:∀a∈ρ,a < n:=fun a ha=>by
  obtain ⟨j,hj,e⟩:=aa3 ha
  have:=s.ρlt j hj
  rw [aab,aaa hj] at this
  rw [←e];exact this
 have ent:∀x∈ρ.map A,∀c∈cols,Ab (x c) B:=fun x hx c hc'=>by
  obtain ⟨a,ha,rfl⟩:=aan.mp hx
  exact b.ab a c (ρn a ha) (hc c hc')
 have cl:cols.length≤12:=by rw [s.lc];exact hr
 have hd:Ab d ((12 * B) ^ ρ.length):=by
  have:=Ab.det B0 (ρ.map A) cols ent cl
  rw [s.det,aac] at this;exact this
 have had:∀p k,Ab (adj (ρ.map A) cols p k) ((12 * B) ^ ρ.length):=fun p k=>by
  unfold adj
  refine Ab.pow ((Ab.det B0 _ _ (fun x hx c hc'=>ent x (abW hx) c (abW hc')) ?_).mono (qI B0 ?_))
  ·rw [List.length_eraseIdx];split <;> omega
  ·rw [List.length_eraseIdx,aac];split <;> omega
 have i1:∀a k,Ab (ind a k) 1:=fun a k=>by unfold ind;split <;> exact ⟨by decide,by decide⟩
 have P0:(0:Int)≤(12 * B) ^ ρ.length:=abw (by omega)
 have le12:∀{C:Int},0≤C→(ρ.length:Int) * C≤12 * C:=fun h=>aay (by omega) h
 have c1:12 * (12 * B) ^ ρ.length≤(12 * B) ^ (ρ.length+1):=by
  rw [abu]
  have:=aap (show (12:Int)≤12 * B by omega) P0
  omega
 have wp:∀i k,i < ρ.length→Ab (W i k) ((12 * B) ^ (ρ.length+1)):=fun i k hi=>by
  rw [s.wp i hi k]
  refine (Ab.sum (B:=(12 * B) ^ ρ.length) fun j hj=> ?_).mono (abf (le12 P0) c1)
  have:=Ab.mul (had i j) (i1 (ρ.getD j 0) k)
  rw [Int.mul_one] at this;exact this
 have rp:∀i x,i < ρ.length→x < m→Ab (rv A n (W i) x) ((12 * B) ^ (ρ.length+1)):=fun i x hi hx=>by
  rw [s.rvp hi]
  have Q0:0≤(12 * B) ^ ρ.length * B:=aaR P0 (by omega)
  refine (Ab.sum (B:=(12 * B) ^ ρ.length * B) fun j hj=>Ab.mul (had i j) (b.ab _ x (s.ρlt j hj) hx)).mono (abf (le12 Q0) ?_)
  rw [abu]
  have:12 * ((12 * B) ^ ρ.length * B)=(12 * B) ^ ρ.length * (12 * B):=by grind
  omega
 have S0:(0:Int)≤(12 * B) ^ (ρ.length+1):=abw (by omega)
 have T0:(0:Int)≤(12 * B) ^ (ρ.length+2):=abw (by omega)
 have c2:12 * (B * (12 * B) ^ (ρ.length+1))=(12 * B) ^ (ρ.length+2):=by
  rw [show ρ.length+2=ρ.length+1+1 from rfl,Int.pow_succ];grind
 have c3:(12 * B) ^ (ρ.length+2)+(12 * B) ^ (ρ.length+2)≤top B ρ.length:=by
  unfold top
  have e:(12 * B) ^ (ρ.length+3)=(12 * B) ^ (ρ.length+2) * (12 * B):=abu _ _
  rw [e]
  have:=aap (show (2:Int)≤12 * B by omega) T0
  omega
 have c4:(12 * B) ^ (ρ.length+1)≤(12 * B) ^ (ρ.length+2):=qI B0 (by omega)
 have c5:(12 * B) ^ ρ.length≤(12 * B) ^ (ρ.length+2):=qI B0 (by omega)
 have c6:(12 * B) ^ ρ.length * B≤(12 * B) ^ (ρ.length+2):=by
  refine abf ?_ c4
  rw [abu]
  exact aap (by omega) P0
 have U0:0≤B * (12 * B) ^ (ρ.length+1):=aaR (by omega) S0
 have colm:∀p,p < ρ.length→cols.getD p 0 < m:=fun p hp=>by
  have hp':p < cols.length:=by rw [s.lc];exact hp
  rw [aab,aaa hp']
  exact hc _ (aaA hp')
 refine ⟨fun i k hi=> ?_,fun i x hi hx=> ?_,hd.mono (by omega)⟩
 ·by_cases hir:i < ρ.length
  ·exact (wp i k hir).mono (by omega)
  ·rw [s.wn i (by omega) hi k]
   have a1:=Ab.mul hd (i1 (q i) k)
   rw [Int.mul_one] at a1
   refine (Ab.sub a1 (Ab.sum (B:=B * (12 * B) ^ (ρ.length+1)) fun p hp=>Ab.mul (b.ab (q i) _ (s.qlt i hi) (colm p hp)) (wp p k hp))).mono ?_
   have:=le12 U0
   omega
 ·by_cases hir:i < ρ.length
  ·exact (rp i x hir hx).mono (by omega)
  ·rw [s.rvn (by omega) hi]
   refine (Ab.sub (Ab.mul hd (b.ab (q i) x (s.qlt i hi) hx)) (Ab.sum (B:=B * (12 * B) ^ (ρ.length+1)) fun p hp=>Ab.mul (b.ab (q i) _ (s.qlt i hi) (colm p hp)) (rp p x hp hx))).mono ?_
   have:=le12 U0
   omega
end
def dj(n i:Nat):List Int:=(List.range n).map (ind i)
def hW(ls:List (List Int))(f k:Nat):List (List Int):=ls.take f++[ls.getD k []]++(ls.drop f).take (k - f)++ls.drop (k+1)
def cT(l h:List Int)(c:Nat)(d:Int):List Int:=(l.zip h).map fun p=>(h.getD c 0 * p.1 - l.getD c 0 * p.2).fdiv d
def aV(A:Nat→Row)(n m:Nat)(w:Row):List Int:=(List.range m).map (fun x=>rv A n w x)++(List.range n).map w
def aH(A:Nat→Row)(n m:Nat)(W:Nat→Row):List (List Int):=(List.range n).map fun i=>aV A n m (W i)
def arr(rows:List (List Int)):Nat→Row:=fun k x=>(rows.getD k []).getD x 0
theorem cY{A:Nat→Row}{n m:Nat}{w:Row}:(aV A n m w).length=m+n:=by unfold aV;simp
theorem fi{A:Nat→Row}{n m x:Nat}{w:Row}(h:x < m):(aV A n m w).getD x 0=rv A n w x:=by
 unfold aV
 rw [List.getD_eq_getElem?_getD,List.getElem?_append_left (by simpa using h),List.getElem?_map,List.getElem?_range h];rfl
theorem gx{A:Nat→Row}{n m i:Nat}{W:Nat→Row}(h:i < n):(aH A n m W).getD i []=aV A n m (W i):=by
 unfold aH
 rw [aab,aak,aaF h];rfl
theorem cx{A:Nat→Row}{n m:Nat}{W:Nat→Row}:(aH A n m W).length=n:=by unfold aH;simp
theorem sR{A:Nat→Row}{n m:Nat}{w u:Row}(h:∀k,w k=u k):aV A n m w=aV A n m u:=by
 have:w=u:=funext h
 rw [this]
theorem pI{rows:List (List Int)}{m:Nat}(hl:∀r∈rows,r.length=m):(List.range rows.length).map (fun i=>rows.getD i []++dj rows.length i)=aH (arr rows) rows.length m (fun i=>ind i):=by
 unfold aH
 apply abc
 intro i hi
 have hi:=aa0.mp hi
 unfold aV dj
 congr 1
 have g:rows.getD i []=rows[i]:=by rw [aab,aaa hi];rfl
 have ml:=hl rows[i] (aaA hi)
 apply aa2
 ·rw [g,ml];simp
 ·intro x h1 h2
  simp only [List.getElem_map,List.getElem_range]
  rw [uy hi]
  unfold arr
  rw [aab (l:=rows.getD i []),aaa h1];rfl
def rot(r k i:Nat):Nat:=if i < r then i else if i=r then k else if i≤k then i - 1 else i
theorem pJ{A:Nat→Row}{n m r k:Nat}{W:Nat→Row}(hr:r≤k)(hk:k < n):hW (aH A n m W) r k=aH A n m (fun i=>W (rot r k i)):=by
 unfold hW
 rw [gx hk]
 unfold aH
 apply List.ext_getElem?
 intro i
 rw [aak]
 simp only [List.append_assoc]
 by_cases h1:i < r
 ·rw [List.getElem?_append_left (by simp;omega),List.getElem?_take_of_lt h1,List.getElem?_map]
  rw [aaF (by omega)]
  have:rot r k i=i:=by unfold rot;rw [if_pos h1]
  simp [this]
 ·rw [List.getElem?_append_right (by simp;omega)]
  have lt:((List.map (fun i=>aV A n m (W i)) (List.range n)).take r).length=r:=by simp;omega
  rw [lt]
  by_cases h2:i=r
  ·subst h2
   rw [Nat.sub_self,List.getElem?_append_left (by simp)]
   rw [aaF (by omega)]
   have:rot i k i=k:=by unfold rot;rw [if_neg (Nat.lt_irrefl _),if_pos rfl]
   simp [this]
  ·rw [List.getElem?_append_right (by simp;omega)]
   show (_++_)[i - r - 1]? =_
   have l2:((List.map (fun i=>aV A n m (W i)) (List.range n)).drop r |>.take (k - r)).length=k - r:=by simp;omega
   by_cases h3:i≤k
   ·rw [aar (by rw [l2];omega),abV (by omega),List.getElem?_drop,aak,aaF (by omega),aaF (by omega)]
    have:rot r k i=i - 1:=by unfold rot;rw [if_neg h1,if_neg h2,if_pos h3]
    simp only [Option.map_some,this]
    rw [show r+(i - r - 1)=i - 1 by omega]
   ·rw [aaw (by rw [l2];omega),l2,List.getElem?_drop,aak]
    rw [show k+1+(i - r - 1 - (k - r))=i by omega]
    by_cases h4:i < n
    ·rw [aaF h4]
     have:rot r k i=i:=by unfold rot;rw [if_neg h1,if_neg h2,if_neg h3]
     simp [this]
    ·rw [List.getElem?_eq_none (by simpa using h4)]
     rfl
theorem kF{a b d:Int}(h:d≠0)(e:d * b=a):a.fdiv d=b:=by
 rw [←e];exact Int.mul_fdiv_cancel_left b h
theorem kr{A:Nat→Row}{n m c:Nat}{w u v:Row}{d:Int}(hc:c < m)(d0:d≠0)(h:∀k,d * v k=rv A n u c * w k - rv A n w c * u k):cT (aV A n m w) (aV A n m u) c d=aV A n m v:=by
 have hr:∀x,d * rv A n v x=rv A n u c * rv A n w x - rv A n w c * rv A n u x:=fun x=>by
  have:=qz (A:=A) (n:=n) (w:=fun k=>d * v k) (u:=w) (v:=u) (a:=rv A n u c) (b:=rv A n w c) h x
  rw [←this]
  unfold rv
  rw [←aC]
  exact aq fun k _=>by grind
 unfold cT
 rw [fi hc,fi hc]
 unfold aV
 rw [List.zip_append (by simp),List.map_append]
 congr 1
 ·apply aa2
  ·simp
  ·intro x h1 h2
   simp only [List.getElem_map,List.getElem_zip,List.getElem_range]
   exact kF d0 (hr x)
 ·apply aa2
  ·simp
  ·intro x h1 h2
   simp only [List.getElem_map,List.getElem_zip,List.getElem_range]
   exact kF d0 (h x)
structure dF(A:Nat→Row)(n:Nat)(col:Nat)(ρ cols:List Nat)(q:Nat→Nat)(d:Int)(W:Nat→Row):Prop where
 st:St A n ρ cols q d W
 d0:d≠0
 cl:∀c∈cols,c < col
 piv:∀i,i < ρ.length→q i=ρ.getD i 0
 sur:∀k,k < n→∃i,i < n∧q i=k
 zero:∀i,ρ.length≤i→i < n→∀x,x < col→rv A n (W i) x=0
 all:cols=List.range col∨∃x,x < col∧x∉cols
theorem dF.start{A:Nat→Row}{n:Nat}:dF A n 0 [] [] id 1 (fun i=>ind i) where
 st:=St.start
 d0:=by decide
 cl:=fun _ h=>nomatch h
 piv:=fun _ h=>absurd h (abe _)
 sur:=fun k h=>⟨k,h,rfl⟩
 zero:=fun _ _ _ _ h=>absurd h (abe _)
 all:= .inl rfl
section
variable{A:Nat→Row}{n col:Nat}{ρ cols:List Nat}{q:Nat→Nat}{d:Int}{W:Nat→Row}
theorem dF.skip(t:dF A n col ρ cols q d W)(h:∀i,ρ.length≤i→i < n→rv A n (W i) col=0):dF A n (col+1) ρ cols q d W where
 st:=t.st
 d0:=t.d0
 cl:=fun c hc=>Nat.lt_succ_of_lt (t.cl c hc)
 piv:=t.piv
 sur:=t.sur
 zero:=fun i h1 h2 x hx=>by
  by_cases e:x=col
  ·rw [e];exact h i h1 h2
  ·exact t.zero i h1 h2 x (by omega)
 all:= .inr ⟨col,abi _,fun z=>absurd (t.cl col z) (aaW _)⟩
theorem dF.move(t:dF A n col ρ cols q d W){k:Nat}(h1:ρ.length≤k)(h2:k < n):dF A n col ρ cols (fun i=>q (rot ρ.length k i)) d (fun i=>W (rot ρ.length k i)) where
 st:=t.st.perm (fun i hi=>by unfold rot;rw [if_pos hi]) fun i a b=>by unfold rot;split <;> (try split) <;> (try split) <;> omega
 d0:=t.d0
 cl:=t.cl
 piv:=fun i hi=>by
  show q (rot ρ.length k i)=_
  rw [show rot ρ.length k i=i by unfold rot;rw [if_pos hi]];exact t.piv i hi
 sur:=fun j hj=>by
  obtain ⟨i,hi,e⟩:=t.sur j hj
  by_cases a:i < ρ.length
  ·exact ⟨i,hi,by show q (rot ρ.length k i)=j;rw [show rot ρ.length k i=i by unfold rot;rw [if_pos a]];exact e⟩
  ·by_cases b:i=k
   ·exact ⟨ρ.length,by omega,by show q (rot ρ.length k ρ.length)=j;rw [show rot ρ.length k ρ.length=k by unfold rot;rw [if_neg (Nat.lt_irrefl _),if_pos rfl],←b];exact e⟩
   ·by_cases c:i < k
    ·exact ⟨i+1,by omega,by show q (rot ρ.length k (i+1))=j;rw [show rot ρ.length k (i+1)=i by unfold rot;rw [if_neg (by omega),if_neg (by omega),if_pos (by omega)];omega];exact e⟩
    ·exact ⟨i,hi,by show q (rot ρ.length k i)=j;rw [show rot ρ.length k i=i by unfold rot;rw [if_neg a,if_neg (by omega),if_neg (by omega)]];exact e⟩
 zero:=fun i a b x hx=>by
  have:ρ.length≤rot ρ.length k i∧rot ρ.length k i < n:=by unfold rot;split <;> (try split) <;> (try split) <;> omega
  exact t.zero _ this.1 this.2 x hx
 all:=t.all
theorem dF.step{m:Nat}(t:dF A n col ρ cols q d W)(hr:ρ.length < n)(hm:col < m)(h0:rv A n (W ρ.length) col≠0):
  ∃W',dF A n (col+1) (ρ++[q ρ.length]) (cols++[col]) q (rv A n (W ρ.length) col) W'∧
   ((aH A n m W).take ρ.length).map (fun l=>cT l (aV A n m (W ρ.length)) col d)++[aV A n m (W ρ.length)]++((aH A n m W).drop (ρ.length+1)).map (fun l=>cT l (aV A n m (W ρ.length)) col d)=aH A n m W':=by
 obtain ⟨W',s',e1,e2⟩:=t.st.step hr col t.d0 h0
 refine ⟨W',⟨s',h0,fun c hc=> ?_,fun i hi=> ?_,t.sur,fun i a b x hx=> ?_, ?_⟩, ?_⟩
 ·rcases aaN.mp hc with z | z
  ·exact Nat.lt_succ_of_lt (t.cl c z)
  ·have:c=col:=by simpa using z
   omega
 ·by_cases hir:i < ρ.length
  ·rw [iF hir];exact t.piv i hir
  ·have:i=ρ.length:=by simp at hi;omega
   rw [this,iE]
 ·rw [show (ρ++[q ρ.length]).length=ρ.length+1 by simp] at a
  have lin:d * rv A n (W' i) x=rv A n (W ρ.length) col * rv A n (W i) x - rv A n (W i) col * rv A n (W ρ.length) x:=by
   have:=qz (A:=A) (n:=n) (w:=fun k=>d * W' i k) (u:=W i) (v:=W ρ.length) (fun k=>e2 i b (by omega) k) x
   rw [←this]
   unfold rv
   rw [←aC]
   exact aq fun k _=>by grind
  refine aaE t.d0 ?_
  rw [lin]
  by_cases e:x=col
  ·subst e;grind
  ·rw [t.zero i (by omega) b x (by omega),t.zero ρ.length (Nat.le_refl _) hr x (by omega)];simp
 ·rcases t.all with z | ⟨x,a,b⟩
  ·left;rw [z,List.range_succ]
  ·refine .inr ⟨x,by omega,fun z=> ?_⟩
   rcases aaN.mp z with z | z
   ·exact b z
   ·have:x=col:=by simpa using z
    omega
 ·unfold aH
  rw [←abZ,←ab0,aaD,aaD]
  apply List.ext_getElem?
  intro i
  simp only [List.append_assoc]
  have lt:(List.map ((fun l=>cT l (aV A n m (W ρ.length)) col d) ∘ fun i=>aV A n m (W i)) ((List.range n).take ρ.length)).length=ρ.length:=by simp;omega
  by_cases h1:i < ρ.length
  ·rw [aar (by rw [lt];exact h1),aak,aak,abV h1,aaF (by omega)]
   show some (cT (aV A n m (W i)) (aV A n m (W ρ.length)) col d)=some _
   rw [kr hm t.d0 (e2 i (by omega) (by omega))]
  ·rw [aaw (by rw [lt];omega),lt,aak]
   by_cases h2:i=ρ.length
   ·subst h2
    rw [Nat.sub_self,aaF hr]
    show some (aV A n m (W ρ.length))=some (aV A n m (W' ρ.length))
    rw [sR e1]
   ·rw [List.getElem?_append_right (by simp;omega)]
    show (List.map _ ((List.range n).drop (ρ.length+1)))[i - ρ.length - 1]? =_
    rw [aak,List.getElem?_drop,show ρ.length+1+(i - ρ.length - 1)=i by omega]
    by_cases h4:i < n
    ·rw [aaF h4]
     show some (cT (aV A n m (W i)) (aV A n m (W ρ.length)) col d)=some _
     rw [kr hm t.d0 (e2 i h4 h2)]
    ·rw [List.getElem?_eq_none (by simpa using h4)]
     rfl
end
section
variable{A:Nat→Row}{n col:Nat}{ρ cols:List Nat}{q:Nat→Nat}{d:Int}{W:Nat→Row}
theorem dF.back(t:dF A n col ρ cols q d W){k y:Nat}(hk:k < n)(hy:y < col):d * A k y=aA (fun p=>A k (cols.getD p 0) * rv A n (W p) y) ρ.length:=by
 obtain ⟨i,hi,e⟩:=t.sur k hk
 have s:=t.st
 by_cases hir:i < ρ.length
 ·have ek:k=ρ.getD i 0:=by rw [←e];exact t.piv i hir
  have lr:(ρ.map A).length=ρ.length:=aac _
  have e1:aA (fun p=>A k (cols.getD p 0) * rv A n (W p) y) ρ.length=aA (fun p=>aA (fun j=>(A k (cols.getD p 0) * adj (ρ.map A) cols p j) * A (ρ.getD j 0) y) ρ.length) ρ.length:=aq fun p hp=>by
   rw [s.rvp hp,←aC]
   exact aq fun j _=>by grind
  have e2:aA (fun p=>aA (fun j=>(A k (cols.getD p 0) * adj (ρ.map A) cols p j) * A (ρ.getD j 0) y) ρ.length) ρ.length=aA (fun j=>A (ρ.getD j 0) y * aA (fun p=>(ρ.map A).getD i zr (cols.getD p 0) * adj (ρ.map A) cols p j) ρ.length) ρ.length:=by
   rw [ck]
   refine aq fun j _=> ?_
   rw [←aC]
   refine aq fun p _=> ?_
   rw [lP hir,←ek];grind
  rw [e1,e2]
  have pa:∀j,j < ρ.length→aA (fun p=>(ρ.map A).getD i zr (cols.getD p 0) * adj (ρ.map A) cols p j) ρ.length=if i=j then d else 0:=fun j hj=>by
   have:=PA (rows:=ρ.map A) (cols:=cols) (i:=i) (k:=j) (by rw [lr];exact s.lc) (by rw [lr];exact hir) (by rw [lr];exact hj)
   rw [lr,s.det] at this;exact this
  rw [fB hir fun j hj hne=>by rw [pa j hj,if_neg (Ne.symm hne)];simp]
  rw [pa i hir,if_pos rfl,ek];grind
 ·have:=s.rvn (by omega) hi y
  rw [t.zero i (by omega) hi y hy,e] at this
  omega
theorem dF.kernel(t:dF A n col ρ cols q d W){x:Nat}(hx:x < col)(hf:x∉cols):∃z:Row,z x= -d∧∀k,k < n→aA (fun y=>A k y * z y) col=0:=by
 have s:=t.st
 have cm:∀i,i < ρ.length→cols.getD i 0∈cols:=fun i hi=>by
  have hi':i < cols.length:=by rw [s.lc];exact hi
  rw [aab,aaa hi'];exact aaA hi'
 refine ⟨fun y=>aA (fun i=>rv A n (W i) x * ind (cols.getD i 0) y) ρ.length - d * ind x y, ?_,fun k hk=> ?_⟩
 ·have e1:aA (fun i=>rv A n (W i) x * ind (cols.getD i 0) x) ρ.length=0:=eV fun i hi=>by
   unfold ind
   rw [if_neg fun z=>hf (by rw [←z];exact cm i hi)];simp
  show aA (fun i=>rv A n (W i) x * ind (cols.getD i 0) x) ρ.length - d * ind x x= -d
  rw [e1];unfold ind;rw [if_pos rfl];omega
 ·have gen:∀f:Row,aA (fun y=>f y * (aA (fun i=>rv A n (W i) x * ind (cols.getD i 0) y) ρ.length - d * ind x y)) col=aA (fun i=>rv A n (W i) x * f (cols.getD i 0)) ρ.length - d * f x:=fun f=>by
   have e1:aA (fun y=>f y * (aA (fun i=>rv A n (W i) x * ind (cols.getD i 0) y) ρ.length - d * ind x y)) col=aA (fun y=>aA (fun i=>rv A n (W i) x * (ind (cols.getD i 0) y * f y)) ρ.length+(-d) * (ind x y * f y)) col:=aq fun y _=>by
    have:aA (fun i=>rv A n (W i) x * (ind (cols.getD i 0) y * f y)) ρ.length=f y * aA (fun i=>rv A n (W i) x * ind (cols.getD i 0) y) ρ.length:=by
     rw [←aC]
     exact aq fun i _=>by grind
    rw [this];grind
   rw [e1,d9,aC,jx (f:=f) hx,ck]
   have e2:aA (fun i=>aA (fun y=>rv A n (W i) x * (ind (cols.getD i 0) y * f y)) col) ρ.length=aA (fun i=>rv A n (W i) x * f (cols.getD i 0)) ρ.length:=aq fun i hi=>by
    rw [aC,jx (f:=f) (t.cl _ (cm i hi))]
   rw [e2];grind
  refine aaE t.d0 ?_
  rw [Int.mul_zero,gen (A k),Int.mul_sub]
  have b1:=t.back hk hx
  have e3:aA (fun i=>rv A n (W i) x * A k (cols.getD i 0)) ρ.length=d * A k x:=by
   rw [b1]
   exact aq fun i _=>aaL _ _
  rw [e3];grind
def Sol(A:Nat→Row)(n u:Nat)(z:Row)(N:Int):Prop:=∀k,k < n→aA (fun x=>A k x * z x) u=N * A k u
theorem Sol.line{u:Nat}{z:Row}{N:Int}(h:Sol A n u z N)(w:Row):aA (fun x=>rv A n w x * z x) u=N * rv A n w u:=by
 unfold rv
 have e1:aA (fun x=>aA (fun k=>w k * A k x) n * z x) u=aA (fun x=>aA (fun k=>w k * (A k x * z x)) n) u:=aq fun x _=>by
  rw [aaL,←aC]
  exact aq fun k _=>by grind
 rw [e1,ck,←aC]
 refine aq fun k hk=> ?_
 rw [aC,h k hk];grind
theorem dF.rest(t:dF A n col ρ cols q d W){z:Row}{N:Int}(hs:Sol A n col z N)(hN:N≠0){i:Nat}(h1:ρ.length≤i)(hi:i < n):rv A n (W i) col=0:=by
 have:=hs.line (W i)
 rw [eV fun x hx=>by rw [t.zero i h1 hi x hx];simp] at this
 rcases Int.mul_eq_zero.mp this.symm with e | e
 ·exact absurd e hN
 ·exact e
theorem dF.told(t:dF A n col ρ cols q d W)(hc:cols=List.range col){z:Row}{N:Int}(hs:Sol A n col z N){i:Nat}(hi:i < col):d * z i=N * rv A n (W i) col:=by
 have s:=t.st
 have hl:ρ.length=col:=by rw [←s.lc,hc,aaT]
 have g:∀p,p < col→cols.getD p 0=p:=fun p hp=>by rw [hc,aab,aaF hp];rfl
 rw [←hs.line (W i)]
 rw [fB hi fun x hx hne=>by
  have:=s.one i x (by rw [hl];exact hi) (by rw [hl];exact hx)
  rw [g x hx,if_neg (Ne.symm hne)] at this
  rw [this];simp]
 have:=s.one i i (by rw [hl];exact hi) (by rw [hl];exact hi)
 rw [g i hi,if_pos rfl] at this
 rw [this]
end
theorem dF.exists{A:Nat→Row}{n:Nat}:∀col:Nat,∃ρ cols q d W,dF A n col ρ cols q d W
 | 0=>⟨_,_,_,_,_,dF.start⟩
 | col+1=>by
  obtain ⟨ρ,cols,q,d,W,t⟩:=dF.exists (A:=A) (n:=n) col
  by_cases h:∃k,ρ.length≤k∧k < n∧rv A n (W k) col≠0
  ·obtain ⟨k,h1,h2,h3⟩:=h
   have t':=t.move h1 h2
   have e:rot ρ.length k ρ.length=k:=by unfold rot;rw [if_neg (Nat.lt_irrefl _),if_pos rfl]
   obtain ⟨W',t2,_⟩:=t'.step (m:=col+1) (by omega) (by omega) (by show rv A n (W (rot ρ.length k ρ.length)) col≠0;rw [e];exact h3)
   exact ⟨_,_,_,_,_,t2⟩
  ·refine ⟨_,_,_,_,_,t.skip fun i h1 h2=> ?_⟩
   by_cases e:rv A n (W i) col=0
   ·exact e
   ·exact absurd ⟨i,h1,h2,e⟩ h
section
variable{A:Nat→Row}{n col:Nat}{ρ cols:List Nat}{q:Nat→Nat}{d:Int}{W:Nat→Row}
def kvk(A:Nat→Row)(n:Nat)(W:Nat→Row)(cols:List Nat)(s k:Nat):Row:=fun y=>aA (fun i=>rv A n (W i) s * ind (cols.getD i 0) y) k
theorem dF.kernelE(t:dF A n col ρ cols q d W){x:Nat}(hx:x < col):∀k,k < n→aA (fun y=>A k y * (kvk A n W cols x cols.length y - d * ind x y)) col=0:=fun k hk=>by
 have s:=t.st
 have cm:∀i,i < ρ.length→cols.getD i 0∈cols:=fun i hi=>by
  have hi':i < cols.length:=by rw [s.lc];exact hi
  rw [aab,aaa hi'];exact aaA hi'
 unfold kvk
 rw [s.lc]
 have gen:∀f:Row,aA (fun y=>f y * (aA (fun i=>rv A n (W i) x * ind (cols.getD i 0) y) ρ.length - d * ind x y)) col=aA (fun i=>rv A n (W i) x * f (cols.getD i 0)) ρ.length - d * f x:=fun f=>by
  have e1:aA (fun y=>f y * (aA (fun i=>rv A n (W i) x * ind (cols.getD i 0) y) ρ.length - d * ind x y)) col=aA (fun y=>aA (fun i=>rv A n (W i) x * (ind (cols.getD i 0) y * f y)) ρ.length+(-d) * (ind x y * f y)) col:=aq fun y _=>by
   have:aA (fun i=>rv A n (W i) x * (ind (cols.getD i 0) y * f y)) ρ.length=f y * aA (fun i=>rv A n (W i) x * ind (cols.getD i 0) y) ρ.length:=by
    rw [←aC]
    exact aq fun i _=>by grind
   rw [this];grind
  rw [e1,d9,aC,jx (f:=f) hx,ck]
  have e2:aA (fun i=>aA (fun y=>rv A n (W i) x * (ind (cols.getD i 0) y * f y)) col) ρ.length=aA (fun i=>rv A n (W i) x * f (cols.getD i 0)) ρ.length:=aq fun i hi=>by
   rw [aC,jx (f:=f) (t.cl _ (cm i hi))]
  rw [e2];grind
 refine aaE t.d0 ?_
 rw [Int.mul_zero,gen (A k),Int.mul_sub]
 have b1:=t.back hk hx
 have e3:aA (fun i=>rv A n (W i) x * A k (cols.getD i 0)) ρ.length=d * A k x:=by
  rw [b1]
  exact aq fun i _=>aaL _ _
 rw [e3];grind
theorem dF.kvSol(t:dF A n col ρ cols q d W)(h:∀i,ρ.length≤i→i < n→rv A n (W i) col=0):Sol A n col (kvk A n W cols col cols.length) d:=fun k hk=>by
 have:=(t.skip h).kernelE (x:=col) (by omega) k hk
 have e:aA (fun y=>A k y * (kvk A n W cols col cols.length y - d * ind col y)) (col+1)=aA (fun y=>A k y * (kvk A n W cols col cols.length y - d * ind col y)) col+A k col * (kvk A n W cols col cols.length col - d * ind col col):=rfl
 have e1:aA (fun y=>A k y * (kvk A n W cols col cols.length y - d * ind col y)) col=aA (fun y=>A k y * kvk A n W cols col cols.length y) col:=aq fun y hy=>by
  have:ind col y=0:=by unfold ind;rw [if_neg (by omega)]
  rw [this];grind
 have e2:kvk A n W cols col cols.length col=0:=eV fun i hi=>by
  have hm:cols.getD i 0∈cols:=by rw [aab,aaa hi];exact aaA hi
  have:ind (cols.getD i 0) col=0:=by unfold ind;rw [if_neg (by have:=t.cl _ hm;omega)]
  rw [this,Int.mul_zero]
 have e3:ind col col=1:=by unfold ind;rw [if_pos rfl]
 rw [e,e1,e2,e3] at this
 have:A k col * (0 - d * 1)= -(d * A k col):=by grind
 omega
theorem St.absd(s:St A n ρ cols q d W){m:Nat}{B:Int}(b:Bd A n m B)(hc:∀c∈cols,c < m)(hr:ρ.length≤12):Ab d ((12 * B) ^ ρ.length):=by
 have ρn:∀a∈ρ,a < n:=fun a ha=>by
  obtain ⟨j,hj,e⟩:=aa3 ha
  have:=s.ρlt j hj
  rw [aab,aaa hj] at this
  rw [←e];exact this
 have:=Ab.det b.b1 (ρ.map A) cols (fun x hx c hc'=>by
  obtain ⟨a,ha,rfl⟩:=aan.mp hx
  exact b.ab a c (ρn a ha) (hc c hc')) (by rw [s.lc];exact hr)
 rw [s.det,aac] at this;exact this
end
end Bz
seal L2.JE L2.JT L2.JW L2.JA L2.JS L2.JSs L2.JI L2.JK
local macro_rules | `(tactic| walk_at "vc")=>`(tactic| dsimp only [L2.gN,L2.Gq,L2.GL,L2.dFz,L2.EJ,L2.B3,L2.sIf,L2.Gp,L2.EI,L2.B5,L2.yV,L2.DN,L2.dFn,L2.dOp,L2.dUn,L2.Bp,L2.dC,L2.FV,L2.DW,L2.GS,L2.GW,L2.tJ,L2.orT,L2.GC,L2.GX,L2.GV,L2.dIf,L2.ka,List.map_cons,List.map_nil,List.length_cons,List.length_nil,List.cons_append,List.nil_append,List.replicate,List.getElem?_cons_zero,List.getElem?_cons_succ,List.set_cons_zero,List.set_cons_succ,Nat.reduceSub,Nat.reduceAdd,Nat.zero_add])
namespace Pg
open PySem L2
def top(i:Nat):Stmt:=PySem.Challenge.pw_chanceduel_k22_worths_of_two_plans.main.body.getD i (.Pass ⟨0,0,0,0⟩)
def cls(i j:Nat):Stmt:=match top i with
 | .ClassDef _ _ _ b _ _ _ _ _ _ _=>b.getD j (.Pass ⟨0,0,0,0⟩)
 | _=> .Pass ⟨0,0,0,0⟩
abbrev dG:Stmt:=top 10
abbrev iV:Stmt:=top 11
abbrev Ah:Stmt:=top 12
abbrev ur:Stmt:=top 13
abbrev uq:Stmt:=top 14
abbrev lj:Stmt:=top 19
abbrev iX:Stmt:=top 20
abbrev eA:Stmt:=top 21
abbrev bG:Stmt:=top 22
abbrev dR:Stmt:=top 23
abbrev gu:Stmt:=top 24
abbrev gU:Stmt:=top 25
abbrev gT:Stmt:=top 29
abbrev kZ:Stmt:=top 30
abbrev e7:Stmt:=top 33
abbrev et:Stmt:=top 34
abbrev fT:Stmt:=top 35
abbrev cP:Stmt:=top 36
abbrev eB:Stmt:=top 37
abbrev gM:Stmt:=top 38
abbrev iY:Stmt:=top 40
abbrev lh:Stmt:=top 42
abbrev ll:Stmt:=top 43
abbrev iN:Stmt:=top 44
abbrev e9:Stmt:=top 45
abbrev oQ:Stmt:=top 46
abbrev iO:Stmt:=top 47
abbrev e6:Stmt:=top 48
abbrev iM:Stmt:=top 49
abbrev uu:Stmt:=top 51
abbrev gP:Stmt:=top 52
abbrev gQ:Stmt:=top 53
abbrev oR:Stmt:=top 54
abbrev fc:Stmt:=top 55
abbrev fe:Stmt:=top 56
abbrev gO:Stmt:=top 57
abbrev fU:Stmt:=top 58
abbrev iT:Stmt:=top 59
abbrev gs:Stmt:=top 60
abbrev k9:Stmt:=top 61
abbrev fb:Stmt:=top 62
abbrev iR:Stmt:=top 64
abbrev iU:Stmt:=top 65
abbrev iP:Stmt:=top 66
abbrev iQ:Stmt:=top 67
abbrev iS:Stmt:=top 68
abbrev EK:Stmt:=top 69
abbrev dQ:Stmt:=cls 31 0
abbrev gR:Stmt:=cls 31 1
abbrev fV:Stmt:=cls 31 2
abbrev gS:Stmt:=cls 31 3
abbrev fW:Stmt:=cls 31 4
abbrev iW:Stmt:=cls 31 5
open PySem L2 Fr0 Tx
abbrev VB:List Value:=[.type "ValueError", .type "Exception", .type "BaseException", .type "object"]
structure Ev(K:PySem.W.Frag)(mg:Str→Option Value)(Cm CF CN:Addr):Prop where
 n_len:mg "len"=none
 n_abs:mg "abs"=none
 n_isinstance:mg "isinstance"=none
 n_int:mg "int"=none
 n_bool:mg "bool"=none
 n_str:mg "str"=none
 n_tuple:mg "tuple"=none
 n_list:mg "list"=none
 n_range:mg "range"=none
 n_enumerate:mg "enumerate"=none
 n_any:mg "any"=none
 n_all:mg "all"=none
 n_sum:mg "sum"=none
 n_zip:mg "zip"=none
 n_dict:mg "dict"=none
 ib:PySem.W.kitOne K (.type "int") (.type "bool")=some false
 kis:PySem.W.kitOne K (.type "int") (.type "str")=some false
 kts:PySem.W.kitOne K (.type "tuple") (.type "str")=some false
 kti:PySem.W.kitOne K (.type "tuple") (.type "int")=some false
 kls:PySem.W.kitOne K (.type "list") (.type "str")=some false
 kli:PySem.W.kitOne K (.type "list") (.type "int")=some false
 ktl:PySem.W.kitOne K (.type "tuple") (.type "list")=some false
 klt:PySem.W.kitOne K (.type "list") (.type "tuple")=some false
 mNoFloor:mg "NoFloor"=some (.ref CF)
 eNoFloor:ig K CF VB "ValueError.__new__"
 mNoNumber:mg "NoNumber"=some (.ref CN)
 eNoNumber:ig K CN VB "ValueError.__new__"
 clsFloor:Cls K Cm
 na_kept_rows:fQ K Cm "kept_rows"
 na_kept_share:fQ K Cm "kept_share"
 mHANDS:∃a o its n,mg "HANDS"=some (.ref a)∧K.lookup a=some o∧o.cls= .type "tuple"∧o.data= .seq its n∧its.size≤sizeLine∧Paired (fun (z:Str) (u:Value)=>∃tk,u= .str z tk) ["one","other"] its.toList
 mMOST_DOORS:∃tk,mg "MOST_DOORS"=some (.int 6 tk)
 mMOST_BOTTOM:∃tk,mg "MOST_BOTTOM"=some (.int 1000000 tk)
 mMOST_PLACES:∃tk,mg "MOST_PLACES"=some (.int 12 tk)
 mMOST_SHARE_BOTTOM:∃tk,mg "MOST_SHARE_BOTTOM"=some (.int 1000 tk)
theorem vy{K:PySem.W.Frag}{T:String}:PySem.W.kitOne K (.type T) (.type T)=some true:=by
 unfold PySem.W.kitOne
 rw [if_pos (beq_self_eq_true _)]
section
variable{P:Program}{w:World}{K:PySem.W.Frag}{mg:Str→Option Value}{base:Heap}{Cm CF CN:Addr}
def D5:DF:=fun ds M q _=>match ds with
 | [.int a, .int b]=>q (.int (g a b)) M
 | _=>False
theorem bf:ax ["one","other","great","small","rest"] ["one","other"] (ah dG):=⟨rfl,rfl,rfl,by decide+kernel,rfl,by decide+kernel,by decide+kernel⟩
theorem ij{f:Addr}{fd:FuncData}(F:Fun K "common_divisor" "common_divisor" dG f fd)(E:Ev K mg Cm CF CN):bK P w K mg base (CX1 P w) 1 f fd ["one","other"] (spD K D5):=by
 refine F.okD bf (fun ds M q x h=> ?_) (fun cdv A outer s H E' hr=>⟨_,(ae (au (i:=2) bf.nd rfl (Or.inl rfl) (yc E.n_abs (aa (jv 0) af (hs:=ao))))
   (ae (au (i:=3) bf.nd rfl (Or.inl rfl) (yc E.n_abs (aa (jv 1) af (hs:=ao))))
   (ae (qW (nB hr (jv 3) av) (ae (au (i:=4) bf.nd rfl (Or.inl rfl) (bQ (jv 2) (jv 3)))
   (ae (au (i:=2) bf.nd rfl (Or.inl rfl) (jv 3))
   (ai (au (i:=3) bf.nd rfl (Or.inl rfl) (jv 4))))))
   (ai (ay (jv 2)))))),fun ds M q x h=> ?_⟩)
 ·unfold D5 at h;split at h; · rfl
  ·exact h.elim
 ·unfold D5 at h
  split at h
  ·rename_i a b
   refine ⟨fun m ρ M'=>M'=M∧∃(x y:Int) (r:Option Dt),ρ=[some (.int a),some (.int b),some (.int x),some (.int y),r]∧0≤x∧0≤y∧g x y=g a b∧m=y.toNat,⟨_,rfl,_,_,_,rfl,by split <;> omega,by split <;> omega,Dj a b,rfl⟩, ?_⟩
   rintro m ρ M' ⟨rfl,x,y,r,rfl,hx,hy,e,rfl⟩
   refine ⟨fun hb=> ?_,fun hb=> ?_⟩
   ·have hy0:y≠0:=by simpa using hb
    refine ⟨_,fun ρ' M2 h2=>h2, ?_⟩
    refine ⟨by omega,(x % y).toNat, ?_,rfl,y,x % y,_,rfl,hy,aaJ _ hy0, ?_,rfl⟩
    ·have:=aaH x (show 0 < y by omega)
     have:=aaJ x hy0
     omega
    ·rw [←abo x hy,zv (by omega)];exact e
   ·have hy0:y=0:=by simpa using hb
    subst hy0
    rw [zu hx] at e
    subst e
    exact h
  ·exact h.elim
theorem wL{i j:Int}(h:Big j)(l:i.natAbs≤j.natAbs):Big i:=aaM l h
def qf(CN:Addr):DF:=fun ds M q x=>match ds with
 | [.int t, .int b]=>Big b∧(b=0→x CN [] M)∧(b≠0→q (.tup [.int (bB t b).1, .int (bB t b).2]) M)
 | _=>False
theorem gL:ax ["top","bottom","divisor"] ["top","bottom"] (ah iV):=⟨rfl,rfl,rfl,by decide+kernel,rfl,by decide+kernel,by decide+kernel⟩
theorem pB{f:Addr}{fd:FuncData}(F:Fun K "fraction" "fraction" iV f fd)(E:Ev K mg Cm CF CN){fCommonDivisor:Addr}{dCommonDivisor:FuncData}(c_CommonDivisor:bU P w K mg base 1 "common_divisor" ["one","other"] D5 fCommonDivisor dCommonDivisor):bK P w K mg base (CX1 P w) 2 f fd ["top","bottom"] (spD K (qf CN)):=by
 refine F.okD gL (fun ds M q x h=> ?_) (fun cdv A outer s H E' hr=>⟨_,(ae (bu (gz hr (jv 1) av) (ai (lV oX abN E.eNoNumber E.mNoNumber (aa kz af (hs:=cD)))) aE)
   (ae (au (i:=2) gL.nd rfl (Or.inl rfl) (br c_CommonDivisor hr ar (aa (jv 0) (aa (jv 1) af (hs:=ao)) (hs:=ao))))
   (ae (fP (bu (sT (jv 1) av) (ai (au (i:=2) gL.nd rfl (Or.inl rfl) (C4 (jv 2)))) aE))
   (ai (ay (eU (aa (vF (jv 0) (jv 2)) (aa (vF (jv 1) (jv 2)) af (hs:=bT)) (hs:=bT)))))))),fun ds M q x h=> ?_⟩)
 ·unfold qf at h;split at h; · rfl
  ·exact h.elim
 ·unfold qf at h
  split at h
  ·rename_i t b
   obtain ⟨hB,h0,h1⟩:=h
   refine ⟨fun hb=> ?_,fun hb=> ?_⟩
   ·exact ⟨by decide,h0 (by simpa using hb)⟩
   ·have hb0:b≠0:=by simpa using hb
    refine ⟨fun ρ M'=>M'=M∧ρ=[some (.int t),some (.int b),some (.int (dv t b))],⟨fun hn=> ?_,fun hn=> ?_⟩, ?_⟩
    ·have hn':b < 0:=by simpa using hn
     exact ⟨rfl,by unfold dv;rw [if_pos hn'];rfl⟩
    ·have hn':¬b < 0:=by simpa using hn
     exact ⟨rfl,by unfold dv;rw [if_neg hn'];rfl⟩
    ·rintro ρ M' ⟨rfl,rfl⟩
     have hd:=yq (t:=t) hb0
     have hbd:Big (dv t b):=wL hB (nU hb0)
     exact ⟨⟨hd,hbd⟩,⟨hd,hbd⟩,(by show 2≤sizeLine;decide),h1 hb0⟩
  ·exact h.elim
abbrev Fr:=Int×Int
def frD(p:Fr):Dt:= .tup [.int p.1, .int p.2]
def bo(p:Fr):Bool:=decide ((if p.1 < 0 then -p.1 else p.1)≤10 ^ 30)&&decide (p.2≤1000000)
def mq:DF:=fun ds M q _=>∃p,ds=[frD p]∧q (.bl (bo p)) M
theorem uo:ax ["pay"] ["pay"] (ah lj):=⟨rfl,rfl,rfl,by decide+kernel,rfl,by decide+kernel,by decide+kernel⟩
theorem sI{f:Addr}{fd:FuncData}(F:Fun K "fits_pay" "fits_pay" lj f fd)(E:Ev K mg Cm CF CN):bK P w K mg base (CX1 P w) 1 f fd ["pay"] (spD K mq):=by
 refine F.okD uo (fun ds M q x h=> ?_) (fun cdv A outer s H E' hr=>⟨_,(ai (ay (dU (zk (yc E.n_abs (aa (aG (jv 0) av) af (hs:=bL))) (g6 av av)) (hZ (zk (aG (jv 0) av) (nF E.mMOST_BOTTOM)))))),fun ds M q x h=> ?_⟩)
 ·obtain ⟨p,rfl,_⟩:=h;rfl
 ·obtain ⟨p,rfl,h⟩:=h
  refine ⟨⟨by decide,by decide,by decide⟩,fun h1=> ?_,fun h1=> ?_⟩
  ·have e:bo p=decide (p.2≤1000000):=by unfold bo;rw [show decide ((if p.1 < 0 then -p.1 else p.1)≤10 ^ 30)=true from h1];rfl
   rw [e] at h;exact h
  ·have e:bo p=false:=by unfold bo;rw [show decide ((if p.1 < 0 then -p.1 else p.1)≤10 ^ 30)=false from h1];rfl
   rw [e] at h;exact h
theorem lQ{M:Ms}{d:Dt}{xs:List Dt}{ok:Ms→Prop}(h:oy M d=some (xs,ok)):ok M:=by
 cases d with
 | lst ds=>cases h;trivial
 | scr ns=>cases h;trivial
 | loc k=>
  have h:(match M[k]? with | some (.lst xs)=>some (xs,fun M':Ms=>M'[k]? =some (.lst xs)) | _=>none)=some (xs,ok):=h
  split at h
  ·rename_i ys hm;cases h;exact hm
  ·cases h
 | _=>cases h
theorem qY{M:Ms}{d:Dt}{xs:List Dt}{ok:Ms→Prop}(h:oy M d=some (xs,ok)):pR M d=some (xs,ok):=by
 cases d with
 | lst ds=>cases h;rfl
 | scr ns=>cases h;rfl
 | loc k=>exact h
 | _=>cases h
theorem dW{i:Nat}{ρ:En}{M:Ms}{d:Dt}{xs:List Dt}{ok:Ms→Prop}{q:List Dt→(Ms→Prop)→Ms→Prop}{x:DX}(hv:ρ[i]? =some (some d))(hl:oy M d=some (xs,ok))(h:q xs ok M):gB (Bp i) ρ M q x:=by
 unfold gB Bp
 rw [hv]
 show (match pR M d with | some (xs,ok)=>q xs ok M | none=>False)
 rw [qY hl]
 exact h
theorem bg{n:Int}{k:Nat}(h:n.natAbs < 2 ^ k)(hk:k≤8000:=by decide):Big n:=aam h (aby (by decide) hk)
def aR(t:Int)(p:Fr)(size:Int):Bool:=decide (0≤t)&&(decide (t < size)&&bo p)
def ot:DF:=fun ds M q _=>∃t p r size,ds=[.tup (.int t::frD p::r), .int size]∧q (.bl (aR t p size)) M
theorem sx:ax ["door","size"] ["door","size"] (ah iX):=⟨rfl,rfl,rfl,by decide+kernel,rfl,by decide+kernel,by decide+kernel⟩
theorem pD{f:Addr}{fd:FuncData}(F:Fun K "fits_door" "fits_door" iX f fd)(E:Ev K mg Cm CF CN){fFitsPay:Addr}{dFitsPay:FuncData}(c_FitsPay:bU P w K mg base 1 "fits_pay" ["pay"] mq fFitsPay dFitsPay):bK P w K mg base (CX1 P w) 2 f fd ["door","size"] (spD K ot):=by
 refine F.okD sx (fun ds M q x h=> ?_) (fun cdv A outer s H E' hr=>⟨_,(ai (ay (dU (zk av (aG (jv 0) av)) (dU (Fe (aG (jv 0) av) (jv 1)) (hZ (br c_FitsPay hr ar (aa (aG (jv 0) av) af (hs:=bL)))))))),fun ds M q x h=> ?_⟩)
 ·obtain ⟨t,p,r,size,rfl,_⟩:=h;rfl
 ·obtain ⟨t,p,r,size,rfl,h⟩:=h
  walk_at "vc"
  refine az rfl bO ?_
  refine ⟨fun h1=> ?_,fun h1=> ?_⟩
  ·refine az rfl bO ⟨fun h2=> ?_,fun h2=> ?_⟩
   ·refine az rfl (aB (j:=1) rfl) ⟨p,rfl, ?_⟩
    have e:aR t p size=bo p:=by unfold aR;rw [h1,h2];rfl
    rw [←e];exact h
   ·have e:aR t p size=false:=by unfold aR;rw [h1,h2];rfl
    rw [←e];exact h
  ·have e:aR t p size=false:=by unfold aR;rw [h1];rfl
   rw [←e];exact h
abbrev DrG:=Int×Fr×List Fr
def drG(d:DrG):Dt:= .tup (.int d.1::frD d.2.1::d.2.2.map frD)
def aL(ds:List DrG)(size:Int):Bool:=decide (1≤ds.length)&&decide (ds.length≤6)&&ds.all fun d=>aR d.1 d.2.1 size
def kL:DF:=fun as M q _=>∃d size ds ok,as=[d, .int size]∧oy M d=some (ds.map drG,ok)∧ds.length≤100∧q (.bl (aL ds size)) M
theorem oO:ax ["doors","size"] ["doors","size"] (ah dR):=⟨rfl,rfl,rfl,by decide+kernel,rfl,by decide+kernel,by decide+kernel⟩
theorem ng{f:Addr}{fd:FuncData}(F:Fun K "fits_doors" "fits_doors" dR f fd)(E:Ev K mg Cm CF CN){fFitsDoor:Addr}{dFitsDoor:FuncData}(c_FitsDoor:bU P w K mg base 2 "fits_door" ["door","size"] ot fFitsDoor dFitsDoor):bK P w K mg base (CX1 P w) 3 f fd ["doors","size"] (spD K kL):=by
 refine F.okD oO (fun ds M q x h=> ?_) (fun cdv A outer s H E' hr=>⟨_,(ae (bu (JW.jt (pN (sT (cW E.n_len (aa (jv 0) af (hs:=ao))) av) (nA (AZ (cW E.n_len (aa (jv 0) af (hs:=ao))) (nF E.mMOST_DOORS))))) (ai (ay jbl)) aE)
   (ai (ay (Fj E.n_all (aa (fm (ys:=["size"]) (caps:=[1]) ⟨rfl,by decide+kernel,by decide+kernel,rfl,(by show∀p:Str×NameKind,p∈_→p.2=NameKind.free→List.lookup p.1 (ah dR).names=some .cell;decide+kernel),by decide+kernel,(by show∀q:Str×Nat,q∈_→(["doors","size"]:List Str)[q.2]? =some q.1∧List.lookup q.1 (ah dR).names=some .cell∧_;decide+kernel),rfl⟩ (cG (jv 0)) (fun C s H fp=>(br c_FitsDoor hr (gZ (P:=P) (w:=w)) (aa (jv 0) (aa (jv 1) af (hs:=ao)) (hs:=ao))))) af))))),fun ds M q x h=> ?_⟩)
 ·obtain ⟨d,size,ds,ok,rfl,_⟩:=h;rfl
 ·obtain ⟨d,size,ds,ok,rfl,hl,hz,h⟩:=h
  have hs:=iz hl
  walk_at "vc"
  refine aJ hs ⟨fun h1=> ?_,fun h1=> ?_⟩
  ·refine ⟨fun _=> ?_,fun z=>(nomatch z)⟩
   have e:aL ds size=false:=by
    have:(ds.length:Int) < 1:=by simpa using h1
    unfold aL
    rw [decide_eq_false (by omega)];rfl
   rw [←e];exact h
  ·have h1:¬(ds.length:Int) < 1:=by simpa using h1
   refine aJ hs ⟨fun h2=> ?_,fun h2=> ?_⟩
   ·have e:aL ds size=false:=by
     have:6 < (ds.length:Int):=by simpa using h2
     unfold aL
     rw [decide_eq_false (p:=ds.length≤6) (by omega),Bool.and_false];rfl
    rw [←e];exact h
   ·have h2:¬6 < (ds.length:Int):=by simpa using h2
    refine dW rfl hl ⟨by rw [aac];exact aau hz (by decide), ?_⟩
    refine dZ (f:=fun d=> .bl (match d with | .tup (.int t:: .tup [.int a, .int b]::_)=>aR t (a,b) size | _=>false)) (lQ hl) (fun x hx q hq=> ?_) ?_
    ·obtain ⟨y,_,rfl⟩:=aan.mp hx
     exact ⟨y.1,y.2.1,y.2.2.map frD,size,rfl,hq⟩
    ·refine ⟨ds.map fun d=>aR d.1 d.2.1 size, ?_, ?_⟩
     ·rw [aaD,aaP,aaD];rfl
     ·have e:aL ds size=(ds.map fun d=>aR d.1 d.2.1 size).all id:=by
       unfold aL
       rw [decide_eq_true (show 1≤ds.length by omega),decide_eq_true (show ds.length≤6 by omega),List.all_map];rfl
      rw [←e];exact h
def dz(cs:List Fr):Int:=cs.foldl (fun b c=>b * c.2 / g b c.2) 1
theorem iA{b c:Int}(hb:0 < b)(hc:0 < c):0 < b * c / g b c∧b * c / g b c≤b * c∧0 < g b c∧g b c≤c:=by
 have hg:0 < g b c:=vX (by omega)
 have hbc:0 < b * c:=aaB hb hc
 have hd:g b c∣c:=Int.gcd_dvd_right ..
 have hle:g b c≤c:=abE hc hd
 have h1:c≤b * c:=by
  have:=aay (show 1≤b by omega) (show 0≤c by omega)
  simpa using this
 refine ⟨Int.ediv_pos_of_pos_of_dvd hbc (by omega) (Int.dvd_mul_of_dvd_right hd), ?_,hg,hle⟩
 exact Int.ediv_le_self _ (by omega)
def Ok3(cs:List Fr):Prop:=cs.length≤12∧∀c∈cs,0 < c.2∧c.2 < 2 ^ 200∧c.1.natAbs < 2 ^ 200
def OkB(cs:List Fr):Prop:=cs.length≤13∧∀c∈cs,0 < c.2∧c.2 < 2 ^ 200
theorem jh:∀(cs:List Fr) (b:Int) (k:Nat),0 < b→b≤2 ^ (200 * k)→(∀c∈cs,0 < c.2∧c.2 < 2 ^ 200)→0 < cs.foldl (fun b c=>b * c.2 / g b c.2) b∧cs.foldl (fun b c=>b * c.2 / g b c.2) b≤2 ^ (200 * (k+cs.length))
 | [],b,k,h0,h1,_=>⟨h0,h1⟩
 | c::cs,b,k,h0,h1,hc=>by
  obtain ⟨c0,c1⟩:=hc c aae
  obtain ⟨s0,s1,_⟩:=iA h0 c0
  have hlt:b * c.2 / g b c.2≤2 ^ (200 * (k+1)):=by
   refine abf s1 ?_
   rw [show 200 * (k+1)=200 * k+200 by omega,Int.pow_add]
   exact aa6 h1 (aag c1) (aag c0) (aag (Int.pow_pos (by decide)))
  have:=jh cs _ (k+1) s0 hlt fun d hd=>hc d (aad _ hd)
  rw [abK,aat,show k+(cs.length+1)=k+1+cs.length by omega]
  exact this
theorem GZ{n:Int}{k:Nat}(h0:0≤n)(h:n≤2 ^ k)(hk:k < 8000):Big n:=by
 refine bg (k:=k+1) ?_ hk
 have:(n.natAbs:Int) < ((2 ^ (k+1):Nat):Int):=by
  rw [aa1 h0,Int.natCast_pow,abu]
  have:(0:Int) < 2 ^ k:=Int.pow_pos (by decide)
  show n < 2 ^ k * 2
  omega
 exact abv.mp this
theorem cZ:∀(cs:List Fr) (b:Int),0 < b→(∀c∈cs,0 < c.2)→0 < cs.foldl (fun b c=>b * c.2 / g b c.2) b
 | [],_,h0,_=>h0
 | c::cs,b,h0,hc=>cZ cs _ (iA h0 (hc c aae)).1 fun d hd=>hc d (aad _ hd)
theorem tN{n:Int}{k:Nat}(h0:0≤n)(h:n < 2 ^ k)(hk:k≤8000):Big n:=by
 refine bg (k:=k) ?_ hk
 have:(n.natAbs:Int) < ((2 ^ k:Nat):Int):=by rw [aa1 h0,Int.natCast_pow];exact h
 exact abv.mp this
def eR:DF:=fun ds M q _=>∃cs:List Fr,ds=[.lst (cs.map frD)]∧OkB cs∧q (.int (dz cs)) M
theorem cL:ax ["chances","bottom","chance"] ["chances"] (ah eA):=⟨rfl,rfl,rfl,by decide+kernel,rfl,by decide+kernel,by decide+kernel⟩
theorem i8{f:Addr}{fd:FuncData}(F:Fun K "common_bottom" "common_bottom" eA f fd)(E:Ev K mg Cm CF CN){fCommonDivisor:Addr}{dCommonDivisor:FuncData}(c_CommonDivisor:bU P w K mg base 1 "common_divisor" ["one","other"] D5 fCommonDivisor dCommonDivisor):bK P w K mg base (CX1 P w) 2 f fd ["chances"] (spD K eR):=by
 refine F.okD cL (fun ds M q x h=> ?_) (fun cdv A outer s H E' hr=>⟨_,(ae (au (i:=1) cL.nd rfl (Or.inl rfl) av)
   (ae (eJ (cG (jv 0)) (aN (i:=2) cL.nd rfl (Or.inl rfl)) bR (ai (au (i:=1) cL.nd rfl (Or.inl rfl) (js (aO (jv 1) (aG (jv 2) av)) (br c_CommonDivisor hr ar (aa (jv 1) (aa (aG (jv 2) av) af (hs:=bL)) (hs:=ao)))))))
   (ai (ay (jv 1))))),fun ds M q x h=> ?_⟩)
 ·obtain ⟨cs,rfl,_⟩:=h;rfl
 ·obtain ⟨cs,rfl,⟨hz,hc⟩,h⟩:=h
  walk_at "vc"
  refine dW (i:=0) rfl rfl ?_
  refine cM (fun xs ρ M'=>M'=M∧∃don rest r,cs=don++rest∧xs=rest.map frD∧ρ=[some (.lst (cs.map frD)),some (.int (dz don)),r]) (fun _ _ _ _=>trivial) (fun x xs ρ M' hj nxt=> ?_) (fun ρ M' hj=> ?_) _ _ _ ⟨rfl,[],cs,none,rfl,rfl,rfl⟩
  ·obtain ⟨rfl,don,rest,r,e,ex,rfl⟩:=hj
   cases rest with
   | nil=>cases ex
   | cons c rest=>
    cases ex
    have hd:∀d∈don,0 < d.2∧d.2 < 2 ^ 200:=fun d hd=>by
     obtain ⟨a,b⟩:=hc d (by rw [e];exact List.mem_append_left _ hd)
     exact ⟨a,b⟩
    obtain ⟨c0,c1⟩:=hc c (by rw [e];exact aav _ aae)
    obtain ⟨b0,b1⟩:=jh don 1 0 (by decide) (by decide) hd
    have hl:don.length≤13:=by
     have:=congrArg List.length e
     rw [aai] at this
     omega
    obtain ⟨s0,s1,g0,g1⟩:=iA b0 c0
    refine ⟨⟨GZ (aag b0) b1 (by omega),tN (aag c0) c1 (by decide)⟩,⟨g0,tN (aag g0) (aax g1 c1) (by decide)⟩, ?_⟩
    refine nxt _ _ ⟨rfl,don++[c],rest,some (frD c),by rw [e];simp,rfl, ?_⟩
    have e2:dz (don++[c])=dz don * c.2 / g (dz don) c.2:=by unfold dz;rw [List.foldl_append];rfl
    rw [e2];rfl
  ·obtain ⟨rfl,don,rest,r,e,ex,rfl⟩:=hj
   cases rest with
   | nil=>rw [aa7] at e;subst e;exact h
   | cons c rest=>cases ex
def aF(cs:List Fr):Bool:= !(cs.any fun c=>decide (c.1≤0))&&(decide ((cs.map fun c=>c.1 * (dz cs / c.2)).sum=dz cs)&&decide (dz cs≤1000000))
def ie:DF:=fun ds M q _=>∃cs:List Fr,ds=[.lst (cs.map frD)]∧Ok3 cs∧q (.bl (aF cs)) M
theorem eh:ax ["chances","bottom","whole"] ["chances"] (ah bG):=⟨rfl,rfl,rfl,by decide+kernel,rfl,by decide+kernel,by decide+kernel⟩
theorem jU{f:Addr}{fd:FuncData}(F:Fun K "fits_chances" "fits_chances" bG f fd)(E:Ev K mg Cm CF CN){fCommonBottom:Addr}{dCommonBottom:FuncData}(c_CommonBottom:bU P w K mg base 2 "common_bottom" ["chances"] eR fCommonBottom dCommonBottom):bK P w K mg base (CX1 P w) 3 f fd ["chances"] (spD K ie):=by
 refine F.okD eh (fun ds M q x h=> ?_) (fun cdv A outer s H E' hr=>⟨_,(ae (bu (cQ (Fi E.n_any (aa (fm (ys:=[]) (caps:=[]) ⟨rfl,by decide+kernel,by decide+kernel,rfl,(by show∀p:Str×NameKind,p∈_→p.2=NameKind.free→List.lookup p.1 (ah bG).names=some .cell;decide+kernel),by decide+kernel,(by show∀q:Str×Nat,q∈_→(["chances","bottom","whole"]:List Str)[q.2]? =some q.1∧List.lookup q.1 (ah bG).names=some .cell∧_;decide+kernel),rfl⟩ (cG (jv 0)) (fun C s H fp=>(zk (aG (jv 0) av) av))) af))) (ai (ay jbl)) aE)
   (ae (au (i:=1) eh.nd rfl (Or.inr rfl) (br c_CommonBottom hr ar (aa (jv 0) af (hs:=ao))))
   (ae (au (i:=2) eh.nd rfl (Or.inl rfl) (C2 E.n_sum (aa (fm (ys:=["bottom"]) (caps:=[1]) ⟨rfl,by decide+kernel,by decide+kernel,rfl,(by show∀p:Str×NameKind,p∈_→p.2=NameKind.free→List.lookup p.1 (ah bG).names=some .cell;decide+kernel),by decide+kernel,(by show∀q:Str×Nat,q∈_→(["chances","bottom","whole"]:List Str)[q.2]? =some q.1∧List.lookup q.1 (ah bG).names=some .cell∧_;decide+kernel),rfl⟩ (cG (jv 0)) (fun C s H fp=>(aO (aG (jv 0) av) (js (jv 1) (aG (jv 0) av))))) af)))
   (ai (ay (dU (Ee hr (jv 2) (jv 1)) (hZ (zk (jv 1) (nF E.mMOST_BOTTOM))))))))),fun ds M q x h=> ?_⟩)
 ·obtain ⟨cs,rfl,_⟩:=h;rfl
 ·obtain ⟨cs,rfl,ok3,h⟩:=h
  obtain ⟨hz,hc⟩:=id ok3
  have hz2:(cs.map frD).length≤sizeLine:=by rw [aac];exact aau hz (by decide)
  obtain ⟨b0,b1⟩:=jh cs 1 0 (by decide) (by decide) fun c h=>⟨(hc c h).1,(hc c h).2.1⟩
  walk_at "vc"
  refine dW (i:=0) rfl rfl ⟨hz2, ?_⟩
  refine dZ (f:=fun d=> .bl (match d with | .tup [.int a, .int b]=>decide (a≤0) | _=>false)) trivial (fun x hx q hq=> ?_) ?_
  ·obtain ⟨y,_,rfl⟩:=aan.mp hx
   exact hq
  ·refine ⟨cs.map fun c=>decide (c.1≤0),by rw [aaD,aaP,aaD];rfl,fun _ z=>(nomatch z),fun _ z=>(nomatch z), ?_⟩
   have ea:(cs.map fun c=>decide (c.1≤0)).any id=cs.any fun c=>decide (c.1≤0):=by rw [List.any_map];rfl
   rw [ea]
   refine ⟨fun h1=> ?_,fun h1=> ?_⟩
   ·have e:aF cs=false:=by unfold aF;rw [h1];rfl
    rw [←e];exact h
   ·refine ⟨cs,rfl,⟨by omega,fun c h=>⟨(hc c h).1,(hc c h).2.1⟩⟩, ?_⟩
    walk_at "vc"
    refine dW (i:=0) rfl rfl ⟨hz2, ?_⟩
    refine dZ (f:=fun d=> .int (match d with | .tup [.int a, .int b]=>a * (dz cs / b) | _=>0)) trivial (fun x hx q hq=> ?_) ?_
    ·obtain ⟨y,hy,rfl⟩:=aan.mp hx
     obtain ⟨y0,y1,y2⟩:=hc y hy
     refine ⟨⟨y0,tN (aag y0) y1 (by decide)⟩,⟨bg y2, ?_⟩,hq⟩
     refine GZ (k:=200 * (0+cs.length)) (Int.ediv_nonneg (aag b0) (aag y0)) (abf (Int.ediv_le_self _ (aag b0)) b1) (by omega)
    ·refine ⟨cs.map fun c=>c.1 * (dz cs / c.2),by rw [aaD,aaP,aaD];rfl,⟨_,_,rfl⟩, ?_⟩
     refine ⟨fun h2=> ?_,fun h2=> ?_⟩
     ·have e:aF cs=decide (dz cs≤1000000):=by unfold aF;rw [h1,h2];rfl
      rw [e] at h;exact h
     ·have e:aF cs=false:=by unfold aF;rw [h1,h2];rfl
      rw [←e];exact h
inductive Rw where
 | fin (p:Fr)
 | doors (k:Str) (ds:List DrG)
def aj(d:DrG):Fr:=d.2.2.headD (0,1)
def gh:Rw→Prop
 | .fin p=>0 < p.2
 | .doors k ds=>k≠"end"∧ds.length≤12∧(k="chance"→(∀d∈ds,d.2.2=[aj d])∧Ok3 (ds.map aj))∧∀d∈ds,d.2.2.length≤1∧0 < d.2.1.2
def jH(M:Ms)(d:Dt):Rw→Prop
 | .fin p=>d= .tup [.str "end",frD p]
 | .doors k ds=>∃e ok,d= .tup [.str k,e]∧oy M e=some (ds.map drG,ok)
def bH:Rw→Dt
 | .fin p=> .tup [.str "end",frD p]
 | .doors k ds=> .tup [.str k, .lst (ds.map drG)]
theorem Al(M:Ms)(r:Rw):jH M (bH r) r:=by
 cases r with
 | fin p=>rfl
 | doors k ds=>exact ⟨_,_,rfl,rfl⟩
theorem kE{n:Nat}(p:Fr):(frD p).under n:=⟨trivial,trivial,trivial⟩
theorem md{n:Nat}:∀(ps:List Fr),Dt.underL n (ps.map frD)
 | []=>trivial
 | p::ps=>⟨kE p,md ps⟩
theorem DB{n:Nat}(d:DrG):(drG d).under n:=⟨trivial,kE _,md _⟩
theorem gb{n:Nat}:∀(ds:List DrG),Dt.underL n (ds.map drG)
 | []=>trivial
 | d::ds=>⟨DB d,gb ds⟩
theorem Ak{n:Nat}(r:Rw):(bH r).under n:=by
 cases r with
 | fin p=>exact ⟨trivial,kE p,trivial⟩
 | doors k ds=>exact ⟨trivial,gb ds,trivial⟩
theorem lx{n:Nat}:∀(rs:List Rw),Dt.underL n (rs.map bH)
 | []=>trivial
 | r::rs=>⟨Ak r,lx rs⟩
def aK(k:Str):Bool:=k=="one" || k=="other"
def eP(r:Rw)(size:Int):Bool:=match r with
 | .fin p=>bo p
 | .doors k ds=>if aK k then aL ds size else if k="chance" then aL ds size&&aF (ds.map aj) else false
theorem q9{i:Nat}{j:Int}{ρ:En}{M:Ms}{d:Dt}{ds xs:List Dt}{ok:Ms→Prop}{q:List Dt→(Ms→Prop)→Ms→Prop}{x:DX}(hv:ρ[i]? =some (some (.tup ds)))(hj:atI ds j=some d)(hl:oy M d=some (xs,ok))(h:q xs ok M):gB (dOp fIx (Bp i) (dC (.int j))) ρ M q x:=by
 unfold gB dOp Bp
 rw [hv]
 show fIx (.tup ds) (.int j) M (fun d M1=>match pR M1 d with | some (xs,ok)=>q xs ok M1 | none=>False)
 refine az rfl hj ?_
 show (match pR M d with | some (xs,ok)=>q xs ok M | none=>False)
 rw [qY hl]
 exact h
theorem qZ{k:Str}:inV (.str k) [.str "one", .str "other"]=aK k:=by
 show ((("one":Str)==k) || ((("other":Str)==k) || false))=(k=="one" || k=="other")
 rw [Bool.or_false,BEq.comm (a:=("one":Str)),BEq.comm (a:=("other":Str))]
def rQ:DF:=fun as M q _=>∃d r size,as=[d, .int size]∧jH M d r∧gh r∧q (.bl (eP r size)) M
theorem mR:ax ["row","size","kind"] ["row","size"] (ah gu):=⟨rfl,rfl,rfl,by decide+kernel,rfl,by decide+kernel,by decide+kernel⟩
theorem sH {f:Addr} {fd:FuncData} (F:Fun K "fits_row" "fits_row" gu f fd) (E:Ev K mg Cm CF CN) {fFitsPay:Addr} {dFitsPay:FuncData} (c_FitsPay:bU P w K mg base 1 "fits_pay" ["pay"] mq fFitsPay dFitsPay) {fFitsDoors:Addr} {dFitsDoors:FuncData} (c_FitsDoors:bU P w K mg base 3 "fits_doors" ["doors","size"] kL fFitsDoors dFitsDoors) {fFitsChances:Addr} {dFitsChances:FuncData} (c_FitsChances:bU P w K mg base 3 "fits_chances" ["chances"] ie fFitsChances dFitsChances):bK P w K mg base (CX1 P w) 4 f fd ["row","size"] (spD K rQ):=by
 refine F.okD mR (fun ds M q x h=> ?_) (fun cdv A outer s H E' hr=>⟨_,(ae (au (i:=2) mR.nd rfl (Or.inl rfl) (aG (jv 0) av))
   (ae (bu (gz hr (jv 2) kz) (ai (ay (br c_FitsPay hr ar (aa (aG (jv 0) av) af (hs:=bL))))) aE)
   (ae (bu (zi (jv 2) (C7 E.mHANDS)) (ai (ay (br c_FitsDoors hr ar (aa (aG (jv 0) av) (aa (jv 1) af (hs:=ao)) (hs:=bL))))) aE)
   (ae (bu (gz hr (jv 2) kz) (ai (ay (dU (br c_FitsDoors hr ar (aa (aG (jv 0) av) (aa (jv 1) af (hs:=ao)) (hs:=bL))) (hZ (br c_FitsChances hr ar (aa (fm (ys:=[]) (caps:=[]) ⟨rfl,by decide+kernel,by decide+kernel,rfl,(by show∀p:Str×NameKind,p∈_→p.2=NameKind.free→List.lookup p.1 (ah gu).names=some .cell;decide+kernel),by decide+kernel,(by show∀q:Str×Nat,q∈_→(["row","size","kind"]:List Str)[q.2]? =some q.1∧List.lookup q.1 (ah gu).names=some .cell∧_;decide+kernel),rfl⟩ (cG (aG (jv 0) av)) (fun C s H fp=>(aG (jv 0) av))) af)))))) aE)
   (ai (ay jbl)))))),fun ds M q x h=> ?_⟩)
 ·obtain ⟨d,r,size,rfl,_⟩:=h;rfl
 ·obtain ⟨d,r,size,rfl,ra,ro,h⟩:=h
  cases r with
  | fin p=>
   have ra:d= .tup [.str "end",frD p]:=ra
   subst ra
   exact ⟨fun _=>⟨p,rfl,h⟩,fun z=>(nomatch z)⟩
  | doors k ds=>
   obtain ⟨e,ok,rfl,hl⟩:=ra
   obtain ⟨hk,hz,hch,_⟩:=ro
   refine ⟨fun z=>absurd (of_decide_eq_true z) hk,fun _=> ?_⟩
   refine ⟨.str k,[.str "one", .str "other"],[.str "one", .str "other"],rfl,rfl,rfl, ?_⟩
   rw [qZ]
   refine ⟨fun h1=> ?_,fun h1=> ?_⟩
   ·refine ⟨e,size,ds,ok,rfl,hl,by omega, ?_⟩
    have e1:eP (.doors k ds) size=aL ds size:=by
     show (if aK k then _ else _)=_
     rw [if_pos h1]
    rw [←e1];exact h
   ·have e1:eP (.doors k ds) size=if k="chance" then aL ds size&&aF (ds.map aj) else false:=by
     show (if aK k then _ else _)=_
     rw [if_neg (by rw [h1];decide)]
    rw [e1] at h
    refine ⟨fun h2=> ?_,fun h2=> ?_⟩
    ·have h2:k="chance":=of_decide_eq_true h2
     rw [if_pos h2] at h
     obtain ⟨hone,ok3⟩:=hch h2
     refine ⟨e,size,ds,ok,rfl,hl,by omega,fun h3=> ?_,fun h3=> ?_⟩
     ·rw [h3,Bool.true_and] at h
      show gB _ _ _ _ _
      refine q9 (i:=0) (j:=1) (ds:=[.str k,e]) rfl (aB (j:=1) rfl) hl ⟨by rw [aac];exact aau hz (by decide), ?_⟩
      refine dZ (f:=fun d=>match d with | .tup [_,_,c]=>c | _=> .non) (lQ hl) (fun x hx q hq=> ?_) ?_
      ·obtain ⟨y,hy,rfl⟩:=aan.mp hx
       have ey:drG y= .tup [.int y.1,frD y.2.1,frD (aj y)]:=by unfold drG;rw [hone y hy];rfl
       rw [ey] at hq⊢
       exact hq
      ·refine ⟨ds.map aj, ?_,ok3,h⟩
       rw [aaP,aaD,aaD]
       have:∀y∈ds,((fun d=>match d with | Dt.tup [_,_,c]=>c | _=>Dt.non) ∘ drG) y=(frD ∘ aj) y:=fun y hy=>by
        have ey:drG y= .tup [.int y.1,frD y.2.1,frD (aj y)]:=by unfold drG;rw [hone y hy];rfl
        show (match drG y with | Dt.tup [_,_,c]=>c | _=>Dt.non)=frD (aj y)
        rw [ey]
       rw [abc this]
     ·rw [h3,Bool.false_and] at h
      exact h
    ·have h2:k≠"chance":=of_decide_eq_false h2
     rw [if_neg h2] at h
     exact h
def kM:DF:=fun as M q _=>∃d r,as=[d]∧jH M d r∧gh r∧match r with
 | .fin p=>q (.tup [.str "end",frD p]) M
 | .doors k ds=>q (.tup [.str k, .loc M.length]) (M++[.lst (ds.map drG)])
theorem oP:ax ["row"] ["row"] (ah gU):=⟨rfl,rfl,rfl,by decide+kernel,rfl,by decide+kernel,by decide+kernel⟩
theorem nh{f:Addr}{fd:FuncData}(F:Fun K "copied_row" "copied_row" gU f fd)(E:Ev K mg Cm CF CN):bK P w K mg base (CX1 P w) 1 f fd ["row"] (spD K kM):=by
 refine F.okD oP (fun ds M q x h=> ?_) (fun cdv A outer s H E' hr=>⟨_,(ae (bu (gz hr (aG (jv 0) av) kz) (ai (ay (eU (aa (aG (jv 0) av) (aa (aG (jv 0) av) af (hs:=bL)) (hs:=bL))))) aE)
   (ai (ay (eU (aa (aG (jv 0) av) (aa (nE E.n_list (aa (aG (jv 0) av) af (hs:=bL))) af (hs:=bM)) (hs:=bL)))))),fun ds M q x h=> ?_⟩)
 ·obtain ⟨d,r,rfl,_⟩:=h;rfl
 ·obtain ⟨d,r,rfl,ra,ro,h⟩:=h
  cases r with
  | fin p=>
   have ra:d= .tup [.str "end",frD p]:=ra
   subst ra
   exact ⟨fun _=>⟨by show 2≤sizeLine;decide,h⟩,fun z=>(nomatch z)⟩
  | doors k ds=>
   obtain ⟨e,ok,rfl,hl⟩:=ra
   refine ⟨fun z=>absurd (of_decide_eq_true z) ro.1,fun _=> ?_⟩
   show (match qv M e with | some xs=>_ | none=>False)
   rw [iz hl]
   exact ⟨by show 2≤sizeLine;decide,h⟩
def aU(p:Fr):Bool:=decide (0≤p.1)&&(decide (p.1 < p.2)&&decide (p.2≤1000))
def kK:DF:=fun as M q _=>∃p,as=[frD p]∧q (.bl (aU p)) M
theorem oN:ax ["share"] ["share"] (ah gT):=⟨rfl,rfl,rfl,by decide+kernel,rfl,by decide+kernel,by decide+kernel⟩
theorem nc{f:Addr}{fd:FuncData}(F:Fun K "fits_share" "fits_share" gT f fd)(E:Ev K mg Cm CF CN):bK P w K mg base (CX1 P w) 1 f fd ["share"] (spD K kK):=by
 refine F.okD oN (fun ds M q x h=> ?_) (fun cdv A outer s H E' hr=>⟨_,(ai (ay (dU (zk av (aG (jv 0) av)) (dU (Fe (aG (jv 0) av) (aG (jv 0) av)) (hZ (zk (aG (jv 0) av) (nF E.mMOST_SHARE_BOTTOM))))))),fun ds M q x h=> ?_⟩)
 ·obtain ⟨p,rfl,_⟩:=h;rfl
 ·obtain ⟨p,rfl,h⟩:=h
  unfold aU at h
  refine ⟨fun h1=>⟨fun h2=> ?_,fun h2=> ?_⟩,fun h1=> ?_⟩
  ·rw [show decide (0≤p.1)=true from h1,show decide (p.1 < p.2)=true from h2] at h;exact h
  ·rw [show decide (0≤p.1)=true from h1,show decide (p.1 < p.2)=false from h2] at h;exact h
  ·rw [show decide (0≤p.1)=false from h1] at h;exact h
theorem AW{b c S:Int}(hb:b∣S)(hc:c∣S)(hb0:0 < b)(hc0:0 < c):b * c / g b c∣S∧b∣b * c / g b c∧c∣b * c / g b c:=by
 have e:b * c / g b c=(Int.lcm b c:Nat):=by
  have h:=Int.gcd_mul_lcm b c
  have hg:0 < g b c:=vX (by omega)
  have h2:((Int.gcd b c:Nat):Int) * ((Int.lcm b c:Nat):Int)=b * c:=by
   rw [←Int.natCast_mul,h,Int.natCast_mul,aa1 (aag hb0),aa1 (aag hc0)]
  rw [←h2]
  exact Int.mul_ediv_cancel_left _ (by unfold g at hg;omega)
 rw [e]
 exact ⟨Int.coe_lcm_dvd hb hc,Int.dvd_lcm_left ..,Int.dvd_lcm_right ..⟩
theorem fE:∀(cs:List Fr) (b S:Int),0 < b→b∣S→(∀c∈cs,0 < c.2∧c.2∣S)→cs.foldl (fun b c=>b * c.2 / g b c.2) b∣S∧b∣cs.foldl (fun b c=>b * c.2 / g b c.2) b∧∀c∈cs,c.2∣cs.foldl (fun b c=>b * c.2 / g b c.2) b
 | [],b,S,_,h,_=>⟨h,Int.dvd_refl b,fun c hc=>nomatch hc⟩
 | c::cs,b,S,h0,h,hc=>by
  obtain ⟨c0,cS⟩:=hc c aae
  obtain ⟨d1,d2,d3⟩:=AW h cS h0 c0
  obtain ⟨i1,i2,i3⟩:=fE cs _ S (iA h0 c0).1 d1 fun x hx=>hc x (aad _ hx)
  rw [abK]
  refine ⟨i1,Int.dvd_trans d2 i2,fun x hx=> ?_⟩
  rcases aaG.mp hx with rfl | hx
  ·exact Int.dvd_trans d3 i2
  ·exact i3 x hx
theorem iK(m:Int)(f:Int→Int):∀(ws:List Int),(ws.map fun w=>m * f w).sum=m * (ws.map f).sum
 | []=>by simp
 | w::ws=>by simp only [List.map_cons,List.sum_cons];rw [iK m f ws,Int.mul_add]
theorem rA{t b:Int}(h:0 < b):(bB t b).2∣b:=by
 obtain ⟨p,q,e,_,_,_,eb⟩:=dX (t:=t) (show b≠0 by omega)
 rw [e]
 exact ⟨dv t b,by show b=q * dv t b;rw [aaL];exact eb⟩
theorem pU{t b:Int}(ht:0 < t)(h:0 < b):0 < (bB t b).1:=by
 have hc:=bN (t:=t) (show b≠0 by omega)
 have hp:=cB (t:=t) (show b≠0 by omega)
 have h1:0 < t * (bB t b).2:=aaB ht hp
 rw [hc] at h1
 exact Int.pos_of_mul_pos_right h1 h |> fun z=>z
theorem tj{ws:List Int}{S:Int}(hS:ws.sum=S)(hw:∀w∈ws,0 < w)(hn:ws≠[])(hS1:S≤1000000)(hz:ws.length≤12):aF (ws.map fun w=>bB w S)=true∧Ok3 (ws.map fun w=>bB w S):=by
 have pos:∀{l:List Int},(∀w∈l,0 < w)→0≤l.sum∧(l≠[]→0 < l.sum)∧∀w∈l,w≤l.sum:=by
  intro l
  induction l with
  | nil=>exact fun _=>⟨by simp,fun z=>absurd rfl z,fun w hw=>nomatch hw⟩
  | cons a l ih=>
   intro h
   obtain ⟨i1,i2,i3⟩:=ih fun w hw=>h w (aad _ hw)
   have:=h a aae
   rw [List.sum_cons]
   refine ⟨by omega,fun _=>by omega,fun w hw=> ?_⟩
   rcases aaG.mp hw with rfl | hw
   ·omega
   ·have:=i3 w hw;omega
 obtain ⟨_,p2,p3⟩:=pos hw
 have S0:0 < S:=by rw [←hS];exact p2 hn
 have Sne:S≠0:=by omega
 have hd:∀c∈ws.map (fun w=>bB w S),0 < c.2∧c.2∣S:=fun c hc=>by
  obtain ⟨w,_,rfl⟩:=aan.mp hc
  exact ⟨cB Sne,rA S0⟩
 obtain ⟨⟨m,hm⟩,_,hB⟩:=fE (ws.map fun w=>bB w S) 1 S (by decide) (Int.one_dvd _) hd
 have B0:0 < dz (ws.map fun w=>bB w S):=by
  refine (cZ (ws.map fun w=>bB w S) 1 (by decide) fun c hc=>(hd c hc).1)
 generalize hBd:dz (ws.map fun w=>bB w S)=B at *
 have hm:S=B * m:=by rw [←hBd];exact hm
 have m0:0 < m:=by
  rcases Int.lt_trichotomy m 0 with h | h | h
  ·have:=abx B0 h;omega
  ·rw [h,Int.mul_zero] at hm;omega
  ·exact h
 have key:((ws.map fun w=>bB w S).map fun c=>c.1 * (B / c.2)).sum=B:=by
  have e1:∀w∈ws,m * ((bB w S).1 * (B / (bB w S).2))=w:=fun w hw=>by
   have hb:(bB w S).2∣B:=by
    rw [←hBd]
    exact hB _ (aan.mpr ⟨w,hw,rfl⟩)
   obtain ⟨k,hk⟩:=hb
   have q0:=cB (t:=w) Sne
   have e2:B / (bB w S).2=k:=by rw [hk];exact aa5 _ (by omega)
   have hc:=bN (t:=w) Sne
   rw [e2]
   have hS':S=(bB w S).2 * k * m:=by rw [←hk];exact hm
   generalize (bB w S).1=x at *
   generalize (bB w S).2=y at *
   have e4:S * x=y * (m * (x * k)):=by
    rw [hS']
    simp only [Int.mul_assoc,Int.mul_comm,Int.mul_left_comm]
   have e3:y * (m * (x * k))=y * w:=by rw [←e4,←hc,aaL]
   exact aaE (by omega) e3
  have e5:m * ((ws.map fun w=>bB w S).map fun c=>c.1 * (B / c.2)).sum=m * B:=by
   rw [aaD]
   show m * (ws.map fun w=>(bB w S).1 * (B / (bB w S).2)).sum=m * B
   rw [←iK,abc e1,List.map_id',hS,hm,aaL]
  exact aaE (by omega) e5
 refine ⟨?_,⟨by rw [aac];exact hz,fun c hc=> ?_⟩⟩
 ·unfold aF
  rw [hBd,key]
  have ha:((ws.map fun w=>bB w S).any fun c=>decide (c.1≤0))=false:=by
   rw [List.any_eq_false]
   intro c hc
   obtain ⟨w,hw',rfl⟩:=aan.mp hc
   have:=pU (hw w hw') S0
   simpa using this
  have hle:B≤S:=by
   have:=aap (show 1≤m by omega) (aag B0)
   rw [Int.mul_one,←hm] at this
   exact this
  rw [ha,decide_eq_true rfl,decide_eq_true (show B≤1000000 by omega)];rfl
 ·obtain ⟨w,hw',rfl⟩:=aan.mp hc
  have q0:=cB (t:=w) Sne
  have l1:=rz (t:=w) Sne
  have l2:=iB (t:=w) Sne
  have:=p3 w hw'
  have w0:=hw w hw'
  have big:(1000000:Int) < 2 ^ 200:=by decide
  have bigN:1000000 < 2 ^ 200:=by decide
  exact ⟨q0,by omega,by omega⟩
theorem bZ{α:Type}{te:DE}{cs:En}{ok:Ms→Prop}{F:Dt→α→Prop}{f:α→Dt}{M:Ms}{k:List Dt→Ms→Prop}(ho:ok M)(ht:∀x a,F x a→∀q:DQ,q (f a) M→te (some x::cs) M q noX):∀{xs:List Dt} {as:List α} {acc:List Dt},Paired F xs as→k (acc++as.map f) M→sZ te cs ok xs acc M k
 | _,_,acc, .nil,h=>⟨ho,by simpa using h⟩
 | _,_,acc, .cons r t,h=>⟨ho,ht _ _ r _ (bZ ho ht t (by simpa using h))⟩
theorem qT{M:Ms}{k:Nat}{C C':Addr}{ns ns':List Str}{xs xs':List Dt}{e:Dt}{ys:List Dt}{ok:Ms→Prop}(hk:M[k]? =some (.ins C ns xs))(h:oy M e=some (ys,ok)):oy (M.set k (.ins C' ns' xs')) e=some (ys,ok):=by
 cases e with
 | lst ds=>exact h
 | scr ns=>exact h
 | loc j=>
  have h:(match M[j]? with | some (.lst xs)=>some (xs,fun M':Ms=>M'[j]? =some (.lst xs)) | _=>none)=some (ys,ok):=h
  have ne:k≠j:=fun z=>by
   subst z
   rw [hk] at h
   cases h
  show (match (M.set k (.ins C' ns' xs'))[j]? with | some (.lst xs)=>some (xs,fun M':Ms=>M'[j]? =some (.lst xs)) | _=>none)=some (ys,ok)
  rw [aa8 ne]
  exact h
 | _=>cases h
theorem uB{M:Ms}{k:Nat}{C C':Addr}{ns ns':List Str}{xs xs':List Dt}{d:Dt}{r:Rw}(hk:M[k]? =some (.ins C ns xs))(h:jH M d r):jH (M.set k (.ins C' ns' xs')) d r:=by
 cases r with
 | fin p=>exact h
 | doors k' ds=>
  obtain ⟨e,ok,h1,h2⟩:=h
  exact ⟨e,ok,h1,qT hk h2⟩
def cC(C:Addr)(share:Fr)(rows:List Rw):Dt:= .obj C ["kept_share","kept_rows"] [frD share, .lst (rows.map bH)]
def D4(Cm:Addr):DF:=fun as M q _=>∃k d share ds rows ok,as=[.loc k,frD share,d]∧M[k]? =some (.ins Cm [] [])∧oy M d=some (ds,ok)∧Paired (jH M) ds rows∧aU share=true∧1≤rows.length∧rows.length≤12∧
 (∀r∈rows,gh r∧eP r rows.length=true)∧q .non (M.set k (.ins Cm ["kept_share","kept_rows"] [frD share, .lst (rows.map bH)]))
theorem fS:ax ["self","share","rows","place","row"] ["self","share","rows"] (ah dQ):=⟨rfl,rfl,rfl,by decide+kernel,rfl,by decide+kernel,by decide+kernel⟩
theorem m8{f:Addr}{fd:FuncData}(F:Fun K "__init__" "Floor.__init__" dQ f fd)(E:Ev K mg Cm CF CN){fFitsShare:Addr}{dFitsShare:FuncData}(c_FitsShare:bU P w K mg base 1 "fits_share" ["share"] kK fFitsShare dFitsShare){fFitsRow:Addr}{dFitsRow:FuncData}(c_FitsRow:bU P w K mg base 4 "fits_row" ["row","size"] rQ fFitsRow dFitsRow){fCopiedRow:Addr}{dCopiedRow:FuncData}(c_CopiedRow:bU P w K mg base 1 "copied_row" ["row"] kM fCopiedRow dCopiedRow):bK P w K mg base (CX1 P w) 5 f fd ["self","share","rows"] (spD K (D4 Cm)):=by
 refine F.okD fS (fun ds M q x h=> ?_) (fun cdv A outer s H E' hr=>⟨_,(ae (bu (fj (cQ (br c_FitsShare hr ar (aa (jv 1) af (hs:=ao))))) (ai (lV oX abN E.eNoFloor E.mNoFloor (aa kz af (hs:=cD)))) aE)
   (ae (bu (JW.jt (pN (sT (cW E.n_len (aa (jv 2) af (hs:=ao))) av) (nA (AZ (cW E.n_len (aa (jv 2) af (hs:=ao))) (nF E.mMOST_PLACES))))) (ai (lV oX abN E.eNoFloor E.mNoFloor (aa kz af (hs:=cD)))) aE)
   (ae (eJ (vB E.n_enumerate (aa (jv 2) af (hs:=ao))) (kn rfl (bW (aN (i:=3) fS.nd rfl (Or.inl rfl)) (bW (aN (i:=4) fS.nd rfl (Or.inl rfl)) gY))) nM (ai (bu (fj (cQ (br c_FitsRow hr ar (aa (jv 4) (aa (cW E.n_len (aa (jv 2) af (hs:=ao))) af (hs:=bM)) (hs:=ao))))) (ai eI) aE)))
   (ae (vz E.clsFloor E.na_kept_share (jv 0) (jv 1))
   (ai (vz E.clsFloor E.na_kept_rows (jv 0) (fm (ys:=[]) (caps:=[]) ⟨rfl,by decide+kernel,by decide+kernel,rfl,(by show∀p:Str×NameKind,p∈_→p.2=NameKind.free→List.lookup p.1 (ah dQ).names=some .cell;decide+kernel),by decide+kernel,(by show∀q:Str×Nat,q∈_→(["self","share","rows","place","row"]:List Str)[q.2]? =some q.1∧List.lookup q.1 (ah dQ).names=some .cell∧_;decide+kernel),rfl⟩ (cG (jv 2)) (fun C s H fp=>(da (br c_CopiedRow hr (gZ (P:=P) (w:=w)) (aa (jv 0) af (hs:=ao)))))))))))),fun ds M q x h=> ?_⟩)
 ·obtain ⟨k,d,share,ds,rows,ok,rfl,_⟩:=h;rfl
 ·obtain ⟨k,d,share,ds,rows,ok,rfl,hk,hl,hp,hs,h1,h12,hr2,h⟩:=h
  have hlen:ds.length=rows.length:=Paired.length hp
  walk_at "vc"
  refine ⟨share,rfl,fun z=> ?_,fun _=> ?_⟩
  ·rw [hs] at z;exact nomatch z
  have hsq:=iz hl
  refine aJ hsq ⟨fun z=> ?_,fun _=> ?_⟩
  ·have:(ds.length:Int) < 1:=by simpa using z
   omega
  refine aJ hsq ⟨fun z=> ?_,fun _=> ?_⟩
  ·have:12 < (ds.length:Int):=by simpa using z
   omega
  refine ⟨d,ds,ok,rfl,hl, ?_⟩
  refine cM (fun xs ρ M'=>M'=M∧∃n ds' rows' a b,xs=jC n ds'∧Paired (jH M) ds' rows'∧(∀r∈rows',r∈rows)∧ρ=[some (.loc k),some (frD share),some d,a,b]) (fun xs ρ M' hj=>by obtain ⟨rfl,_⟩:=hj;exact lQ hl) (fun x xs ρ M' hj nxt=> ?_) (fun ρ M' hj=> ?_) _ _ _ ⟨rfl,0,ds,rows,none,none,rfl,hp,fun _ h=>h,rfl⟩
  ·obtain ⟨rfl,n,ds',rows',a,b,ex,hp',hin,rfl⟩:=hj
   cases hp' with
   | nil=>cases ex
   | cons ra t=>
    rename_i d1 r1 ds1 rows1
    cases ex
    refine aJ hsq ⟨d1,r1,ds.length,rfl,ra,(hr2 r1 (hin r1 aae)).1,fun z=> ?_,fun _=> ?_⟩
    ·rw [hlen,(hr2 r1 (hin r1 aae)).2] at z;exact nomatch z
    ·exact nxt _ _ ⟨rfl,n+1,ds1,rows1,_,_,rfl,t,fun r hr=>hin r (aad _ hr),rfl⟩
  ·obtain ⟨rfl,n,ds',rows',a,b,ex,hp',hin,rfl⟩:=hj
   have hkl:k < M'.length:=(aaf.mp hk).1
   refine ⟨k,[],[],rfl,hk,(fun z=>(nomatch z)),by decide, ?_⟩
   have hl1:=qT (C':=Cm) (ns':=["kept_share"]) (xs':=[frD share]) hk hl
   dsimp only [B4,List.nil_append]
   show gB _ _ _ _ _
   refine dW (i:=2) rfl hl1 ⟨by rw [hlen];exact aau h12 (by decide), ?_⟩
   have hp2:Paired (fun x a=>jH (M'.set k (.ins Cm ["kept_share"] [frD share])) x a∧gh a) ds rows:=by
    have:∀{xs:List Dt} {rs:List Rw},Paired (jH M') xs rs→(∀r∈rs,gh r)→Paired (fun x a=>jH (M'.set k (.ins Cm ["kept_share"] [frD share])) x a∧gh a) xs rs:=by
     intro xs rs hp
     induction hp with
     | nil=>exact fun _=> .nil
     | cons r t ih=>exact fun h=> .cons ⟨uB hk r,h _ aae⟩ (ih fun y hy=>h y (aad _ hy))
    exact this hp fun r hr=>(hr2 r hr).1
   refine bZ (f:=bH) (lQ hl1) (fun x a ha q' hq=> ?ht) hp2 ?fin
   case ht=>
    obtain ⟨ha,ho⟩:=ha
    refine ⟨x,a,rfl,ha,ho, ?_⟩
    cases a with
    | fin p=>exact A7 ⟨trivial,kE p,trivial⟩ hq
    | doors k2 ds2=>exact jA (.tup (.cons (.old trivial) (.cons (.newL (Nat.le_refl _) (by simp) (mw.old (gb ds2))) .nil))) hq
   case fin=>
    refine ⟨k,["kept_share"],[frD share],rfl,by rw [aba hkl],by decide,by decide, ?_⟩
    rw [List.set_set]
    exact h
def kindOf:Rw→Str
 | .fin _=>"end"
 | .doors k _=>k
def aI:Rw→List DrG
 | .fin _=>[]
 | .doors _ ds=>ds
def E1:Rw→Dt
 | .fin p=>frD p
 | .doors _ _=> .non
theorem ly{rows:List Rw}{i:Nat}{r:Rw}(h:rows[i]? =some r):(rows.map bH)[i]? =some (bH r):=by rw [aak,h];rfl
theorem yY{r:Rw}:∃e,bH r= .tup [.str (kindOf r),e]:=by
 cases r with
 | fin p=>exact ⟨_,rfl⟩
 | doors k ds=>exact ⟨_,rfl⟩
def yB(C:Addr):DF:=fun as M q _=>∃share rows,as=[cC C share rows]∧q (.int rows.length) M
theorem oK:ax ["self"] ["self"] (ah gR):=⟨rfl,rfl,rfl,by decide+kernel,rfl,by decide+kernel,by decide+kernel⟩
theorem m6{f:Addr}{fd:FuncData}(F:Fun K "size" "Floor.size" gR f fd)(E:Ev K mg Cm CF CN):bK P w K mg base (CX1 P w) 1 f fd ["self"] (spD K (yB Cm)):=by
 refine F.okD oK (fun ds M q x h=> ?_) (fun cdv A outer s H E' hr=>⟨_,(ai (ay (cW E.n_len (aa (vE E.clsFloor E.na_kept_rows (jv 0)) af)))),fun ds M q x h=> ?_⟩)
 ·obtain ⟨share,rows,rfl,_⟩:=h;rfl
 ·obtain ⟨share,rows,rfl,h⟩:=h
  refine ⟨_,_,_, .inl rfl,rfl, ?_⟩
  show ik [.lst (rows.map bH)] M _
  refine aJ (xs:=rows.map bH) rfl ?_
  rw [aac];exact h
def zK(C:Addr):DF:=fun as M q _=>∃share rows,as=[cC C share rows]∧q (frD share) M
theorem mP:ax ["self"] ["self"] (ah fV):=⟨rfl,rfl,rfl,by decide+kernel,rfl,by decide+kernel,by decide+kernel⟩
theorem lK{f:Addr}{fd:FuncData}(F:Fun K "share" "Floor.share" fV f fd)(E:Ev K mg Cm CF CN):bK P w K mg base (CX1 P w) 1 f fd ["self"] (spD K (zK Cm)):=by
 refine F.okD mP (fun ds M q x h=> ?_) (fun cdv A outer s H E' hr=>⟨_,(ai (ay (vE E.clsFloor E.na_kept_share (jv 0)))),fun ds M q x h=> ?_⟩)
 ·obtain ⟨share,rows,rfl,_⟩:=h;rfl
 ·obtain ⟨share,rows,rfl,h⟩:=h
  exact ⟨_,_,_, .inl rfl,rfl,h⟩
def tE(C:Addr):DF:=fun as M q _=>∃share rows i r,as=[cC C share rows, .int (i:Nat)]∧rows[i]? =some r∧q (.str (kindOf r)) M
theorem oM:ax ["self","place"] ["self","place"] (ah gS):=⟨rfl,rfl,rfl,by decide+kernel,rfl,by decide+kernel,by decide+kernel⟩
theorem m7{f:Addr}{fd:FuncData}(F:Fun K "kind" "Floor.kind" gS f fd)(E:Ev K mg Cm CF CN):bK P w K mg base (CX1 P w) 1 f fd ["self","place"] (spD K (tE Cm)):=by
 refine F.okD oM (fun ds M q x h=> ?_) (fun cdv A outer s H E' hr=>⟨_,(ai (ay (aG (aG (vE E.clsFloor E.na_kept_rows (jv 0)) (jv 1)) av))),fun ds M q x h=> ?_⟩)
 ·obtain ⟨share,rows,i,r,rfl,_⟩:=h;rfl
 ·obtain ⟨share,rows,i,r,rfl,hi,h⟩:=h
  refine ⟨_,_,_, .inl rfl,rfl, ?_⟩
  walk_at "vc"
  refine az (xs:=rows.map bH) rfl (aB (ly hi)) ?_
  obtain ⟨e,er⟩:=yY (r:=r)
  rw [er]
  exact h
def wZ(C:Addr):DF:=fun as M q _=>∃share rows i r,as=[cC C share rows, .int (i:Nat)]∧rows[i]? =some r∧gh r∧q (.loc M.length) (M++[.lst ((aI r).map drG)])
theorem mQ:ax ["self","place"] ["self","place"] (ah fW):=⟨rfl,rfl,rfl,by decide+kernel,rfl,by decide+kernel,by decide+kernel⟩
theorem lL{f:Addr}{fd:FuncData}(F:Fun K "doors" "Floor.doors" fW f fd)(E:Ev K mg Cm CF CN){fFloorKind:Addr}{dFloorKind:FuncData}(c_FloorKind:mv P w K mg base 1 Cm "kind" ["self","place"] (tE Cm) fFloorKind dFloorKind):bK P w K mg base (CX1 P w) 2 f fd ["self","place"] (spD K (wZ Cm)):=by
 refine F.okD mQ (fun ds M q x h=> ?_) (fun cdv A outer s H E' hr=>⟨_,(ae (bu (gz hr (h7 c_FloorKind hr ar (jv 0) (aa (jv 1) af (hs:=ao))) kz) (ai (ay (jq af))) aE)
   (ai (ay (nE E.n_list (aa (aG (aG (vE E.clsFloor E.na_kept_rows (jv 0)) (jv 1)) av) af (hs:=bL)))))),fun ds M q x h=> ?_⟩)
 ·obtain ⟨share,rows,i,r,rfl,_⟩:=h;rfl
 ·obtain ⟨share,rows,i,r,rfl,hi,ro,h⟩:=h
  refine ⟨⟨_,_, .inl rfl,rfl⟩,share,rows,i,r,rfl,hi, ?_⟩
  cases r with
  | fin p=>exact ⟨fun _=>⟨by decide,h⟩,fun z=>(nomatch z)⟩
  | doors k ds=>
   refine ⟨fun z=>absurd (of_decide_eq_true z) ro.1,fun _=> ?_⟩
   refine ⟨_,_,_, .inl rfl,rfl, ?_⟩
   walk_at "vc"
   refine az (xs:=rows.map bH) rfl (aB (ly hi)) ?_
   exact h
def G8(C:Addr):DF:=fun as M q _=>∃share rows i r,as=[cC C share rows, .int (i:Nat)]∧rows[i]? =some r∧gh r∧q (E1 r) M
theorem sk:ax ["self","place"] ["self","place"] (ah iW):=⟨rfl,rfl,rfl,by decide+kernel,rfl,by decide+kernel,by decide+kernel⟩
theorem pC{f:Addr}{fd:FuncData}(F:Fun K "pay" "Floor.pay" iW f fd)(E:Ev K mg Cm CF CN){fFloorKind:Addr}{dFloorKind:FuncData}(c_FloorKind:mv P w K mg base 1 Cm "kind" ["self","place"] (tE Cm) fFloorKind dFloorKind):bK P w K mg base (CX1 P w) 2 f fd ["self","place"] (spD K (G8 Cm)):=by
 refine F.okD sk (fun ds M q x h=> ?_) (fun cdv A outer s H E' hr=>⟨_,(ae (bu (gz hr (h7 c_FloorKind hr ar (jv 0) (aa (jv 1) af (hs:=ao))) kz) (ai (ay (aG (aG (vE E.clsFloor E.na_kept_rows (jv 0)) (jv 1)) av))) aE)
   (ai (ay Ec))),fun ds M q x h=> ?_⟩)
 ·obtain ⟨share,rows,i,r,rfl,_⟩:=h;rfl
 ·obtain ⟨share,rows,i,r,rfl,hi,ro,h⟩:=h
  refine ⟨⟨_,_, .inl rfl,rfl⟩,share,rows,i,r,rfl,hi, ?_⟩
  cases r with
  | fin p=>
   refine ⟨fun _=> ?_,fun z=>(nomatch z)⟩
   refine ⟨_,_,_, .inl rfl,rfl, ?_⟩
   walk_at "vc"
   refine az (xs:=rows.map bH) rfl (aB (ly hi)) ?_
   exact h
  | doors k ds=>exact ⟨fun z=>absurd (of_decide_eq_true z) ro.1,fun _=>h⟩
theorem fC{α:Type}(f:α→Dt):∀(xs ys:List α),(∀x∈xs,x∈ys)→Paired (fun x a=>x=f a∧a∈ys) (xs.map f) xs
 | [],_,_=> .nil
 | x::xs,ys,h=> .cons ⟨rfl,h x aae⟩ (fC f xs ys fun y hy=>h y (aad _ hy))
theorem cR{M:Ms}{q:DQ}{ds:List Dt}(u:Dt.underL M.length ds)(h:q (.lst ds) M):frzU M q (.loc M.length) (M++[.lst ds]):=jA (.newL (aah _) (by rw [Nat.sub_self];rfl) (mw.old u)) h
theorem A8{M:Ms}{q:DQ}{ds:List Dt}(u:Dt.underL M.length ds)(h:q (.lst ds) M):sX [.lst ds] M (frzU M q):=by
 show frzU M q (.loc M.length) (M++[.lst ds])
 exact cR u h
theorem yr{d:DrG}{M:Ms}{q:DQ}(h:q (frD d.2.1) M):fIx (drG d) (.int 1) M q:=az (xs:= .int d.1::frD d.2.1::d.2.2.map frD) rfl (aB (j:=1) rfl) h
theorem Bj{d:DrG}{M:Ms}{q:DQ}(h:q (.int d.1) M):fIx (drG d) (.int 0) M q:=az (xs:= .int d.1::frD d.2.1::d.2.2.map frD) rfl bO h
theorem Aj{k:Str}{e:Dt}{M:Ms}{q:DQ}(h:q e M):fIx (.tup [.str k,e]) (.int 1) M q:=az (xs:=[.str k,e]) rfl (aB (j:=1) rfl) h
theorem bX{g:Dt→En→(En→Prop)→Prop}{tb:DS}{Dn:ow}(J:List Dt→En→Ms→Prop)
  (step:∀x xs ρ M,J (x::xs) ρ M→(∀ρ M,J xs ρ M→xh g tb Dn xs ρ M)→g x ρ fun ρ'=>tb {Dn with nx:=xh g tb Dn xs,ct:=xh g tb Dn xs,bk:=Dn.nx} ρ' M)
  (fin:∀ρ M,J [] ρ M→Dn.nx ρ M):∀(xs:List Dt) (ρ:En) (M:Ms),J xs ρ M→xh g tb Dn xs ρ M
 | [],ρ,M,h=>fin _ _ h
 | x::xs,ρ,M,h=>step x xs ρ M h fun ρ' M' h'=>bX J step fin xs ρ' M' h'
theorem bI{lo:Int}{n:Nat}{x:Dt}{xs:List Dt}(h:x::xs=gm lo n):∃m,n=m+1∧x= .int lo∧xs=gm (lo+1) m:=by
 cases n with
 | zero=>exact nomatch h
 | succ m=>
  unfold gm at h
  rw [abF,aaI,aaD] at h
  cases h
  refine ⟨m,rfl,by simp, ?_⟩
  unfold gm
  apply abc
  intro k _
  show Dt.int (lo+((k+1:Nat):Int))=Dt.int (lo+1+(k:Int))
  congr 1
  omega
theorem xy{lo:Int}{n:Nat}{x:Dt}(h:x∈gm lo n):∃k:Nat,k < n∧x= .int (lo+k):=by
 unfold gm at h
 obtain ⟨k,hk,rfl⟩:=aan.mp h
 exact ⟨k,aa0.mp hk,rfl⟩
theorem eC{lo:Int}{n:Nat}:(gm lo n).length=n:=by unfold gm;simp
theorem eN{n:Nat}:∀(xs:List Int),Dt.underL n (xs.map Dt.int)
 | []=>trivial
 | _::xs=>⟨trivial,eN xs⟩
theorem yS{m:Int}:∀{l:List Int},(∀w∈l,w≤m)→l.sum≤l.length * m
 | [],_=>by simp
 | a::l,h=>by
  have i:=yS (l:=l) fun w hw=>h w (aad _ hw)
  have:=h a aae
  rw [List.sum_cons,aat,abg,Int.add_mul]
  omega
def mr(many:Int)(r:Rw):Prop:=gh r∧eP r many=true
theorem A4{k:Str}{ds:List DrG}{many:Int}(hk:aK k=true)(hz:1≤ds.length)(hz6:ds.length≤6)(hd:∀d∈ds,aR d.1 d.2.1 many=true)(hs:∀d∈ds,d.2.2=[]∧0 < d.2.1.2):mr many (.doors k ds):=by
 have fd:aL ds many=true:=by
  unfold aL
  rw [decide_eq_true hz,decide_eq_true hz6,abl.mpr hd];rfl
 have ne:k≠"end"∧k≠"chance":=by
  refine ⟨fun z=> ?_,fun z=> ?_⟩ <;> (subst z;exact absurd hk (by decide))
 refine ⟨⟨ne.1,by omega,fun z=>absurd z ne.2,fun d h=>⟨by rw [(hs d h).1];exact abJ _,(hs d h).2⟩⟩, ?_⟩
 show (if aK k then _ else _)=true
 rw [if_pos hk];exact fd
theorem wB{ds:List DrG}{many:Int}(hz:1≤ds.length)(hz6:ds.length≤6)(hd:∀d∈ds,aR d.1 d.2.1 many=true)(h1:∀d∈ds,d.2.2=[aj d])(hc:aF (ds.map aj)=true)(ho:Ok3 (ds.map aj))(hp:∀d∈ds,0 < d.2.1.2):mr many (.doors "chance" ds):=by
 have fd:aL ds many=true:=by
  unfold aL
  rw [decide_eq_true hz,decide_eq_true hz6,abl.mpr hd];rfl
 refine ⟨⟨by decide,by omega,fun _=>⟨h1,ho⟩,fun d h=>⟨by rw [h1 d h];exact aah _,hp d h⟩⟩, ?_⟩
 have e:eP (.doors "chance" ds) many=(aL ds many&&aF (ds.map aj)):=by
  dsimp only [eP]
  rw [if_neg (by decide),if_pos rfl]
 rw [e,fd,hc];rfl
theorem Bk{t many:Int}{p:Fr}(h0:0≤t)(h1:t < many)(hp:bo p=true):aR t p many=true:=by
 unfold aR
 rw [decide_eq_true h0,decide_eq_true h1,hp];rfl
theorem eT{xs:List Int}{j:Nat}(h:j < xs.length):atI (xs.map Dt.int) (j:Int)=some (.int xs[j]):=aB (by rw [aak,aaa h];rfl)
theorem ue:∀{l:List Int},(∀w∈l,0 < w)→l≠[]→0 < l.sum
 | [],_,z=>absurd rfl z
 | [a],h,_=>by have:=h a List.mem_cons_self;simpa using this
 | a::b::l,h,_=>by
  have i:=ue (l:=b::l) (fun w hw=>h w (List.mem_cons_of_mem _ hw)) (by simp)
  have:=h a aae
  rw [List.sum_cons];omega
def Sz(k:Nat)(p:Fr):Prop:=p.1.natAbs < 2 ^ k∧0 < p.2∧p.2.natAbs < 2 ^ k
def fJ(p q:Fr):Fr:=bB (p.1 * q.2+q.1 * p.2) (p.2 * q.2)
def bc(p q:Fr):Fr:=bB (p.1 * q.1) (p.2 * q.2)
theorem oH{k k':Nat}{p:Fr}(h:Sz k p)(hk:k≤k'):Sz k' p:=
 ⟨aam h.1 (aby (by decide) hk),h.2.1,aam h.2.2 (aby (by decide) hk)⟩
theorem bz{a b k l:Nat}(h:a < 2 ^ k)(h':b < 2 ^ l):a * b < 2 ^ (k+l):=by
 rw [Nat.pow_add]
 exact Nat.mul_lt_mul'' h h'
theorem uQ{p q:Fr}{k l:Nat}(hp:Sz k p)(hq:Sz l q):(p.1 * q.2+q.1 * p.2).natAbs < 2 ^ (k+l+1)∧(p.2 * q.2).natAbs < 2 ^ (k+l+1)∧0 < p.2 * q.2:=by
 have a:=bz hp.1 hq.2.2
 have b:=bz hq.1 hp.2.2
 have c:=bz hp.2.2 hq.2.2
 rw [Nat.add_comm l k] at b
 have e:(2:Nat) ^ (k+l+1)=2 ^ (k+l)+2 ^ (k+l):=by rw [Nat.pow_succ];omega
 have hn:=Int.natAbs_add_le (p.1 * q.2) (q.1 * p.2)
 rw [aaS,aaS] at hn
 refine ⟨by rw [e];omega, ?_,aaB hp.2.1 hq.2.1⟩
 rw [aaS,e];omega
theorem r6{p q:Fr}{k l:Nat}(hp:Sz k p)(hq:Sz l q):(p.1 * q.1).natAbs < 2 ^ (k+l)∧(p.2 * q.2).natAbs < 2 ^ (k+l)∧0 < p.2 * q.2:=by
 have a:=bz hp.1 hq.1
 have c:=bz hp.2.2 hq.2.2
 exact ⟨by rw [aaS];exact a,by rw [aaS];exact c,aaB hp.2.1 hq.2.1⟩
theorem d8{p:Fr}{k:Nat}(h:Sz k p)(hk:k≤8000):Big p.1:=bg h.1 hk
theorem cH{p:Fr}{k:Nat}(h:Sz k p)(hk:k≤8000):Big p.2:=bg h.2.2 hk
theorem yR{p:Fr}(h:bo p=true)(h0:0 < p.2):Sz 101 p:=by
 unfold bo at h
 rw [aao,decide_eq_true_iff,decide_eq_true_iff] at h
 obtain ⟨h1,h2⟩:=h
 have e1:(10:Int) ^ 30 < 2 ^ 101:=by decide
 have n1:(p.1.natAbs:Int)≤10 ^ 30:=by
  split at h1 <;> omega
 refine ⟨?_,h0, ?_⟩
 ·have:(p.1.natAbs:Int) < ((2 ^ 101:Nat):Int):=aax n1 (by decide)
  exact abv.mp this
 ·have:(p.2.natAbs:Int) < ((2 ^ 101:Nat):Int):=aax (show (p.2.natAbs:Int)≤1000000 by omega) (by decide)
  exact abv.mp this
theorem xr{p:Fr}(h:aU p=true):Sz 11 p:=by
 unfold aU at h
 rw [aao,aao,decide_eq_true_iff,decide_eq_true_iff,decide_eq_true_iff] at h
 obtain ⟨h1,h2,h3⟩:=h
 exact ⟨by omega,by omega,by omega⟩
theorem gC{p:Fr}{M:Ms}{q:DQ}(h:q (.int p.1) M):fIx (frD p) (.int 0) M q:=az (xs:=[.int p.1, .int p.2]) rfl bO h
theorem fo{p:Fr}{M:Ms}{q:DQ}(h:q (.int p.2) M):fIx (frD p) (.int 1) M q:=az (xs:=[.int p.1, .int p.2]) rfl (aB (j:=1) rfl) h
def D1:DF:=fun as M q _=>∃p r k l,as=[frD p,frD r]∧Sz k p∧Sz l r∧k+l+1≤8000∧q (frD (fJ p r)) M
theorem B1:ax ["one","other"] ["one","other"] (ah Ah):=⟨rfl,rfl,rfl,by decide+kernel,rfl,by decide+kernel,by decide+kernel⟩
theorem AJ{f:Addr}{fd:FuncData}(F:Fun K "plus" "plus" Ah f fd)(E:Ev K mg Cm CF CN){fFraction:Addr}{dFraction:FuncData}(c_Fraction:bU P w K mg base 2 "fraction" ["top","bottom"] (qf CN) fFraction dFraction):bK P w K mg base (CX1 P w) 3 f fd ["one","other"] (spD K D1):=by
 refine F.okD B1 (fun ds M q x h=> ?_) (fun cdv A outer s H E' hr=>⟨_,(ai (ay (br c_Fraction hr ar (aa (cz (aO (aG (jv 0) av) (aG (jv 1) av)) (aO (aG (jv 1) av) (aG (jv 0) av))) (aa (aO (aG (jv 0) av) (aG (jv 1) av)) af (hs:=bT)) (hs:=bT))))),fun ds M q x h=> ?_⟩)
 ·obtain ⟨p,r,k,l,rfl,_⟩:=h;rfl
 ·obtain ⟨p,r,k,l,rfl,hp,hr',hk,h⟩:=h
  obtain ⟨a,b,c⟩:=uQ hp hr'
  refine ⟨⟨d8 hp (by omega),cH hr' (by omega)⟩,⟨d8 hr' (by omega),cH hp (by omega)⟩,⟨cH hp (by omega),cH hr' (by omega)⟩,bg b hk,fun z=>absurd z (by omega),fun _=>h⟩
def wV:DF:=fun as M q _=>∃p r k l,as=[frD p,frD r]∧Sz k p∧Sz l r∧k+l+1≤8000∧q (frD (bc p r)) M
theorem Af:ax ["one","other"] ["one","other"] (ah uq):=⟨rfl,rfl,rfl,by decide+kernel,rfl,by decide+kernel,by decide+kernel⟩
theorem xR{f:Addr}{fd:FuncData}(F:Fun K "times" "times" uq f fd)(E:Ev K mg Cm CF CN){fFraction:Addr}{dFraction:FuncData}(c_Fraction:bU P w K mg base 2 "fraction" ["top","bottom"] (qf CN) fFraction dFraction):bK P w K mg base (CX1 P w) 3 f fd ["one","other"] (spD K wV):=by
 refine F.okD Af (fun ds M q x h=> ?_) (fun cdv A outer s H E' hr=>⟨_,(ai (ay (br c_Fraction hr ar (aa (aO (aG (jv 0) av) (aG (jv 1) av)) (aa (aO (aG (jv 0) av) (aG (jv 1) av)) af (hs:=bT)) (hs:=bT))))),fun ds M q x h=> ?_⟩)
 ·obtain ⟨p,r,k,l,rfl,_⟩:=h;rfl
 ·obtain ⟨p,r,k,l,rfl,hp,hr',hk,h⟩:=h
  obtain ⟨a,b,c⟩:=r6 hp hr'
  refine ⟨⟨d8 hp (by omega),d8 hr' (by omega)⟩,⟨cH hp (by omega),cH hr' (by omega)⟩,bg b (by omega),fun z=>absurd z (by omega),fun _=>h⟩
def fM(p q:Fr):Fr:=bB (p.1 * q.2 - q.1 * p.2) (p.2 * q.2)
theorem sM{p q:Fr}{k l:Nat}(hp:Sz k p)(hq:Sz l q):(p.1 * q.2 - q.1 * p.2).natAbs < 2 ^ (k+l+1)∧(p.2 * q.2).natAbs < 2 ^ (k+l+1)∧0 < p.2 * q.2:=by
 have a:=bz hp.1 hq.2.2
 have b:=bz hq.1 hp.2.2
 have c:=bz hp.2.2 hq.2.2
 rw [Nat.add_comm l k] at b
 have e:(2:Nat) ^ (k+l+1)=2 ^ (k+l)+2 ^ (k+l):=by rw [Nat.pow_succ];omega
 have hn:(p.1 * q.2 - q.1 * p.2).natAbs≤(p.1 * q.2).natAbs+(q.1 * p.2).natAbs:=by omega
 rw [aaS,aaS] at hn
 refine ⟨by rw [e];omega, ?_,aaB hp.2.1 hq.2.1⟩
 rw [aaS,e];omega
def zP:DF:=fun as M q _=>∃p r k l,as=[frD p,frD r]∧Sz k p∧Sz l r∧k+l+1≤8000∧q (frD (fM p r)) M
theorem Ag:ax ["one","other"] ["one","other"] (ah ur):=⟨rfl,rfl,rfl,by decide+kernel,rfl,by decide+kernel,by decide+kernel⟩
theorem xT{f:Addr}{fd:FuncData}(F:Fun K "minus" "minus" ur f fd)(E:Ev K mg Cm CF CN){fFraction:Addr}{dFraction:FuncData}(c_Fraction:bU P w K mg base 2 "fraction" ["top","bottom"] (qf CN) fFraction dFraction):bK P w K mg base (CX1 P w) 3 f fd ["one","other"] (spD K zP):=by
 refine F.okD Ag (fun ds M q x h=> ?_) (fun cdv A outer s H E' hr=>⟨_,(ai (ay (br c_Fraction hr ar (aa (pO (aO (aG (jv 0) av) (aG (jv 1) av)) (aO (aG (jv 1) av) (aG (jv 0) av))) (aa (aO (aG (jv 0) av) (aG (jv 1) av)) af (hs:=bT)) (hs:=bT))))),fun ds M q x h=> ?_⟩)
 ·obtain ⟨p,r,k,l,rfl,_⟩:=h;rfl
 ·obtain ⟨p,r,k,l,rfl,hp,hr',hk,h⟩:=h
  obtain ⟨a,b,c⟩:=sM hp hr'
  refine ⟨⟨d8 hp (by omega),cH hr' (by omega)⟩,⟨d8 hr' (by omega),cH hp (by omega)⟩,⟨cH hp (by omega),cH hr' (by omega)⟩,bg b hk,fun z=>absurd z (by omega),fun _=>h⟩
def oC(B:Int)(c:Fr):Int:=c.1 * (B / c.2)
structure BJ(cs:List Fr):Prop where
 pos:∀c∈cs,0 < oC (dz cs) c
 sum:(cs.map (oC (dz cs))).sum=dz cs
 b0:0 < dz cs
 b1:dz cs≤1000000
 ne:cs≠[]
 ok3:Ok3 cs
theorem FP{cs:List Fr}(h:aF cs=true)(o:Ok3 cs)(n:cs≠[]):BJ cs:=by
 unfold aF at h
 rw [aao,aao,decide_eq_true_iff,decide_eq_true_iff,Bool.not_eq_true'] at h
 obtain ⟨h1,h2,h3⟩:=h
 have B0:0 < dz cs:=cZ cs 1 (by decide) fun c hc=>(o.2 c hc).1
 obtain ⟨_,_,hB⟩:=fE cs 1 0 (by decide) (ab2 _) fun c hc=>⟨(o.2 c hc).1,ab2 _⟩
 refine ⟨fun c hc=> ?_,h2,B0,h3,n,o⟩
 have c1:0 < c.1:=by
  have:=List.any_eq_false.mp h1 c hc
  simpa using this
 exact aaB c1 (Int.ediv_pos_of_pos_of_dvd B0 (aag (o.2 c hc).1) (hB c hc))
def val(p:Fr):Rat:=(p.1:Rat) / (p.2:Rat)
structure Red(p:Fr):Prop where
 pos:0 < p.2
 low:Int.gcd p.1 p.2=1
theorem aP{b:Int}(h:b≠0):(b:Rat)≠0:=fun z=>h (Rat.intCast_eq_zero_iff.mp z)
theorem Bv{a b c d:Int}(h:a * b=c * d):(a:Rat) * b=c * d:=by
 rw [←aaC,←aaC,h]
theorem cw{t b:Int}(h:b≠0):Red (bB t b):=⟨cB h,rq h⟩
theorem gp{t b:Int}(h:b≠0):val (bB t b)=(t:Rat) / (b:Rat):=by
 have hq:=cB (t:=t) h
 have hx:=Bv (bN (t:=t) h)
 have h1:=aP h
 have h2:=aP (show (bB t b).2≠0 by omega)
 unfold val
 generalize ((bB t b).1:Rat)=x at *
 generalize ((bB t b).2:Rat)=y at *
 generalize (t:Rat)=t' at *
 generalize (b:Rat)=b' at *
 grind
theorem zX{p q:Fr}(hp:Red p)(hq:Red q)(h:val p=val q):p=q:=by
 have h1:=aP (show p.2≠0 by have:=hp.pos;omega)
 have h2:=aP (show q.2≠0 by have:=hq.pos;omega)
 have e:p.1 * q.2=p.2 * q.1:=by
  unfold val at h
  have e1:(p.1:Rat) * (q.2:Rat)=(p.2:Rat) * (q.1:Rat):=by
   generalize (p.1:Rat)=a at *
   generalize (p.2:Rat)=b at *
   generalize (q.1:Rat)=c at *
   generalize (q.2:Rat)=d at *
   grind
  rw [←aaC,←aaC] at e1
  exact Rat.intCast_inj.mp e1
 have a:=pV (show p.2≠0 by have:=hp.pos;omega) hq.pos hq.low e
 have b:=nO hp.pos hp.low
 rw [←Prod.eta p,←b,a]
theorem xo{p q:Fr}(hp:0 < p.2)(hq:0 < q.2):val (fJ p q)=val p+val q:=by
 unfold fJ
 rw [gp (aa9 (aaB hp hq))]
 have h1:=aP (show p.2≠0 by omega)
 have h2:=aP (show q.2≠0 by omega)
 rw [Rat.intCast_add,aaC,aaC,aaC]
 unfold val
 generalize (p.1:Rat)=a at *
 generalize (p.2:Rat)=b at *
 generalize (q.1:Rat)=c at *
 generalize (q.2:Rat)=d at *
 grind
theorem mF{p q:Fr}(hp:0 < p.2)(hq:0 < q.2):val (bc p q)=val p * val q:=by
 unfold bc
 rw [gp (aa9 (aaB hp hq))]
 have h1:=aP (show p.2≠0 by omega)
 have h2:=aP (show q.2≠0 by omega)
 rw [aaC,aaC]
 unfold val
 generalize (p.1:Rat)=a at *
 generalize (p.2:Rat)=b at *
 generalize (q.1:Rat)=c at *
 generalize (q.2:Rat)=d at *
 grind
def jN(p:Fr)(E:Int):Prop:=∃N,p.1 * E=N * p.2
theorem jy{t b E N:Int}(h:b≠0)(e:t * E=N * b):jN (bB t b) E:=by
 have hx:=bN (t:=t) h
 generalize hf:bB t b=f at *
 obtain ⟨x,y⟩:=f
 refine ⟨N, ?_⟩
 show x * E=N * y
 have hx:t * y=b * x:=hx
 have:b * (x * E)=b * (N * y):=by grind
 exact aaE h this
theorem rf{p:Fr}{E:Int}(k:Int)(h:jN p E):jN p (E * k):=by
 obtain ⟨N,e⟩:=h
 exact ⟨N * k,by grind⟩
theorem vM(p:Fr):jN p p.2:=⟨p.1,rfl⟩
theorem vN{p q:Fr}{E:Int}(hp:0 < p.2)(hq:0 < q.2)(h:jN p E)(h':jN q E):jN (fJ p q) E:=by
 obtain ⟨N,e⟩:=h
 obtain ⟨N',e'⟩:=h'
 unfold fJ
 exact jy (N:=N+N') (Int.ne_of_gt (Int.mul_pos hp hq)) (by grind)
theorem kC{p q:Fr}{E F:Int}(hp:0 < p.2)(hq:0 < q.2)(h:jN p E)(h':jN q F):jN (bc p q) (E * F):=by
 obtain ⟨N,e⟩:=h
 obtain ⟨N',e'⟩:=h'
 unfold bc
 exact jy (N:=N * N') (Int.ne_of_gt (Int.mul_pos hp hq)) (by grind)
theorem oV{p:Fr}{E:Int}(hp:Red p)(h:jN p E):p.2∣E:=by
 obtain ⟨N,e⟩:=h
 have d:p.2∣p.1 * E:=⟨N,by rw [e,aaL]⟩
 have d2:p.2.natAbs∣p.1.natAbs * E.natAbs:=by
  rw [←aaS];exact Int.natAbs_dvd_natAbs.mpr d
 have co:Nat.Coprime p.2.natAbs p.1.natAbs:=by
  have:=hp.low
  unfold Int.gcd at this
  rw [Nat.coprime_comm];exact this
 exact Int.natAbs_dvd_natAbs.mp (co.dvd_of_dvd_mul_left d2)
def d7(p:Fr)(C:Int):Prop:=p.1≤p.2 * C∧ -(p.2 * C)≤p.1
theorem iG{t b C:Int}(h:0 < b)(h1:t≤b * C)(h2: -(b * C)≤t):d7 (bB t b) C:=by
 have hx:=bN (t:=t) (show b≠0 by omega)
 have hq:=cB (t:=t) (show b≠0 by omega)
 generalize hf:bB t b=f at *
 obtain ⟨x,y⟩:=f
 have hx:t * y=b * x:=hx
 have hq:0 < y:=hq
 constructor
 ·show x≤y * C
  have:=aay h1 (aag hq)
  rw [hx] at this
  have e:b * C * y=b * (y * C):=by grind
  rw [e] at this
  exact abR this h
 ·show -(y * C)≤x
  have:=aay h2 (aag hq)
  rw [hx] at this
  have e: -(b * C) * y=b * (-(y * C)):=by grind
  rw [e] at this
  exact abR this h
theorem bP{a b c:Int}(h:a≤b)(hc:0≤c):a * c≤b * c:=aay h hc
theorem yA{p q:Fr}{C D:Int}(hp:0 < p.2)(hq:0 < q.2)(h:d7 p C)(h':d7 q D):d7 (fJ p q) (C+D):=by
 unfold fJ
 have a:=bP h.1 (aag hq)
 have b:=bP h'.1 (aag hp)
 have c:=bP h.2 (aag hq)
 have d:=bP h'.2 (aag hp)
 refine iG (aaB hp hq) ?_ ?_
 ·have e:p.2 * q.2 * (C+D)=p.2 * C * q.2+q.2 * D * p.2:=by grind
  omega
 ·have e: -(p.2 * q.2 * (C+D))= -(p.2 * C) * q.2+ -(q.2 * D) * p.2:=by grind
  omega
def fA(c:Fr):Prop:=0≤c.1∧c.1≤c.2
theorem wN{c p:Fr}{C:Int}(hc:0 < c.2)(hp:0 < p.2)(u:fA c)(h:d7 p C)(hC:0≤C):d7 (bc c p) C:=by
 unfold bc
 have pc:0≤p.2 * C:=aaR (aag hp) hC
 have a:=bP h.1 u.1
 have b:=bP u.2 pc
 have c':=bP h.2 u.1
 refine iG (aaB hc hp) ?_ ?_
 ·have e:c.2 * p.2 * C=c.2 * (p.2 * C):=by grind
  have e1:c.1 * p.1=p.1 * c.1:=aaL ..
  have e2:p.2 * C * c.1=c.1 * (p.2 * C):=aaL ..
  omega
 ·have e: -(c.2 * p.2 * C)= -(c.2 * (p.2 * C)):=by grind
  have e1:c.1 * p.1=p.1 * c.1:=aaL ..
  have e2: -(p.2 * C) * c.1= -(c.1 * (p.2 * C)):=by grind
  omega
theorem rW{c s:Fr}(hc:0 < c.2)(hs:0 < s.2)(u:fA c)(v:fA s):fA (bc c s):=by
 unfold bc
 have hx:=bN (t:=c.1 * s.1) (aa9 (aaB hc hs))
 have hq:=cB (t:=c.1 * s.1) (aa9 (aaB hc hs))
 have t0:0≤c.1 * s.1:=aaR u.1 v.1
 have t1:c.1 * s.1≤c.2 * s.2:=abf (bP u.2 v.1) (by
  have:=bP v.2 (aag hc)
  rw [aaL c.2 s.1,aaL c.2 s.2];exact this)
 have bp:=aaB hc hs
 generalize c.1 * s.1=t at *
 generalize c.2 * s.2=b at *
 generalize hf:bB t b=f at *
 obtain ⟨x,y⟩:=f
 have hx:t * y=b * x:=hx
 have hq:0 < y:=hq
 constructor
 ·show 0≤x
  rcases abX x 0 with z | z
  ·have:=abx bp z
   have:=aaR t0 (aag hq)
   omega
  ·exact z
 ·show x≤y
  have:=bP t1 (aag hq)
  rw [hx] at this
  exact abR this bp
theorem BX{p:Fr}{E C:Int}{k m:Nat}(r:Red p)(h:jN p E)(e0:0 < E)(e1:E < 2 ^ k)(a:d7 p C)(c0:0≤C)(c1:C < 2 ^ m):Sz (k+m) p:=by
 have d:=abE e0 (oV r h)
 have rp:=r.pos
 have b1:p.2.natAbs < 2 ^ k:=by
  have:(p.2.natAbs:Int) < ((2 ^ k:Nat):Int):=by
   rw [aa1 (aag rp)]
   exact aax d (by exact_mod_cast e1)
  exact abv.mp this
 have b2:C.natAbs < 2 ^ m:=by
  have:(C.natAbs:Int) < ((2 ^ m:Nat):Int):=by
   rw [aa1 c0]
   exact_mod_cast c1
  exact abv.mp this
 have b3:=bz b1 b2
 refine ⟨?_,rp,aam b1 (aby (by decide) (abr _ _))⟩
 refine aaM ?_ b3
 rw [←aaS]
 have q0:0≤p.2 * C:=aaR (aag rp) c0
 have:=a.1
 have:=a.2
 omega
theorem Bb{cs:List Fr}{j:Nat}(h:j < cs.length):atI (cs.map frD) (j:Int)=some (frD cs[j]):=aB (by rw [aak,aaa h];rfl)
theorem Dz{ds:List DrG}{j:Nat}(h:j < ds.length):atI (ds.map drG) (j:Int)=some (drG ds[j]):=aB (by rw [aak,aaa h];rfl)
structure FZ(share:Fr)(rows:List Rw):Prop where
 sh:aU share=true
 len:rows.length≤12
 row:∀r∈rows,gh r∧eP r rows.length=true
structure Gh(rows:List Rw)(k:Str)(ds:List DrG):Prop where
 ro:gh (.doors k ds)
 l1:1≤ds.length
 l6:ds.length≤6
 kd:aK k=true∨(aK k=false∧k="chance"∧BJ (ds.map aj))
 to:∀d∈ds,0≤d.1∧d.1 < rows.length
 py:∀d∈ds,bo d.2.1=true∧0 < d.2.1.2
theorem fD{share:Fr}{rows:List Rw}{k:Str}{ds:List DrG}(f:FZ share rows)(h:Rw.doors k ds∈rows):Gh rows k ds:=by
 obtain ⟨ro,h2⟩:=f.row _ h
 have h2:(if aK k then aL ds rows.length else if k="chance" then aL ds rows.length&&aF (ds.map aj) else false)=true:=h2
 have key:aL ds rows.length=true∧(aK k=true∨(aK k=false∧k="chance"∧aF (ds.map aj)=true)):=by
  by_cases hk:aK k=true
  ·rw [if_pos hk] at h2;exact ⟨h2, .inl hk⟩
  ·rw [if_neg hk] at h2
   by_cases hc:k="chance"
   ·rw [if_pos hc,Bool.and_eq_true] at h2;exact ⟨h2.1, .inr ⟨by simpa using hk,hc,h2.2⟩⟩
   ·rw [if_neg hc] at h2;cases h2
 obtain ⟨fd,hk⟩:=key
 unfold aL at fd
 rw [aao,aao,decide_eq_true_iff,decide_eq_true_iff] at fd
 obtain ⟨⟨d1,d6⟩,fa⟩:=fd
 have each:∀d∈ds,0≤d.1∧d.1 < rows.length∧bo d.2.1=true:=fun d hd=>by
  have h3:=abl.mp fa d hd
  unfold aR at h3
  rw [aao,aao,decide_eq_true_iff,decide_eq_true_iff] at h3
  exact ⟨h3.1,h3.2.1,h3.2.2⟩
 refine ⟨ro,d1,d6, ?_,fun d hd=>⟨(each d hd).1,(each d hd).2.1⟩,fun d hd=>⟨(each d hd).2.2,(ro.2.2.2 d hd).2⟩⟩
 rcases hk with hk | ⟨hk,hc,hf⟩
 ·exact .inl hk
 ·refine .inr ⟨hk,hc,FP hf (ro.2.2.1 hc).2 fun z=> ?_⟩
  have:=congrArg List.length z
  rw [aac] at this
  have:ds.length=0:=this
  omega
theorem Am{α:Type}(xs:List α)(a:α)(f:α→Dt):(gm 0 xs.length).map (fun x=>match x with | .int j=>f (xs.getD j.toNat a) | _=> .non)=xs.map f:=by
 unfold gm
 rw [aaD]
 apply aa2
 ·simp
 ·intro i h1 h2
  simp only [List.getElem_map,List.getElem_range,Function.comp]
  rw [show (0+(i:Int)).toNat=i by omega]
  have hi:i < xs.length:=by simpa using h2
  rw [aab,aaa hi];rfl
abbrev d0:DrG:=(0,(0,1),[])
def iJ(ps:List (Fr×Fr)):Fr:=ps.foldl (fun w p=>fJ w (bc p.1 p.2)) (0,1)
structure Nb(E C:Int)(p:Fr):Prop where
 pos:0 < p.2
 he:jN p E
 ab:d7 p C
 sz:Sz 2600 p
structure Bd(E C:Int):Prop where
 e0:0 < E
 e1:E < 2 ^ 2200
 c0:0≤C
 c1:C < 2 ^ 400
theorem AU{E C:Int}{p:Fr}(r:Red p)(h:jN p E)(a:d7 p C)(b:Bd E C):Nb E C p:=⟨r.pos,h,a,BX (k:=2200) (m:=400) r h b.e0 b.e1 a b.c0 b.c1⟩
theorem AS{E C D:Int}{p q:Fr}(h:Nb E C p)(h':Nb E D q)(b:Bd E (C+D)):Nb E (C+D) (fJ p q):=AU (cw (aa9 (aaB h.pos h'.pos))) (vN h.pos h'.pos h.he h'.he) (yA h.pos h'.pos h.ab h'.ab) b
theorem qO{E F C:Int}{c p:Fr}(c0:0 < c.2)(hc:jN c F)(u:fA c)(h:Nb E C p)(b:Bd (F * E) C):Nb (F * E) C (bc c p):=AU (cw (aa9 (aaB c0 h.pos))) (kC c0 h.pos hc h.he) (wN c0 h.pos u h.ab b.c0) b
theorem DV{p:Fr}{C D:Int}(h0:0 < p.2)(h:d7 p C)(hd:C≤D):d7 p D:=by
 have:=aap hd (aag h0)
 obtain ⟨a,b⟩:=h
 exact ⟨by omega,by omega⟩
theorem GG{E:Int}:Nb E 0 (0,1):=⟨by decide,⟨0,by simp⟩,⟨by decide,by decide⟩,oH (k:=1) ⟨by decide,by decide,by decide⟩ (by decide)⟩
theorem xw{p:Fr}(h:aU p=true):0 < p.2∧p.2≤1000∧fA p:=by
 unfold aU at h
 rw [aao,aao,decide_eq_true_iff,decide_eq_true_iff,decide_eq_true_iff] at h
 obtain ⟨h1,h2,h3⟩:=h
 exact ⟨by omega,h3,h1,by omega⟩
theorem nI{n p:Nat}(h:p < n):ixN n (p:Int)=some p:=by
 unfold ixN
 rw [if_pos (by omega),if_pos (by omega),abL]
theorem xY{M:Ms}{d:Dt}{xs:List Dt}(h:zg M d=some xs):qv M d=some xs:=by
 cases d <;> first | exact h | cases h
theorem qS{M:Ms}{d:Dt}{xs:List Dt}(h:zg M d=some xs):nu M d=some xs:=by
 cases d <;> first | exact h | cases h
theorem vq{M:Ms}{d:Dt}{xs:List Dt}(h:zg M d=some xs):x9 M d=some (.type "list"):=by
 cases d with
 | lst ds=>rfl
 | loc k=>
  have h:(match M[k]? with | some (.lst xs)=>some xs | _=>none)=some xs:=h
  show (match M[k]? with | some (.lst _)=>some (Value.type "list") | _=>none)=_
  split at h
  ·rfl
  ·cases h
 | _=>cases h
theorem aQ{M:Ms}{o:MO}:(M++[o])[M.length]? =some o:=by simp
theorem fh{M:Ms}{k:Nat}{xs:List Dt}(h:M[k]? =some (MO.lst xs)):zg M (.loc k)=some xs:=by
 show (match M[k]? with | some (MO.lst xs)=>some xs | _=>none)=some xs
 rw [h]
theorem cn{M:Ms}{a c:MO}:(M++[a]).set M.length c=M++[c]:=by simp [List.set_append]
theorem DP{M E:Ms}{o:MO}:(M++o::E)[M.length]? =some o:=by simp
theorem Ad{M E:Ms}{o c:MO}:(M++o::E).set M.length c=M++c::E:=by simp [List.set_append]
abbrev ilD(l:List Int):Dt:= .lst (l.map Dt.int)
abbrev mlD(ls:List (List Int)):Dt:= .lst (ls.map ilD)
theorem xW{ls:List (List Int)}{j:Nat}(h:j < ls.length):atI (ls.map ilD) (j:Int)=some (ilD ls[j]):=aB (by rw [aak,aaa h];rfl)
theorem gw{n:Nat}:∀(ls:List (List Int)),Dt.underL n (ls.map ilD)
 | []=>trivial
 | l::ls=>⟨eN l,gw ls⟩
abbrev dj:=Bz.dj
theorem qp{n i:Nat}(h:i < n):((List.replicate (n:Int).toNat [Dt.int 0]).flatten).set i (Dt.int 1)=(dj n i).map Dt.int:=by
 have e:(List.replicate (n:Int).toNat [Dt.int 0]).flatten=List.replicate n (Dt.int 0):=by
  rw [show ((n:Int)).toNat=n by omega]
  clear h
  induction n with
  | zero=>rfl
  | succ n ih=>rw [aaX,abb,ih];rfl
 rw [e]
 unfold dj Bz.dj
 apply aa2
 ·simp
 ·intro j h1 h2
  rw [List.getElem_set]
  simp only [List.getElem_replicate,List.getElem_map,List.getElem_range,Bz.ind]
  split <;> rfl
def DY:DF:=fun as M q _=>∃rows:List (List Int),as=[mlD rows]∧rows.length≤12∧(∀r∈rows,r.length≤13)∧∀E,q (.loc M.length) (M++MO.lst (((List.range rows.length).map fun i=>rows.getD i []++dj rows.length i).map ilD)::E)
theorem cq:ax ["rows","told","number","row","weights"] ["rows"] (ah e7):=⟨rfl,rfl,rfl,by decide+kernel,rfl,by decide+kernel,by decide+kernel⟩
theorem jR{f:Addr}{fd:FuncData}(F:Fun K "with_weights" "with_weights" e7 f fd)(E:Ev K mg Cm CF CN):bK P w K mg base (CX1 P w) 1 f fd ["rows"] (spD K DY):=by
 refine F.okD cq (fun ds M q x h=> ?_) (fun cdv A outer s H E' hr=>⟨_,(ae (au (i:=1) cq.nd rfl (Or.inl rfl) (jq af))
   (ae (eJ (vB E.n_enumerate (aa (jv 0) af (hs:=ao))) (kn rfl (bW (aN (i:=2) cq.nd rfl (Or.inl rfl)) (bW (aN (i:=3) cq.nd rfl (Or.inl rfl)) gY))) nM (ae (au (i:=4) cq.nd rfl (Or.inl rfl) (vD (dI 3 (d:= .lst [.int 0]) (by rfl)) (cW E.n_len (aa (jv 0) af (hs:=ao)))))
   (ae (gA (jv 4) (jv 2) av)
   (ai (eK (eL (jv 1) (aa (ju (jv 3) (jv 4)) af (hs:=bT))))))))
   (ai (ay (jv 1))))),fun ds M q x h=> ?_⟩)
 ·obtain ⟨rows,rfl,_⟩:=h;rfl
 ·obtain ⟨rows,rfl,r12,r13,h⟩:=h
  refine ⟨by decide, ?_⟩
  refine ⟨mlD rows,rows.map ilD,fun _=>True,rfl,rfl, ?_⟩
  refine cM (fun xs ρ M'=>∃(k:Nat) (rest:List (List Int)) (E:Ms) (o1 o2 o3:Option Dt),xs=jC k (rest.map ilD)∧rows.drop k=rest∧k≤rows.length∧M'=M++MO.lst (((List.range k).map fun i=>rows.getD i []++dj rows.length i).map ilD)::E∧ρ=[some (mlD rows),some (.loc M.length),o1,o2,o3]) (fun xs ρ M' hj=>trivial) (fun x xs ρ M' hj nxt=> ?_) (fun ρ M' hj=> ?_) _ _ _ ⟨0,rows,[],none,none,none,rfl,rfl,abJ _,rfl,rfl⟩
  ·obtain ⟨k,rest,E,o1,o2,o3,ex,hd,hk,rfl,rfl⟩:=hj
   cases rest with
   | nil=>cases ex
   | cons r rest=>
    cases ex
    have hk':k < rows.length:=by
     rcases Nat.lt_or_ge k rows.length with z | z
     ·exact z
     ·rw [List.drop_of_length_le z] at hd;cases hd
    have rk:rows[k]=r:=by
     have:=aaU hk'
     rw [hd] at this
     exact (List.cons.inj this).1.symm
    have rg:rows.getD k []=r:=by rw [aab,aaa hk',rk];rfl
    have hr13:=r13 r (by rw [←rk];exact aaA hk')
    have hd':rows.drop (k+1)=rest:=by
     have:=aaU hk'
     rw [hd] at this
     exact (List.cons.inj this).2.symm
    dsimp only [g2]
    walk_at "vc"
    refine (aJ (d:=mlD rows) (xs:=rows.map ilD) rfl ?_:ik [mlD rows] _ _)
    rw [aac]
    refine ⟨[.int 0],rows.length,rfl,rfl,by omega,by omega, ?_, ?_⟩
    ·show 1 * ((rows.length:Int)).toNat≤sizeLine
     exact aau (show _≤12 by omega) (by decide)
    generalize hM2:M++MO.lst (((List.range k).map fun i=>rows.getD i []++dj rows.length i).map ilD)::E=M2
    refine ⟨M2.length,k,_,k,rfl,rfl,aQ, ?_, ?_⟩
    ·have:((List.replicate (rows.length:Int).toNat [Dt.int 0]).flatten).length=rows.length:=by
      have:=congrArg List.length (qp hk')
      rw [abA,aac] at this
      rw [this];unfold dj Bz.dj;simp
     rw [this];exact nI hk'
    rw [cn,qp hk']
    subst hM2
    have eM:(M++MO.lst (((List.range k).map fun i=>rows.getD i []++dj rows.length i).map ilD)::E)++[MO.lst ((dj rows.length k).map Dt.int)]=M++MO.lst (((List.range k).map fun i=>rows.getD i []++dj rows.length i).map ilD)::(E++[MO.lst ((dj rows.length k).map Dt.int)]):=by simp
    have at3:((M++MO.lst (((List.range k).map fun i=>rows.getD i []++dj rows.length i).map ilD)::E)++[MO.lst ((dj rows.length k).map Dt.int)])[M.length]? =some (.lst (((List.range k).map fun i=>rows.getD i []++dj rows.length i).map ilD)):=by rw [eM];exact DP
    refine ⟨⟨M.length,_,rfl,at3⟩,r.map Dt.int,(dj rows.length k).map Dt.int,rfl,fh aQ, ?_,M.length,_,_,rfl,rfl,at3, ?_, ?_⟩
    ·rw [aac,aac]
     unfold dj Bz.dj
     rw [aac,aaT]
     exact aau (show _≤30 by omega) (by decide)
    ·rw [aac,aac,aaT]
     exact aaM (show k≤12 by omega) (by decide)
    rw [eM,Ad]
    refine nxt _ _ ⟨k+1,rest,E++[MO.lst ((dj rows.length k).map Dt.int)],_,_,_,rfl,hd',hk', ?_,rfl⟩
    rw [List.range_succ,aaZ,aaZ]
    simp only [List.map_cons,List.map_nil]
    rw [rg,←aaZ]
  ·obtain ⟨k,rest,E,o1,o2,o3,ex,hd,hk,rfl,rfl⟩:=hj
   cases rest with
   | cons r rest=>cases ex
   | nil=>
    have:k=rows.length:=by
     have:=congrArg List.length hd
     rw [abj] at this
     simp at this;omega
    subst this
    exact h E
def G9:DF:=fun as M q _=>∃(ls:List (List Int)) (f c:Nat),as=[mlD ls, .int (f:Int), .int (c:Int)]∧f≤ls.length∧ls.length≤12∧(∀l∈ls,c < l.length)∧
 ((∀(k:Nat),f≤k→k < ls.length→(ls.getD k []).getD c 0=0)→q .non M)∧
 (∀(k:Nat),f≤k→k < ls.length→(ls.getD k []).getD c 0≠0→q (.int (k:Int)) M)
theorem fK:ax ["lines","first","column","number"] ["lines","first","column"] (ah et):=⟨rfl,rfl,rfl,by decide+kernel,rfl,by decide+kernel,by decide+kernel⟩
theorem i7{f:Addr}{fd:FuncData}(F:Fun K "number_of_head" "number_of_head" et f fd)(E:Ev K mg Cm CF CN):bK P w K mg base (CX1 P w) 1 f fd ["lines","first","column"] (spD K G9):=by
 refine F.okD fK (fun ds M q x h=> ?_) (fun cdv A outer s H E' hr=>⟨_,(ae (fk (vC E.n_range (aa (jv 1) (aa (cW E.n_len (aa (jv 0) af (hs:=ao))) af (hs:=bM)) (hs:=ao))) (aN (i:=3) fK.nd rfl (Or.inl rfl)) bR (ai (bu (nB hr (aG (aG (jv 0) (jv 3)) (jv 2)) av) (ai (ay (jv 3))) aE)))
   (ai (ay Ec))),fun ds M q x h=> ?_⟩)
 ·obtain ⟨ls,f,c,rfl,_⟩:=h;rfl
 ·obtain ⟨ls,f,c,rfl,hf,l12,hc,h1,h2⟩:=h
  walk_at "vc"
  dsimp only [zt]
  walk_at "vc"
  refine (aJ (d:=mlD ls) (xs:=ls.map ilD) rfl ?_:ik [mlD ls] _ _)
  rw [aac]
  refine ⟨⟨by omega,by omega,by omega,by omega⟩, ?_⟩
  refine bX (fun zs ρ M'=>M'=M∧∃(n k:Nat) (o:Option Dt),zs=gm k n∧f≤k∧k+n=ls.length∧(∀j,f≤j→j < k→(ls.getD j []).getD c 0=0)∧ρ=[some (mlD ls),some (.int (f:Int)),some (.int (c:Int)),o]) (fun x zs ρ M' hj nxt=> ?_) (fun ρ M' hj=> ?_) _ _ _ ⟨rfl,ls.length - f,f,none, ?_,aah _,by omega,fun j a b=>absurd a (by omega),rfl⟩
  ·obtain ⟨rfl,n,k,o,ex,hk,hn,hz,rfl⟩:=hj
   obtain ⟨m,rfl,rfl,rfl⟩:=bI ex
   have kl:k < ls.length:=by omega
   have hl:=hc _ (aaA kl)
   have e1:(ls.getD k []).getD c 0=(ls[k])[c]:=by
    rw [aab,aab,aaa kl]
    show ((ls[k])[c]?).getD 0=_
    rw [aaa hl];rfl
   walk_at "vc"
   refine (az (d:=mlD ls) rfl (xW kl) ?_:fIx (mlD ls) (.int (k:Int)) _ _)
   refine (az (d:=ilD ls[k]) rfl (eT hl) ?_:fIx (ilD ls[k]) (.int (c:Int)) _ _)
   refine ⟨fun z=> ?_,fun z=> ?_⟩
   ·have z:(!decide ((ls[k])[c]=0))=true:=z
    refine h2 k hk kl ?_
    rw [e1]
    intro y
    rw [decide_eq_true y] at z;exact nomatch z
   ·have z:(!decide ((ls[k])[c]=0))=false:=z
    have z0:(ls[k])[c]=0:=by
     rcases Decidable.em ((ls[k])[c]=0) with y | y
     ·exact y
     ·rw [decide_eq_false y] at z;exact nomatch z
    refine nxt _ _ ⟨rfl,m,k+1,_,by simp,by omega,by omega,fun j a b=> ?_,rfl⟩
    by_cases e:j=k
    ·rw [e,e1];exact z0
    ·exact hz j a (by omega)
  ·obtain ⟨rfl,n,k,o,ex,hk,hn,hz,rfl⟩:=hj
   have hn0:n=0:=by
    have:=congrArg List.length ex
    unfold gm at this
    simpa using this.symm
   exact h1 fun j a b=>hz j a (by omega)
  ·rw [show ((ls.length:Int) - (f:Int)).toNat=ls.length - f by omega]
abbrev hW:=Bz.hW
def zN:DF:=fun as M q _=>∃(ls:List (List Int)) (f k:Nat),as=[mlD ls, .int (f:Int), .int (k:Int)]∧f≤k∧k < ls.length∧ls.length≤12∧q (mlD (hW ls f k)) M
theorem mO:ax ["lines","first","number"] ["lines","first","number"] (ah fT):=⟨rfl,rfl,rfl,by decide+kernel,rfl,by decide+kernel,by decide+kernel⟩
theorem lI{f:Addr}{fd:FuncData}(F:Fun K "moved_ahead" "moved_ahead" fT f fd)(E:Ev K mg Cm CF CN):bK P w K mg base (CX1 P w) 1 f fd ["lines","first","number"] (spD K zN):=by
 refine F.okD mO (fun ds M q x h=> ?_) (fun cdv A outer s H E' hr=>⟨_,(ai (ay (ju (ju (ju (da (pP (jv 0) (jv 1))) (jr (aa (aG (jv 0) (jv 2)) af (hs:=bL)))) (da (nD (jv 0) (jv 1) (jv 2)))) (da (jn (jv 0) (cz (jv 2) av)))))),fun ds M q x h=> ?_⟩)
 ·obtain ⟨ls,f,k,rfl,_⟩:=h;rfl
 ·obtain ⟨ls,f,k,rfl,hf,hk,l12,h⟩:=h
  have gk:ls.getD k []=ls[k]:=by rw [aab,aaa hk];rfl
  have sz:∀{n:Nat},n≤40→n≤sizeLine:=fun h=>aau h (by decide)
  refine ⟨ls.map ilD,f,rfl,rfl, ?_⟩
  rw [←abZ]
  refine cR (gw _) ?_
  walk_at "vc"
  refine (az (d:=mlD ls) rfl (xW hk) ?_:fIx (mlD ls) (.int (k:Int)) _ _)
  refine ⟨sz (by show 1≤40;decide),(ls.take f).map ilD,[ilD ls[k]],rfl,rfl,sz (by simp;omega), ?_⟩
  refine ⟨f,rfl,ls.map ilD,k,rfl,rfl, ?_⟩
  rw [←ab0,←abZ]
  refine cR (gw _) ?_
  refine ⟨(ls.take f).map ilD++[ilD ls[k]],((ls.drop f).take (k - f)).map ilD,rfl,rfl,sz (by simp;omega), ?_⟩
  refine ⟨ls.map ilD,k+1,rfl,rfl, ?_⟩
  rw [←ab0]
  refine cR (gw _) ?_
  refine ⟨(ls.take f).map ilD++[ilD ls[k]]++((ls.drop f).take (k - f)).map ilD,(ls.drop (k+1)).map ilD,rfl,rfl,sz (by simp;omega), ?_⟩
  unfold hW Bz.hW at h
  rw [gk] at h
  have e:(ls.take f).map ilD++[ilD ls[k]]++((ls.drop f).take (k - f)).map ilD++(ls.drop (k+1)).map ilD=(ls.take f++[ls[k]]++(ls.drop f).take (k - f)++ls.drop (k+1)).map ilD:=by
   rw [aaZ,aaZ,aaZ];rfl
  rw [e];exact h
abbrev cT:=Bz.cT
def w4:DF:=fun as M q _=>∃(l h:List Int) (c:Nat) (d:Int),as=[ilD l,ilD h, .int (c:Int), .int d]∧l.length=h.length∧h.length≤30∧c < h.length∧(∀x∈l,Big x)∧(∀x∈h,Big x)∧d≠0∧Big d∧q (ilD (cT l h c d)) M
theorem kX:ax ["line","head","column","divisor"] ["line","head","column","divisor"] (ah cP):=⟨rfl,rfl,rfl,by decide+kernel,rfl,by decide+kernel,by decide+kernel⟩
theorem jV{f:Addr}{fd:FuncData}(F:Fun K "cleared_line" "cleared_line" cP f fd)(E:Ev K mg Cm CF CN):bK P w K mg base (CX1 P w) 1 f fd ["line","head","column","divisor"] (spD K w4):=by
 refine F.okD kX (fun ds M q x h=> ?_) (fun cdv A outer s H E' hr=>⟨_,(ai (ay (vG (ys:=["divisor","head","column","line"]) (caps:=[3,1,2,0]) ⟨rfl,by decide+kernel,by decide+kernel,(by show∀x:Str,x∈(["own","other"]:List Str)→_;decide+kernel),(by show∀p:Str×NameKind,p∈_→p.2=NameKind.free→List.lookup p.1 (ah cP).names=some .cell;decide+kernel),by decide+kernel,(by show∀q:Str×Nat,q∈_→(["line","head","column","divisor"]:List Str)[q.2]? =some q.1∧List.lookup q.1 (ah cP).names=some .cell∧_;decide+kernel),rfl⟩ (vA E.n_zip (aa (jv 0) (aa (jv 1) af (hs:=ao)) (hs:=ao))) (fun C s H fp=>(vF (pO (aO (aG (jv 3) (jv 4)) (jv 0)) (aO (aG (jv 5) (jv 4)) (jv 1))) (jv 2)))))),fun ds M q x h=> ?_⟩)
 ·obtain ⟨l,h',c,d,rfl,_⟩:=h;rfl
 ·obtain ⟨l,hd,c,d,rfl,hl,h30,hc,bl,bh,d0,bd,h⟩:=h
  have cl:c < l.length:=by omega
  have g1:hd.getD c 0=hd[c]:=by rw [aab,aaa hc];rfl
  have g2':l.getD c 0=l[c]:=by rw [aab,aaa cl];rfl
  refine ⟨ilD l,ilD hd,l.map Dt.int,hd.map Dt.int,fun _=>True,fun _=>True,rfl,rfl,rfl, ?_⟩
  have ez:tI (l.map Dt.int) (hd.map Dt.int)=(l.zip hd).map fun p=> .tup [.int p.1, .int p.2]:=by
   unfold tI
   rw [List.zip_map,aaD];rfl
  rw [ez]
  refine ⟨?_, ?_⟩
  ·rw [aac,aaY];exact aau (show _≤30 by omega) (by decide)
  refine jF ⟨trivial,trivial⟩ (fun x=>match x with | .tup [.int a, .int b]=> .int ((hd.getD c 0 * a - l.getD c 0 * b).fdiv d) | _=> .non) _ _ (fun x hx q' hq=> ?_) ?_
  ·obtain ⟨p,hp,rfl⟩:=aan.mp hx
   have hq:q' (.int ((hd.getD c 0 * p.1 - l.getD c 0 * p.2).fdiv d)) M:=hq
   have p1:=bl p.1 (abd hp).1
   have p2:=bh p.2 (abd hp).2
   rw [g1,g2'] at hq
   have key:fIx (ilD hd) (.int (c:Int)) M (fun x M1=>Dr x (.int p.1) M1 fun y M2=>fIx (ilD l) (.int (c:Int)) M2 fun z M3=>Dr z (.int p.2) M3 fun u M4=>ym y u M4 fun v M5=>yn v (.int d) M5 q'):=by
    refine az (d:=ilD hd) rfl (eT hc) ⟨⟨bh _ (aaA hc),p1⟩, ?_⟩
    refine az (d:=ilD l) rfl (eT cl) ⟨⟨bl _ (aaA cl),p2⟩, ?_⟩
    exact ⟨⟨d0,bd⟩,hq⟩
   exact key
  ·rw [aaP,aaD]
   unfold cT Bz.cT at h
   rw [show ilD ((l.zip hd).map fun p=>(hd.getD c 0 * p.1 - l.getD c 0 * p.2).fdiv d)= .lst ((l.zip hd).map fun p=>Dt.int ((hd.getD c 0 * p.1 - l.getD c 0 * p.2).fdiv d)) by show Dt.lst _=_;rw [aaD];rfl] at h
   exact h
theorem qH{a b:Int}(h0:0≤a)(h:a≤b):∀n:Nat,a ^ n≤b ^ n
 | 0=>by rw [Int.pow_zero,Int.pow_zero];exact Int.le_refl _
 | n+1=>by
  rw [abu,abu]
  exact aa6 (qH h0 h n) h h0 (abw (by omega))
theorem wQ{x B:Int}{r:Nat}(h:Bz.Ab x (Bz.top B r))(h1:1≤B)(hB:B≤2 ^ 450)(hr:r≤12):Big x:=by
 have e1:Bz.top B r≤(12 * B) ^ 15:=Bz.qI h1 (by omega)
 have e2:(12 * B) ^ 15≤(12 * 2 ^ 450) ^ 15:=qH (by omega) (by omega) 15
 have e3:((12 * 2 ^ 450) ^ 15:Int) < ((2 ^ 8000:Nat):Int):=by decide
 have:(x.natAbs:Int) < ((2 ^ 8000:Nat):Int):=by
  obtain ⟨a,b⟩:=h
  omega
 exact abv.mp this
section
variable{A:Nat→Bz.Row}{n col:Nat}{ρ cols:List Nat}{qq:Nat→Nat}{d:Int}{W:Nat→Bz.Row}
theorem qU{m:Nat}{B:Int}(t:Bz.dF A n col ρ cols qq d W)(b:Bz.Bd A n m B)(hB:B≤2 ^ 450)(hm:col≤m)(hr:ρ.length≤12):(∀i,i < n→∀x∈Bz.aV A n m (W i),Big x)∧Big d:=by
 obtain ⟨a1,a2,a3⟩:=t.st.abs b (fun c hc=>aam (t.cl c hc) hm) hr
 refine ⟨fun i hi x hx=> ?_,wQ a3 b.b1 hB hr⟩
 unfold Bz.aV at hx
 rcases aaN.mp hx with z | z
 ·obtain ⟨y,hy,rfl⟩:=aan.mp z
  exact wQ (a2 i y hi (aa0.mp hy)) b.b1 hB hr
 ·obtain ⟨y,hy,rfl⟩:=aan.mp z
  exact wQ (a1 i y hi) b.b1 hB hr
end
def ntD(n:Nat):Dt:= .int n
theorem vi{n:Nat}:∀(l:List Nat),Dt.underL n (l.map ntD)
 | []=>trivial
 | _::l=>⟨trivial,vi l⟩
theorem nq{A:Nat→Bz.Row}{n m:Nat}{W:Nat→Bz.Row}{l:List Int}(h:l∈Bz.aH A n m W):∃i,i < n∧l=Bz.aV A n m (W i):=by
 unfold Bz.aH at h
 obtain ⟨i,hi,e⟩:=aan.mp h
 exact ⟨i,aa0.mp hi,e.symm⟩
theorem lz{α:Type}(a:α):∀u:Nat,(List.replicate u [a]).flatten=List.replicate u a
 | 0=>rfl
 | u+1=>by rw [aaX,abb,lz a u];rfl
structure w6(rows:List (List Int))(u:Nat)(B:Int):Prop where
 n1:1≤rows.length
 n12:rows.length≤12
 u12:u≤12
 ml:∀r∈rows,r.length=u+1
 bd:Bz.Bd (Bz.arr rows) rows.length (u+1) B
 b450:B≤2 ^ 450
def rS:DF:=fun as M q _=>∃(rows:List (List Int)) (u:Nat) (B:Int),as=[mlD rows, .int (u:Int)]∧w6 rows u B∧
 ∀ρ cols qq d W,Bz.dF (Bz.arr rows) rows.length u ρ cols qq d W→q (.tup [mlD (Bz.aH (Bz.arr rows) rows.length (u+1) W), .loc M.length]) (M++[.lst (cols.map ntD)])
theorem bj:ax ["rows","unknowns","lines","columns","divisor","column","rank","number","head","above","below"] ["rows","unknowns"] (ah eB):=⟨rfl,rfl,rfl,by decide+kernel,rfl,by decide+kernel,by decide+kernel⟩
theorem sL{f:Addr}{fd:FuncData}(F:Fun K "cleared" "cleared" eB f fd)(E:Ev K mg Cm CF CN){fWithWeights:Addr}{dWithWeights:FuncData}(c_WithWeights:bU P w K mg base 1 "with_weights" ["rows"] DY fWithWeights dWithWeights){fNumberOfHead:Addr}{dNumberOfHead:FuncData}(c_NumberOfHead:bU P w K mg base 1 "number_of_head" ["lines","first","column"] G9 fNumberOfHead dNumberOfHead){fMovedAhead:Addr}{dMovedAhead:FuncData}(c_MovedAhead:bU P w K mg base 1 "moved_ahead" ["lines","first","number"] zN fMovedAhead dMovedAhead){fClearedLine:Addr}{dClearedLine:FuncData}(c_ClearedLine:bU P w K mg base 1 "cleared_line" ["line","head","column","divisor"] w4 fClearedLine dClearedLine):bK P w K mg base (CX1 P w) 2 f fd ["rows","unknowns"] (spD K rS):=by
 refine F.okD bj (fun ds M q x h=> ?_) (fun cdv A outer s H E' hr=>⟨_,(ae (au (i:=2) bj.nd rfl (Or.inl rfl) (da (br c_WithWeights hr ar (aa (jv 0) af (hs:=ao)))))
   (ae (au (i:=3) bj.nd rfl (Or.inl rfl) (jq af))
   (ae (au (i:=4) bj.nd rfl (Or.inr rfl) av)
   (ae (fk (cy E.n_range (aa (jv 1) af (hs:=ao))) (aN (i:=5) bj.nd rfl (Or.inr rfl)) bR (ae (au (i:=6) bj.nd rfl (Or.inl rfl) (cW E.n_len (aa (jv 3) af (hs:=ao))))
   (ae (au (i:=7) bj.nd rfl (Or.inl rfl) (br c_NumberOfHead hr ar (aa (jv 2) (aa (jv 6) (aa (jv 5) af (hs:=ao)) (hs:=ao)) (hs:=ao))))
   (ae (bu (CZ (jv 7) Ec) (ai jk) aE)
   (ae (au (i:=2) bj.nd rfl (Or.inl rfl) (br c_MovedAhead hr ar (aa (jv 2) (aa (jv 6) (aa (jv 7) af (hs:=ao)) (hs:=ao)) (hs:=ao))))
   (ae (au (i:=8) bj.nd rfl (Or.inr rfl) (aG (jv 2) (jv 6)))
   (ae (eG (i:=9) bj.nd rfl (Or.inl rfl) (ys:=["head","column","divisor"]) (caps:=[8,5,4]) ⟨rfl,by decide+kernel,by decide+kernel,rfl,(by show∀p:Str×NameKind,p∈_→p.2=NameKind.free→List.lookup p.1 (ah eB).names=some .cell;decide+kernel),by decide+kernel,(by show∀q:Str×Nat,q∈_→(["rows","unknowns","lines","columns","divisor","column","rank","number","head","above","below"]:List Str)[q.2]? =some q.1∧List.lookup q.1 (ah eB).names=some .cell∧_;decide+kernel),rfl⟩ (cG (da (pP (jv 2) (jv 6)))) (fun C s H fp=>(br c_ClearedLine hr (gZ (P:=P) (w:=w)) (aa (jv 0) (aa (jv 1) (aa (jv 2) (aa (jv 3) af (hs:=ao)) (hs:=ao)) (hs:=ao)) (hs:=ao)))))
   (ae (eG (i:=10) bj.nd rfl (Or.inl rfl) (ys:=["head","column","divisor"]) (caps:=[8,5,4]) ⟨rfl,by decide+kernel,by decide+kernel,rfl,(by show∀p:Str×NameKind,p∈_→p.2=NameKind.free→List.lookup p.1 (ah eB).names=some .cell;decide+kernel),by decide+kernel,(by show∀q:Str×Nat,q∈_→(["rows","unknowns","lines","columns","divisor","column","rank","number","head","above","below"]:List Str)[q.2]? =some q.1∧List.lookup q.1 (ah eB).names=some .cell∧_;decide+kernel),rfl⟩ (cG (da (jn (jv 2) (cz (jv 6) av)))) (fun C s H fp=>(br c_ClearedLine hr (gZ (P:=P) (w:=w)) (aa (jv 0) (aa (jv 1) (aa (jv 2) (aa (jv 3) af (hs:=ao)) (hs:=ao)) (hs:=ao)) (hs:=ao)))))
   (ae (au (i:=2) bj.nd rfl (Or.inl rfl) (ju (ju (jv 9) (jr (aa (jv 8) af (hs:=ao)))) (jv 10)))
   (ae (au (i:=4) bj.nd rfl (Or.inr rfl) (aG (jv 8) (jv 5)))
   (ai (eK (eL (jv 3) (aa (jv 5) af (hs:=ao)))))))))))))))
   (ai (ay (eU (aa (jv 2) (aa (jv 3) af (hs:=ao)) (hs:=ao))))))))),fun ds M q x h=> ?_⟩)
 ·obtain ⟨rows,u,B,rfl,_⟩:=h;rfl
 ·obtain ⟨rows,u,B,rfl,ro,h⟩:=h
  have n1:=ro.n1
  have n12:=ro.n12
  have u12:=ro.u12
  refine ⟨rows,rfl,n12,fun r hr'=>by rw [ro.ml r hr'];omega,fun E0'=> ?_⟩
  rw [Bz.pI ro.ml]
  refine jA (d':=mlD (Bz.aH (Bz.arr rows) rows.length (u+1) fun i=>Bz.ind i)) (.newL (Nat.le_refl _) (by simp) (mw.old (gw _))) ?_
  generalize hA:Bz.arr rows=A at *
  generalize hn:rows.length=n at *
  refine ⟨by decide, ?_⟩
  walk_at "vc"
  refine ⟨⟨by omega,by omega⟩, ?_⟩
  refine bX (fun zs ρ' M'=>∃(c k:Nat) (ρ cols:List Nat) (qq:Nat→Nat) (d:Int) (W:Nat→Bz.Row) (o1 o2 o3 o4 o5 o6:Option Dt),zs=gm k c∧k+c=u∧Bz.dF A n k ρ cols qq d W∧M'=M++[MO.lst (cols.map ntD)]∧ρ'=[some (mlD rows),some (.int (u:Int)),some (mlD (Bz.aH A n (u+1) W)),some (.loc M.length),some (.int d),o1,o2,o3,o4,o5,o6]) (fun x zs ρ' M' hj nxt=> ?_) (fun ρ' M' hj=> ?_) _ _ _ ⟨u,0,[],[],id,1,_,none,none,none,none,none,none,by simp,by simp,Bz.dF.start,rfl,rfl⟩
  ·obtain ⟨c,k,ρ,cols,qq,d,W,o1,o2,o3,o4,o5,o6,ex,hkc,t,rfl,rfl⟩:=hj
   obtain ⟨m,rfl,rfl,rfl⟩:=bI ex
   have lc:cols.length=ρ.length:=t.st.lc
   have rn:ρ.length≤n:=t.st.rn
   have hs1:qv (M++[MO.lst (cols.map ntD)]) (.loc M.length)=some (cols.map ntD):=xY (fh aQ)
   walk_at "vc"
   refine (aJ (d:= .loc M.length) hs1 ?_:ik [.loc M.length] _ _)
   rw [aac,lc]
   refine ⟨Bz.aH A n (u+1) W,ρ.length,k,rfl,by rw [Bz.cx];exact rn,by rw [Bz.cx];exact n12,fun l hl=> ?_,fun hz=> ?_,fun k' h1 h2 h0=> ?_⟩
   ·obtain ⟨i,_,rfl⟩:=nq hl
    rw [Bz.cY];omega
   ·refine ⟨fun _=> ?_,fun z=>(nomatch z)⟩
    refine nxt _ _ ⟨m,k+1,ρ,cols,qq,d,W,_,_,_,_,_,_,by simp,by omega,t.skip fun i a b=> ?_,rfl,rfl⟩
    have:=hz i a (by rw [Bz.cx];exact b)
    rw [Bz.gx b,Bz.fi (by omega)] at this
    exact this
   ·rw [Bz.cx] at h2
    rw [Bz.gx h2,Bz.fi (show k < u+1 by omega)] at h0
    refine ⟨fun z=>(nomatch z),fun _=> ?_⟩
    refine ⟨Bz.aH A n (u+1) W,ρ.length,k',rfl,h1,by rw [Bz.cx];exact h2,by rw [Bz.cx];exact n12, ?_⟩
    rw [show hW (Bz.aH A n (u+1) W) ρ.length k'=_ from Bz.pJ h1 h2]
    have t1:=t.move h1 h2
    have hrn:ρ.length < n:=by omega
    have h0':Bz.rv A n (W (Bz.rot ρ.length k' ρ.length)) k≠0:=by
     have:Bz.rot ρ.length k' ρ.length=k':=by unfold Bz.rot;rw [if_neg (Nat.lt_irrefl _),if_pos rfl]
     rw [this];exact h0
    clear h0 h1 h2 t
    generalize hW1:(fun i=>W (Bz.rot ρ.length k' i))=W1 at *
    generalize hq1:(fun i=>qq (Bz.rot ρ.length k' i))=q1 at *
    have e1:W (Bz.rot ρ.length k' ρ.length)=W1 ρ.length:=by rw [←hW1]
    rw [e1] at h0'
    obtain ⟨bl,bd⟩:=qU t1 (m:=u+1) (by subst hA hn;exact ro.bd) ro.b450 (by omega) (by omega)
    obtain ⟨W',t2,el⟩:=t1.step (m:=u+1) hrn (by omega) h0'
    have llen:(Bz.aH A n (u+1) W1).length=n:=Bz.cx
    have hdg:(Bz.aH A n (u+1) W1)[ρ.length]'(by rw [llen];exact hrn)=Bz.aV A n (u+1) (W1 ρ.length):=by
     have:=Bz.gx (A:=A) (m:=u+1) (W:=W1) hrn
     rw [aab,aaa (by rw [llen];exact hrn)] at this
     exact this
    have clr:∀l∈Bz.aH A n (u+1) W1,∀q':DQ,q' (ilD (cT l (Bz.aV A n (u+1) (W1 ρ.length)) k d)) (M++[MO.lst (cols.map ntD)])→w4 [ilD l,ilD (Bz.aV A n (u+1) (W1 ρ.length)), .int (k:Int), .int d] (M++[MO.lst (cols.map ntD)]) q' (fun C fs M'=>noX [] C fs M'):=fun l hl q' hq'=>by
     obtain ⟨i,hi,rfl⟩:=nq hl
     exact ⟨_,_,k,d,rfl,by rw [Bz.cY,Bz.cY],by rw [Bz.cY];omega,by rw [Bz.cY];omega,bl i hi,bl _ hrn,t1.d0,bd,hq'⟩
    walk_at "vc"
    refine (az (d:=mlD (Bz.aH A n (u+1) W1)) rfl (xW (by rw [llen];exact hrn)) ?_:fIx (mlD (Bz.aH A n (u+1) W1)) (.int (ρ.length:Int)) _ _)
    rw [hdg]
    have sz:∀{z:Nat},z≤40→z≤sizeLine:=fun h=>aau h (by decide)
    refine ⟨(Bz.aH A n (u+1) W1).map ilD,ρ.length,rfl,rfl, ?_⟩
    rw [←abZ]
    refine cR (gw _) ⟨sz (by rw [aac,abS];omega), ?_⟩
    refine bZ (F:=fun x a=>x=ilD a∧a∈Bz.aH A n (u+1) W1) (f:=fun l=>ilD (cT l (Bz.aV A n (u+1) (W1 ρ.length)) k d)) trivial (fun x a ha q' hq'=>by obtain ⟨rfl,ha⟩:=ha;exact clr a ha q' hq') (fC ilD _ _ fun _ h=>List.mem_of_mem_take h) ?_
    rw [aaP]
    refine ⟨(Bz.aH A n (u+1) W1).map ilD,ρ.length+1,rfl,rfl, ?_⟩
    rw [←ab0]
    refine cR (gw _) ⟨sz (by rw [aac,abj];omega), ?_⟩
    refine bZ (F:=fun x a=>x=ilD a∧a∈Bz.aH A n (u+1) W1) (f:=fun l=>ilD (cT l (Bz.aV A n (u+1) (W1 ρ.length)) k d)) trivial (fun x a ha q' hq'=>by obtain ⟨rfl,ha⟩:=ha;exact clr a ha q' hq') (fC ilD _ _ fun _ h=>List.mem_of_mem_drop h) ?_
    rw [aaP]
    refine ⟨by show 1≤sizeLine;decide,_,_,rfl,rfl,sz (by simp;omega),_,_,rfl,rfl,sz (by simp;omega), ?_⟩
    have ek:k < (Bz.aV A n (u+1) (W1 ρ.length)).length:=by rw [Bz.cY];omega
    have ev:(Bz.aV A n (u+1) (W1 ρ.length))[k]=Bz.rv A n (W1 ρ.length) k:=by
     have:=Bz.fi (A:=A) (n:=n) (m:=u+1) (x:=k) (w:=W1 ρ.length) (by omega)
     rw [aab,aaa ek] at this
     exact this
    refine az (d:=ilD (Bz.aV A n (u+1) (W1 ρ.length))) rfl (eT ek) ?_
    rw [ev]
    refine ⟨⟨M.length,_,rfl,aQ⟩,M.length,_,_,rfl,rfl,aQ, ?_, ?_⟩
    ·rw [aac,lc];exact aaM (show _≤12 by omega) (by decide)
    rw [cn]
    have ee:=congrArg (List.map ilD) el
    rw [aaZ,aaZ,aaD,aaD] at ee
    refine nxt _ _ ⟨m,k+1,ρ++[q1 ρ.length],cols++[k],q1,_,W',some (.int (k:Int)),some (.int (ρ.length:Int)),some (.int (k':Int)),some (ilD (Bz.aV A n (u+1) (W1 ρ.length))),some (.lst (((Bz.aH A n (u+1) W1).take ρ.length).map fun l=>ilD (cT l (Bz.aV A n (u+1) (W1 ρ.length)) k d))),some (.lst (((Bz.aH A n (u+1) W1).drop (ρ.length+1)).map fun l=>ilD (cT l (Bz.aV A n (u+1) (W1 ρ.length)) k d))),by simp,by omega,t2,by simp [ntD], ?_⟩
    show _=[some (mlD rows),some (Dt.int (u:Int)),some (Dt.lst ((Bz.aH A n (u+1) W').map ilD)),some (Dt.loc M.length),some (Dt.int _),_,_,_,_,_,_]
    rw [←ee]
    rfl
  ·obtain ⟨c,k,ρ,cols,qq,d,W,o1,o2,o3,o4,o5,o6,ex,hkc,t,rfl,rfl⟩:=hj
   have hn0:c=0:=by
    have:=congrArg List.length ex
    unfold gm at this
    simpa using this.symm
   have:k=u:=by omega
   subst this
   exact ⟨by show 2≤sizeLine;decide,h _ _ _ _ _ t⟩
def D0:DF:=fun as M q _=>∃(rows:List (List Int)) (u:Nat) (B:Int) (ρ cols:List Nat) (qq:Nat→Nat) (d:Int) (W:Nat→Bz.Row),as=[mlD (Bz.aH (Bz.arr rows) rows.length (u+1) W), .lst (cols.map ntD), .int (u:Int), .int (u:Int)]∧w6 rows u B∧Bz.dF (Bz.arr rows) rows.length u ρ cols qq d W∧cols=List.range u∧
 q (.loc M.length) (M++[.lst ((List.range u).map fun i=>frD (bB (Bz.rv (Bz.arr rows) rows.length (W i) u) d))])
theorem ef:ax ["lines","columns","unknowns","source","told","line","column"] ["lines","columns","unknowns","source"] (ah gM):=⟨rfl,rfl,rfl,by decide+kernel,rfl,by decide+kernel,by decide+kernel⟩
theorem mW{f:Addr}{fd:FuncData}(F:Fun K "quotients" "quotients" gM f fd)(E:Ev K mg Cm CF CN){fFraction:Addr}{dFraction:FuncData}(c_Fraction:bU P w K mg base 2 "fraction" ["top","bottom"] (qf CN) fFraction dFraction):bK P w K mg base (CX1 P w) 3 f fd ["lines","columns","unknowns","source"] (spD K D0):=by
 refine F.okD ef (fun ds M q x h=> ?_) (fun cdv A outer s H E' hr=>⟨_,(ae (au (i:=4) ef.nd rfl (Or.inl rfl) (vD (dI 3 (d:= .lst [.tup [.int 0, .int 1]]) (by rfl)) (jv 2)))
   (ae (eJ (vA E.n_zip (aa (jv 0) (aa (jv 1) af (hs:=ao)) (hs:=ao))) (kn rfl (bW (aN (i:=5) ef.nd rfl (Or.inl rfl)) (bW (aN (i:=6) ef.nd rfl (Or.inl rfl)) gY))) nM (ai (gA (jv 4) (jv 6) (br c_Fraction hr ar (aa (aG (jv 5) (jv 3)) (aa (aG (jv 5) (jv 6)) af (hs:=bL)) (hs:=bL))))))
   (ai (ay (jv 4))))),fun ds M q x h=> ?_⟩)
 ·obtain ⟨rows,u,B,ρ,cols,qq,d,W,rfl,_⟩:=h;rfl
 ·obtain ⟨rows,u,B,ρ,cols,qq,d,W,rfl,ro,t,hc,h⟩:=h
  have u12:=ro.u12
  have n12:=ro.n12
  have hl:ρ.length=u:=by rw [←t.st.lc,hc,aaT]
  have un:u≤rows.length:=by rw [←hl];exact t.st.rn
  obtain ⟨bl,bd⟩:=qU t (m:=u+1) ro.bd ro.b450 (by omega) (by omega)
  have d0:=t.d0
  have one:∀i,i < u→Bz.rv (Bz.arr rows) rows.length (W i) i=d:=fun i hi=>by
   have:=t.st.one i i (by omega) (by omega)
   rw [if_pos rfl,hc,aab,aaF hi] at this
   exact this
  generalize hA:Bz.arr rows=A at *
  generalize hn:rows.length=n at *
  let tl:Nat→List Dt:=fun k=>(List.range u).map fun i=>if i < k then frD (bB (Bz.rv A n (W i) u) d) else frD (0,1)
  have t0:(List.replicate (u:Int).toNat [frD (0,1)]).flatten=tl 0:=by
   show _=(List.range u).map fun i=>if i < 0 then _ else frD (0,1)
   rw [show ((u:Int)).toNat=u by omega]
   apply aa2
   ·simp
   ·intro j h1 h2
    have e:(List.replicate u [frD (0,1)]).flatten=List.replicate u (frD (0,1)):=lz _ u
    simp [e]
  have ts:∀k,k < u→(tl k).set k (frD (bB (Bz.rv A n (W k) u) d))=tl (k+1):=fun k hk=>by
   apply aa2
   ·simp [tl]
   ·intro j h1 h2
    rw [List.getElem_set]
    simp only [tl,List.getElem_map,List.getElem_range]
    by_cases e:k=j
    ·subst e;rw [if_pos rfl,if_pos (by omega)]
    ·rw [if_neg e]
     by_cases f:j < k
     ·rw [if_pos f,if_pos (by omega)]
     ·rw [if_neg f,if_neg (by omega)]
  refine ⟨[frD (0,1)],u,rfl,rfl,by omega,by omega, ?_, ?_⟩
  ·show 1 * ((u:Int)).toNat≤sizeLine
   exact aau (show _≤12 by omega) (by decide)
  rw [t0]
  refine ⟨mlD (Bz.aH A n (u+1) W), .lst (cols.map ntD),_,_,fun _=>True,fun _=>True,rfl,rfl,rfl, ?_⟩
  have ez:tI ((Bz.aH A n (u+1) W).map ilD) (cols.map ntD)=(List.range u).map fun i=> .tup [ilD (Bz.aV A n (u+1) (W i)),ntD i]:=by
   unfold tI Bz.aH
   rw [hc]
   apply aa2
   ·simp;omega
   ·intro j h1 h2
    simp
  rw [ez]
  refine cM (fun zs ρ' M'=>∃(k:Nat) (o1 o2:Option Dt),k≤u∧zs=((List.range u).drop k).map (fun i=> .tup [ilD (Bz.aV A n (u+1) (W i)),ntD i])∧M'=M++[MO.lst (tl k)]∧ρ'=[some (mlD (Bz.aH A n (u+1) W)),some (.lst (cols.map ntD)),some (.int (u:Int)),some (.int (u:Int)),some (.loc M.length),o1,o2]) (fun zs ρ' M' hj=>⟨trivial,trivial⟩) (fun x zs ρ' M' hj nxt=> ?_) (fun ρ' M' hj=> ?_) _ _ _ ⟨0,none,none,abJ _,rfl,rfl,rfl⟩
  ·obtain ⟨k,o1,o2,hk,ex,rfl,rfl⟩:=hj
   have hk':k < u:=by
    rcases Nat.lt_or_ge k u with z | z
    ·exact z
    ·rw [List.drop_of_length_le (by simpa using z)] at ex;cases ex
   rw [List.drop_eq_getElem_cons (by simpa using hk'),List.map_cons,List.getElem_range] at ex
   cases ex
   have ek:k < (Bz.aV A n (u+1) (W k)).length:=by rw [Bz.cY];omega
   have eu:u < (Bz.aV A n (u+1) (W k)).length:=by rw [Bz.cY];omega
   have v1:(Bz.aV A n (u+1) (W k))[k]=d:=by
    have:=Bz.fi (A:=A) (n:=n) (m:=u+1) (x:=k) (w:=W k) (by omega)
    rw [aab,aaa ek] at this
    rw [←one k hk'];exact this
   have v2:(Bz.aV A n (u+1) (W k))[u]=Bz.rv A n (W k) u:=by
    have:=Bz.fi (A:=A) (n:=n) (m:=u+1) (x:=u) (w:=W k) (by omega)
    rw [aab,aaa eu] at this
    exact this
   dsimp only [g2,mT]
   walk_at "vc"
   refine az (d:=ilD (Bz.aV A n (u+1) (W k))) rfl (eT eu) ?_
   refine az (d:=ilD (Bz.aV A n (u+1) (W k))) rfl (eT ek) ?_
   rw [v1,v2]
   refine ⟨bd,fun z=>absurd z d0,fun _=> ?_⟩
   refine ⟨M.length,k,_,k,rfl,rfl,aQ, ?_, ?_⟩
   ·rw [show (tl k).length=u by simp [tl]];exact nI hk'
   rw [cn]
   refine nxt _ _ ⟨k+1,_,_,hk',rfl, ?_,rfl⟩
   rw [←ts k hk'];rfl
  ·obtain ⟨k,o1,o2,hk,ex,rfl,rfl⟩:=hj
   have:k=u:=by
    have:=congrArg List.length ex
    simp at this;omega
   subst this
   have e:tl k=(List.range k).map fun i=>frD (bB (Bz.rv A n (W i) k) d):=abc fun i hi=>by
    rw [if_pos (aa0.mp hi)]
   rw [e];exact h
def qg:DF:=fun as M q _=>∃(rows:List (List Int)) (u:Nat) (B:Int) (due:List Fr) (z:Bz.Row) (N:Int),as=[mlD rows]∧w6 rows u B∧1≤u∧due.length=u∧Bz.Sol (Bz.arr rows) rows.length u z N∧N≠0∧
 (∀i,i < u→0 < (due.getD i (0,1)).2∧Int.gcd (due.getD i (0,1)).1 (due.getD i (0,1)).2=1∧N * (due.getD i (0,1)).1=z i * (due.getD i (0,1)).2)∧
 (∀y:Bz.Row,(∀k,k < rows.length→Bz.aA (fun x=>Bz.arr rows k x * y x) u=0)→∀x,x < u→y x=0)∧q (.loc M.length) (M++[.lst (due.map frD)])
theorem cI:ax ["rows","unknowns","found","lines","columns","line","answer"] ["rows"] (ah iY):=⟨rfl,rfl,rfl,by decide+kernel,rfl,by decide+kernel,by decide+kernel⟩
theorem pE{f:Addr}{fd:FuncData}(F:Fun K "answer_of" "answer_of" iY f fd)(E:Ev K mg Cm CF CN){fCleared:Addr}{dCleared:FuncData}(c_Cleared:bU P w K mg base 2 "cleared" ["rows","unknowns"] rS fCleared dCleared){fQuotients:Addr}{dQuotients:FuncData}(c_Quotients:bU P w K mg base 3 "quotients" ["lines","columns","unknowns","source"] D0 fQuotients dQuotients):bK P w K mg base (CX1 P w) 4 f fd ["rows"] (spD K qg):=by
 refine F.okD cI (fun ds M q x h=> ?_) (fun cdv A outer s H E' hr=>⟨_,(ae (au (i:=1) cI.nd rfl (Or.inl rfl) (pO (cW E.n_len (aa (aG (jv 0) av) af (hs:=bL))) av))
   (ae (au (i:=2) cI.nd rfl (Or.inl rfl) (da (br c_Cleared hr ar (aa (jv 0) (aa (jv 1) af (hs:=ao)) (hs:=ao)))))
   (ae (au (i:=3) cI.nd rfl (Or.inl rfl) (aG (jv 2) av))
   (ae (au (i:=4) cI.nd rfl (Or.inl rfl) (aG (jv 2) av))
   (ae (eJ (cG (da (jn (jv 3) (cW E.n_len (aa (jv 4) af (hs:=ao)))))) (aN (i:=5) cI.nd rfl (Or.inl rfl)) bR (ai (bu (nB hr (aG (jv 5) (jv 1)) av) (ai eI) aE)))
   (ae (au (i:=6) cI.nd rfl (Or.inl rfl) (br c_Quotients hr ar (aa (jv 3) (aa (jv 4) (aa (jv 1) (aa (jv 1) af (hs:=ao)) (hs:=ao)) (hs:=ao)) (hs:=ao))))
   (ae (bu (sT (cW E.n_len (aa (jv 4) af (hs:=ao))) (jv 1)) (ai eI) aE)
   (ai (ay (jv 6)))))))))),fun ds M q x h=> ?_⟩)
 ·obtain ⟨rows,u,B,due,z,N,rfl,_⟩:=h;rfl
 ·obtain ⟨rows,u,B,due,z,N,rfl,ro,u1,dl,sol,hN,hdue,hker,h⟩:=h
  have n1:=ro.n1
  have n12:=ro.n12
  have u12:=ro.u12
  have r0:0 < rows.length:=by omega
  have m0:rows[0].length=u+1:=ro.ml _ (aaA r0)
  walk_at "vc"
  refine (az (d:=mlD rows) rfl (xW r0) ?_:fIx (mlD rows) (.int 0) _ _)
  refine (aJ (d:=ilD rows[0]) (xs:=rows[0].map Dt.int) rfl ?_:ik [ilD rows[0]] _ _)
  rw [aac,m0]
  dsimp only [ym]
  rw [show (((u+1:Nat):Int) - 1)=(u:Int) by omega]
  refine ⟨rows,u,B,rfl,ro,fun ρ cols qq d W t=> ?_⟩
  have hcols:cols=List.range u:=by
   rcases t.all with e | ⟨x,hx,hf⟩
   ·exact e
   ·obtain ⟨y,y1,y2⟩:=t.kernel hx hf
    have:=hker y y2 x hx
    rw [this] at y1
    exact absurd (by omega) t.d0
  have hl:ρ.length=u:=by rw [←t.st.lc,hcols,aaT]
  have un:u≤rows.length:=by rw [←hl];exact t.st.rn
  refine jA (d':= .tup [mlD (Bz.aH (Bz.arr rows) rows.length (u+1) W), .lst (cols.map ntD)]) (.tup (.cons (.old (gw _)) (.cons (.newL (Nat.le_refl _) (by simp) (mw.old (vi _))) .nil))) ?_
  have told:(List.range u).map (fun i=>frD (bB (Bz.rv (Bz.arr rows) rows.length (W i) u) d))=due.map frD:=by
   apply aa2
   ·simp [dl]
   ·intro i h1 h2
    have hi:i < u:=by simpa using h1
    simp only [List.getElem_map,List.getElem_range]
    obtain ⟨p0,p1,p2⟩:=hdue i hi
    have gi:due.getD i (0,1)=due[i]:=by rw [aab,aaa (by omega)];rfl
    rw [gi] at p0 p1 p2
    have e:=t.told hcols sol hi
    congr 1
    have:bB (Bz.rv (Bz.arr rows) rows.length (W i) u) d=(due[i].1,due[i].2):=pV t.d0 p0 p1 (by
     refine aaE hN ?_
     grind)
    exact this
  refine (az (d:= .tup [mlD (Bz.aH (Bz.arr rows) rows.length (u+1) W), .lst (cols.map ntD)]) rfl bO ?_:fIx (.tup [mlD (Bz.aH (Bz.arr rows) rows.length (u+1) W), .lst (cols.map ntD)]) (.int 0) _ _)
  refine (az (d:= .tup [mlD (Bz.aH (Bz.arr rows) rows.length (u+1) W), .lst (cols.map ntD)]) rfl (aB (j:=1) rfl) ?_:fIx (.tup [mlD (Bz.aH (Bz.arr rows) rows.length (u+1) W), .lst (cols.map ntD)]) (.int 1) _ _)
  have lcu:(cols.map ntD).length=u:=by rw [aac,hcols,aaT]
  dsimp only [uv,gB,dFz,GU]
  walk_at "vc"
  refine (aJ (d:= .lst (cols.map ntD)) (xs:=cols.map ntD) rfl ?_:ik [.lst (cols.map ntD)] _ _)
  refine ⟨(Bz.aH (Bz.arr rows) rows.length (u+1) W).map ilD,(cols.map ntD).length,rfl,rfl, ?_⟩
  rw [lcu,←ab0]
  refine cR (gw _) ?_
  have hz:∀l∈(Bz.aH (Bz.arr rows) rows.length (u+1) W).drop u,u < l.length∧l.getD u 0=0:=fun l hl'=>by
   obtain ⟨j,hj,e⟩:=aa3 hl'
   rw [List.getElem_drop] at e
   rw [abj,Bz.cx] at hj
   have hu:u+j < rows.length:=by omega
   have el:l=Bz.aV (Bz.arr rows) rows.length (u+1) (W (u+j)):=by
    have:=Bz.gx (A:=Bz.arr rows) (m:=u+1) (W:=W) hu
    rw [aab,aaa (by rw [Bz.cx];exact hu)] at this
    rw [←e];exact this
   rw [el]
   refine ⟨by rw [Bz.cY];omega, ?_⟩
   rw [Bz.fi (by omega)]
   exact t.rest sol hN (by omega) hu
  refine cM (fun zs ρ' M'=>M'=M∧∃(rest:List (List Int)) (o:Option Dt),zs=rest.map ilD∧(∀l∈rest,u < l.length∧l.getD u 0=0)∧ρ'=[some (mlD rows),some (.int (u:Int)),some (.tup [mlD (Bz.aH (Bz.arr rows) rows.length (u+1) W), .lst (cols.map ntD)]),some (mlD (Bz.aH (Bz.arr rows) rows.length (u+1) W)),some (.lst (cols.map ntD)),o,none]) (fun zs ρ' M' hj=>trivial) (fun x zs ρ' M' hj nxt=> ?_) (fun ρ' M' hj=> ?_) _ _ _ ⟨rfl,_,none,rfl,hz,rfl⟩
  ·obtain ⟨rfl,rest,o,ex,hr',rfl⟩:=hj
   cases rest with
   | nil=>cases ex
   | cons l rest=>
    cases ex
    obtain ⟨l1,l2⟩:=hr' l aae
    have lv:l[u]=0:=by
     rw [aab,aaa l1] at l2;exact l2
    walk_at "vc"
    refine (az (d:=ilD l) rfl (eT l1) ?_:fIx (ilD l) (.int (u:Int)) _ _)
    rw [lv]
    exact ⟨fun z=>(nomatch z),fun _=>nxt _ _ ⟨rfl,rest,_,rfl,fun y hy=>hr' y (aad _ hy),rfl⟩⟩
  ·obtain ⟨rfl,rest,o,ex,hr',rfl⟩:=hj
   refine ⟨rows,u,B,ρ,cols,qq,d,W,rfl,ro,t,hcols, ?_⟩
   rw [told]
   walk_at "vc"
   refine (aJ (d:= .lst (cols.map ntD)) (xs:=cols.map ntD) rfl ?_:ik [.lst (cols.map ntD)] _ _)
   rw [lcu]
   refine ⟨fun z=> ?_,fun _=>h⟩
   have z:(u:Int) < u:=of_decide_eq_true z
   omega
theorem xj(cs ns:List Fr):tI (cs.map frD) (ns.map frD)=(cs.zip ns).map fun p=> .tup [frD p.1,frD p.2]:=by
 unfold tI
 rw [List.zip_map,aaD];rfl
structure Ch(B:Int)(c:Fr):Prop where
 pos:0 < c.2
 he:jN c B
 u:fA c
 sz:Sz 300 c
theorem kQ{E B C:Int}(b0:0 < B)(e0:0 < E)(be:B * E < 2 ^ 2200)(c0:0≤C)(c1:C < 2 ^ 300):∀(ps:List (Fr×Fr)) (w:Fr) (j:Nat),j+ps.length≤6→Nb (B * E) (j * C) w→(∀p∈ps,Ch B p.1∧Nb E C p.2)→Nb (B * E) ((j+ps.length:Nat) * C) (ps.foldl (fun w p=>fJ w (bc p.1 p.2)) w)
 | [],w,j,_,hw,_=>hw
 | p::ps,w,j,hj,hw,h=>by
  rw [aat] at hj
  obtain ⟨h1,h2⟩:=h p aae
  have jc:((j:Int)+1) * C=j * C+C:=by rw [Int.add_mul,Int.one_mul]
  have jm:((j:Int)+1) * C≤6 * C:=aay (by omega) c0
  have j0:0≤(j:Int) * C:=aaR (by omega) c0
  have ht:=qO h1.pos h1.he h1.u h2 ⟨aaB b0 e0,be,c0,ab3 c1 (by decide)⟩
  have hp:=AS hw ht ⟨aaB b0 e0,be,by omega,by omega⟩
  rw [←jc] at hp
  have:=kQ b0 e0 be c0 c1 ps _ (j+1) (by omega) (by exact_mod_cast hp) (fun q hq=>h q (aad _ hq))
  rw [abK,aat,show j+(ps.length+1)=j+1+ps.length by omega]
  exact this
def rO:DF:=fun as M q _=>∃(cs ns:List Fr) (E B C:Int),as=[.lst (cs.map frD), .lst (ns.map frD)]∧cs.length≤6∧0 < B∧0 < E∧B * E < 2 ^ 2200∧0≤C∧C < 2 ^ 300∧(∀c∈cs,Ch B c)∧(∀n∈ns,Nb E C n)∧q (frD (iJ (cs.zip ns))) M
theorem eW:ax ["chances","numbers","whole","chance","number"] ["chances","numbers"] (ah kZ):=⟨rfl,rfl,rfl,by decide+kernel,rfl,by decide+kernel,by decide+kernel⟩
theorem sD{f:Addr}{fd:FuncData}(F:Fun K "weighed" "weighed" kZ f fd)(E:Ev K mg Cm CF CN){fPlus:Addr}{dPlus:FuncData}(c_Plus:bU P w K mg base 3 "plus" ["one","other"] D1 fPlus dPlus){fTimes:Addr}{dTimes:FuncData}(c_Times:bU P w K mg base 3 "times" ["one","other"] wV fTimes dTimes):bK P w K mg base (CX1 P w) 4 f fd ["chances","numbers"] (spD K rO):=by
 refine F.okD eW (fun ds M q x h=> ?_) (fun cdv A outer s H E' hr=>⟨_,(ae (au (i:=2) eW.nd rfl (Or.inl rfl) (eU (aa av (aa av af (hs:=cD)) (hs:=cD))))
   (ae (eJ (vA E.n_zip (aa (jv 0) (aa (jv 1) af (hs:=ao)) (hs:=ao))) (kn rfl (bW (aN (i:=3) eW.nd rfl (Or.inl rfl)) (bW (aN (i:=4) eW.nd rfl (Or.inl rfl)) gY))) nM (ai (au (i:=2) eW.nd rfl (Or.inl rfl) (br c_Plus hr ar (aa (jv 2) (aa (br c_Times hr ar (aa (jv 3) (aa (jv 4) af (hs:=ao)) (hs:=ao))) af (hs:=bM)) (hs:=ao))))))
   (ai (ay (jv 2))))),fun ds M q x h=> ?_⟩)
 ·obtain ⟨cs,ns,E,B,C,rfl,_⟩:=h;rfl
 ·obtain ⟨cs,ns,Ep,B,C,rfl,hz,b0,e0,be,c0,c1,hc,hn,h⟩:=h
  refine ⟨by show 2≤sizeLine;decide, ?_⟩
  refine ⟨.lst (cs.map frD), .lst (ns.map frD),cs.map frD,ns.map frD,fun _=>True,fun _=>True,rfl,rfl,rfl, ?_⟩
  rw [xj]
  refine cM (fun xs ρ M'=>M'=M∧∃(rest:List (Fr×Fr)) (w:Fr) (a b:Option Dt) (j:Nat),xs=rest.map (fun p=> .tup [frD p.1,frD p.2])∧(∀p∈rest,Ch B p.1∧Nb Ep C p.2)∧Nb (B * Ep) (j * C) w∧j+rest.length≤6∧rest.foldl (fun w p=>fJ w (bc p.1 p.2)) w=iJ (cs.zip ns)∧ρ=[some (.lst (cs.map frD)),some (.lst (ns.map frD)),some (frD w),a,b]) (fun xs ρ M' hj=>⟨trivial,trivial⟩) (fun x xs ρ M' hj nxt=> ?_) (fun ρ M' hj=> ?_) _ _ _ ⟨rfl,cs.zip ns,(0,1),none,none,0,rfl,fun p hp=>⟨hc _ (abd hp).1,hn _ (abd hp).2⟩,by rw [Int.natCast_zero,Int.zero_mul];exact GG, ?_,rfl,rfl⟩
  ·obtain ⟨rfl,rest,w,a,b,j,ex,hr2,hw,hj,hf,rfl⟩:=hj
   cases rest with
   | nil=>cases ex
   | cons p rest=>
    cases ex
    obtain ⟨h1,h2⟩:=hr2 p aae
    rw [aat] at hj
    have ht:=qO h1.pos h1.he h1.u h2 ⟨aaB b0 e0,be,c0,ab3 c1 (by decide)⟩
    refine ⟨p.1,p.2,300,2600,rfl,h1.sz,h2.sz,by decide,w,bc p.1 p.2,2600,2600,rfl,hw.sz,ht.sz,by decide, ?_⟩
    refine nxt _ _ ⟨rfl,rest,_,_,_,j+1,rfl,fun p hp=>hr2 p (aad _ hp), ?_,by omega,hf,rfl⟩
    exact kQ b0 e0 be c0 c1 [p] w j (by simp;omega) hw (fun q hq=>by rw [List.mem_singleton.mp hq];exact ⟨h1,h2⟩)
  ·obtain ⟨rfl,rest,w,a,b,j,ex,hr2,hw,hj,hf,rfl⟩:=hj
   cases rest with
   | nil=>rw [←hf] at h;exact h
   | cons p rest=>cases ex
  ·rw [aaY];omega
def mV:List Int→Int
 | []=>1
 | a::l=>a * mV l
theorem lB:∀{l:List Int},(∀a∈l,0 < a)→0 < mV l
 | [],_=>by decide
 | a::l,h=>aaB (h a aae) (lB fun b hb=>h b (aad _ hb))
theorem uL:∀{l:List Int},(∀a∈l,0 < a∧a≤1000000)→mV l≤1000000 ^ l.length
 | [],_=>by decide
 | a::l,h=>by
  have i:=uL fun b hb=>h b (aad _ hb)
  have p:=lB (l:=l) fun b hb=>(h b (aad _ hb)).1
  have h0:=h a aae
  show a * mV l≤_
  rw [aat,abu,aaL a]
  exact aa6 i h0.2 (aag h0.1) (abw (by decide))
theorem qE:∀{l:List Int} {a:Int},a∈l→a∣mV l
 | b::l,a,h=>by
  rcases aaG.mp h with e | e
  ·rw [e];exact ⟨mV l,rfl⟩
  ·obtain ⟨c,hc⟩:=qE e
   exact ⟨b * c,by show b * mV l=_;rw [hc];grind⟩
theorem rh{p:Fr}{E:Int}(h:p.2∣E):jN p E:=by
 obtain ⟨k,e⟩:=h
 exact ⟨p.1 * k,by rw [e];grind⟩
theorem j9:∀{l:List Int} {a:Int},(∀b∈l,0 < b)→a∈l→a≤l.sum
 | b::l,a,h,ha=>by
  have ih:∀{l:List Int},(∀b∈l,0 < b)→0≤l.sum:=fun {l}=>by
   induction l with
   | nil=>intro _;exact Int.le_refl _
   | cons c l ih=>
    intro h
    have:=ih fun d hd=>h d (aad _ hd)
    have:=h c aae
    rw [List.sum_cons];omega
  rw [List.sum_cons]
  have h0:=h b aae
  rcases aaG.mp ha with e | e
  ·have:=ih fun d hd=>h d (aad _ hd)
   omega
  ·have:=j9 (fun d hd=>h d (aad _ hd)) e
   omega
theorem wC{cs:List Fr}(o:BJ cs){c:Fr}(hc:c∈cs):0 < c.2∧c.2∣dz cs∧fA c∧Sz 300 c:=by
 obtain ⟨a,b,d⟩:=o.ok3.2 c hc
 have B0:=o.b0
 obtain ⟨_,_,hB⟩:=fE cs 1 0 (by decide) (ab2 _) fun c hc=>⟨(o.ok3.2 c hc).1,ab2 _⟩
 have dv:c.2∣dz cs:=hB c hc
 have le:=j9 (l:=cs.map (oC (dz cs))) (fun b hb=>by
  obtain ⟨x,hx,rfl⟩:=aan.mp hb
  exact o.pos x hx) (aan.mpr ⟨c,hc,rfl⟩)
 rw [o.sum] at le
 have wp:=o.pos c hc
 unfold oC at le wp
 obtain ⟨m,em⟩:=dv
 have em':dz cs / c.2=m:=by rw [em];exact aa5 m (by omega)
 rw [em'] at le wp
 have m0:0 < m:=by
  rw [em] at B0
  rcases abX 0 m with z | z
  ·exact z
  ·have:=aap z (aag a)
   omega
 have c0:0≤c.1:=by
  rcases abX c.1 0 with z | z
  ·have:=aay (aag z) (aag m0)
   omega
  ·exact z
 have c1:c.1≤c.2:=by
  rw [em] at le
  exact Int.le_of_mul_le_mul_right le m0
 refine ⟨a,⟨m,em⟩,⟨c0,c1⟩,oH (k:=200) ⟨d,a, ?_⟩ (by decide)⟩
 have:(c.2.natAbs:Int) < ((2 ^ 200:Nat):Int):=by rw [aa1 (aag a)];exact b
 exact abv.mp this
abbrev Pl:=List (Int×Int)
def kP(pl:Pl):List Key:=pl.map fun p=>Sum.inl p.1
def vP(pl:Pl):List Dt:=pl.map fun p=>Dt.int p.2
abbrev dP(pl:Pl):MO:= .dct (kP pl) (vP pl)
def aY:Pl→Int→Option Int
 | [],_=>none
 | p::r,i=>if p.1=i then some p.2 else aY r i
def i4(pl:Pl)(i v:Int):Pl:=if (aY pl i).isSome=true then pl.map (fun p=>if p.1=i then (p.1,v) else p) else pl++[(i,v)]
theorem zq{a b:Int}:(decide ((Sum.inl a:Key)=Sum.inl b))=decide (a=b):=by
 by_cases h:a=b
 ·rw [decide_eq_true h,decide_eq_true (congrArg Sum.inl h)]
 ·rw [decide_eq_false h,decide_eq_false fun z=>h (Sum.inl.inj z)]
theorem pT{i:Int}:∀{pl:Pl},aZ (kP pl) (vP pl) (Sum.inl i)=(aY pl i).map Dt.int
 | []=>rfl
 | p::r=>by
  have ih:=pT (i:=i) (pl:=r)
  unfold aZ at ih⊢
  show (List.find? (fun q:Key×Dt=>decide (q.1=Sum.inl i)) ((Sum.inl p.1,Dt.int p.2)::(kP r).zip (vP r))).map (·.2)=Option.map Dt.int (if p.1=i then some p.2 else aY r i)
  rw [List.find?_cons,zq]
  by_cases h:p.1=i
  ·rw [decide_eq_true h,if_pos h];rfl
  ·rw [decide_eq_false h,if_neg h];exact ih
theorem Di{i:Int}:∀{pl:Pl},inK (kP pl) (Sum.inl i)=(aY pl i).isSome
 | []=>rfl
 | p::r=>by
  have ih:=Di (i:=i) (pl:=r)
  unfold inK at ih⊢
  show (decide ((Sum.inl p.1:Key)=Sum.inl i) || (kP r).any fun c=>decide (c=Sum.inl i))=(if p.1=i then some p.2 else aY r i).isSome
  rw [zq,ih]
  by_cases h:p.1=i
  ·rw [decide_eq_true h,if_pos h];rfl
  ·rw [decide_eq_false h,if_neg h,Bool.false_or]
theorem uK{i v:Int}:∀{pl:Pl},jP (Sum.inl i:Key) (Dt.int v) (kP pl) (vP pl)=vP (pl.map fun p=>if p.1=i then (p.1,v) else p)
 | []=>rfl
 | p::r=>by
  show (if (Sum.inl p.1:Key)=Sum.inl i then Dt.int v else Dt.int p.2)::jP (Sum.inl i:Key) (Dt.int v) (kP r) (vP r)=Dt.int (if p.1=i then (p.1,v) else p).2::vP (r.map fun p=>if p.1=i then (p.1,v) else p)
  rw [uK]
  by_cases h:p.1=i
  ·rw [if_pos h,if_pos (congrArg Sum.inl h)]
  ·rw [if_neg h,if_neg fun z=>h (Sum.inl.inj z)]
theorem qV{i v:Int}:∀{pl:Pl},kP (pl.map fun p=>if p.1=i then (p.1,v) else p)=kP pl
 | []=>rfl
 | p::r=>by
  show (Sum.inl (if p.1=i then (p.1,v) else p).1:Key)::kP (r.map fun p=>if p.1=i then (p.1,v) else p)=Sum.inl p.1::kP r
  rw [qV]
  split <;> rfl
theorem sy{pl:Pl}{i v:Int}:fH (kP pl) (Sum.inl i)=kP (i4 pl i v):=by
 unfold fH i4
 rw [Di]
 split
 ·exact qV.symm
 ·unfold kP;rw [List.map_append];rfl
theorem uJ{pl:Pl}{i v:Int}:eD (kP pl) (Sum.inl i) (vP pl) (Dt.int v)=vP (i4 pl i v):=by
 unfold eD i4
 rw [Di]
 split
 ·exact uK
 ·unfold vP;rw [List.map_append];rfl
theorem l7{i v j:Int}:∀{pl:Pl},aY (pl.map fun p=>if p.1=i then (p.1,v) else p) j=if j=i then (aY pl j).map fun _=>v else aY pl j
 | []=>by split <;> rfl
 | p::r=>by
  have ih:=l7 (i:=i) (v:=v) (j:=j) (pl:=r)
  rw [aaI]
  unfold aY
  by_cases h:p.1=i
  ·rw [if_pos h]
   by_cases hj:p.1=j
   ·rw [if_pos hj,if_pos hj,if_pos (by omega)];rfl
   ·rw [if_neg hj,if_neg hj];exact ih
  ·rw [if_neg h]
   by_cases hj:p.1=j
   ·rw [if_pos hj,if_pos hj,if_neg (by omega)]
   ·rw [if_neg hj,if_neg hj];exact ih
theorem vT{i j v:Int}:∀{pl:Pl},aY (pl++[(i,v)]) j=if (aY pl j).isSome=true then aY pl j else if i=j then some v else none
 | []=>rfl
 | p::r=>by
  have ih:=vT (i:=i) (j:=j) (v:=v) (pl:=r)
  rw [List.cons_append]
  unfold aY
  by_cases hj:p.1=j
  ·rw [if_pos hj,if_pos hj];rfl
  ·rw [if_neg hj,if_neg hj];exact ih
theorem jz{pl:Pl}{i v j:Int}:aY (i4 pl i v) j=if j=i then some v else aY pl j:=by
 unfold i4
 split
 ·rename_i h
  rw [l7]
  split
  ·rename_i e
   subst e
   obtain ⟨x,hx⟩:=aa4.mp h
   rw [hx];rfl
  ·rfl
 ·rename_i h
  rw [vT]
  by_cases e:j=i
  ·subst e
   rw [if_neg h,if_pos rfl,if_pos rfl]
  ·rw [if_neg e]
   cases hj:aY pl j with
   | none=>rw [if_neg (by simp),if_neg (by omega)]
   | some x=>rfl
def NdP(pl:Pl):Prop:=(pl.map (·.1)).Nodup
theorem vS{i v:Int}:∀{pl:Pl},aY pl i=some v→(i,v)∈pl
 | [],h=>by cases h
 | p::r,h=>by
  unfold aY at h
  split at h
  ·rename_i e
   have:p=(i,v):=by rw [←e,←aal h]
   rw [this];exact aae
  ·exact aad _ (vS h)
theorem vn{i v:Int}:∀{pl:Pl},NdP pl→(i,v)∈pl→aY pl i=some v
 | [],_,h=>by cases h
 | p::r,nd,h=>by
  unfold NdP at nd
  rw [aaI,abz] at nd
  unfold aY
  rcases aaG.mp h with e | e
  ·rw [if_pos (by rw [←e])];rw [←e]
  ·have:p.1≠i:=fun z=>nd.1 (by rw [z];exact aan.mpr ⟨_,e,rfl⟩)
   rw [if_neg this];exact vn nd.2 e
theorem yg{i:Int}{pl:Pl}(h:aY pl i=none):i∉pl.map (·.1):=fun z=>by
 obtain ⟨p,hp,e⟩:=aan.mp z
 have:∀{pl:Pl},p∈pl→aY pl i≠none:=fun {pl}=>by
  induction pl with
  | nil=>intro h;cases h
  | cons q r ih=>
   intro h
   unfold aY
   rcases aaG.mp h with e' | e'
   ·rw [if_pos (by rw [←e'];exact e)];simp
   ·split
    ·simp
    ·exact ih e'
 exact this hp h
theorem zf{pl:Pl}{i v:Int}(h:NdP pl):NdP (i4 pl i v):=by
 unfold NdP i4
 split
 ·have e:(pl.map fun p=>if p.1=i then (p.1,v) else p).map (·.1)=pl.map (·.1):=by
   rw [aaD]
   refine abc fun p _=> ?_
   show (if p.1=i then (p.1,v) else p).1=p.1
   split <;> rfl
  rw [e];exact h
 ·rename_i hn
  have hn:aY pl i=none:=by
   cases hg:aY pl i with
   | none=>rfl
   | some x=>rw [hg] at hn;exact absurd rfl hn
  rw [aaZ]
  refine List.nodup_append.mpr ⟨h,by simp,fun a ha b hb z=> ?_⟩
  have:b=i:=by simpa using hb
  exact yg hn (by rw [←this,←z];exact ha)
def eqP(p1 p2:Pl):Bool:=decide (p1.length=p2.length)&&(List.range p1.length).all fun j=>decide (aY p2 (p1.getD j (0,0)).1=some (p1.getD j (0,0)).2)
theorem CY{pl:Pl}{j:Nat}{k:Key}(h:(kP pl)[j]? =some k):j < pl.length∧k=Sum.inl (pl.getD j (0,0)).1:=by
 unfold kP at h
 rw [aak] at h
 obtain ⟨p,hp,e⟩:=abG.mp h
 refine ⟨(aaf.mp hp).1, ?_⟩
 rw [aab,hp];exact e.symm
theorem Em{pl:Pl}{j:Nat}{d:Dt}(h:(vP pl)[j]? =some d):d= .int (pl.getD j (0,0)).2:=by
 unfold vP at h
 rw [aak] at h
 obtain ⟨p,hp,e⟩:=abG.mp h
 rw [aab,hp];exact e.symm
theorem Bf(a b:Int):eqV (V.int a) (V.int b)=decide (a=b):=by
 unfold eqV
 by_cases h:a=b
 ·subst h;simp
 ·simp [h]
theorem Dx{M:Ms}{k1 k2:Nat}{p1 p2:Pl}{n:Nat}(h1:M[k1]? =some (dP p1))(h2:M[k2]? =some (dP p2)):EqD M (n+1) (.loc k1) (.loc k2) (eqP p1 p2):=by
 have l1:(kP p1).length=p1.length:=by unfold kP;simp
 have l2:(kP p2).length=p2.length:=by unfold kP;simp
 by_cases hl:p1.length=p2.length
 ·have:=EqD.dct (M:=M) (n:=n) (f:=fun j=>decide (aY p2 (p1.getD j (0,0)).1=some (p1.getD j (0,0)).2)) h1 h2 (by rw [l1,l2];exact hl) (fun j k hk hn=>by
   obtain ⟨hj,e⟩:=CY hk
   subst e
   rw [pT] at hn
   have hn:aY p2 (p1.getD j (0,0)).1=none:=by
    cases hg:aY p2 (p1.getD j (0,0)).1 with
    | none=>rfl
    | some x=>rw [hg] at hn;cases hn
   rw [hn];rfl) (fun j k d d' hk hd hg=>by
   obtain ⟨hj,e⟩:=CY hk
   have ed:=Em hd
   subst e ed
   rw [pT] at hg
   obtain ⟨x,hx,ex⟩:=abG.mp hg
   subst ex
   have:decide (aY p2 (p1.getD j (0,0)).1=some (p1.getD j (0,0)).2)=eqV (V.int (p1.getD j (0,0)).2) (V.int x):=by
    rw [hx,Bf]
    by_cases e:(p1.getD j (0,0)).2=x
    ·rw [decide_eq_true e,e];simp
    ·rw [decide_eq_false e,decide_eq_false fun z=>e (aal z).symm]
   show EqD M n _ _ (decide (aY p2 (p1.getD j (0,0)).1=some (p1.getD j (0,0)).2))
   rw [this]
   exact EqD.flat rfl rfl)
  rw [l1] at this
  unfold eqP
  rw [decide_eq_true hl,Bool.true_and]
  exact this
 ·have e:eqP p1 p2=false:=by unfold eqP;rw [decide_eq_false hl];rfl
  rw [e]
  exact EqD.len h1 h2 (by rw [l1,l2];exact hl)
theorem vU{pl:Pl}{j:Nat}(h:j < pl.length):pl.getD j (0,0)∈pl:=by
 rw [aab,aaa h];exact aaA _
theorem rE{pl:Pl}(nd:NdP pl):eqP pl pl=true:=by
 unfold eqP
 rw [decide_eq_true rfl,Bool.true_and,abl]
 intro j hj
 exact decide_eq_true (vn nd (vU (aa0.mp hj)))
structure Two(M:Ms)(k:Nat)(p1 p2:Pl):Prop where
 ex:∃k1 k2,M[k]? =some (.dct [Sum.inr "one",Sum.inr "other"] [.loc k1, .loc k2])∧M[k1]? =some (dP p1)∧M[k2]? =some (dP p2)
theorem aM{M E:Ms}{k:Nat}{m:MO}(h:M[k]? =some m):(M++E)[k]? =some m:=by
 rw [aar (aaf.mp h).1];exact h
theorem Two.app{M E:Ms}{k:Nat}{p1 p2:Pl}(h:Two M k p1 p2):Two (M++E) k p1 p2:=by
 obtain ⟨k1,k2,a,b,c⟩:=h
 exact ⟨k1,k2,aM a,aM b,aM c⟩
def fg(pl:Pl)(i:Nat)(n:Nat):Bool:=match aY pl i with
 | some v=>decide (0≤v)&&decide (v < n)
 | none=>false
def cE(p1 p2:Pl)(k:Str):Option Pl:=if k="one" then some p1 else if k="other" then some p2 else none
def nL(p1 p2:Pl)(i:Nat)(r:Rw):Bool:=match cE p1 p2 (kindOf r) with
 | some pl=>fg pl i (aI r).length
 | none=>true
def h8(rows:List Rw)(p1 p2:Pl)(i:Nat):Bool:=match rows[i]? with
 | some r=>nL p1 p2 i r
 | none=>true
def iq(rows:List Rw)(p1 p2:Pl):Nat→Pl
 | 0=>[]
 | n+1=>match (rows[n]?).bind fun r=>cE p1 p2 (kindOf r) with
  | some pl=>i4 (iq rows p1 p2 n) n ((aY pl n).getD 0)
  | none=>iq rows p1 p2 n
theorem wM(rows:List Rw)(p1 p2:Pl):∀n,(iq rows p1 p2 n).length≤n
 | 0=>aah _
 | n+1=>by
  have ih:=wM rows p1 p2 n
  unfold iq
  split
  ·unfold i4
   split
   ·rw [aac];omega
   ·rw [aai];exact Nat.succ_le_succ ih
  ·omega
theorem mn(rows:List Rw)(p1 p2:Pl):∀(n i:Nat),aY (iq rows p1 p2 n) i=if i < n then ((rows[i]?).bind fun r=>cE p1 p2 (kindOf r)).map fun pl=>(aY pl i).getD 0 else none
 | 0,i=>by rw [if_neg (abe _)];rfl
 | n+1,i=>by
  have ih:=mn rows p1 p2 n i
  have step:aY (iq rows p1 p2 (n+1)) i=if i=n then (match (rows[n]?).bind fun r=>cE p1 p2 (kindOf r) with | some pl=>some ((aY pl n).getD 0) | none=>aY (iq rows p1 p2 n) i) else aY (iq rows p1 p2 n) i:=by
   rw [iq]
   cases hb:(rows[n]?).bind fun r=>cE p1 p2 (kindOf r) with
   | none=>dsimp only;split <;> rfl
   | some pl=>
    dsimp only
    rw [jz]
    by_cases e:i=n
    ·rw [if_pos e,if_pos (by omega)]
    ·rw [if_neg e,if_neg (by omega)]
  rw [step,ih]
  by_cases e:i=n
  ·subst e
   rw [if_pos rfl,if_neg (aaW _),if_pos (abi _)]
   cases (rows[i]?).bind fun r=>cE p1 p2 (kindOf r) with
   | none=>rfl
   | some pl=>rfl
  ·rw [if_neg e]
   by_cases h:i < n
   ·rw [if_pos h,if_pos (by omega)]
   ·rw [if_neg h,if_neg (by omega)]
theorem A6(k:Str):inK [Sum.inr "one",Sum.inr "other"] (Sum.inr k)=aK k:=by
 have e:∀z:Str,decide ((Sum.inr z:Key)=Sum.inr k)=(k==z):=fun z=>by
  by_cases h:z=k
  ·rw [decide_eq_true (congrArg Sum.inr h),h];simp
  ·rw [decide_eq_false fun y=>h (Sum.inr.inj y)];simp;exact fun y=>h y.symm
 show (decide ((Sum.inr (Str.ofString "one"):Key)=Sum.inr k) || (decide ((Sum.inr (Str.ofString "other"):Key)=Sum.inr k) || false))=aK k
 rw [e,e,Bool.or_false]
 rfl
theorem nK{p1 p2:Pl}{k:Str}(h:aK k=false):cE p1 p2 k=none:=by
 unfold aK at h
 rw [Bool.or_eq_false_iff,beq_eq_false_iff_ne,beq_eq_false_iff_ne] at h
 unfold cE
 rw [if_neg h.1,if_neg h.2]
theorem z6{M:Ms}{k:Nat}{p1 p2:Pl}(h:Two M k p1 p2){z:Str}(hz:aK z=true):∃ks ds k' pl,M[k]? =some (.dct ks ds)∧aZ ks ds (Sum.inr z)=some (.loc k')∧cE p1 p2 z=some pl∧M[k']? =some (dP pl):=by
 obtain ⟨k1,k2,a,b,c⟩:=h
 unfold aK at hz
 rw [Bool.or_eq_true,beq_iff_eq,beq_iff_eq] at hz
 rcases hz with rfl | rfl
 ·exact ⟨_,_,k1,p1,a,rfl,rfl,b⟩
 ·exact ⟨_,_,k2,p2,a,rfl,rfl,c⟩
def Hb(A:Addr):DF:=fun as M q _=>∃share rows i r k pl,as=[cC A share rows, .loc k, .int (i:Nat)]∧M[k]? =some (dP pl)∧rows[i]? =some r∧gh r∧q (.bl (fg pl i (aI r).length)) M
theorem um:ax ["floor","plan","place"] ["floor","plan","place"] (ah lh):=⟨rfl,rfl,rfl,by decide+kernel,rfl,by decide+kernel,by decide+kernel⟩
theorem sG{f:Addr}{fd:FuncData}(F:Fun K "has_door" "has_door" lh f fd)(E:Ev K mg Cm CF CN){fFloorDoors:Addr}{dFloorDoors:FuncData}(c_FloorDoors:mv P w K mg base 2 Cm "doors" ["self","place"] (wZ Cm) fFloorDoors dFloorDoors):bK P w K mg base (CX1 P w) 3 f fd ["floor","plan","place"] (spD K (Hb Cm)):=by
 refine F.okD um (fun ds M q x h=> ?_) (fun cdv A outer s H E' hr=>⟨_,(ai (ay (dU (Fh hr (jv 2) (jv 1)) (dU (zk av (kB hr (jv 1) (jv 2))) (hZ (Fe (kB hr (jv 1) (jv 2)) (cW E.n_len (aa (da (h7 c_FloorDoors hr ar (jv 0) (aa (jv 2) af (hs:=ao)))) af (hs:=bM))))))))),fun ds M q x h=> ?_⟩)
 ·obtain ⟨share,rows,i,r,k,pl,rfl,_⟩:=h;rfl
 ·obtain ⟨share,rows,i,r,k,pl,rfl,hk,hi,ro,h⟩:=h
  unfold fg at h
  have gi:(Sum.inl (i:Int):Key)=Sum.inl ((i:Nat):Int):=rfl
  refine ⟨k,_,_,Sum.inl (i:Int),rfl,hk,rfl, ?_⟩
  rw [Di]
  cases hg:aY pl i with
  | none=>
   rw [hg] at h
   exact ⟨fun z=>(nomatch z),fun _=>h⟩
  | some v=>
   rw [hg] at h
   have h:q (.bl (decide (0≤v)&&decide (v < ((aI r).length:Int)))) M:=h
   have dg:aZ (kP pl) (vP pl) (Sum.inl (i:Int))=some (.int v):=by rw [pT,hg];rfl
   refine ⟨fun _=> ?_,fun z=>(nomatch z)⟩
   refine ⟨k,_,_,Sum.inl (i:Int),_,rfl,hk,rfl,dg, ?_⟩
   refine ⟨fun z=> ?_,fun z=> ?_⟩
   ·have z:0≤v:=of_decide_eq_true z
    rw [decide_eq_true z,Bool.true_and] at h
    refine ⟨k,_,_,Sum.inl (i:Int),_,rfl,hk,rfl,dg, ?_⟩
    refine ⟨⟨_,_, .inl rfl,rfl⟩,share,rows,i,r,rfl,hi,ro,cR (gb _) ?_⟩
    walk_at "vc"
    refine (aJ (d:= .lst ((aI r).map drG)) (xs:=(aI r).map drG) rfl ?_:ik [.lst ((aI r).map drG)] _ _)
    rw [aac]
    exact h
   ·have z:¬0≤v:=of_decide_eq_false z
    rw [decide_eq_false z,Bool.false_and] at h
    have key:decide (0≤v)=false:=decide_eq_false z
    exact h
def rR(A:Addr):DF:=fun as M q _=>∃share rows k p1 p2,as=[cC A share rows, .loc k]∧Two M k p1 p2∧FZ share rows∧(∀i,i < rows.length→h8 rows p1 p2 i=true)∧q (.loc M.length) (M++[dP (iq rows p1 p2 rows.length)])
theorem gq:ax ["floor","plans","doors","place","hand"] ["floor","plans"] (ah ll):=⟨rfl,rfl,rfl,by decide+kernel,rfl,by decide+kernel,by decide+kernel⟩
theorem sJ{f:Addr}{fd:FuncData}(F:Fun K "doors_of" "doors_of" ll f fd)(E:Ev K mg Cm CF CN){fFloorSize:Addr}{dFloorSize:FuncData}(c_FloorSize:mv P w K mg base 1 Cm "size" ["self"] (yB Cm) fFloorSize dFloorSize){fFloorKind:Addr}{dFloorKind:FuncData}(c_FloorKind:mv P w K mg base 1 Cm "kind" ["self","place"] (tE Cm) fFloorKind dFloorKind){fHasDoor:Addr}{dHasDoor:FuncData}(c_HasDoor:bU P w K mg base 3 "has_door" ["floor","plan","place"] (Hb Cm) fHasDoor dHasDoor):bK P w K mg base (CX1 P w) 4 f fd ["floor","plans"] (spD K (rR Cm)):=by
 refine F.okD gq (fun ds M q x h=> ?_) (fun cdv A outer s H E' hr=>⟨_,(ae (au (i:=2) gq.nd rfl (Or.inl rfl) zm)
   (ae (fk (cy E.n_range (aa (jo c_FloorSize hr ar (jv 0)) af (hs:=bM))) (aN (i:=3) gq.nd rfl (Or.inl rfl)) bR (ae (au (i:=4) gq.nd rfl (Or.inl rfl) (h7 c_FloorKind hr ar (jv 0) (aa (jv 3) af (hs:=ao))))
   (ae (bu (nC hr (jv 4) (jv 1)) (ai jk) aE)
   (ae (bu (fj (cQ (br c_HasDoor hr ar (aa (jv 0) (aa (kB hr (jv 1) (jv 4)) (aa (jv 3) af (hs:=ao)) (hs:=bL)) (hs:=ao))))) (ai eI) aE)
   (ai (lW hr (jv 2) (jv 3) (kB hr (kB hr (jv 1) (jv 4)) (jv 3))))))))
   (ai (ay (jv 2))))),fun ds M q x h=> ?_⟩)
 ·obtain ⟨share,rows,k,p1,p2,rfl,_⟩:=h;rfl
 ·obtain ⟨share,rows,k,p1,p2,rfl,tw,pl,gd0,hg⟩:=h
  have l12:=pl.len
  have km:k≠M.length:=fun e=>by
   obtain ⟨k1,k2,a,_⟩:=tw
   rw [e,List.getElem?_eq_none (aah _)] at a;cases a
  walk_at "vc"
  refine ⟨⟨_,_, .inl rfl,rfl⟩,share,rows,rfl, ?_⟩
  refine ⟨by omega, ?_⟩
  rw [show ((rows.length:Int)).toNat=rows.length by omega]
  refine bX (fun zs ρ' M'=>∃(i m:Nat) (o3 o4:Option Dt),zs=gm (i:Int) m∧i+m=rows.length∧M'=M++[dP (iq rows p1 p2 i)]∧ρ'=[some (cC Cm share rows),some (.loc k),some (.loc M.length),o3,o4]) (fun x zs ρ' M' hj nxt=> ?_) (fun ρ' M' hj=> ?_) _ _ _ ⟨0,rows.length,none,none,rfl,by omega,rfl,rfl⟩
  ·obtain ⟨i,m,o3,o4,ex,im,rfl,rfl⟩:=hj
   obtain ⟨m',rfl,rfl,rfl⟩:=bI ex
   have il:i < rows.length:=by omega
   have hi:rows[i]? =some rows[i]:=aaa il
   generalize hr0:rows[i]=r at *
   have rm:r∈rows:=aaj hi
   have ro:=(pl.row r rm).1
   have ga:h8 rows p1 p2 i=nL p1 p2 i r:=by unfold h8;rw [hi]
   have ac:∀pl',cE p1 p2 (kindOf r)=some pl'→iq rows p1 p2 (i+1)=i4 (iq rows p1 p2 i) i ((aY pl' i).getD 0):=fun pl' e=>by
    rw [iq,hi];show (match cE p1 p2 (kindOf r) with | some pl=>_ | none=>_)=_;rw [e]
   have an:cE p1 p2 (kindOf r)=none→iq rows p1 p2 (i+1)=iq rows p1 p2 i:=fun e=>by
    rw [iq,hi];show (match cE p1 p2 (kindOf r) with | some pl=>_ | none=>_)=_;rw [e]
   have tw':Two (M++[dP (iq rows p1 p2 i)]) k p1 p2:=tw.app
   obtain ⟨c1,c2,ca,cb,cc⟩:=tw'
   refine ⟨⟨_,_, .inl rfl,rfl⟩,share,rows,i,r,rfl,hi, ?_⟩
   refine ⟨k,_,_,Sum.inr (kindOf r),rfl,ca,rfl, ?_⟩
   rw [A6]
   cases hh:aK (kindOf r) with
   | false=>
    refine ⟨fun _=> ?_,fun z=>(nomatch z)⟩
    have e:=nK (p1:=p1) (p2:=p2) hh
    refine nxt _ _ ⟨i+1,m',_,_,by rw [abg];rfl,by omega,by rw [an e],rfl⟩
   | true=>
    refine ⟨fun z=>(nomatch z),fun _=> ?_⟩
    obtain ⟨ks,ds,k',pl',g1,g2,g3,g4⟩:=z6 (M:=M++[dP (iq rows p1 p2 i)]) tw.app hh
    refine ⟨k,ks,ds,Sum.inr (kindOf r),_,rfl,g1,rfl,g2, ?_⟩
    have gr:nL p1 p2 i r=fg pl' i (aI r).length:=by unfold nL;rw [g3]
    refine ⟨share,rows,i,r,k',pl',rfl,g4,hi,ro,fun z=> ?_,fun z=> ?_⟩
    ·have z:fg pl' i (aI r).length=false:=by simpa using z
     have:=gd0 i il
     rw [ga,gr,z] at this
     cases this
    ·have z:fg pl' i (aI r).length=true:=by simpa using z
     obtain ⟨v,hv⟩:∃v,aY pl' i=some v:=by
      unfold fg at z
      cases hv:aY pl' i with
      | none=>rw [hv] at z;cases z
      | some v=>exact ⟨v,rfl⟩
     have dg:aZ (kP pl') (vP pl') (Sum.inl (i:Int))=some (.int v):=by rw [pT,hv];rfl
     dsimp only [qy,DL]
     walk_at "vc"
     refine ⟨k,ks,ds,Sum.inr (kindOf r),_,rfl,g1,rfl,g2, ?_⟩
     refine ⟨k',_,_,Sum.inl (i:Int),_,rfl,g4,rfl,dg, ?_⟩
     refine ⟨M.length,_,_,Sum.inl (i:Int),rfl,aQ,rfl, ?_, ?_⟩
     ·unfold kP;rw [List.length_map]
      have:=wM rows p1 p2 i
      omega
     rw [sy (v:=v),uJ,cn]
     have e:=ac pl' g3
     rw [hv] at e
     have e:iq rows p1 p2 (i+1)=i4 (iq rows p1 p2 i) i v:=e
     refine nxt _ _ ⟨i+1,m',_,_,by rw [abg];rfl,by omega,by rw [e],rfl⟩
  ·obtain ⟨i,m,o3,o4,ex,im,rfl,rfl⟩:=hj
   have m0:m=0:=by
    have:=congrArg List.length ex
    rw [eC] at this;exact this.symm
   have:i=rows.length:=by omega
   subst this
   exact hg
structure xc(rows:List Rw)(acc:Pl):Prop where
 hand:∀(i:Nat) (r:Rw),rows[i]? =some r→aK (kindOf r)=true→∃j:Nat,aY acc i=some (j:Int)∧j < (aI r).length
 oth:∀(i:Nat) (r:Rw),rows[i]? =some r→aK (kindOf r)=false→aY acc i=none
theorem Bh{rows:List Rw}{p1 p2:Pl}(h:∀i,i < rows.length→h8 rows p1 p2 i=true):xc rows (iq rows p1 p2 rows.length):=by
 refine ⟨fun i r hi hk=> ?_,fun i r hi hk=> ?_⟩
 ·have il:=(aaf.mp hi).1
  have g:=h i il
  unfold h8 at g
  rw [hi] at g
  have g:nL p1 p2 i r=true:=g
  obtain ⟨pl,e⟩:∃pl,cE p1 p2 (kindOf r)=some pl:=by
   unfold aK at hk
   rw [Bool.or_eq_true,beq_iff_eq,beq_iff_eq] at hk
   rcases hk with e | e <;> rw [e]
   ·exact ⟨p1,rfl⟩
   ·exact ⟨p2,rfl⟩
  unfold nL at g
  rw [e] at g
  have g:fg pl i (aI r).length=true:=g
  unfold fg at g
  cases hv:aY pl i with
  | none=>rw [hv] at g;cases g
  | some v=>
   rw [hv] at g
   have g:(decide (0≤v)&&decide (v < ((aI r).length:Int)))=true:=g
   rw [aao,decide_eq_true_iff,decide_eq_true_iff] at g
   refine ⟨v.toNat, ?_,by omega⟩
   rw [mn,if_pos il,hi]
   show Option.map (fun pl=>(aY pl i).getD 0) (cE p1 p2 (kindOf r))=_
   rw [e]
   show some ((aY pl i).getD 0)=_
   rw [hv,Int.toNat_of_nonneg g.1];rfl
 ·have il:=(aaf.mp hi).1
  rw [mn,if_pos il,hi]
  show Option.map (fun pl=>(aY pl i).getD 0) (cE p1 p2 (kindOf r))=_
  rw [nK hk];rfl
def bq(acc:Pl)(i:Nat)(r:Rw):List DrG:=match aY acc i with
 | some j=>let d:=(aI r).getD j.toNat d0;[(d.1,d.2.1,d.2.2++[(1,1)])]
 | none=>aI r
def DZ(A:Addr):DF:=fun as M q _=>∃share rows i r k acc,as=[cC A share rows, .int (i:Nat), .loc k]∧M[k]? =some (dP acc)∧rows[i]? =some r∧gh r∧xc rows acc∧q (.lst ((bq acc i r).map drG)) M
theorem kh:ax ["floor","place","doors","ways"] ["floor","place","doors"] (ah iN):=⟨rfl,rfl,rfl,by decide+kernel,rfl,by decide+kernel,by decide+kernel⟩
theorem ph{f:Addr}{fd:FuncData}(F:Fun K "ways_from" "ways_from" iN f fd)(E:Ev K mg Cm CF CN){fFloorDoors:Addr}{dFloorDoors:FuncData}(c_FloorDoors:mv P w K mg base 2 Cm "doors" ["self","place"] (wZ Cm) fFloorDoors dFloorDoors){fFloorKind:Addr}{dFloorKind:FuncData}(c_FloorKind:mv P w K mg base 1 Cm "kind" ["self","place"] (tE Cm) fFloorKind dFloorKind):bK P w K mg base (CX1 P w) 3 f fd ["floor","place","doors"] (spD K (DZ Cm)):=by
 refine F.okD kh (fun ds M q x h=> ?_) (fun cdv A outer s H E' hr=>⟨_,(ae (au (i:=3) kh.nd rfl (Or.inl rfl) (da (h7 c_FloorDoors hr ar (jv 0) (aa (jv 1) af (hs:=ao)))))
   (ae (bu (zi (h7 c_FloorKind hr ar (jv 0) (aa (jv 1) af (hs:=ao))) (C7 E.mHANDS)) (ai (ay (jr (aa (cz (aG (jv 3) (kB hr (jv 2) (jv 1))) (dI 3 (d:= .tup [.tup [.int 1, .int 1]]) (by rfl))) af (hs:=bT))))) aE)
   (ai (ay (jv 3))))),fun ds M q x h=> ?_⟩)
 ·obtain ⟨share,rows,i,r,k,acc,rfl,_⟩:=h;rfl
 ·obtain ⟨share,rows,i,r,k,acc,rfl,hk,hi,ro,dk,h⟩:=h
  refine ⟨⟨_,_, .inl rfl,rfl⟩,share,rows,i,r,rfl,hi,ro,cR (gb _) ?_⟩
  refine ⟨⟨_,_, .inl rfl,rfl⟩,share,rows,i,r,rfl,hi, ?_⟩
  refine ⟨_,_,_,rfl,rfl,rfl, ?_⟩
  rw [qZ]
  cases hh:aK (kindOf r) with
  | true=>
   refine ⟨fun _=> ?_,fun z=>(nomatch z)⟩
   obtain ⟨j,hj,jl⟩:=dk.hand i r hi hh
   have dg:aZ (kP acc) (vP acc) (Sum.inl (i:Int))=some (.int (j:Int)):=by rw [pT,hj];rfl
   have e:bq acc i r=[(((aI r).getD j d0).1,((aI r).getD j d0).2.1,((aI r).getD j d0).2.2++[(1,1)])]:=by
    unfold bq;rw [hj];rfl
   rw [e] at h
   have gd:(aI r).getD j d0=(aI r)[j]:=by rw [aab,aaa jl];rfl
   have dm:(aI r)[j].2.2.length≤1:=by
    cases r with
    | fin p=>exact absurd jl (abe _)
    | doors k' ds=>exact (ro.2.2.2 _ (aaA jl)).1
   rw [gd] at h
   obtain ⟨d,hd⟩:∃d,d=(aI r)[j]:=⟨_,rfl⟩
   rw [←hd] at h dm
   walk_at "vc"
   refine ⟨k,_,_,Sum.inl (i:Int),_,rfl,hk,rfl,dg, ?_⟩
   refine (az (d:= .lst ((aI r).map drG)) rfl (Dz jl) ?_:fIx (.lst ((aI r).map drG)) (.int (j:Int)) _ _)
   rw [←hd]
   have sz:∀{z:Nat},z≤1000→z≤sizeLine:=fun h=>aau h (by decide)
   refine ⟨⟨fun z=>(nomatch z),sz ?_⟩,sz (by decide), ?_⟩
   ·simp;omega
   have e2:drG (d.1,d.2.1,d.2.2++[(1,1)])= .tup ((.int d.1::frD d.2.1::d.2.2.map frD)++[.tup [.int 1, .int 1]]):=by
    unfold drG;rw [List.map_append];rfl
   have h:q (.lst [drG (d.1,d.2.1,d.2.2++[(1,1)])]) M:=h
   rw [e2] at h
   exact h
  | false=>
   refine ⟨fun z=>(nomatch z),fun _=> ?_⟩
   have e:bq acc i r=aI r:=by unfold bq;rw [dk.oth i r hi hh]
   rw [e] at h
   exact h
def kj(f:Nat→Rat):Nat→Rat
 | 0=>0
 | n+1=>kj f n+f n
def bY(f:DrG→Rat):List DrG→Rat
 | []=>0
 | d::ds=>f d+bY f ds
theorem cJ{f g:Nat→Rat}:∀{n:Nat},(∀i,i < n→f i=g i)→kj f n=kj g n
 | 0,_=>rfl
 | n+1,h=>by
  show kj f n+f n=kj g n+g n
  rw [cJ fun i hi=>h i (Nat.lt_succ_of_lt hi),h n (abi _)]
theorem lq(a b:Rat)(f g:Nat→Rat):∀n,kj (fun i=>a * f i - b * g i) n=a * kj f n - b * kj g n
 | 0=>by show (0:Rat)=a * 0 - b * 0;grind
 | n+1=>by
  show kj (fun i=>a * f i - b * g i) n+(a * f n - b * g n)=a * (kj f n+f n) - b * (kj g n+g n)
  rw [lq a b f g n];grind
theorem qA{t:Nat}(y:Nat→Rat):∀{n:Nat},n≤t→kj (fun x=>(if x=t then 1 else 0) * y x) n=0
 | 0,_=>rfl
 | n+1,h=>by
  show kj (fun x=>(if x=t then 1 else 0) * y x) n+(if n=t then 1 else 0) * y n=0
  rw [qA y (by omega),if_neg (by omega)];grind
theorem lu{t:Nat}(y:Nat→Rat):∀{n:Nat},t < n→kj (fun x=>(if x=t then 1 else 0) * y x) n=y t
 | 0,h=>absurd h (abe _)
 | n+1,h=>by
  show kj (fun x=>(if x=t then 1 else 0) * y x) n+(if n=t then 1 else 0) * y n=y t
  by_cases e:n=t
  ·subst e;rw [qA y (Nat.le_refl _),if_pos rfl];grind
  ·rw [lu y (by omega),if_neg e];grind
theorem iL(f:Nat→Int):∀n,((Bz.aA f n:Int):Rat)=kj (fun i=>(f i:Rat)) n
 | 0=>rfl
 | n+1=>by
  show ((Bz.aA f n+f n:Int):Rat)=kj (fun i=>(f i:Rat)) n+f n
  rw [Rat.intCast_add,iL f n]
def ab(q:Rat):Rat:=if q < 0 then -q else q
theorem jZ{x m:Rat}:ab x≤m↔ -m≤x∧x≤m:=by unfold ab;split <;> grind
theorem FU(x:Rat):0≤ab x:=by unfold ab;split <;> grind
theorem yP(x:Nat→Rat):∀n,∃i,i < n+1∧∀j,j < n+1→ab (x j)≤ab (x i)
 | 0=>⟨0,by omega,fun j hj=>by rw [show j=0 by omega];grind⟩
 | n+1=>by
  obtain ⟨i,hi,h⟩:=yP x n
  by_cases c:ab (x i)≤ab (x (n+1))
  ·refine ⟨n+1,by omega,fun j hj=> ?_⟩
   by_cases e:j=n+1
   ·subst e;grind
   ·have:=h j (by omega);grind
  ·refine ⟨i,by omega,fun j hj=> ?_⟩
   by_cases e:j=n+1
   ·subst e;grind
   ·exact h j (by omega)
theorem yT{n:Nat}{x:Nat→Rat}{s c:Rat}(s1:s < 1)(h:∀i,i < n→∀m,(∀j,j < n→ab (x j)≤m)→ab (x i)≤c+s * m):∀i,i < n→ab (x i) * (1 - s)≤c:=fun i hi=>by
 obtain ⟨k,rfl⟩:∃k,n=k+1:=⟨n - 1,by omega⟩
 obtain ⟨t,ht,ht2⟩:=yP x k
 have h1:=h t ht _ ht2
 have h2:=ht2 i hi
 have:=Rat.mul_le_mul_of_nonneg_right h2 (show 0≤1 - s by grind)
 grind
theorem ko{f g:DrG→Rat}:∀{ds:List DrG},(∀d∈ds,f d=g d)→bY f ds=bY g ds
 | [],_=>rfl
 | d::ds,h=>by
  show f d+bY f ds=g d+bY g ds
  rw [h d aae,ko fun x hx=>h x (aad _ hx)]
theorem qP(f g:DrG→Rat):∀ds:List DrG,bY (fun d=>f d - g d) ds=bY f ds - bY g ds
 | []=>by show (0:Rat)=0 - 0;grind
 | d::ds=>by
  show (f d - g d)+bY (fun d=>f d - g d) ds=(f d+bY f ds) - (g d+bY g ds)
  rw [qP f g ds];grind
abbrev cV(d:DrG):Rat:=val (aj d)
structure zH(n:Nat)(ways:List DrG):Prop where
 to:∀d∈ways,0≤d.1∧d.1 < n
 c0:∀d∈ways,0≤cV d
 one:bY cV ways≤1
theorem vp{n:Nat}{y:Nat→Rat}{m:Rat}(hm:∀j,j < n→ab (y j)≤m):∀{ways:List DrG},(∀d∈ways,0≤d.1∧d.1 < n)→(∀d∈ways,0≤cV d)→ab (bY (fun d=>cV d * y d.1.toNat) ways)≤bY cV ways * m
 | [],_,_=>by show ab 0≤0 * m;unfold ab;rw [if_neg (by grind)];grind
 | d::ways,h1,h2=>by
  have i:=vp hm (fun x hx=>h1 x (aad _ hx)) (fun x hx=>h2 x (aad _ hx))
  obtain ⟨a,b⟩:=h1 d aae
  have c:=h2 d aae
  have y1:=jZ.mp (hm d.1.toNat (by omega))
  show ab (cV d * y d.1.toNat+bY (fun d=>cV d * y d.1.toNat) ways)≤(cV d+bY cV ways) * m
  have e1:=aaO y1.1 c
  have e2:=aaO y1.2 c
  have i:=jZ.mp i
  refine jZ.mpr ⟨?_, ?_⟩ <;> grind
theorem tS{n:Nat}{ways:List DrG}(w:zH n ways)(n0:0 < n){y:Nat→Rat}{m:Rat}(hm:∀j,j < n→ab (y j)≤m):ab (bY (fun d=>cV d * y d.1.toNat) ways)≤m:=by
 have:=vp hm w.to w.c0
 have m0:0≤m:=by have:=hm 0 n0;have:=FU (y 0);grind
 have:=abB w.one m0
 grind
theorem yN{B:Int}{c:Fr}(h:0 < c.2)(hd:c.2∣B):((oC B c:Int):Rat)=val c * B:=by
 obtain ⟨k,rfl⟩:=hd
 unfold oC val
 rw [aa5 _ (by omega),aaC,aaC]
 have:=aP (show c.2≠0 by omega)
 generalize (c.1:Rat)=a at *
 generalize (c.2:Rat)=b at *
 generalize (k:Rat)=e at *
 grind
theorem yM{B:Int}:∀{ds:List DrG},(∀d∈ds,0 < (aj d).2∧(aj d).2∣B)→((((ds.map aj).map (oC B)).sum:Int):Rat)=bY cV ds * B
 | [],_=>by show ((0:Int):Rat)=0 * B;grind
 | d::ds,h=>by
  have i:=yM (ds:=ds) fun x hx=>h x (aad _ hx)
  obtain ⟨a,b⟩:=h d aae
  show (((oC B (aj d)+((ds.map aj).map (oC B)).sum:Int)):Rat)=(cV d+bY cV ds) * B
  rw [Rat.intCast_add,i,yN a b];grind
theorem j5{c:Fr}(h:0 < c.2)(h0:0≤c.1):0≤val c:=by
 have e:val c * (c.2:Rat)=c.1:=by
  have:=aP (show c.2≠0 by omega)
  unfold val
  generalize (c.1:Rat)=x at *
  generalize (c.2:Rat)=y at *
  grind
 have p:(0:Rat) < (c.2:Rat):=abH.mpr h
 have q:(0:Rat)≤(c.1:Rat):=aaV.mpr h0
 by_cases z:0≤val c
 ·exact z
 ·have:=Rat.mul_pos (show 0 < -val c by grind) p
  grind
theorem Bt{ds:List DrG}(o:BJ (ds.map aj)):bY cV ds=1∧∀d∈ds,0≤cV d:=by
 obtain ⟨_,_,hB⟩:=fE (ds.map aj) 1 0 (by decide) (ab2 _) fun c hc=>⟨(o.ok3.2 c hc).1,ab2 _⟩
 have hm:∀d∈ds,aj d∈ds.map aj:=fun d hd=>aan.mpr ⟨d,hd,rfl⟩
 have e:=yM (B:=dz (ds.map aj)) (ds:=ds) fun d hd=>⟨(o.ok3.2 _ (hm d hd)).1,hB _ (hm d hd)⟩
 rw [o.sum] at e
 have b0:=aP (show dz (ds.map aj)≠0 by have:=o.b0;omega)
 refine ⟨?_,fun d hd=> ?_⟩
 ·generalize ((dz (ds.map aj):Int):Rat)=b at *
  grind
 ·refine j5 (o.ok3.2 _ (hm d hd)).1 ?_
  have p:=o.pos _ (hm d hd)
  unfold oC at p
  have q0:0≤dz (ds.map aj) / (aj d).2:=Int.ediv_nonneg (aag o.b0) (aag (o.ok3.2 _ (hm d hd)).1)
  rcases abX (aj d).1 0 with z | z
  ·have:=Int.mul_nonpos_of_nonpos_of_nonneg (aag z) q0
   omega
  ·exact z
theorem tT{p q:Fr}(hp:0 < p.2)(hq:0 < q.2):val (fM p q)=val p - val q:=by
 unfold fM
 rw [gp (aa9 (aaB hp hq))]
 have h1:=aP (show p.2≠0 by omega)
 have h2:=aP (show q.2≠0 by omega)
 rw [Rat.intCast_sub,aaC,aaC,aaC]
 unfold val
 generalize (p.1:Rat)=a at *
 generalize (p.2:Rat)=b at *
 generalize (q.1:Rat)=c at *
 generalize (q.2:Rat)=d at *
 grind
theorem sV{p q:Fr}{E:Int}(hp:0 < p.2)(hq:0 < q.2)(h:jN p E)(h':jN q E):jN (fM p q) E:=by
 obtain ⟨N,e⟩:=h
 obtain ⟨N',e'⟩:=h'
 unfold fM
 exact jy (N:=N - N') (Int.ne_of_gt (Int.mul_pos hp hq)) (by grind)
theorem wO{p q:Fr}{C D:Int}(hp:0 < p.2)(hq:0 < q.2)(h:d7 p C)(h':d7 q D):d7 (fM p q) (C+D):=by
 unfold fM
 have a:=bP h.1 (aag hq)
 have b:=bP h'.1 (aag hp)
 have c:=bP h.2 (aag hq)
 have d:=bP h'.2 (aag hp)
 refine iG (aaB hp hq) ?_ ?_
 ·have e:p.2 * q.2 * (C+D)=p.2 * C * q.2+q.2 * D * p.2:=by grind
  have e2: -(q.2 * D) * p.2= -(q.2 * D * p.2):=by grind
  omega
 ·have e: -(p.2 * q.2 * (C+D))= -(p.2 * C) * q.2+ -(q.2 * D * p.2):=by grind
  omega
structure Nr(E C:Int)(p:Fr):Prop where
 red:Red p
 he:jN p E
 ab:d7 p C
structure jJ(n:Nat)(E C:Int)(v:Nat→Rat)(ns:List Fr):Prop where
 len:ns.length=n
 nr:∀x,x < n→Nr E C (ns.getD x (0,1))
 val:∀x,x < n→val (ns.getD x (0,1))=v x
def uf(share:Fr)(ns:List Fr)(d:DrG):List Fr:=ns.set d.1.toNat (fM (ns.getD d.1.toNat (0,1)) (bc share (aj d)))
def fX(share:Fr)(n i:Nat)(ways:List DrG):List Fr:=ways.foldl (uf share) ((List.replicate n ((0,1):Fr)).set i (1,1))
theorem Hz{E C:Int}(c:0≤C):Nr E C (0,1):=⟨⟨by decide,by decide⟩,⟨0,by simp⟩,⟨by show (0:Int)≤1 * C;omega,by show -(1 * C)≤(0:Int);omega⟩⟩
theorem Hy{E:Int}:Nr E 1 (1,1):=⟨⟨by decide,by decide⟩,⟨E,by simp⟩,⟨by decide,by decide⟩⟩
theorem qu{ns:List Fr}{t x:Nat}{a:Fr}(h:t < ns.length):(ns.set t a).getD x (0,1)=if x=t then a else ns.getD x (0,1):=by
 rw [aab,List.getElem?_set]
 by_cases e:x=t
 ·subst e;rw [if_pos rfl,if_pos h,if_pos rfl];rfl
 ·rw [if_neg (Ne.symm e),if_neg e,←aab]
theorem zd{n i:Nat}{E:Int}(hi:i < n):jJ n E 1 (fun x=>if x=i then 1 else 0) ((List.replicate n ((0,1):Fr)).set i (1,1)):=by
 have g:∀x,((List.replicate n ((0,1):Fr)).set i (1,1)).getD x (0,1)=if x=i then (1,1) else (0,1):=fun x=>by
  rw [qu (by simpa using hi)]
  congr 1
  rw [aab,abC];split <;> rfl
 refine ⟨by simp,fun x _=> ?_,fun x _=> ?_⟩
 ·rw [g];split
  ·exact Hy
  ·exact Hz (by decide)
 ·rw [g]
  show Pg.val (if x=i then (1,1) else (0,1))=if x=i then 1 else 0
  unfold Pg.val
  split
  ·show ((1:Int):Rat) / ((1:Int):Rat)=1;grind
  ·show ((0:Int):Rat) / ((1:Int):Rat)=0;grind
structure ShC(share:Fr)(E:Int)(d:DrG):Prop where
 s0:0 < share.2
 su:fA share
 c0:0 < (aj d).2
 cu:fA (aj d)
 he:jN (bc share (aj d)) E
theorem ShC.nr{share:Fr}{E:Int}{d:DrG}(h:ShC share E d):Nr E 1 (bc share (aj d)):=by
 have p:=aaB h.s0 h.c0
 have u:=rW h.s0 h.c0 h.su h.cu
 have r:Red (bc share (aj d)):=cw (aa9 p)
 have rp:=r.pos
 obtain ⟨u1,u2⟩:=u
 exact ⟨r,h.he,⟨by omega,by omega⟩⟩
theorem qM{n:Nat}{share:Fr}{E C:Int}{v:Nat→Rat}{ns:List Fr}{d:DrG}(h:jJ n E C v ns)(c:0≤C)(hd:0≤d.1∧d.1 < n)(sc:ShC share E d):jJ n E (C+1) (fun x=>v x - Pg.val share * ((if d.1.toNat=x then 1 else 0) * cV d)) (uf share ns d):=by
 have ht:d.1.toNat < ns.length:=by rw [h.len];omega
 have k:=sc.nr
 have g:=fun x=>qu (x:=x) (a:=fM (ns.getD d.1.toNat (0,1)) (bc share (aj d))) ht
 refine ⟨by unfold uf;rw [List.length_set];exact h.len,fun x hx=> ?_,fun x hx=> ?_⟩
 ·unfold uf
  rw [g]
  have a:=h.nr x hx
  split
  ·rename_i e
   rw [←e]
   have p:=aaB a.red.pos k.red.pos
   exact ⟨cw (aa9 p),sV a.red.pos k.red.pos a.he k.he,wO a.red.pos k.red.pos a.ab k.ab⟩
  ·have:=aap (show C≤C+1 by omega) (aag a.red.pos)
   exact ⟨a.red,a.he,⟨abf a.ab.1 this,by have:=a.ab.2;omega⟩⟩
 ·unfold uf
  rw [g]
  have a:=h.nr x hx
  have b:=h.val x hx
  split
  ·rename_i e
   rw [←e,tT a.red.pos k.red.pos,b,mF sc.s0 sc.c0,if_pos rfl];grind
  ·rename_i e
   rw [b,if_neg (Ne.symm e)];grind
theorem ni{n:Nat}{share:Fr}{E:Int}:∀{ways:List DrG} {ns:List Fr} {v:Nat→Rat} {C:Int},(∀d∈ways,(0≤d.1∧d.1 < n)∧ShC share E d)→0≤C→jJ n E C v ns→jJ n E (C+ways.length) (fun x=>v x - Pg.val share * bY (fun d=>(if d.1.toNat=x then 1 else 0) * cV d) ways) (ways.foldl (uf share) ns)
 | [],ns,v,C,_,_,h=>by
  refine ⟨h.len,fun x hx=> ?_,fun x hx=> ?_⟩
  ·rw [List.length_nil,Int.natCast_zero,Int.add_zero];exact h.nr x hx
  ·show _=v x - Pg.val share * 0
   rw [show v x - Pg.val share * 0=v x by grind];exact h.val x hx
 | d::ways,ns,v,C,hw,c,h=>by
  obtain ⟨h1,h2⟩:=hw d aae
  have i:=ni (ways:=ways) (fun x hx=>hw x (aad _ hx)) (by omega) (qM h c h1 h2)
  rw [abK,aat,show C+((ways.length+1:Nat):Int)=C+1+ways.length by omega]
  refine ⟨i.len,i.nr,fun x hx=> ?_⟩
  rw [i.val x hx]
  show v x - Pg.val share * ((if d.1.toNat=x then 1 else 0) * cV d) - Pg.val share * bY (fun d=>(if d.1.toNat=x then 1 else 0) * cV d) ways=v x - Pg.val share * ((if d.1.toNat=x then 1 else 0) * cV d+bY (fun d=>(if d.1.toNat=x then 1 else 0) * cV d) ways)
  grind
def vW(s:Rat)(i:Nat)(ways:List DrG)(x:Nat):Rat:=(if x=i then 1 else 0) - s * bY (fun d=>(if d.1.toNat=x then 1 else 0) * cV d) ways
theorem AM{n i:Nat}{share:Fr}{E:Int}{ways:List DrG}(hi:i < n)(hw:∀d∈ways,(0≤d.1∧d.1 < n)∧ShC share E d):jJ n E (1+ways.length) (vW (Pg.val share) i ways) (fX share n i ways):=ni hw (by decide) (zd hi)
theorem yO{n i:Nat}{s:Rat}(hi:i < n)(y:Nat→Rat):∀{ways:List DrG},(∀d∈ways,0≤d.1∧d.1 < n)→kj (fun x=>vW s i ways x * y x) n=y i - s * bY (fun d=>cV d * y d.1.toNat) ways
 | [],_=>by
  rw [cJ (g:=fun x=>(if x=i then 1 else 0) * y x) fun x _=>by show ((if x=i then 1 else 0) - s * 0) * y x=_;grind]
  rw [lu y hi]
  show y i=y i - s * 0
  grind
 | d::ways,h=>by
  obtain ⟨a,b⟩:=h d aae
  have ih:=yO (s:=s) hi y (ways:=ways) fun x hx=>h x (aad _ hx)
  rw [cJ (g:=fun x=>1 * (vW s i ways x * y x) - (s * cV d) * ((if x=d.1.toNat then 1 else 0) * y x)) fun x _=>by
   show ((if x=i then 1 else 0) - s * ((if d.1.toNat=x then 1 else 0) * cV d+bY (fun d=>(if d.1.toNat=x then 1 else 0) * cV d) ways)) * y x=1 * (((if x=i then 1 else 0) - s * bY (fun d=>(if d.1.toNat=x then 1 else 0) * cV d) ways) * y x) - (s * cV d) * ((if x=d.1.toNat then 1 else 0) * y x)
   by_cases e:x=d.1.toNat
   ·rw [if_pos e,if_pos e.symm];grind
   ·rw [if_neg e,if_neg (Ne.symm e)];grind]
  rw [lq,ih,lu y (show d.1.toNat < n by omega)]
  show _=y i - s * (cV d * y d.1.toNat+bY (fun d=>cV d * y d.1.toNat) ways)
  grind
def iI(ns:List Fr):List Int:=ns.map fun c=>c.1 * (dz ns / c.2)
theorem qm{ns:List Fr}{E C:Int}(h:∀c∈ns,Nr E C c)(e0:0 < E)(c0:0≤C):0 < dz ns∧dz ns≤E∧∀c∈ns,((oC (dz ns) c:Int):Rat)=val c * (dz ns:Int)∧ -(C * E)≤oC (dz ns) c∧oC (dz ns) c≤C * E:=by
 have b0:0 < dz ns:=cZ ns 1 (by decide) fun c hc=>(h c hc).red.pos
 obtain ⟨d1,_,d3⟩:=fE ns 1 E (by decide) (Int.one_dvd _) fun c hc=>⟨(h c hc).red.pos,oV (h c hc).red (h c hc).he⟩
 have le:=abE e0 d1
 refine ⟨b0,le,fun c hc=>⟨yN (h c hc).red.pos (d3 c hc), ?_⟩⟩
 have hd:=d3 c hc
 have cp:=(h c hc).red.pos
 obtain ⟨a1,a2⟩:=(h c hc).ab
 have le:dz ns≤E:=le
 have b0:0 < dz ns:=b0
 generalize hL:dz ns=L at *
 have hd:c.2∣L:=by rw [←hL];exact hd
 obtain ⟨k,rfl⟩:=hd
 unfold oC
 rw [aa5 _ (by omega)]
 have k0:0≤k:=by
  rcases abX k 0 with z | z
  ·have:=abx cp z;omega
  ·exact z
 have m1:=bP a1 k0
 have m2:=bP a2 k0
 have m3:=aap le c0
 have e1:c.2 * C * k=C * (c.2 * k):=by grind
 have e2: -(c.2 * C) * k= -(C * (c.2 * k)):=by grind
 exact ⟨by omega,by omega⟩
def oU(share:Fr)(n i:Nat)(ways:List DrG)(given:Fr):List Int:=iI (fX share n i ways++[given])
structure tF(share:Fr)(n:Nat)(E C:Int)(ways:List DrG)(given:Fr):Prop where
 wo:zH n ways
 sc:∀d∈ways,ShC share E d
 gn:Nr E C given
 e0:0 < E
 cl:1+(ways.length:Int)≤C
theorem vf{E C D:Int}{p:Fr}(h:Nr E C p)(l:C≤D):Nr E D p:=by
 have:=aap l (aag h.red.pos)
 obtain ⟨a,b⟩:=h.ab
 exact ⟨h.red,h.he,⟨by omega,by omega⟩⟩
theorem vV{ns:List Fr}{x:Nat}(h:x < ns.length):ns.getD x (0,1)∈ns:=by
 rw [aab,aaa h];exact aaA h
theorem uA{share:Fr}{n i:Nat}{E C:Int}{ways:List DrG}{given:Fr}(hi:i < n)(p:tF share n E C ways given):(oU share n i ways given).length=n+1∧(∀x∈oU share n i ways given, -(C * E)≤x∧x≤C * E)∧∃L:Rat,0 < L∧(∀y:Nat→Rat,kj (fun x=>((oU share n i ways given).getD x 0:Rat) * y x) n=L * (y i - Pg.val share * bY (fun d=>cV d * y d.1.toNat) ways))∧((oU share n i ways given).getD n 0:Rat)=L * Pg.val given:=by
 have no:=AM hi fun d hd=>⟨p.wo.to d hd,p.sc d hd⟩
 have c0:0≤C:=by have:=p.cl;omega
 have all:∀c∈fX share n i ways++[given],Nr E C c:=fun c hc=>by
  rcases aaN.mp hc with z | z
  ·obtain ⟨x,hx,e⟩:=aa3 z
   have hx':x < n:=by rw [←no.len];exact hx
   have:=no.nr x hx'
   rw [aab,aaa hx] at this
   rw [←e];exact vf this p.cl
  ·rw [abh.mp z];exact p.gn
 obtain ⟨b0,bE,hb⟩:=qm all p.e0 c0
 have ln:(fX share n i ways).length=n:=no.len
 have at_:∀x,x < n+1→(oU share n i ways given).getD x 0=oC (dz (fX share n i ways++[given])) ((fX share n i ways++[given]).getD x (0,1)):=fun x hx=>by
  unfold oU iI
  have hx:x < (fX share n i ways++[given]).length:=by simp [ln];exact hx
  rw [aab,aak,aab,aaa hx];rfl
 have in_:∀x,x < n+1→(fX share n i ways++[given]).getD x (0,1)∈fX share n i ways++[given]:=fun x hx=>vV (by simp [ln];exact hx)
 refine ⟨by unfold oU iI;simp [ln],fun x hx=> ?_,((dz (fX share n i ways++[given]):Int):Rat), ?_,fun y=> ?_, ?_⟩
 ·unfold oU iI at hx
  obtain ⟨c,hc,rfl⟩:=aan.mp hx
  exact (hb c hc).2
 ·exact abH.mpr b0
 ·rw [cJ (g:=fun x=>((dz (fX share n i ways++[given]):Int):Rat) * (vW (Pg.val share) i ways x * y x) - 0 * 0) fun x hx=>by
   rw [at_ x (by omega),(hb _ (in_ x (by omega))).1]
   have:(fX share n i ways++[given]).getD x (0,1)=(fX share n i ways).getD x (0,1):=by
    rw [aab,aar (by rw [ln];exact hx),←aab]
   rw [this,no.val x hx];grind]
  rw [lq _ 0 (fun x=>vW (Pg.val share) i ways x * y x) (fun _=>0),yO hi y p.wo.to];grind
 ·rw [at_ n (by omega),(hb _ (in_ n (by omega))).1]
  have:(fX share n i ways++[given]).getD n (0,1)=given:=by
   rw [aab,aaw (by rw [ln];exact aah _),ln,Nat.sub_self];rfl
  rw [this];grind
structure Sys(share:Fr)(n:Nat)(B:Int)(ws:Nat→List DrG)(gv:Nat→Fr):Prop where
 n1:1≤n
 s0:0≤Pg.val share
 s1:Pg.val share < 1
 b1:1≤B
 plc:∀i,i < n→∃E C,tF share n E C (ws i) (gv i)∧C * E≤B
def jM(share:Fr)(n:Nat)(ws:Nat→List DrG)(gv:Nat→Fr):List (List Int):=(List.range n).map fun i=>oU share n i (ws i) (gv i)
section
variable{share:Fr}{n:Nat}{B:Int}{ws:Nat→List DrG}{gv:Nat→Fr}
theorem ud{k x:Nat}(h:k < n):Bz.arr (jM share n ws gv) k x=(oU share n k (ws k) (gv k)).getD x 0:=by
 unfold Bz.arr jM
 congr 1
 rw [aab,aak,aaF h];rfl
theorem gH:(jM share n ws gv).length=n:=by unfold jM;simp
theorem Sys.eq(S:Sys share n B ws gv){k:Nat}(hk:k < n):∃L:Rat,0 < L∧(∀y:Nat→Rat,kj (fun x=>(Bz.arr (jM share n ws gv) k x:Rat) * y x) n=L * (y k - Pg.val share * bY (fun d=>cV d * y d.1.toNat) (ws k)))∧(Bz.arr (jM share n ws gv) k n:Rat)=L * Pg.val (gv k):=by
 obtain ⟨E,C,p,_⟩:=S.plc k hk
 obtain ⟨_,_,L,l0,l1,l2⟩:=uA hk p
 refine ⟨L,l0,fun y=> ?_, ?_⟩
 ·rw [←l1 y]
  exact cJ fun x _=>by rw [ud hk]
 ·rw [ud hk];exact l2
theorem Sys.zero(S:Sys share n B ws gv){y:Nat→Rat}(h:∀k,k < n→y k=Pg.val share * bY (fun d=>cV d * y d.1.toNat) (ws k)):∀k,k < n→y k=0:=fun k hk=>by
 have:=yT (n:=n) (x:=y) (c:=0) S.s1 (fun i hi m hm=>by
  obtain ⟨E,C,p,_⟩:=S.plc i hi
  have w:=jZ.mp (tS p.wo (by omega) hm)
  have a:=aaO w.1 S.s0
  have b:=aaO w.2 S.s0
  rw [h i hi]
  refine jZ.mpr ⟨?_, ?_⟩ <;> grind) k hk
 have a0:=FU (y k)
 have s1:=S.s1
 have:ab (y k)=0:=by
  by_cases e:ab (y k)=0
  ·exact e
  ·have p:=Rat.mul_pos (show 0 < ab (y k) by grind) (show 0 < 1 - Pg.val share by grind)
   grind
 unfold ab at this
 split at this <;> grind
theorem Sys.ker(S:Sys share n B ws gv)(y:Bz.Row)(h:∀k,k < n→Bz.aA (fun x=>Bz.arr (jM share n ws gv) k x * y x) n=0):∀x,x < n→y x=0:=fun x hx=>by
 have:=S.zero (y:=fun x=>(y x:Rat)) (fun k hk=>by
  obtain ⟨L,l0,l1,_⟩:=S.eq hk
  have e:=congrArg (fun z:Int=>(z:Rat)) (h k hk)
  rw [iL,cJ (g:=fun x=>(Bz.arr (jM share n ws gv) k x:Rat) * (y x:Rat)) fun x _=>aaC _ _,l1 fun x=>(y x:Rat)] at e
  have e:L * ((y k:Rat) - Pg.val share * bY (fun d=>cV d * (y d.1.toNat:Rat)) (ws k))=0:=e
  rcases Rat.mul_eq_zero.mp e with z | z
  ·grind
  ·grind) x hx
 exact Rat.intCast_eq_zero_iff.mp this
theorem Sys.bd(S:Sys share n B ws gv):Bz.Bd (Bz.arr (jM share n ws gv)) n (n+1) B:=⟨S.b1,fun k c hk hc=>by
 obtain ⟨E,C,p,hB⟩:=S.plc k hk
 obtain ⟨ln,hb,_⟩:=uA hk p
 rw [ud hk]
 have:=hb ((oU share n k (ws k) (gv k)).getD c 0) (by rw [aab,aaa (by omega)];exact aaA _)
 exact ⟨by omega,by omega⟩⟩
structure Tab(share:Fr)(n:Nat)(ws:Nat→List DrG)(gv:Nat→Fr)(tb:List Fr):Prop where
 len:tb.length=n
 red:∀i,i < n→Red (tb.getD i (0,1))
 eq:∀i,i < n→Pg.val (tb.getD i (0,1))=Pg.val (gv i)+Pg.val share * bY (fun d=>cV d * Pg.val (tb.getD d.1.toNat (0,1))) (ws i)
theorem Sys.uniq(S:Sys share n B ws gv){t t':List Fr}(h:Tab share n ws gv t)(h':Tab share n ws gv t'):t=t':=by
 have z:=S.zero (y:=fun x=>Pg.val (t.getD x (0,1)) - Pg.val (t'.getD x (0,1))) (fun k hk=>by
  rw [h.eq k hk,h'.eq k hk]
  rw [show (fun d:DrG=>cV d * (Pg.val (t.getD d.1.toNat (0,1)) - Pg.val (t'.getD d.1.toNat (0,1))))=fun d=>cV d * Pg.val (t.getD d.1.toNat (0,1)) - cV d * Pg.val (t'.getD d.1.toNat (0,1)) by funext d;grind,qP]
  grind)
 apply aa2
 ·rw [h.len,h'.len]
 ·intro i h1 h2
  have hi:i < n:=by rw [←h.len];exact h1
  have a:=h.red i hi
  have b:=h'.red i hi
  have c:=z i hi
  rw [aab,aaa h1] at a c
  rw [aab,aaa h2] at b c
  exact zX a b (by have c:Pg.val t[i] - Pg.val t'[i]=0:=c;grind)
theorem Sys.ex(S:Sys share n B ws gv)(n12:n≤12):∃(tb:List Fr) (z:Bz.Row) (N:Int),Bz.Sol (Bz.arr (jM share n ws gv)) n n z N∧N≠0∧(∀i,i < n→N * (tb.getD i (0,1)).1=z i * (tb.getD i (0,1)).2)∧Tab share n ws gv tb∧∀i,i < n→(tb.getD i (0,1)).2≤(12 * B) ^ n:=by
 obtain ⟨ρ,cols,q,d,W,t⟩:=Bz.dF.exists (A:=Bz.arr (jM share n ws gv)) (n:=n) n
 have hc:cols=List.range n:=by
  rcases t.all with e | ⟨x,h1,h2⟩
  ·exact e
  ·obtain ⟨z,z1,z2⟩:=t.kernel h1 h2
   have:=S.ker z z2 x h1
   rw [z1] at this
   exact absurd (by omega) t.d0
 have lr:ρ.length=n:=by rw [←t.st.lc,hc,aaT]
 have sol:=t.kvSol fun i h1 h2=>absurd h1 (by omega)
 have d0:=t.d0
 generalize hz:Bz.kvk (Bz.arr (jM share n ws gv)) n W cols n cols.length=z at *
 have g:∀i,i < n→((List.range n).map fun i=>bB (z i) d).getD i (0,1)=bB (z i) d:=fun i hi=>by
  rw [aab,aak,aaF hi];rfl
 refine ⟨(List.range n).map fun i=>bB (z i) d,z,d,sol,d0,fun i hi=> ?_,⟨by simp,fun i hi=> ?_,fun i hi=> ?_⟩,fun i hi=> ?_⟩
 ·rw [g i hi,←bN d0]
 ·rw [g i hi];exact cw d0
 ·obtain ⟨L,l0,l1,l2⟩:=S.eq hi
  obtain ⟨E,C,p,_⟩:=S.plc i hi
  have e:=congrArg (fun z:Int=>(z:Rat)) (sol i hi)
  rw [iL,cJ (g:=fun x=>(Bz.arr (jM share n ws gv) i x:Rat) * (z x:Rat)) fun x _=>aaC _ _,l1 fun x=>(z x:Rat),aaC,l2] at e
  rw [g i hi,gp d0]
  rw [ko (g:=fun dd=>(1 / (d:Rat)) * (cV dd * (z dd.1.toNat:Rat)) - 0) fun dd hdd=>by
   obtain ⟨a,b⟩:=p.wo.to dd hdd
   rw [g _ (by omega),gp d0]
   have:=aP d0
   grind]
  have sc:∀(k:Rat) (ds:List DrG),bY (fun dd=>k * (cV dd * (z dd.1.toNat:Rat)) - 0) ds=k * bY (fun dd=>cV dd * (z dd.1.toNat:Rat)) ds:=fun k ds=>by
   induction ds with
   | nil=>show (0:Rat)=k * 0;grind
   | cons a ds ih=>
    show k * (cV a * (z a.1.toNat:Rat)) - 0+bY (fun dd=>k * (cV dd * (z dd.1.toNat:Rat)) - 0) ds=k * (cV a * (z a.1.toNat:Rat)+bY (fun dd=>cV dd * (z dd.1.toNat:Rat)) ds)
    rw [ih];grind
  rw [sc]
  have:=aP d0
  have e:L * ((z i:Rat) - Pg.val share * bY (fun dd=>cV dd * (z dd.1.toNat:Rat)) (ws i))=(d:Rat) * (L * Pg.val (gv i)):=e
  have e2:(z i:Rat) - Pg.val share * bY (fun dd=>cV dd * (z dd.1.toNat:Rat)) (ws i)=(d:Rat) * Pg.val (gv i):=by
   have:L * ((z i:Rat) - Pg.val share * bY (fun dd=>cV dd * (z dd.1.toNat:Rat)) (ws i) - (d:Rat) * Pg.val (gv i))=0:=by grind
   rcases Rat.mul_eq_zero.mp this with y | y
   ·grind
   ·grind
  grind
 ·rw [g i hi]
  have ad:=t.st.absd S.bd (fun c hc'=>aam (t.cl c hc') (Nat.le_succ _)) (by omega)
  rw [lr] at ad
  have l:=iB (t:=z i) d0
  have q0:=cB (t:=z i) d0
  obtain ⟨a1,a2⟩:=ad
  omega
end
theorem Bi{d:DrG}{c:Fr}{M:Ms}{q:DQ}(e:d.2.2=[c])(h:q (frD c) M):fIx (drG d) (.int 2) M q:=by
 unfold drG
 rw [e]
 exact az (xs:=[.int d.1,frD d.2.1,frD c]) rfl (aB (j:=2) rfl) h
theorem kf{M:Ms}{k:Nat}{xs:List Dt}(h:M[k]? =some (MO.lst xs)):qv M (.loc k)=some xs:=by
 show (match M[k]? with | some (MO.lst xs)=>some xs | _=>none)=some xs
 rw [h]
theorem AO{E C:Int}{p:Fr}(h:Nr E C p)(e0:0 < E)(e1:E < 2 ^ 190)(c0:0≤C)(c1:C < 2 ^ 110):Sz 300 p:=BX (k:=190) (m:=110) h.red h.he e0 e1 h.ab c0 c1
def zI:DF:=fun as M q _=>∃(ns:List Fr) (E C:Int),as=[.lst (ns.map frD)]∧ns.length≤13∧(∀c∈ns,Nr E C c)∧0 < E∧E < 2 ^ 190∧0≤C∧C < 2 ^ 110∧q (ilD (iI ns)) M
theorem kg:ax ["numbers","bottom"] ["numbers"] (ah e9):=⟨rfl,rfl,rfl,by decide+kernel,rfl,by decide+kernel,by decide+kernel⟩
theorem pf{f:Addr}{fd:FuncData}(F:Fun K "whole_row" "whole_row" e9 f fd)(E:Ev K mg Cm CF CN){fCommonBottom:Addr}{dCommonBottom:FuncData}(c_CommonBottom:bU P w K mg base 2 "common_bottom" ["chances"] eR fCommonBottom dCommonBottom):bK P w K mg base (CX1 P w) 3 f fd ["numbers"] (spD K zI):=by
 refine F.okD kg (fun ds M q x h=> ?_) (fun cdv A outer s H E' hr=>⟨_,(ae (au (i:=1) kg.nd rfl (Or.inr rfl) (br c_CommonBottom hr ar (aa (jv 0) af (hs:=ao))))
   (ai (ay (fm (ys:=["bottom"]) (caps:=[1]) ⟨rfl,by decide+kernel,by decide+kernel,rfl,(by show∀p:Str×NameKind,p∈_→p.2=NameKind.free→List.lookup p.1 (ah e9).names=some .cell;decide+kernel),by decide+kernel,(by show∀q:Str×Nat,q∈_→(["numbers","bottom"]:List Str)[q.2]? =some q.1∧List.lookup q.1 (ah e9).names=some .cell∧_;decide+kernel),rfl⟩ (cG (jv 0)) (fun C s H fp=>(aO (aG (jv 0) av) (js (jv 1) (aG (jv 0) av)))))))),fun ds M q x h=> ?_⟩)
 ·obtain ⟨ns,E,C,rfl,_⟩:=h;rfl
 ·obtain ⟨ns,Ep,C,rfl,hz,hn,e0,e1,c0,c1,h⟩:=h
  obtain ⟨b0,bE,_⟩:=qm hn e0 c0
  have szn:∀c∈ns,Sz 300 c:=fun c hc=>AO (hn c hc) e0 e1 c0 c1
  have b2:∀c∈ns,c.2 < 2 ^ 200:=fun c hc=>by
   have:=abE e0 (oV (hn c hc).red (hn c hc).he)
   exact aax this (ab3 e1 (by decide))
  refine ⟨ns,rfl,⟨hz,fun c hc=>⟨(hn c hc).red.pos,b2 c hc⟩⟩, ?_⟩
  walk_at "vc"
  refine dW (i:=0) rfl rfl ⟨by rw [aac];exact aau hz (by decide), ?_⟩
  refine dZ (f:=fun d=> .int (match d with | .tup [.int a, .int b]=>a * (dz ns / b) | _=>0)) trivial (fun x hx q hq=> ?_) ?_
  ·obtain ⟨y,hy,rfl⟩:=aan.mp hx
   have s:=szn y hy
   have y0:=(hn y hy).red.pos
   refine ⟨⟨y0,cH s (by decide)⟩,⟨d8 s (by decide), ?_⟩,hq⟩
   exact tN (k:=190) (Int.ediv_nonneg (aag b0) (aag y0)) (aax (Int.ediv_le_self _ (aag b0)) (aax bE e1)) (by decide)
  ·rw [aaP,aaD]
   have e:ns.map ((fun d=>Dt.int (match d with | .tup [.int a, .int b]=>a * (dz ns / b) | _=>0)) ∘ frD)=(iI ns).map Dt.int:=by
    unfold iI
    rw [aaD];rfl
   rw [e];exact h
structure SzE(E C:Int):Prop where
 e1:E < 2 ^ 190
 c1:C < 2 ^ 110
def Ha(A:Addr):DF:=fun as M q _=>∃(share:Fr) (rows:List Rw) (i:Nat) (ways:List DrG) (given:Fr) (E C:Int),as=[cC A share rows, .int (i:Nat), .lst (ways.map drG),frD share,frD given]∧i < rows.length∧rows.length≤12∧aU share=true∧(∀d∈ways,∃c,d.2.2=[c])∧tF share rows.length E C ways given∧SzE E C∧(∀d∈ways,Sz 300 (aj d))∧∀E',q (ilD (oU share rows.length i ways given)) (M++E')
theorem kT:ax ["floor","place","ways","share","given","numbers","way"] ["floor","place","ways","share","given"] (ah oQ):=⟨rfl,rfl,rfl,by decide+kernel,rfl,by decide+kernel,by decide+kernel⟩
theorem vb{f:Addr}{fd:FuncData}(F:Fun K "led_row" "led_row" oQ f fd)(E:Ev K mg Cm CF CN){fFloorSize:Addr}{dFloorSize:FuncData}(c_FloorSize:mv P w K mg base 1 Cm "size" ["self"] (yB Cm) fFloorSize dFloorSize){fMinus:Addr}{dMinus:FuncData}(c_Minus:bU P w K mg base 3 "minus" ["one","other"] zP fMinus dMinus){fTimes:Addr}{dTimes:FuncData}(c_Times:bU P w K mg base 3 "times" ["one","other"] wV fTimes dTimes){fWholeRow:Addr}{dWholeRow:FuncData}(c_WholeRow:bU P w K mg base 3 "whole_row" ["numbers"] zI fWholeRow dWholeRow):bK P w K mg base (CX1 P w) 5 f fd ["floor","place","ways","share","given"] (spD K (Ha Cm)):=by
 refine F.okD kT (fun ds M q x h=> ?_) (fun cdv A outer s H E' hr=>⟨_,(ae (au (i:=5) kT.nd rfl (Or.inl rfl) (vD (dI 3 (d:= .lst [.tup [.int 0, .int 1]]) (by rfl)) (jo c_FloorSize hr ar (jv 0))))
   (ae (gA (jv 5) (jv 1) (eU (aa av (aa av af (hs:=cD)) (hs:=cD))))
   (ae (eJ (cG (jv 2)) (aN (i:=6) kT.nd rfl (Or.inl rfl)) bR (ai (gA (jv 5) (aG (jv 6) av) (br c_Minus hr ar (aa (aG (jv 5) (aG (jv 6) av)) (aa (br c_Times hr ar (aa (jv 3) (aa (aG (jv 6) av) af (hs:=bL)) (hs:=ao))) af (hs:=bM)) (hs:=bL))))))
   (ai (ay (br c_WholeRow hr ar (aa (ju (jv 5) (jr (aa (jv 4) af (hs:=ao)))) af (hs:=bT)))))))),fun ds M q x h=> ?_⟩)
 ·obtain ⟨share,rows,i,ways,given,E,C,rfl,_⟩:=h;rfl
 ·obtain ⟨share,rows,i,ways,given,Ep,C,rfl,il,l12,hs,hone,p,sz,hcs,h⟩:=h
  have szs:=xr hs
  have e0:=p.e0
  have c0:0≤C:=by have:=p.cl;omega
  generalize hn:rows.length=n at *
  refine ⟨⟨_,_, .inl rfl,rfl⟩,share,rows,rfl, ?_⟩
  rw [hn]
  refine ⟨[frD (0,1)],n,rfl,rfl,by omega,by omega, ?_, ?_⟩
  ·show 1 * ((n:Int)).toNat≤sizeLine
   exact aau (show _≤12 by omega) (by decide)
  rw [show ((n:Int)).toNat=n by omega,lz]
  dsimp only [mT]
  walk_at "vc"
  refine ⟨by show 2≤sizeLine;decide, ?_⟩
  refine ⟨M.length,(i:Nat),_,i,rfl,rfl,aQ,by rw [aaK];exact nI il, ?_⟩
  rw [cn]
  have e00:(List.replicate n (frD (0,1))).set i (.tup [.int 1, .int 1])=((List.replicate n ((0,1):Fr)).set i (1,1)).map frD:=by
   rw [List.map_set,List.map_replicate];rfl
  rw [e00]
  dsimp only [uv,gB]
  walk_at "vc"
  refine cM (fun zs ρ' M'=>∃(don rest:List DrG) (ns:List Fr) (v:Nat→Rat) (o:Option Dt),ways=don++rest∧zs=rest.map drG∧ns=don.foldl (uf share) ((List.replicate n ((0,1):Fr)).set i (1,1))∧jJ n Ep (1+don.length) v ns∧M'=M++[MO.lst (ns.map frD)]∧ρ'=[some (cC Cm share rows),some (.int (i:Int)),some (.lst (ways.map drG)),some (frD share),some (frD given),some (.loc M.length),o]) (fun zs ρ' M' hj=>trivial) (fun x zs ρ' M' hj nxt=> ?_) (fun ρ' M' hj=> ?_) _ _ _ ⟨[],ways,_,_,none,rfl,rfl,rfl,zd il,rfl,rfl⟩
  ·obtain ⟨don,rest,ns,v,o,ew,ex,en,no,rfl,rfl⟩:=hj
   cases rest with
   | nil=>cases ex
   | cons d rest=>
    cases ex
    have dm:d∈ways:=by rw [ew];exact aav _ aae
    obtain ⟨t0,t1⟩:=p.wo.to d dm
    obtain ⟨c,hc⟩:=hone d dm
    have ec:aj d=c:=by unfold aj;rw [hc];rfl
    have sc:=p.sc d dm
    have szc:=hcs d dm
    have dl:1+(don.length:Int)≤C:=by
     have:=congrArg List.length ew
     rw [aai,aat] at this
     have:=p.cl
     omega
    have tl:d.1.toNat < ns.length:=by rw [no.len];omega
    have szn:=AO (vf (no.nr d.1.toNat (by omega)) dl) e0 sz.e1 c0 sz.c1
    have szt:=AO (vf sc.nr (show (1:Int)≤C by omega)) e0 sz.e1 c0 sz.c1
    have at_:atI (ns.map frD) d.1=some (frD (ns.getD d.1.toNat (0,1))):=by
     have:=Bb tl
     rw [show ((d.1.toNat:Nat):Int)=d.1 by omega] at this
     rw [this,aab,aaa tl];rfl
    have nx:∀o,_:=fun o=>nxt [some (cC Cm share rows),some (.int (i:Int)),some (.lst (ways.map drG)),some (frD share),some (frD given),some (.loc M.length),o] (M++[MO.lst ((uf share ns d).map frD)]) ⟨don++[d],rest,uf share ns d,_,o,by rw [ew];simp,rfl,by rw [List.foldl_append,←en];rfl,by
     have:=qM no (by omega) ⟨t0,t1⟩ sc
     rw [show 1+((don++[d]).length:Int)=1+(don.length:Int)+1 by simp;omega]
     exact this,rfl,rfl⟩
    dsimp only [gN,mT]
    walk_at "vc"
    refine Bj ?_
    refine (az (d:= .loc M.length) (kf aQ) at_ ?_:fIx (.loc M.length) (.int d.1) _ _)
    refine Bi hc ?_
    rw [←ec]
    refine ⟨share,aj d,11,300,rfl,szs,szc,by decide, ?_⟩
    refine ⟨_,_,300,300,rfl,szn,szt,by decide, ?_⟩
    refine Bj ?_
    refine ⟨M.length,d.1,_,d.1.toNat,rfl,rfl,aQ,by rw [aac];have:=nI tl;rwa [show ((d.1.toNat:Nat):Int)=d.1 by omega] at this, ?_⟩
    rw [cn]
    have:(ns.map frD).set d.1.toNat (frD (fM (ns.getD d.1.toNat (0,1)) (bc share (aj d))))=(uf share ns d).map frD:=by
     unfold uf;rw [List.map_set]
    rw [this]
    exact nx _
  ·obtain ⟨don,rest,ns,v,o,ew,ex,en,no,rfl,rfl⟩:=hj
   cases rest with
   | cons d rest=>cases ex
   | nil=>
    rw [aa7] at ew
    subst ew
    have en:ns=fX share n i ways:=en
    walk_at "vc"
    refine ⟨by show 1≤sizeLine;decide,ns.map frD,[frD given],fh aQ,rfl, ?_, ?_⟩
    ·rw [aac,no.len]
     exact aau (show n+1≤13 by omega) (by decide)
    refine ⟨ns++[given],Ep,C,by rw [aaZ];rfl,by rw [aai,no.len];show n+1≤13;omega,fun c hc=> ?_,e0,sz.e1,c0,sz.c1, ?_⟩
    ·rcases aaN.mp hc with z | z
     ·obtain ⟨x,hx,e⟩:=aa3 z
      have:=no.nr x (by rw [←no.len];exact hx)
      rw [aab,aaa hx] at this
      rw [←e];exact vf this p.cl
     ·rw [abh.mp z];exact p.gn
    rw [en]
    exact h _
theorem qB:∀(ps:List (Fr×Fr)) (w:Fr),Red w→(∀p∈ps,0 < p.1.2∧0 < p.2.2)→Red (ps.foldl (fun w p=>fJ w (bc p.1 p.2)) w)
 | [],w,h,_=>h
 | p::ps,w,h,hp=>by
  obtain ⟨a,b⟩:=hp p aae
  have t:Red (bc p.1 p.2):=cw (aa9 (aaB a b))
  exact qB ps _ (cw (aa9 (aaB h.pos t.pos))) fun x hx=>hp x (aad _ hx)
theorem mE:∀(ways:List DrG) (w:Fr),0 < w.2→(∀d∈ways,0 < (aj d).2∧0 < d.2.1.2)→val (((ways.map aj).zip (ways.map (·.2.1))).foldl (fun w p=>fJ w (bc p.1 p.2)) w)=val w+bY (fun d=>cV d * val d.2.1) ways
 | [],w,_,_=>by show val w=val w+0;grind
 | d::ways,w,h,hp=>by
  obtain ⟨a,b⟩:=hp d aae
  have t:Red (bc (aj d) d.2.1):=cw (aa9 (aaB a b))
  have u:Red (fJ w (bc (aj d) d.2.1)):=cw (aa9 (aaB h t.pos))
  have ih:=mE ways (fJ w (bc (aj d) d.2.1)) u.pos fun x hx=>hp x (aad _ hx)
  rw [aaI,aaI,aaQ,abK,ih,xo h t.pos,mF a b]
  show _=val w+(cV d * val d.2.1+bY (fun d=>cV d * val d.2.1) ways)
  grind
structure FW(share:Fr)(rows:List Rw)(X C:Int):Prop where
 pl:FZ share rows
 n1:1≤rows.length
 hnd:∀k ds,Rw.doors k ds∈rows→aK k=true→∀d∈ds,d.2.2=[]
 pay:∀k ds,Rw.doors k ds∈rows→∃E,0 < E∧E≤X∧∀d∈ds,Nr E C d.2.1
 fin:∀p,Rw.fin p∈rows→∃E,0 < E∧E≤X∧Nr E C p
 x1:X≤10 ^ 36
 c9:9≤C
 c1:C≤10 ^ 30
def fwB(X C:Int):Int:=6 * C * (1000000000 * X)
def wsF(acc:Pl)(i:Nat):Rw→List DrG
 | .fin _=>[]
 | .doors k ds=>bq acc i (.doors k ds)
def gvF(acc:Pl)(i:Nat):Rw→Fr
 | .fin p=>p
 | .doors k ds=>iJ (((bq acc i (.doors k ds)).map aj).zip ((bq acc i (.doors k ds)).map (·.2.1)))
def Ai(rows:List Rw)(i:Nat):Rw:=rows.getD i (.fin (0,1))
structure Ih(n:Nat)(B E C:Int)(d:DrG):Prop where
 to:0≤d.1∧d.1 < n
 one:d.2.2=[aj d]
 ch:Ch B (aj d)
 py:Nr E C d.2.1
section
variable{share:Fr}{rows:List Rw}{X C:Int}{acc:Pl}
theorem FW.ways(fw:FW share rows X C)(dk:xc rows acc){i:Nat}{k:Str}{ds:List DrG}(hi:rows[i]? =some (.doors k ds)):(bq acc i (.doors k ds)).length≤6∧bY cV (bq acc i (.doors k ds))=1∧(∀d∈bq acc i (.doors k ds),0≤cV d)∧∃B E,0 < B∧B≤1000000∧0 < E∧E≤X∧∀d∈bq acc i (.doors k ds),Ih rows.length B E C d:=by
 have rm:Rw.doors k ds∈rows:=aaj hi
 have dr:=fD fw.pl rm
 obtain ⟨E,e0,eX,hp⟩:=fw.pay k ds rm
 cases hh:aK k with
 | true=>
  obtain ⟨j,hj,jl⟩:=dk.hand i _ hi hh
  have jl:j < ds.length:=jl
  have gd:ds.getD j d0=ds[j]:=by rw [aab,aaa jl];rfl
  have dm:=aaA jl
  have e:bq acc i (.doors k ds)=[(ds[j].1,ds[j].2.1,[(1,1)])]:=by
   unfold bq
   rw [hj]
   show [((ds.getD ((j:Int)).toNat d0).1,(ds.getD ((j:Int)).toNat d0).2.1,(ds.getD ((j:Int)).toNat d0).2.2++[(1,1)])]=_
   rw [abL,gd,fw.hnd k ds rm hh _ dm];rfl
  have v1:cV (ds[j].1,ds[j].2.1,[((1,1):Fr)])=1:=by
   show ((1:Int):Rat) / ((1:Int):Rat)=1
   grind
  rw [e]
  refine ⟨by simp, ?_,fun d hd=> ?_,1,E,by decide,by decide,e0,eX,fun d hd=> ?_⟩
  ·show cV (ds[j].1,ds[j].2.1,[(1,1)])+0=1
   rw [v1];grind
  ·rw [List.mem_singleton.mp hd,v1];grind
  ·rw [abh.mp hd]
   refine ⟨dr.to ds[j] dm,rfl, ?_,hp ds[j] dm⟩
   show Ch 1 ((1,1):Fr)
   exact ⟨by decide,⟨1,by decide⟩,⟨by decide,by decide⟩,oH (k:=2) ⟨by decide,by decide,by decide⟩ (by decide)⟩
 | false=>
  have hc:k="chance"∧BJ (ds.map aj):=by
   rcases dr.kd with z | ⟨_,z⟩
   ·rw [z] at hh;cases hh
   ·exact z
  obtain ⟨rfl,co⟩:=hc
  have e:bq acc i (.doors "chance" ds)=ds:=by
   unfold bq
   rw [dk.oth i _ hi hh];rfl
  obtain ⟨s1,s2⟩:=Bt co
  rw [e]
  refine ⟨dr.l6,s1,s2,dz (ds.map aj),E,co.b0,co.b1,e0,eX,fun d hd=> ?_⟩
  obtain ⟨a,b,c,f⟩:=wC co (aan.mpr ⟨d,hd,rfl⟩)
  exact ⟨dr.to d hd,(dr.ro.2.2.1 rfl).1 d hd,⟨a,rh b,c,f⟩,hp d hd⟩
theorem CM{E C:Int}{p:Fr}(h:Nr E C p)(e0:0 < E)(e1:E≤10 ^ 36)(c0:0≤C)(c1:C≤10 ^ 30):Nb E C p:=AU h.red h.he h.ab ⟨e0,aax e1 (by decide),c0,aax c1 (by decide)⟩
theorem FW.sh(fw:FW share rows X C):0 < share.2∧share.2≤1000∧fA share∧0≤val share∧val share < 1∧1≤1000 * (1 - val share):=by
 have h:=fw.pl.sh
 obtain ⟨a,b,c⟩:=xw h
 unfold aU at h
 rw [aao,aao,decide_eq_true_iff,decide_eq_true_iff,decide_eq_true_iff] at h
 obtain ⟨h1,h2,h3⟩:=h
 have ev:val share * (share.2:Rat)=share.1:=by
  have:=aP (show share.2≠0 by omega)
  unfold val
  generalize (share.1:Rat)=x at *
  generalize (share.2:Rat)=y at *
  grind
 have p:(0:Rat) < (share.2:Rat):=abH.mpr a
 have q:(share.2:Rat)≤((1000:Int):Rat):=aaV.mpr b
 have r:(share.1:Rat)+((1:Int):Rat)≤(share.2:Rat):=by rw [←Rat.intCast_add];exact aaV.mpr (by omega)
 have q:(share.2:Rat)≤1000:=q
 have r:(share.1:Rat)+1≤(share.2:Rat):=r
 have lt:val share < 1:=by
  by_cases z:val share < 1
  ·exact z
  ·have:=Rat.mul_le_mul_of_nonneg_right (show 1≤val share by grind) (Rat.le_of_lt p)
   grind
 refine ⟨a,b,c,j5 a h1,lt, ?_⟩
 have:=Rat.mul_le_mul_of_nonneg_right q (show 0≤1 - val share by grind)
 grind
theorem FW.plc(fw:FW share rows X C)(dk:xc rows acc){i:Nat}{r:Rw}(hi:rows[i]? =some r):∃E,tF share rows.length E (6 * C) (wsF acc i r) (gvF acc i r)∧6 * C * E≤fwB X C∧SzE E (6 * C)∧(∀d∈wsF acc i r,∃c,d.2.2=[c])∧∀d∈wsF acc i r,Sz 300 (aj d):=by
 obtain ⟨s0,s1,su,_⟩:=fw.sh
 have c9:=fw.c9
 have c1:=fw.c1
 have x1:=fw.x1
 have rm:r∈rows:=aaj hi
 have mulB:∀E,E≤1000000000 * X→6 * C * E≤fwB X C:=fun E h=>aap h (by omega)
 cases r with
 | fin p=>
  obtain ⟨E,e0,eX,hp⟩:=fw.fin p rm
  exact ⟨E,⟨⟨fun _ z=>(nomatch z),fun _ z=>(nomatch z),by show (0:Rat)≤1;grind⟩,fun _ z=>(nomatch z),vf hp (by omega),e0,by show 1+0≤6 * C;omega⟩,mulB E (by omega),⟨Int.lt_of_le_of_lt eX (by omega),by omega⟩,fun _ z=>(nomatch z),fun _ z=>(nomatch z)⟩
 | doors k ds=>
  obtain ⟨l6,one,pos,B,E,b0,b1,e0,eX,hw⟩:=fw.ways dk hi
  show∃E,tF share rows.length E (6 * C) (bq acc i (.doors k ds)) (iJ (((bq acc i (.doors k ds)).map aj).zip ((bq acc i (.doors k ds)).map (·.2.1))))∧6 * C * E≤fwB X C∧SzE E (6 * C)∧(∀d∈bq acc i (.doors k ds),∃c,d.2.2=[c])∧∀d∈bq acc i (.doors k ds),Sz 300 (aj d)
  generalize hws:bq acc i (.doors k ds)=ws at *
  have be0:0 < B * E:=aaB b0 e0
  have be1:B * E≤1000000 * X:=aa6 b1 eX (aag e0) (by decide)
  have se0:0 < share.2 * (B * E):=aaB s0 be0
  have se1:share.2 * (B * E)≤1000 * (1000000 * X):=aa6 s1 be1 (aag be0) (by decide)
  have nb:=kQ (E:=E) (B:=B) (C:=C) b0 e0 (aax be1 (by omega)) (by omega) (by omega) ((ws.map aj).zip (ws.map (·.2.1))) (0,1) 0 (by rw [aaY,aac,aac];omega) (by rw [Int.natCast_zero,Int.zero_mul];exact GG) (fun p hp=>by
   obtain ⟨q1,q2⟩:=abd hp
   obtain ⟨d1,m1,x1⟩:=aan.mp q1
   obtain ⟨d2,m2,x2⟩:=aan.mp q2
   exact ⟨by rw [←x1];exact (hw d1 m1).ch,by rw [←x2];exact CM (hw d2 m2).py e0 (by omega) (by omega) c1⟩)
  have red:Red (iJ ((ws.map aj).zip (ws.map (·.2.1)))):=qB _ _ ⟨by decide,by decide⟩ fun p hp=>by
   obtain ⟨q1,q2⟩:=abd hp
   obtain ⟨d1,m1,x1⟩:=aan.mp q1
   obtain ⟨d2,m2,x2⟩:=aan.mp q2
   exact ⟨by rw [←x1];exact (hw d1 m1).ch.pos,by rw [←x2];exact (hw d2 m2).py.red.pos⟩
  refine ⟨share.2 * (B * E),⟨⟨fun d hd=>(hw d hd).to,pos,by rw [one];grind⟩,fun d hd=>⟨s0,su,(hw d hd).ch.pos,(hw d hd).ch.u, ?_⟩,⟨red, ?_, ?_⟩,se0,by omega⟩,mulB _ (by omega),⟨Int.lt_of_le_of_lt se1 (by omega),by omega⟩,fun d hd=>⟨_,(hw d hd).one⟩,fun d hd=>(hw d hd).ch.sz⟩
  ·have:=rf E (kC s0 (hw d hd).ch.pos (vM share) (hw d hd).ch.he)
   rwa [Int.mul_assoc] at this
  ·have:=rf share.2 nb.he
   rwa [aaL] at this
  ·refine DV red.pos nb.ab ?_
   refine aay ?_ (by omega)
   rw [aaY,aac,aac];omega
theorem uw{i:Nat}(h:i < rows.length):rows[i]? =some (Ai rows i):=by
 unfold Ai
 rw [aab,aaa h];rfl
abbrev wsA(rows:List Rw)(acc:Pl)(i:Nat):List DrG:=wsF acc i (Ai rows i)
abbrev gvA(rows:List Rw)(acc:Pl)(i:Nat):Fr:=gvF acc i (Ai rows i)
theorem FW.sys(fw:FW share rows X C)(dk:xc rows acc)(b1:1≤fwB X C):Sys share rows.length (fwB X C) (wsA rows acc) (gvA rows acc):=by
 obtain ⟨_,_,_,v0,v1,_⟩:=fw.sh
 refine ⟨fw.n1,v0,v1,b1,fun i hi=> ?_⟩
 obtain ⟨E,p,l,_⟩:=fw.plc dk (uw hi)
 exact ⟨E,_,p,l⟩
structure Wth(share:Fr)(rows:List Rw)(acc:Pl)(tb:List Fr):Prop where
 tab:Tab share rows.length (wsA rows acc) (gvA rows acc) tb
 bot:∀i,i < rows.length→(tb.getD i (0,1)).2 < 2 ^ 1030
end
def zL(A:Addr):DF:=fun as M q _=>∃share rows i r k acc X C,as=[cC A share rows, .int (i:Nat), .loc k]∧M[k]? =some (dP acc)∧rows[i]? =some r∧xc rows acc∧FW share rows X C∧∀E',q (ilD (oU share rows.length i (wsF acc i r) (gvF acc i r))) (M++E')
theorem oJ:ax ["floor","place","doors","ways","paid"] ["floor","place","doors"] (ah iO):=⟨rfl,rfl,rfl,by decide+kernel,rfl,by decide+kernel,by decide+kernel⟩
theorem xS{f:Addr}{fd:FuncData}(F:Fun K "row_of" "row_of" iO f fd)(E:Ev K mg Cm CF CN){fFloorKind:Addr}{dFloorKind:FuncData}(c_FloorKind:mv P w K mg base 1 Cm "kind" ["self","place"] (tE Cm) fFloorKind dFloorKind){fLedRow:Addr}{dLedRow:FuncData}(c_LedRow:bU P w K mg base 5 "led_row" ["floor","place","ways","share","given"] (Ha Cm) fLedRow dLedRow){fFloorPay:Addr}{dFloorPay:FuncData}(c_FloorPay:mv P w K mg base 2 Cm "pay" ["self","place"] (G8 Cm) fFloorPay dFloorPay){fFloorShare:Addr}{dFloorShare:FuncData}(c_FloorShare:mv P w K mg base 1 Cm "share" ["self"] (zK Cm) fFloorShare dFloorShare){fWaysFrom:Addr}{dWaysFrom:FuncData}(c_WaysFrom:bU P w K mg base 3 "ways_from" ["floor","place","doors"] (DZ Cm) fWaysFrom dWaysFrom){fWeighed:Addr}{dWeighed:FuncData}(c_Weighed:bU P w K mg base 4 "weighed" ["chances","numbers"] rO fWeighed dWeighed):bK P w K mg base (CX1 P w) 6 f fd ["floor","place","doors"] (spD K (zL Cm)):=by
 refine F.okD oJ (fun ds M q x h=> ?_) (fun cdv A outer s H E' hr=>⟨_,(ae (bu (gz hr (h7 c_FloorKind hr ar (jv 0) (aa (jv 1) af (hs:=ao))) kz) (ai (ay (br c_LedRow hr ar (aa (jv 0) (aa (jv 1) (aa (jr af) (aa (jo c_FloorShare hr ar (jv 0)) (aa (h7 c_FloorPay hr ar (jv 0) (aa (jv 1) af (hs:=ao))) af (hs:=bM)) (hs:=bM))) (hs:=ao)) (hs:=ao))))) aE)
   (ae (au (i:=3) oJ.nd rfl (Or.inl rfl) (br c_WaysFrom hr ar (aa (jv 0) (aa (jv 1) (aa (jv 2) af (hs:=ao)) (hs:=ao)) (hs:=ao))))
   (ae (au (i:=4) oJ.nd rfl (Or.inl rfl) (br c_Weighed hr ar (aa (fm (ys:=[]) (caps:=[]) ⟨rfl,by decide+kernel,by decide+kernel,rfl,(by show∀p:Str×NameKind,p∈_→p.2=NameKind.free→List.lookup p.1 (ah iO).names=some .cell;decide+kernel),by decide+kernel,(by show∀q:Str×Nat,q∈_→(["floor","place","doors","ways","paid"]:List Str)[q.2]? =some q.1∧List.lookup q.1 (ah iO).names=some .cell∧_;decide+kernel),rfl⟩ (cG (jv 3)) (fun C s H fp=>(aG (jv 0) av))) (aa (fm (ys:=[]) (caps:=[]) ⟨rfl,by decide+kernel,by decide+kernel,rfl,(by show∀p:Str×NameKind,p∈_→p.2=NameKind.free→List.lookup p.1 (ah iO).names=some .cell;decide+kernel),by decide+kernel,(by show∀q:Str×Nat,q∈_→(["floor","place","doors","ways","paid"]:List Str)[q.2]? =some q.1∧List.lookup q.1 (ah iO).names=some .cell∧_;decide+kernel),rfl⟩ (cG (jv 3)) (fun C s H fp=>(aG (jv 0) av))) af))))
   (ai (ay (br c_LedRow hr ar (aa (jv 0) (aa (jv 1) (aa (jv 3) (aa (jo c_FloorShare hr ar (jv 0)) (aa (jv 4) af (hs:=ao)) (hs:=bM)) (hs:=ao)) (hs:=ao)) (hs:=ao)))))))),fun ds M q x h=> ?_⟩)
 ·obtain ⟨share,rows,i,r,k,acc,X,C,rfl,_⟩:=h;rfl
 ·obtain ⟨share,rows,i,r,k,acc,X,C,rfl,hk,hi,dk,fw,h⟩:=h
  have il:=(aaf.mp hi).1
  have l12:=fw.pl.len
  have rm:r∈rows:=aaj hi
  have ro:=(fw.pl.row r rm).1
  obtain ⟨Ep,p,_,sz,one,szc⟩:=fw.plc dk hi
  have sl:∀{z:Nat},z≤1000→z≤sizeLine:=fun h=>aau h (by decide)
  refine ⟨⟨_,_, .inl rfl,rfl⟩,share,rows,i,r,rfl,hi, ?_⟩
  cases r with
  | fin pp=>
   refine ⟨fun _=> ?_,fun z=>(nomatch z)⟩
   walk_at "vc"
   refine ⟨sl (by decide), ?_⟩
   refine ⟨⟨_,_, .inl rfl,rfl⟩,share,rows,rfl, ?_⟩
   refine ⟨⟨_,_, .inl rfl,rfl⟩,share,rows,i, .fin pp,rfl,hi,ro, ?_⟩
   exact ⟨share,rows,i,[],pp,Ep,6 * C,rfl,il,l12,fw.pl.sh,one,p,sz,szc,h⟩
  | doors kd ds=>
   refine ⟨fun z=>absurd (of_decide_eq_true z) ro.1,fun _=> ?_⟩
   obtain ⟨l6,_,_,B,E,b0,b1,e0,eX,hw⟩:=fw.ways dk hi
   have c9:=fw.c9
   have c1:=fw.c1
   have x1:=fw.x1
   have h:∀E',q (ilD (oU share rows.length i (bq acc i (.doors kd ds)) (iJ (((bq acc i (.doors kd ds)).map aj).zip ((bq acc i (.doors kd ds)).map (·.2.1)))))) (M++E'):=h
   have p:tF share rows.length Ep (6 * C) (bq acc i (.doors kd ds)) (iJ (((bq acc i (.doors kd ds)).map aj).zip ((bq acc i (.doors kd ds)).map (·.2.1)))):=p
   have one:∀d∈bq acc i (.doors kd ds),∃c,d.2.2=[c]:=one
   have szc:∀d∈bq acc i (.doors kd ds),Sz 300 (aj d):=szc
   refine ⟨share,rows,i, .doors kd ds,k,acc,rfl,hk,hi,ro,dk, ?_⟩
   generalize bq acc i (.doors kd ds)=ws at *
   dsimp only [rK,gB]
   walk_at "vc"
   refine ⟨by rw [aac];exact sl (by omega), ?_⟩
   refine bZ (F:=fun x d=>x=drG d∧d∈ws) (f:=fun d=>frD (aj d)) (as:=ws) trivial (fun x d hx qq hq=> ?_) (fC drG ws ws fun x hx=>hx) ?_
   ·obtain ⟨rfl,hd⟩:=hx
    walk_at "vc"
    exact Bi (hw d hd).one hq
   rw [aaP]
   refine ⟨by rw [aac];exact sl (by omega), ?_⟩
   refine bZ (F:=fun x d=>x=drG d∧d∈ws) (f:=fun d=>frD d.2.1) (as:=ws) trivial (fun x d hx qq hq=> ?_) (fC drG ws ws fun x hx=>hx) ?_
   ·obtain ⟨rfl,hd⟩:=hx
    walk_at "vc"
    exact yr hq
   rw [aaP]
   refine ⟨ws.map aj,ws.map (·.2.1),E,B,C,by rw [aaD,aaD];rfl,by rw [aac];exact l6,b0,e0, ?_,by omega,by omega,fun c hc=> ?_,fun c hc=> ?_, ?_⟩
   ·have:B * E≤1000000 * X:=aa6 b1 eX (aag e0) (by decide)
    exact aax this (by omega)
   ·obtain ⟨d,hd,rfl⟩:=aan.mp hc
    exact (hw d hd).ch
   ·obtain ⟨d,hd,rfl⟩:=aan.mp hc
    exact CM (hw d hd).py e0 (by omega) (by omega) c1
   refine ⟨⟨_,_, .inl rfl,rfl⟩,share,rows,rfl, ?_⟩
   exact ⟨share,rows,i,ws,_,Ep,6 * C,rfl,il,l12,fw.pl.sh,one,p,sz,szc,h⟩
def G6(A:Addr):DF:=fun as M q _=>∃share rows k acc X C,as=[cC A share rows, .loc k]∧M[k]? =some (dP acc)∧xc rows acc∧FW share rows X C∧fwB X C≤2 ^ 450∧(12 * fwB X C) ^ rows.length < 2 ^ 1030∧∀tb,Wth share rows acc tb→q (.loc M.length) (M++[.lst (tb.map frD)])
theorem si:ax ["floor","doors"] ["floor","doors"] (ah e6):=⟨rfl,rfl,rfl,by decide+kernel,rfl,by decide+kernel,by decide+kernel⟩
theorem pe{f:Addr}{fd:FuncData}(F:Fun K "worths_by" "worths_by" e6 f fd)(E:Ev K mg Cm CF CN){fAnswerOf:Addr}{dAnswerOf:FuncData}(c_AnswerOf:bU P w K mg base 4 "answer_of" ["rows"] qg fAnswerOf dAnswerOf){fFloorSize:Addr}{dFloorSize:FuncData}(c_FloorSize:mv P w K mg base 1 Cm "size" ["self"] (yB Cm) fFloorSize dFloorSize){fRowOf:Addr}{dRowOf:FuncData}(c_RowOf:bU P w K mg base 6 "row_of" ["floor","place","doors"] (zL Cm) fRowOf dRowOf):bK P w K mg base (CX1 P w) 7 f fd ["floor","doors"] (spD K (G6 Cm)):=by
 refine F.okD si (fun ds M q x h=> ?_) (fun cdv A outer s H E' hr=>⟨_,(ai (ay (br c_AnswerOf hr ar (aa (C8 (ys:=["floor","doors"]) (caps:=[0,1]) ⟨rfl,by decide+kernel,by decide+kernel,rfl,(by show∀p:Str×NameKind,p∈_→p.2=NameKind.free→List.lookup p.1 (ah e6).names=some .cell;decide+kernel),by decide+kernel,(by show∀q:Str×Nat,q∈_→(["floor","doors"]:List Str)[q.2]? =some q.1∧List.lookup q.1 (ah e6).names=some .cell∧_;decide+kernel),rfl⟩ (cy E.n_range (aa (jo c_FloorSize hr ar (jv 0)) af (hs:=bM))) (fun C s H fp=>(da (br c_RowOf hr (gZ (P:=P) (w:=w)) (aa (jv 1) (aa (jv 0) (aa (jv 2) af (hs:=ao)) (hs:=ao)) (hs:=ao)))))) af)))),fun ds M q x h=> ?_⟩)
 ·obtain ⟨share,rows,k,acc,X,C,rfl,_⟩:=h;rfl
 ·obtain ⟨share,rows,k,acc,X,C,rfl,hk,dk,fw,b450,bsz,h⟩:=h
  have l12:=fw.pl.len
  have n1:=fw.n1
  have b1:1≤fwB X C:=by
   obtain ⟨E,p,l,_⟩:=fw.plc dk (uw (show 0 < rows.length by omega))
   have c9:=fw.c9
   have:=aap (show 1≤E by have:=p.e0;omega) (show 0≤6 * C by omega)
   omega
  have S:=fw.sys dk b1
  obtain ⟨tb,z,N,sol,n0,cross,tab,bot⟩:=S.ex l12
  have sl:∀{z:Nat},z≤1000→z≤sizeLine:=fun h=>aau h (by decide)
  walk_at "vc"
  dsimp only [DM]
  walk_at "vc"
  refine ⟨⟨_,_, .inl rfl,rfl⟩,share,rows,rfl, ?_⟩
  refine ⟨⟨by omega,by omega⟩,by rw [eC];exact sl (by omega), ?_⟩
  refine nZ (f:=fun x=>match x with | .int j=>ilD ((jM share rows.length (wsA rows acc) (gvA rows acc)).getD j.toNat []) | _=> .non) _ _ (fun x hxm q' hq=> ?_) ?_
  ·obtain ⟨j,hj,rfl⟩:=xy hxm
   have hj:j < rows.length:=by omega
   rw [Int.zero_add] at hq⊢
   have hq:q' (ilD ((jM share rows.length (wsA rows acc) (gvA rows acc)).getD j [])) M:=hq
   have e:(jM share rows.length (wsA rows acc) (gvA rows acc)).getD j []=oU share rows.length j (wsA rows acc j) (gvA rows acc j):=by
    unfold jM
    rw [aab,aak,aaF hj];rfl
   rw [e] at hq
   exact ⟨share,rows,j,Ai rows j,k,acc,X,C,rfl,hk,uw hj,dk,fw,fun E'=>jA (.old (eN _)) hq⟩
  have er:=Am (jM share rows.length (wsA rows acc) (gvA rows acc)) [] ilD
  rw [gH] at er
  rw [aaP,show ((rows.length:Int)).toNat=rows.length by omega]
  refine (fun (key:∀l,l=(jM share rows.length (wsA rows acc) (gvA rows acc)).map ilD→qg [.lst l] M q _)=>key _ er) fun l hl=> ?_
  subst hl
  have ln:∀r∈jM share rows.length (wsA rows acc) (gvA rows acc),r.length=rows.length+1:=fun r hr'=>by
   unfold jM at hr'
   obtain ⟨i,hi,rfl⟩:=aan.mp hr'
   obtain ⟨E,p,_⟩:=fw.plc dk (uw (aa0.mp hi))
   exact (uA (aa0.mp hi) p).1
  have bd:=S.bd
  refine ⟨jM share rows.length (wsA rows acc) (gvA rows acc),rows.length,fwB X C,tb,z,N,rfl,⟨by rw [gH];exact n1,by rw [gH];exact l12,l12,ln,by rw [gH];exact bd,b450⟩,n1,tab.len,by rw [gH];exact sol,n0,fun i hi=>⟨(tab.red i hi).pos,(tab.red i hi).low,cross i hi⟩,by rw [gH];exact S.ker, ?_⟩
  exact h tb ⟨tab,fun i hi=>aax (bot i hi) bsz⟩
def wR(A:Addr):DF:=fun as M q _=>∃share rows k1 k2 p1 p2 X C,as=[cC A share rows, .loc k1, .loc k2]∧M[k1]? =some (dP p1)∧M[k2]? =some (dP p2)∧FW share rows X C∧fwB X C≤2 ^ 450∧(12 * fwB X C) ^ rows.length < 2 ^ 1030∧(∀i,i < rows.length→h8 rows p1 p2 i=true)∧∀tb,Wth share rows (iq rows p1 p2 rows.length) tb→∀m1 m2,q (.loc (M.length+2)) (M++[m1,m2, .lst (tb.map frD)])
theorem sg:ax ["floor","plan_one","plan_other"] ["floor","plan_one","plan_other"] (ah iM):=⟨rfl,rfl,rfl,by decide+kernel,rfl,by decide+kernel,by decide+kernel⟩
theorem pd{f:Addr}{fd:FuncData}(F:Fun K "worths_of" "worths_of" iM f fd)(E:Ev K mg Cm CF CN){fWorthsBy:Addr}{dWorthsBy:FuncData}(c_WorthsBy:bU P w K mg base 7 "worths_by" ["floor","doors"] (G6 Cm) fWorthsBy dWorthsBy){fDoorsOf:Addr}{dDoorsOf:FuncData}(c_DoorsOf:bU P w K mg base 4 "doors_of" ["floor","plans"] (rR Cm) fDoorsOf dDoorsOf):bK P w K mg base (CX1 P w) 8 f fd ["floor","plan_one","plan_other"] (spD K (wR Cm)):=by
 refine F.okD sg (fun ds M q x h=> ?_) (fun cdv A outer s H E' hr=>⟨_,(ai (ay (br c_WorthsBy hr ar (aa (jv 0) (aa (br c_DoorsOf hr ar (aa (jv 0) (aa (A2 (jv 1) (jv 2)) af) (hs:=ao))) af (hs:=bM)) (hs:=ao))))),fun ds M q x h=> ?_⟩)
 ·obtain ⟨share,rows,k1,k2,p1,p2,X,C,rfl,_⟩:=h;rfl
 ·obtain ⟨share,rows,k1,k2,p1,p2,X,C,rfl,h1,h2,fw,b450,bsz,gd,h⟩:=h
  refine ⟨share,rows,M.length,p1,p2,rfl,⟨k1,k2,aQ,aM h1,aM h2⟩,fw.pl,gd, ?_⟩
  refine ⟨share,rows,_,_,X,C,rfl,aQ,Bh gd,fw,b450,bsz,fun tb wt=> ?_⟩
  have:=h tb wt (.dct [Sum.inr "one",Sum.inr "other"] [.loc k1, .loc k2]) (dP (iq rows p1 p2 rows.length))
  simpa [List.append_assoc] using this
theorem EZ{a b:Int}(h1: -(10 ^ 30)≤a)(h2:a≤10 ^ 30)(h3:b≤1000000):bo (a,b)=true:=by
 unfold bo
 have:(if a < 0 then -a else a)≤10 ^ 30:=by split <;> omega
 show (decide ((if a < 0 then -a else a)≤10 ^ 30)&&decide (b≤1000000))=true
 rw [decide_eq_true this,decide_eq_true h3];rfl
theorem uY{t b:Int}(h1: -(10 ^ 30)≤t)(h2:t≤10 ^ 30)(h0:0 < b)(h3:b≤1000000):bo (bB t b)=true:=by
 have l1:=rz (t:=t) (show b≠0 by omega)
 have l2:=iB (t:=t) (show b≠0 by omega)
 generalize bB t b=f at *
 obtain ⟨x,y⟩:=f
 have l1:x.natAbs≤t.natAbs:=l1
 have l2:y.natAbs≤b.natAbs:=l2
 exact EZ (by omega) (by omega) (by omega)
theorem se{t b:Int}(t0:0≤t)(t1:t < b)(hb1:b≤1000):aU (bB t b)=true:=by
 have hb0:0 < b:=by omega
 have l2:=iB (t:=t) (show b≠0 by omega)
 have q0:=cB (t:=t) (show b≠0 by omega)
 have hc:=bN (t:=t) (show b≠0 by omega)
 generalize bB t b=f at *
 obtain ⟨x,y⟩:=f
 have l2:y.natAbs≤b.natAbs:=l2
 have q0:0 < y:=q0
 have hc:t * y=b * x:=hc
 have x0:0≤x:=by
  rcases abX x 0 with z | z
  ·have:=abx hb0 z
   have:=aaR t0 (aag q0)
   omega
  ·exact z
 have x1:x < y:=by
  rcases abX x y with z | z
  ·exact z
  ·have h3:b * y≤b * x:=aap z (aag hb0)
   have h4:t * y < b * y:=Int.mul_lt_mul_of_pos_right t1 q0
   omega
 unfold aU
 show (decide (0≤x)&&(decide (x < y)&&decide (y≤1000)))=true
 rw [decide_eq_true x0,decide_eq_true x1,decide_eq_true (show y≤1000 by omega)];rfl
def nth(ns:List Int)(k:Int):Int:=ns.getD k.toNat 0
theorem CL{ns:List Int}{k:Int}(h0:0≤k)(h2:k < ns.length):atI (ns.map Dt.int) k=some (.int (nth ns k)):=by
 have e:(ns.map Dt.int)[k.toNat]? =some (.int (nth ns k)):=by
  rw [aak,aaa (show k.toNat < ns.length by omega)]
  unfold nth
  rw [aab,aaa (show k.toNat < ns.length by omega)]
  rfl
 have:=aB e
 rwa [show ((k.toNat:Nat):Int)=k by omega] at this
def Nm(n:Int):Prop:=0≤n∧n < 10 ^ 300
theorem p60:zU 10 60:=⟨by decide,by decide,by decide⟩
theorem p30:zU 10 30:=⟨by decide,by decide,by decide⟩
theorem p18:zU 10 18:=⟨by decide,by decide,by decide⟩
theorem p12:zU 10 12:=⟨by decide,by decide,by decide⟩
theorem p6:zU 10 6:=⟨by decide,by decide,by decide⟩
theorem i9{n:Int}(h:Nm n):Big n:=tN (k:=1000) h.1 (ab3 h.2 (by decide)) (by decide)
theorem ze{a b:Int}(h0:0 < b)(h1:b≤10 ^ 300):Nm (a % b):=⟨aaJ _ (by omega),Int.lt_of_lt_of_le (aaH _ h0) h1⟩
theorem vh{n b:Int}(h:Nm n)(h0:0 < b):Nm (n / b):=⟨Int.ediv_nonneg h.1 (aag h0),aax (Int.ediv_le_self _ h.1) h.2⟩
def TAt:DF:=fun as M q _=>∃(ns:List Int) (k:Int),as=[.scr ns, .int k]∧ns.length≤63∧0≤k∧k≤200∧∀n,Nm n→q (.int n) M
theorem kW:ax ["_law_script","_law_k","_law_mixed","_law_cell"] ["_law_script","_law_k"] (ah uu):=⟨rfl,rfl,rfl,by decide+kernel,rfl,by decide+kernel,by decide+kernel⟩
theorem xU{f:Addr}{fd:FuncData}(F:Fun K "_law_at" "_law_at" uu f fd)(E:Ev K mg Cm CF CN):bK P w K mg base (CX1 P w) 1 f fd ["_law_script","_law_k"] (spD K TAt):=by
 refine F.okD kW (fun ds M q x h=> ?_) (fun cdv A outer s H E' hr=>⟨_,(ae (bu (sT (jv 1) (cW E.n_len (aa (jv 0) af (hs:=ao)))) (ai (ay (bQ (aG (jv 0) (jv 1)) (aO (aO (aO (aO (g6 av av) (g6 av av)) (g6 av av)) (g6 av av)) (g6 av av))))) aE)
   (ae (au (i:=2) kW.nd rfl (Or.inl rfl) (cz av (aO av (cW E.n_len (aa (jv 0) af (hs:=ao))))))
   (ae (eJ (cG (da (pP (jv 0) av))) (aN (i:=3) kW.nd rfl (Or.inl rfl)) bR (ai (au (i:=2) kW.nd rfl (Or.inl rfl) (bQ (cz (aO (jv 2) av) (bQ (jv 3) (g6 av av))) av))))
   (ai (ay (bQ (aO (cz (jv 2) av) (cz (aO (jv 1) (jv 1)) av)) av)))))),fun ds M q x h=> ?_⟩)
 ·obtain ⟨ns,k,rfl,_⟩:=h;rfl
 ·obtain ⟨ns,k,rfl,nl,hk,k2,h⟩:=h
  have bk:Big k:=bg (k:=40) (by omega)
  have bl:Big (ns.length:Int):=bg (k:=40) (by omega)
  have b6:Big ((10:Int) ^ (60:Int).toNat):=bg (k:=210) (by decide)
  walk_at "vc"
  refine (aJ (d:= .scr ns) (xs:=ns.map .int) rfl ?_:ik [.scr ns] M _)
  rw [aac]
  refine ⟨fun h1=> ?_,fun h1=> ?_⟩
  ·have h1':k < ns.length:=of_decide_eq_true h1
   refine (az (d:= .scr ns) rfl (CL hk h1') ?_:fIx (.scr ns) (.int k) M _)
   exact ⟨p60,p60,⟨b6,b6⟩,p60,⟨bg (k:=410) (by decide),b6⟩,p60,⟨bg (k:=610) (by decide),b6⟩,p60,⟨bg (k:=810) (by decide),b6⟩,by decide,h _ (ze (by decide) (by decide))⟩
  ·refine (aJ (d:= .scr ns) (xs:=ns.map .int) rfl ?_:ik [.scr ns] M _)
   rw [aac]
   refine ⟨⟨bg (k:=40) (by decide),bl⟩, ?_⟩
   dsimp only [uv,gB,dFz,zD]
   walk_at "vc"
   refine ⟨ns.map .int,6,rfl,rfl, ?_⟩
   rw [←abZ]
   refine cR (eN _) ?_
   refine cM (fun zs ρ' M'=>M'=M∧∃(rest:List Int) (m:Int) (o:Option Dt),zs=rest.map Dt.int∧0≤m∧m < 2147483647∧ρ'=[some (.scr ns),some (.int k),some (.int m),o]) (fun zs ρ' M' hj=>trivial) (fun x zs ρ' M' hj nxt=> ?_) (fun ρ' M' hj=> ?_) _ _ _ ⟨rfl,_,_,none,rfl,by omega,by omega,rfl⟩
   ·obtain ⟨rfl,rest,m,o,ex,m0,m1,rfl⟩:=hj
    cases rest with
    | nil=>cases ex
    | cons c rest=>
     cases ex
     exact ⟨⟨bg (k:=40) (by omega),bg (k:=40) (by decide)⟩,p12,by decide,by decide,nxt _ _ ⟨rfl,rest,_,_,rfl,aaJ _ (by decide),aaH _ (by decide),rfl⟩⟩
   ·obtain ⟨rfl,rest,m,o,ex,m0,m1,rfl⟩:=hj
    have kk:0≤k * k∧k * k≤200 * 200:=⟨aaR hk hk,aa6 k2 k2 hk (by decide)⟩
    exact ⟨⟨bk,bk⟩,⟨bg (k:=40) (by omega),bg (k:=40) (by omega)⟩,by decide,h _ (ze (by decide) (by decide))⟩
def Xs(x:Int):Prop:=0≤x∧x < 2 ^ 110
def qe:DF:=fun as M q _=>∃(n:Int) (many:Nat),as=[.int n, .int (many:Nat)]∧Big n∧many≤60∧∀xs:List Int,xs.length=many→(∀x∈xs,Xs x)→q (.loc M.length) (M++[.lst (xs.map Dt.int)])
theorem dt:ax ["_law_number","_law_many","_law_some","_law_seed","_law_k"] ["_law_number","_law_many"] (ah gP):=⟨rfl,rfl,rfl,by decide+kernel,rfl,by decide+kernel,by decide+kernel⟩
theorem mY{f:Addr}{fd:FuncData}(F:Fun K "_law_stream" "_law_stream" gP f fd)(E:Ev K mg Cm CF CN):bK P w K mg base (CX1 P w) 1 f fd ["_law_number","_law_many"] (spD K qe):=by
 refine F.okD dt (fun ds M q x h=> ?_) (fun cdv A outer s H E' hr=>⟨_,(ae (au (i:=2) dt.nd rfl (Or.inl rfl) (jq af))
   (ae (au (i:=3) dt.nd rfl (Or.inl rfl) (cz (bQ (aO (jv 0) av) av) av))
   (ae (fk (cy E.n_range (aa (jv 1) af (hs:=ao))) (aN (i:=4) dt.nd rfl (Or.inl rfl)) bR (ae (au (i:=3) dt.nd rfl (Or.inl rfl) (bQ (cz (cz (aO (jv 3) av) (aO (jv 4) (jv 4))) av) av))
   (ai (eK (eL (jv 2) (aa (jv 3) af (hs:=ao)))))))
   (ai (ay (jv 2)))))),fun ds M q x h=> ?_⟩)
 ·obtain ⟨n,many,rfl,_⟩:=h;rfl
 ·obtain ⟨n,many,rfl,bn,m60,h⟩:=h
  refine ⟨by decide,⟨bn,bg (k:=20) (by decide)⟩,by decide, ?_⟩
  have s0:=aaJ (n * 69621) (show (2147483629:Int)≠0 by decide)
  have s1:=aaH (n * 69621) (show (0:Int) < 2147483629 by decide)
  dsimp only [tM]
  generalize n * 69621 % 2147483629=sd at *
  refine ⟨⟨by omega,by omega⟩, ?_⟩
  rw [show ((many:Int)).toNat=many by omega]
  refine bX (fun zs ρ' M'=>∃(i c:Nat) (xs:List Int) (sd:Int) (o:Option Dt),zs=gm (i:Int) c∧i+c=many∧xs.length=i∧(∀x∈xs,Xs x)∧0≤sd∧sd≤2147483647∧M'=M++[.lst (xs.map Dt.int)]∧ρ'=[some (.int n),some (.int (many:Int)),some (.loc M.length),some (.int sd),o]) (fun x zs ρ' M' hj nxt=> ?_) (fun ρ' M' hj=> ?_) _ _ _ ⟨0,many,[],sd+1,none,rfl,by omega,rfl,fun _ z=>(nomatch z),by omega,by omega,rfl,rfl⟩
  ·obtain ⟨i,c,xs,sd,o,ex,ic,xl,hx,d0,d1,rfl,rfl⟩:=hj
   obtain ⟨c',rfl,rfl,rfl⟩:=bI ex
   have i60:(i:Int) < 60:=by omega
   have ii:0≤(i:Int) * i∧(i:Int) * i≤60 * 60:=⟨aaR (by omega) (by omega),aa6 (by omega) (by omega) (by omega) (by decide)⟩
   refine ⟨⟨bg (k:=40) (by omega),bg (k:=20) (by decide)⟩,⟨bg (k:=20) (by omega),bg (k:=20) (by omega)⟩,by decide, ?_⟩
   have t0:=aaJ (sd * 48271+(i:Int) * i+7) (show (2147483647:Int)≠0 by decide)
   have t1:=aaH (sd * 48271+(i:Int) * i+7) (show (0:Int) < 2147483647 by decide)
   refine ⟨⟨_,_,rfl,aQ⟩,M.length,_,_,rfl,rfl,aQ, ?_, ?_⟩
   ·rw [aac,xl];exact aaM (show i≤60 by omega) (by decide)
   rw [cn]
   refine nxt _ _ ⟨i+1,c',xs++[(sd * 48271+(i:Int) * i+7) % 2147483647],_,_,by rw [Int.natCast_add];rfl,by omega,by simp [xl],fun y hy=> ?_,t0,Int.le_of_lt t1,by simp,rfl⟩
   rcases aaN.mp hy with z | z
   ·exact hx y z
   ·rw [abh.mp z];exact ⟨t0,ab3 t1 (by decide)⟩
  ·obtain ⟨i,c,xs,sd,o,ex,ic,xl,hx,d0,d1,rfl,rfl⟩:=hj
   have c0:c=0:=by
    have:=congrArg List.length ex
    rw [eC] at this;exact this.symm
   exact h xs (by omega) hx
def D3:DF:=fun as M q _=>∃t b:Int,as=[.int t, .int b]∧0 < b∧Big b∧q (frD (bB t b)) M
theorem fR:ax ["_law_top","_law_bottom","_law_one","_law_two"] ["_law_top","_law_bottom"] (ah gQ):=⟨rfl,rfl,rfl,by decide+kernel,rfl,by decide+kernel,by decide+kernel⟩
theorem mZ{f:Addr}{fd:FuncData}(F:Fun K "_law_lowest" "_law_lowest" gQ f fd)(E:Ev K mg Cm CF CN):bK P w K mg base (CX1 P w) 1 f fd ["_law_top","_law_bottom"] (spD K D3):=by
 refine F.okD fR (fun ds M q x h=> ?_) (fun cdv A outer s H E' hr=>⟨_,(ae (zj (i:=2) (j:=3) fR.nd rfl rfl (aa (yc E.n_abs (aa (jv 0) af (hs:=ao))) (aa (jv 1) af (hs:=ao)) (hs:=bM)))
   (ae (qW (nB hr (jv 3) av) (ai (zj (i:=2) (j:=3) fR.nd rfl rfl (aa (jv 3) (aa (bQ (jv 2) (jv 3)) af (hs:=bT)) (hs:=ao)))))
   (ai (ay (eU (aa (js (jv 0) (jv 2)) (aa (js (jv 1) (jv 2)) af (hs:=bT)) (hs:=bT))))))),fun ds M q x h=> ?_⟩)
 ·obtain ⟨t,b,rfl,_⟩:=h;rfl
 ·obtain ⟨t,b,rfl,h0,h1,h⟩:=h
  have ga:g (if t < 0 then -t else t) b=g t b:=by
   have:=Dj t b
   rwa [if_neg (show¬b < 0 by omega)] at this
  refine ⟨fun m ρ M'=>M'=M∧∃(x y:Int),ρ=[some (.int t),some (.int b),some (.int x),some (.int y)]∧0≤x∧0≤y∧g x y=g t b∧m=y.toNat,⟨_,rfl,_,_,rfl,by split <;> omega,by omega,ga,rfl⟩, ?_⟩
  rintro m ρ M' ⟨rfl,x,y,rfl,hx,hy,e,rfl⟩
  refine ⟨fun hb=> ?_,fun hb=> ?_⟩
  ·have hy0:y≠0:=by simpa using hb
   refine ⟨_,fun ρ' M2 h2=>h2, ?_⟩
   refine ⟨by omega,(x % y).toNat, ?_,rfl,y,x % y,rfl,hy,aaJ _ hy0, ?_,rfl⟩
   ·have:=aaH x (show 0 < y by omega)
    have:=aaJ x hy0
    omega
   ·rw [←abo x hy,zv (by omega)];exact e
  ·have hy0:y=0:=by simpa using hb
   subst hy0
   rw [zu hx] at e
   subst e
   have hg:0 < g t b:=vX (by omega)
   have hle:g t b≤b:=abE h0 (Int.gcd_dvd_right ..)
   have hb:Big (g t b):=aaM (show (g t b).natAbs≤b.natAbs by omega) h1
   have e:bB t b=(t / g t b,b / g t b):=by rw [Ba h0,abM _ (aag hg),abM _ (aag hg)]
   rw [e] at h
   exact ⟨⟨hg,hb⟩,⟨hg,hb⟩,(by show 2≤sizeLine;decide),h⟩
def D7:DF:=fun as M q _=>∃n:Int,as=[.int n]∧∀b,q (.bl b) M
theorem kU:ax ["_law_number"] ["_law_number"] (ah fe):=⟨rfl,rfl,rfl,by decide+kernel,rfl,by decide+kernel,by decide+kernel⟩
theorem jT{f:Addr}{fd:FuncData}(F:Fun K "_law_by_digits" "_law_by_digits" fe f fd)(E:Ev K mg Cm CF CN):bK P w K mg base (CX1 P w) 1 f fd ["_law_number"] (spD K D7):=by
 refine F.okD kU (fun ds M q x h=> ?_) (fun cdv A outer s H E' hr=>⟨_,(ai (ay (HI (jv 0) (g6 av av)))),fun ds M q x h=> ?_⟩)
 ·obtain ⟨n,rfl,_⟩:=h;rfl
 ·obtain ⟨n,rfl,h⟩:=h
  exact ⟨p18,h _⟩
def szD(ss:List Int):Dt:= .lst (ss.map Dt.int)
structure BD(ss:List Int):Prop where
 len:ss.length=5
 pos:∀s∈ss,0 < s∧s≤2 * 10 ^ 30+1
theorem EF{ss:List Int}(h:BD ss){j:Int}:∃s,atI (ss.map Dt.int) (j % 5)=some (.int s)∧0 < s∧s≤2 * 10 ^ 30+1:=by
 have j0:=aaJ j (show (5:Int)≠0 by decide)
 have j1:=aaH j (show (0:Int) < 5 by decide)
 have hl:(j % 5).toNat < ss.length:=by rw [h.len];omega
 have:=eT hl
 rw [show (((j % 5).toNat:Nat):Int)=j % 5 by omega] at this
 exact ⟨_,this,h.pos _ (aaA hl)⟩
def wW:DF:=fun as M q _=>∃(n k:Int) (many:Nat) (ss:List Int),as=[.int n, .int k, .int (many:Nat),szD ss]∧Nm n∧0≤k∧k≤12∧many≤30∧BD ss∧∀xs:List Int,xs.length=many→(∀x∈xs,Xs x)→q (.loc M.length) (M++[.lst (xs.map Dt.int)])
theorem dq:ax ["_law_number","_law_k","_law_many","_law_sizes","_law_some","_law_rest","_law_j"] ["_law_number","_law_k","_law_many","_law_sizes"] (ah gO):=⟨rfl,rfl,rfl,by decide+kernel,rfl,by decide+kernel,by decide+kernel⟩
theorem mX{f:Addr}{fd:FuncData}(F:Fun K "_law_things" "_law_things" gO f fd)(E:Ev K mg Cm CF CN){fLawByDigits:Addr}{dLawByDigits:FuncData}(c_LawByDigits:bU P w K mg base 1 "_law_by_digits" ["_law_number"] D7 fLawByDigits dLawByDigits){fLawStream:Addr}{dLawStream:FuncData}(c_LawStream:bU P w K mg base 1 "_law_stream" ["_law_number","_law_many"] qe fLawStream dLawStream):bK P w K mg base (CX1 P w) 2 f fd ["_law_number","_law_k","_law_many","_law_sizes"] (spD K wW):=by
 refine F.okD dq (fun ds M q x h=> ?_) (fun cdv A outer s H E' hr=>⟨_,(ae (bu (fj (cQ (br c_LawByDigits hr ar (aa (jv 0) af (hs:=ao))))) (ai (ay (br c_LawStream hr ar (aa (cz (aO (jv 0) av) (jv 1)) (aa (jv 2) af (hs:=ao)) (hs:=bT))))) aE)
   (ae (au (i:=4) dq.nd rfl (Or.inl rfl) (jq af))
   (ae (au (i:=5) dq.nd rfl (Or.inl rfl) (js (jv 0) av))
   (ae (fk (cy E.n_range (aa (jv 2) af (hs:=ao))) (aN (i:=6) dq.nd rfl (Or.inl rfl)) bR (ae (eK (eL (jv 4) (aa (bQ (jv 5) (aG (jv 3) (bQ (jv 6) av))) af (hs:=bT))))
   (ai (au (i:=5) dq.nd rfl (Or.inl rfl) (js (jv 5) (aG (jv 3) (bQ (jv 6) av)))))))
   (ai (ay (jv 4))))))),fun ds M q x h=> ?_⟩)
 ·obtain ⟨n,k,many,ss,rfl,_⟩:=h;rfl
 ·obtain ⟨n,k,many,ss,rfl,hn,k0,k1,m30,so,h⟩:=h
  refine ⟨n,rfl,fun b=>⟨fun _=> ?_,fun _=> ?_⟩⟩
  ·refine ⟨⟨i9 hn,bg (k:=10) (by decide)⟩, ?_⟩
   refine ⟨n * 12+k,many,rfl, ?_,by omega,h⟩
   obtain ⟨n0,n1⟩:=hn
   refine tN (k:=1100) (by omega) ?_ (by decide)
   exact Int.lt_of_lt_of_le (show n * 12+k < 10 ^ 300 * 12+13 by omega) (by decide)
  ·refine ⟨by decide,⟨by decide,bg (k:=10) (by decide)⟩,⟨by omega,by omega⟩, ?_⟩
   rw [show ((many:Int)).toNat=many by omega]
   refine bX (fun zs ρ' M'=>∃(i c:Nat) (xs:List Int) (r:Int) (o:Option Dt),zs=gm (i:Int) c∧i+c=many∧xs.length=i∧(∀x∈xs,Xs x)∧Nm r∧M'=M++[.lst (xs.map Dt.int)]∧ρ'=[some (.int n),some (.int k),some (.int (many:Int)),some (szD ss),some (.loc M.length),some (.int r),o]) (fun x zs ρ' M' hj nxt=> ?_) (fun ρ' M' hj=> ?_) _ _ _ ⟨0,many,[],_,none,rfl,by omega,rfl,fun _ z=>(nomatch z),vh hn (by decide),rfl,rfl⟩
   ·obtain ⟨i,c,xs,r,o,ex,ic,xl,hx,hr',rfl,rfl⟩:=hj
    obtain ⟨c',rfl,rfl,rfl⟩:=bI ex
    obtain ⟨sz,es,s0,s1⟩:=EF so (j:=(i:Int))
    have rd:∀(M':Ms) (q:DQ),q (.int sz) M'→fIx (szD ss) (.int ((i:Int) % 5)) M' q:=fun M' q hq=>az (d:=szD ss) rfl es hq
    walk_at "vc"
    refine ⟨⟨_,_,rfl,aQ⟩, ?_⟩
    refine ⟨by decide,rd _ _ ⟨s0, ?_⟩⟩
    refine ⟨M.length,_,_,rfl,rfl,aQ, ?_, ?_⟩
    ·rw [aac,xl];exact aaM (show i≤60 by omega) (by decide)
    rw [cn]
    refine ⟨by decide,rd _ _ ⟨⟨s0,tN (k:=110) (aag s0) (aax s1 (by decide)) (by decide)⟩, ?_⟩⟩
    refine nxt _ _ ⟨i+1,c',xs++[r % sz],_,_,by rw [Int.natCast_add];rfl,by omega,by simp [xl],fun y hy=> ?_,vh hr' s0,by simp,rfl⟩
    rcases aaN.mp hy with z | z
    ·exact hx y z
    ·rw [abh.mp z]
     exact ⟨aaJ _ (by omega),ab3 (aaH _ s0) (aax s1 (by decide))⟩
   ·obtain ⟨i,c,xs,r,o,ex,ic,xl,hx,hr',rfl,rfl⟩:=hj
    have c0:c=0:=by
     have:=congrArg List.length ex
     rw [eC] at this;exact this.symm
    exact h xs (by omega) hx
def rP:DF:=fun as M q _=>∃n low:Int,as=[.int n, .int low]∧Nm n∧1≤low∧low≤1000∧∀p,aU p=true→q (frD p) M
theorem eY:ax ["_law_number","_law_low","_law_bottom","_law_top"] ["_law_number","_law_low"] (ah fU):=⟨rfl,rfl,rfl,by decide+kernel,rfl,by decide+kernel,by decide+kernel⟩
theorem lJ{f:Addr}{fd:FuncData}(F:Fun K "_law_share_of" "_law_share_of" fU f fd)(E:Ev K mg Cm CF CN){fLawByDigits:Addr}{dLawByDigits:FuncData}(c_LawByDigits:bU P w K mg base 1 "_law_by_digits" ["_law_number"] D7 fLawByDigits dLawByDigits){fLawLowest:Addr}{dLawLowest:FuncData}(c_LawLowest:bU P w K mg base 1 "_law_lowest" ["_law_top","_law_bottom"] D3 fLawLowest dLawLowest):bK P w K mg base (CX1 P w) 2 f fd ["_law_number","_law_low"] (spD K rP):=by
 refine F.okD eY (fun ds M q x h=> ?_) (fun cdv A outer s H E' hr=>⟨_,(ae (au (i:=2) eY.nd rfl (Or.inl rfl) (cz av (bQ (jv 0) (jv 1))))
   (ae (fP (au (i:=3) eY.nd rfl (Or.inl rfl) (sU (cQ (br c_LawByDigits hr ar (aa (jv 0) af (hs:=ao)))) (js (jv 0) (jv 1)) (bQ (aO (jv 0) av) av))))
   (ai (ay (br c_LawLowest hr ar (aa (bQ (jv 3) (jv 2)) (aa (jv 2) af (hs:=ao)) (hs:=bT))))))),fun ds M q x h=> ?_⟩)
 ·obtain ⟨n,low,rfl,_⟩:=h;rfl
 ·obtain ⟨n,low,rfl,hn,l1,l2,h⟩:=h
  have b0:=aaJ n (show low≠0 by omega)
  have b1:=aaH n (show 0 < low by omega)
  refine ⟨by omega, ?_⟩
  dsimp only [tM]
  generalize n % low=r at *
  have fin:∀t:Int,aU (bB (t % (1+r)) (1+r))=true:=fun t=>se (aaJ _ (by omega)) (aaH _ (by omega)) (by omega)
  refine ⟨fun ρ M'=>M'=M∧∃t:Int,ρ=[some (.int n),some (.int low),some (.int (1+r)),some (.int t)], ?_, ?_⟩
  ·refine ⟨n,rfl,fun b=>⟨fun _=> ?_,fun _=> ?_⟩⟩
   ·exact ⟨⟨by omega,bg (k:=12) (by omega)⟩,rfl,_,rfl⟩
   ·exact ⟨⟨i9 hn,bg (k:=20) (by decide)⟩,by decide,rfl,_,rfl⟩
  ·rintro ρ M' ⟨rfl,t,rfl⟩
   exact ⟨by omega,_,_,rfl,by omega,bg (k:=12) (by omega),h _ (fin t)⟩
structure tH(kd:Str)(size:Int)(cs:List Fr)(ds:List DrG):Prop where
 fit:∀d∈ds,aR d.1 d.2.1 size=true∧0 < d.2.1.2
 cha:kd="chance"→(∀d∈ds,d.2.2=[aj d])∧ds.map aj=cs.take ds.length
 han:kd≠"chance"→∀d∈ds,d.2.2=[]
theorem tH.more{kd:Str}{size:Int}{cs:List Fr}{ds:List DrG}{d:DrG}(h:tH kd size cs ds)(h1:aR d.1 d.2.1 size=true)(h2:0 < d.2.1.2)(hl:ds.length < cs.length)(h3:kd="chance"→d.2.2=[cs[ds.length]])(h4:kd≠"chance"→d.2.2=[]):tH kd size cs (ds++[d]):=by
 refine ⟨fun e he=> ?_,fun hc=>⟨fun e he=> ?_, ?_⟩,fun hc e he=> ?_⟩
 ·rcases aaN.mp he with he | he
  ·exact h.fit e he
  ·have:e=d:=by simpa using he
   subst this;exact ⟨h1,h2⟩
 ·rcases aaN.mp he with he | he
  ·exact (h.cha hc).1 e he
  ·have:e=d:=by simpa using he
   subst this;unfold aj;rw [h3 hc];rfl
 ·rw [aaZ,(h.cha hc).2,aai]
  show cs.take ds.length++[aj d]=cs.take (ds.length+1)
  rw [List.take_succ,aaa hl]
  unfold aj;rw [h3 hc];rfl
 ·rcases aaN.mp he with he | he
  ·exact h.han hc e he
  ·have:e=d:=by simpa using he
   subst this;exact h4 hc
theorem tH.good{kd:Str}{size:Int}{cs:List Fr}{ds:List DrG}(h:tH kd size cs ds)(hk:aK kd=true∨kd="chance")(h1:1≤ds.length)(h6:ds.length≤6)(hl:ds.length=cs.length)(hc:aF cs=true)(ho:Ok3 cs):mr size (.doors kd ds):=by
 by_cases hch:kd="chance"
 ·subst hch
  have e:ds.map aj=cs:=by rw [(h.cha rfl).2,hl,List.take_length]
  exact wB h1 h6 (fun d hd=>(h.fit d hd).1) (h.cha rfl).1 (by rw [e];exact hc) (by rw [e];exact ho) fun d hd=>(h.fit d hd).2
 ·exact A4 (hk.resolve_right hch) h1 h6 (fun d hd=>(h.fit d hd).1) fun d hd=>⟨h.han hch d hd,(h.fit d hd).2⟩
def RwG(size:Int)(r:Rw):Prop:=mr size r∧∀k ds,r= .doors k ds→aK k=true→∀d∈ds,d.2.2=[]
theorem A5{k:Str}(h:aK k=true):k≠"chance":=fun z=>by subst z;exact absurd h (by decide)
structure yC(far:Bool)(p:Fr):Prop where
 red:Red p
 fit:bo p=true
 near:far=false→p.2∣12∧d7 p 9
theorem AB{t b:Int}(h1: -(10 ^ 30)≤t)(h2:t≤10 ^ 30)(h0:0 < b)(h3:b≤1000000):yC true (bB t b):=⟨cw (by omega),uY h1 h2 h0 h3,fun z=>(nomatch z)⟩
theorem xQ{x y:Int}:yC false (bB (x % 19 - 9) (1+y % 4)):=by
 have b0:0 < 1+y % 4:=by omega
 refine ⟨cw (by omega),uY (by omega) (by omega) b0 (by omega),fun _=>⟨?_,iG b0 (by omega) (by omega)⟩⟩
 refine Int.dvd_trans (rA b0) ?_
 have:y % 4=0∨y % 4=1∨y % 4=2∨y % 4=3:=by omega
 rcases this with e | e | e | e <;> rw [e] <;> decide
theorem Xs.big{x:Int}(h:Xs x):Big x:=tN h.1 h.2 (by decide)
theorem yL{a b:Int}{j k:Nat}(a0:0≤a)(a1:a < 2 ^ j)(b0:0≤b)(b1:b < 2 ^ k):0≤a * b∧a * b < 2 ^ (j+k):=by
 refine ⟨aaR a0 b0, ?_⟩
 rw [Int.pow_add]
 exact aax (aay (aag a1) b0) (Int.mul_lt_mul_of_pos_left b1 (Int.pow_pos (by decide)))
def BC:DF:=fun as M q _=>∃(xs:List Int) (far:Bool),as=[.lst (xs.map Dt.int), .bl far]∧3≤xs.length∧(∀x∈xs,Xs x)∧∀p,yC far p→q (frD p) M
theorem qw:ax ["_law_xs","_law_far","_law_top"] ["_law_xs","_law_far"] (ah oR):=⟨rfl,rfl,rfl,by decide+kernel,rfl,by decide+kernel,by decide+kernel⟩
theorem vc{f:Addr}{fd:FuncData}(F:Fun K "_law_pay" "_law_pay" oR f fd)(E:Ev K mg Cm CF CN){fLawLowest:Addr}{dLawLowest:FuncData}(c_LawLowest:bU P w K mg base 1 "_law_lowest" ["_law_top","_law_bottom"] D3 fLawLowest dLawLowest):bK P w K mg base (CX1 P w) 2 f fd ["_law_xs","_law_far"] (spD K BC):=by
 refine F.okD qw (fun ds M q x h=> ?_) (fun cdv A outer s H E' hr=>⟨_,(ae (bu (cQ (jv 1)) (ae (fP (au (i:=2) qw.nd rfl (Or.inl rfl) (sU (AZ (aG (jv 0) av) av) (aO (aO (aO (aG (jv 0) av) (aG (jv 0) av)) (aG (jv 0) av)) (aG (jv 0) av)) (aG (jv 0) av))))
   (ai (ay (br c_LawLowest hr ar (aa (pO (bQ (jv 2) (cz (aO av (g6 av av)) av)) (g6 av av)) (aa (cz av (bQ (aG (jv 0) av) (g6 av av))) af (hs:=bT)) (hs:=bT)))))) aE)
   (ai (ay (br c_LawLowest hr ar (aa (pO (bQ (aG (jv 0) av) av) av) (aa (cz av (bQ (aG (jv 0) av) av)) af (hs:=bT)) (hs:=bT)))))),fun ds M q x h=> ?_⟩)
 ·obtain ⟨xs,far,rfl,_⟩:=h;rfl
 ·obtain ⟨xs,far,rfl,l3,hx,h⟩:=h
  have rd:∀(j:Nat) (hj:j < 3) (M':Ms) (q:DQ),q (.int (xs[j]'(by omega))) M'→fIx (.lst (xs.map Dt.int)) (.int (j:Int)) M' q:=fun j hj M' q hq=>az (d:= .lst (xs.map Dt.int)) rfl (eT (by omega)) hq
  have x0:=hx _ (aaA (show 0 < xs.length by omega))
  have x1:=hx _ (aaA (show 1 < xs.length by omega))
  have x2:=hx _ (aaA (show 2 < xs.length by omega))
  walk_at "vc"
  refine ⟨fun z=> ?_,fun z=> ?_⟩
  ·subst z
   refine ⟨fun ρ M'=>M'=M∧∃t:Int,ρ=[some (.lst (xs.map Dt.int)),some (.bl true),some (.int t)], ?_, ?_⟩
   ·walk_at "vc"
    refine rd 2 (by decide) _ _ ⟨fun _=> ?_,fun _=> ?_⟩
    ·obtain ⟨p0,p1⟩:=yL x0.1 x0.2 x1.1 x1.2
     obtain ⟨q0,q1⟩:=yL p0 p1 x2.1 x2.2
     refine rd 0 (by decide) _ _ ?_
     refine rd 1 (by decide) _ _ ?_
     refine ⟨⟨x0.big,x1.big⟩, ?_⟩
     walk_at "vc"
     refine rd 2 (by decide) _ _ ?_
     refine ⟨⟨tN p0 p1 (by decide),x2.big⟩, ?_⟩
     walk_at "vc"
     refine rd 0 (by decide) _ _ ?_
     exact ⟨⟨tN q0 q1 (by decide),x0.big⟩,rfl,_,rfl⟩
    ·refine rd 0 (by decide) _ _ ?_
     exact ⟨rfl,_,rfl⟩
   ·rintro ρ M' ⟨rfl,t,rfl⟩
    have b30:Big ((10:Int) ^ (30:Int).toNat):=bg (k:=110) (by decide)
    have m0:(0:Int) < 2 * 10 ^ (30:Int).toNat+1:=by decide
    have hm0:=aaJ t (show (2 * 10 ^ (30:Int).toNat+1:Int)≠0 by decide)
    have hm1:=aaH t m0
    have hb6:0 < 1+xs[1] % 10 ^ (6:Int).toNat∧1+xs[1] % 10 ^ (6:Int).toNat≤1000000:=by
     show 0 < 1+xs[1] % 1000000∧1+xs[1] % 1000000≤1000000
     omega
    have hb7:Big (1+xs[1] % 10 ^ (6:Int).toNat):=tN (k:=20) (aag hb6.1) (aax hb6.2 (by decide)) (by decide)
    walk_at "vc"
    refine ⟨p30,⟨bg (k:=4) (by decide),b30⟩,m0,p30, ?_⟩
    dsimp only [ym]
    refine rd 1 (by decide) _ _ ?_
    refine ⟨p6,(by show (0:Int) < 1000000;decide),_,_,rfl,hb6.1,hb7,h _ (AB ?_ ?_ hb6.1 hb6.2)⟩
    ·show -(10 ^ 30)≤t % (2 * 10 ^ (30:Int).toNat+1) - 10 ^ 30
     omega
    ·have e:(10:Int) ^ (30:Int).toNat=10 ^ 30:=rfl
     rw [e] at hm1
     show t % (2 * 10 ^ 30+1) - 10 ^ 30≤10 ^ 30
     omega
  ·subst z
   refine rd 0 (by decide) _ _ ?_
   refine ⟨by decide, ?_⟩
   dsimp only [ym]
   refine (rd 1 (by decide) _ _ ?_:fIx (.lst (xs.map Dt.int)) (.int 1) _ _)
   exact ⟨by decide,_,_,rfl,by omega,bg (k:=10) (by omega),h _ xQ⟩
def RwP(far:Bool)(size:Int)(r:Rw):Prop:=RwG size r∧(∀p,r= .fin p→yC far p)∧∀k ds,r= .doors k ds→∀d∈ds,yC far d.2.1
theorem BY(c:Nat):sliceRange ((4:Nat):Int) ((5 * c:Nat):Int) ((5:Nat):Int)=(List.range c).map fun k=>5 * k+4:=by
 unfold sliceRange
 have hc:(if ((4:Nat):Int) < ((5 * c:Nat):Int) then (((5 * c:Nat):Int) - ((4:Nat):Int)+((5:Nat):Int) - 1) / ((5:Nat):Int) else 0)=c:=by
  split <;> omega
 simp only [show ((5:Nat):Int) > 0 by decide,if_true,hc,Int.toNat_natCast]
 apply abc
 intro k _
 omega
theorem ET{c:Nat}{ds:List Dt}{xs:List Int}(e:ds=xs.map Dt.int)(h:xs.length=5 * c):gX (sliceRange ((4:Nat):Int) (ds.length:Int) ((5:Nat):Int)) ds=((List.range c).map fun k=>xs.getD (5 * k+4) 0).map Dt.int:=by
 subst e
 rw [aac,h,BY]
 unfold gX
 rw [List.filterMap_map,aaD]
 have:∀l:List Nat,(∀k∈l,k < c)→l.filterMap ((fun i=>(xs.map Dt.int)[i]?) ∘ fun k=>5 * k+4)=l.map (Dt.int ∘ fun k=>xs.getD (5 * k+4) 0):=fun l=>by
  induction l with
  | nil=>intro _;rfl
  | cons k l ih=>
   intro hk
   have kc:=hk k aae
   have e:((fun i=>(xs.map Dt.int)[i]?) ∘ fun k=>5 * k+4) k=some (Dt.int (xs.getD (5 * k+4) 0)):=by
    show (xs.map Dt.int)[5 * k+4]? =_
    rw [aak,aab,aaa (by omega)];rfl
   rw [abT,e,aaI,←ih fun z hz=>hk z (aad _ hz)];rfl
 exact this _ fun k hk=>aa0.mp hk
def wY:DF:=fun as M q _=>∃(kd:Str) (xs:List Int) (many:Int) (far:Bool) (c:Nat),as=[.str kd, .lst (xs.map Dt.int), .int many, .bl far]∧xs.length=5 * c∧1≤c∧c≤6∧(∀x∈xs,Xs x)∧1≤many∧many≤12∧(aK kd=true∨kd="chance")∧∀ds,ds.length=c→RwP far many (.doors kd ds)→q (.loc M.length) (M++[.lst (ds.map drG)])
theorem de:ax ["_law_kind","_law_xs","_law_many","_law_far","_law_doors_here","_law_parts","_law_k","_law_door"] ["_law_kind","_law_xs","_law_many","_law_far"] (ah fc):=⟨rfl,rfl,rfl,by decide+kernel,rfl,by decide+kernel,by decide+kernel⟩
theorem pA{f:Addr}{fd:FuncData}(F:Fun K "_law_doors" "_law_doors" fc f fd)(E:Ev K mg Cm CF CN){fLawPay:Addr}{dLawPay:FuncData}(c_LawPay:bU P w K mg base 2 "_law_pay" ["_law_xs","_law_far"] BC fLawPay dLawPay){fLawLowest:Addr}{dLawLowest:FuncData}(c_LawLowest:bU P w K mg base 1 "_law_lowest" ["_law_top","_law_bottom"] D3 fLawLowest dLawLowest):bK P w K mg base (CX1 P w) 4 f fd ["_law_kind","_law_xs","_law_many","_law_far"] (spD K wY):=by
 refine F.okD de (fun ds M q x h=> ?_) (fun cdv A outer s H E' hr=>⟨_,(ae (au (i:=4) de.nd rfl (Or.inl rfl) (jq af))
   (ae (eG (i:=5) de.nd rfl (Or.inl rfl) (ys:=["_law_far"]) (caps:=[3]) ⟨rfl,by decide+kernel,by decide+kernel,rfl,(by show∀p:Str×NameKind,p∈_→p.2=NameKind.free→List.lookup p.1 (ah fc).names=some .cell;decide+kernel),by decide+kernel,(by show∀q:Str×Nat,q∈_→(["_law_kind","_law_xs","_law_many","_law_far","_law_doors_here","_law_parts","_law_k","_law_door"]:List Str)[q.2]? =some q.1∧List.lookup q.1 (ah fc).names=some .cell∧_;decide+kernel),rfl⟩ (cG (da (C3 (a:=4) (b:=5) (jv 1) av av))) (fun C s H fp=>(cz av (bQ (jv 0) (aG (dI 3 (d:= .lst [.int 4, .int 150000]) (by rfl)) (C6 E.n_int (aa (jv 1) af (hs:=ao))))))))
   (ae (fk (cy E.n_range (aa (cW E.n_len (aa (jv 5) af (hs:=ao))) af (hs:=bM))) (aN (i:=6) de.nd rfl (Or.inl rfl)) bR (ae (au (i:=7) de.nd rfl (Or.inl rfl) (eU (aa (bQ (aG (jv 1) (cz (aO av (jv 6)) av)) (jv 2)) (aa (br c_LawPay hr ar (aa (da (nD (jv 1) (aO av (jv 6)) (cz (aO av (jv 6)) av))) (aa (jv 3) af (hs:=ao)) (hs:=bL))) af (hs:=bM)) (hs:=bT))))
   (ae (fP (bu (gz hr (jv 0) kz) (ai (au (i:=7) de.nd rfl (Or.inl rfl) (cz (jv 7) (eU (aa (br c_LawLowest hr ar (aa (aG (jv 5) (jv 6)) (aa (C2 E.n_sum (aa (jv 5) af (hs:=ao))) af (hs:=bM)) (hs:=bL))) af (hs:=bM)))))) aE))
   (ai (eK (eL (jv 4) (aa (jv 7) af (hs:=ao))))))))
   (ai (ay (jv 4)))))),fun ds M q x h=> ?_⟩)
 ·obtain ⟨kd,xs,many,far,c,rfl,_⟩:=h;rfl
 ·obtain ⟨kd,xs,many,far,c,rfl,xl,c1,c6,hx,s1,s12,hkd,h⟩:=h
  have sl:∀{z:Nat},z≤1000→z≤sizeLine:=fun h=>aau h (by decide)
  refine ⟨by decide, ?_⟩
  generalize hM0:M++[MO.lst []]=M0
  dsimp only [rK,gB,dFz,DG]
  walk_at "vc"
  refine ⟨rfl,_,rfl,rfl,by rw [aac];omega, ?_, ?_⟩
  ·rw [aac,xl,BY,aac,aaT];omega
  rw [ET rfl xl]
  refine cR (eN _) ?_
  obtain ⟨most,em,m0,m1⟩:∃most:Int,(∀(M':Ms) (q:DQ),q (.int most) M'→fIx (.lst [.int 4, .int 150000]) (.int (if far=true then 1 else 0)) M' q)∧0 < most∧most≤150000:=by
   cases far with
   | true=>exact ⟨150000,fun M' q hq=>az (d:= .lst [.int 4, .int 150000]) rfl (aB (j:=1) rfl) hq,by decide,by decide⟩
   | false=>exact ⟨4,fun M' q hq=>az (d:= .lst [.int 4, .int 150000]) rfl bO hq,by decide,by decide⟩
  refine ⟨by rw [aac,aac,aaT];exact sl (by omega), ?_⟩
  refine bZ (F:=fun x n=>x=Dt.int n) (f:=fun n=> .int (1+n % most)) (as:=(List.range c).map fun k=>xs.getD (5 * k+4) 0) trivial (fun x n hx' qq hq=> ?_) ?_ ?_
  ·subst hx'
   walk_at "vc"
   show zz [.bl far] M0 fun d2 M2=>fIx (.lst [.int 4, .int 150000]) d2 M2 fun d2 M2=>Eg (.int n) d2 M2 fun d2 M2=>tM (.int 1) d2 M2 qq
   dsimp only [zz]
   refine em _ _ ?_
   exact ⟨m0,hq⟩
  ·have:∀l:List Int,Paired (fun x n=>x=Dt.int n) (l.map Dt.int) l:=fun l=>by
    induction l with
    | nil=>exact .nil
    | cons a l ih=>exact .cons rfl ih
   exact this _
  rw [aaP,aaD]
  generalize hws:((List.range c).map fun k=>1+xs.getD (5 * k+4) 0 % most)=ws
  have ew:(List.range c).map ((fun n=>Dt.int (1+n % most)) ∘ fun k=>xs.getD (5 * k+4) 0)=ws.map Dt.int:=by rw [←hws,aaD];rfl
  rw [ew]
  have wl:ws.length=c:=by rw [←hws,aac,aaT]
  have w0:∀w∈ws,0 < w∧w≤most:=fun w hw=>by
   rw [←hws] at hw
   obtain ⟨y,_,rfl⟩:=aan.mp hw
   have e0:=aaJ (xs.getD (5 * y+4) 0) (show most≠0 by omega)
   have e1:=aaH (xs.getD (5 * y+4) 0) m0
   omega
  have hS:ws.sum≤1000000:=by
   have:=yS fun w hwm=>(w0 w hwm).2
   rw [wl] at this
   have:(c:Int) * most≤6 * 150000:=aa6 (by omega) m1 (by omega) (by decide)
   omega
  have hne:ws≠[]:=fun z=>by rw [z] at wl;simp at wl;omega
  have Spos:=ue (fun w hw=>(w0 w hw).1) hne
  obtain ⟨cc1,cc2⟩:=tj (S:=ws.sum) rfl (fun w hwm=>(w0 w hwm).1) hne hS (by omega)
  have cl:(ws.map fun w=>bB w ws.sum).length=c:=by rw [aac,wl]
  have bS:Big ws.sum:=bg (k:=21) (by omega)
  clear hws
  refine (aJ (d:= .lst (ws.map .int)) (xs:=ws.map .int) rfl ?_:ik [.lst (ws.map .int)] _ _)
  rw [aac,wl]
  refine ⟨⟨by omega,by omega⟩, ?_⟩
  rw [show ((c:Int)).toNat=c by omega]
  subst hM0
  refine bX (fun zs ρ M'=>∃(n k:Nat) (ds:List DrG) (o1 o2:Option Dt),zs=gm k n∧k+n=c∧ds.length=k∧tH kd many (ws.map fun w=>bB w ws.sum) ds∧(∀d∈ds,yC far d.2.1)∧M'=M++[MO.lst (ds.map drG)]∧ρ=[some (.str kd),some (.lst (xs.map Dt.int)),some (.int many),some (.bl far),some (.loc M.length),some (.lst (ws.map .int)),o1,o2]) (fun x zs ρ M' hj nxt=> ?_) (fun ρ M' hj=> ?_) _ _ _ ⟨c,0,[],none,none,by simp,by simp,rfl,⟨fun _ z=>(nomatch z),fun _=>⟨fun _ z=>(nomatch z),rfl⟩,fun _ _ z=>(nomatch z)⟩,fun _ z=>(nomatch z),rfl,rfl⟩
  ·obtain ⟨n,k,ds,o1,o2,ex,hkn,hl,hd,hp,rfl,rfl⟩:=hj
   obtain ⟨m,rfl,rfl,rfl⟩:=bI ex
   have k6:(k:Int) < 6:=by omega
   have kx:5 * k+3 < xs.length:=by omega
   have kw:k < ws.length:=by omega
   have atM:(M++[MO.lst (ds.map drG)])[M.length]? =some (.lst (ds.map drG)):=by simp
   have setM:∀y:DrG,(M++[MO.lst (ds.map drG)]).set M.length (.lst (ds.map drG++[drG y]))=M++[.lst ((ds++[y]).map drG)]:=fun y=>by simp
   have lt:(ds.map drG).length < sizeLine:=by rw [aac,hl];exact aaM (show k≤12 by omega) (by decide)
   have e5:5 * (k:Int)+3=((5 * k+3:Nat):Int):=by omega
   have e50:5 * (k:Int)=((5 * k:Nat):Int):=by omega
   have b5:Big (5:Int):=bg (k:=10) (by decide)
   have bk:Big (k:Int):=bg (k:=10) (by omega)
   walk_at "vc"
   refine ⟨⟨b5,bk⟩, ?_⟩
   dsimp only [tM]
   rw [e5]
   refine (az (d:= .lst (xs.map .int)) rfl (eT kx) ?_:fIx (.lst (xs.map .int)) (.int ((5 * k+3:Nat):Int)) _ _)
   refine ⟨by omega,⟨b5,bk⟩,5 * k,by rw [e50],⟨b5,bk⟩,xs.map Dt.int,5 * k+3,rfl,by rw [←e5], ?_⟩
   rw [←ab0,←abZ]
   refine cR (eN _) ?_
   refine ⟨(xs.drop (5 * k)).take (5 * k+3 - 5 * k),far,rfl,by rw [abS,abj];omega,fun y hy=>hx y (List.mem_of_mem_drop (List.mem_of_mem_take hy)),fun p pp=>⟨by show 2≤sizeLine;decide, ?_⟩⟩
   have hp0:=pp.red.pos
   have hfit:aR (xs[5 * k+3] % many) p many=true:=Bk (aaJ _ (by omega)) (aaH _ (by omega)) pp.fit
   refine ⟨fun ρ M2=>M2=M++[MO.lst (ds.map drG)]∧∃d:DrG,(aR d.1 d.2.1 many=true∧0 < d.2.1.2∧(kd="chance"→d.2.2=[bB ws[k] ws.sum])∧(kd≠"chance"→d.2.2=[])∧yC far d.2.1)∧ρ=[some (.str kd),some (.lst (xs.map Dt.int)),some (.int many),some (.bl far),some (.loc M.length),some (.lst (ws.map .int)),some (.int (k:Int)),some (drG d)],⟨fun hc=> ?_,fun hc=> ?_⟩, ?_⟩
   ·have hc:kd="chance":=of_decide_eq_true hc
    walk_at "vc"
    refine (az (d:= .lst (ws.map .int)) rfl (eT kw) ?_:fIx (.lst (ws.map .int)) (.int (k:Int)) _ _)
    exact ⟨ws,rfl,⟨_,_,rfl⟩,_,_,rfl,Spos,bS,(by show 1≤sizeLine;decide),⟨by simp,by show 3≤sizeLine;decide⟩,rfl,(xs[5 * k+3] % many,p,[bB ws[k] ws.sum]),⟨hfit,hp0,fun _=>rfl,fun z=>absurd hc z,pp⟩,rfl⟩
   ·have hc:kd≠"chance":=of_decide_eq_false hc
    exact ⟨rfl,(xs[5 * k+3] % many,p,[]),⟨hfit,hp0,fun z=>absurd z hc,fun _=>rfl,pp⟩,rfl⟩
   ·rintro ρ2 M2 ⟨rfl,d,⟨d1,d2,d3,d4,d5⟩,rfl⟩
    refine ⟨⟨M.length,_,rfl,atM⟩,M.length,_,_,rfl,rfl,atM,lt, ?_⟩
    rw [setM d]
    refine nxt _ _ ⟨m,k+1,ds++[d],_,_,by simp,by omega,by simp [hl],hd.more d1 d2 (by rw [cl];omega) (fun z=> ?_) d4,fun y hy=> ?_,rfl,rfl⟩
    ·rw [d3 z]
     simp [hl]
    ·rcases aaN.mp hy with z | z
     ·exact hp y z
     ·rw [abh.mp z];exact d5
  ·obtain ⟨n,k,ds,o1,o2,ex,hkn,hl,hd,hp,rfl,rfl⟩:=hj
   have hn:n=0:=by
    have:=congrArg List.length ex
    unfold gm at this
    simpa using this.symm
   refine h ds (by omega) ⟨⟨hd.good hkd (by omega) (by omega) (by rw [cl];omega) cc1 cc2,fun k' ds' e hk d hd'=>by cases e;exact hd.han (A5 hk) d hd'⟩,fun p e=>(nomatch e),fun k' ds' e d hd'=>by cases e;exact hp d hd'⟩
theorem CQ{n:Int}:∃kd:Str,atI [Dt.str "one",Dt.str "other",Dt.str "chance",Dt.str "end",Dt.str "one",Dt.str "other",Dt.str "chance",Dt.str "chance"] (n % 8)=some (.str kd)∧(aK kd=true∨kd="chance"∨kd="end"):=by
 have:n % 8=0∨n % 8=1∨n % 8=2∨n % 8=3∨n % 8=4∨n % 8=5∨n % 8=6∨n % 8=7:=by omega
 rcases this with e | e | e | e | e | e | e | e <;> rw [e]
 ·exact ⟨_,bO, .inl (by decide)⟩
 ·exact ⟨_,aB (j:=1) rfl, .inl (by decide)⟩
 ·exact ⟨_,aB (j:=2) rfl, .inr (.inl rfl)⟩
 ·exact ⟨_,aB (j:=3) rfl, .inr (.inr rfl)⟩
 ·exact ⟨_,aB (j:=4) rfl, .inl (by decide)⟩
 ·exact ⟨_,aB (j:=5) rfl, .inl (by decide)⟩
 ·exact ⟨_,aB (j:=6) rfl, .inr (.inl rfl)⟩
 ·exact ⟨_,aB (j:=7) rfl, .inr (.inl rfl)⟩
theorem E8{n:Int}:∃m:Int,atI [Dt.int 4,Dt.int 4,Dt.int 4,Dt.int 4,Dt.int 4,Dt.int 4,Dt.int 6,Dt.int 12] (n % 8)=some (.int m)∧1≤m∧m≤12∧(n % 8=5→m=4):=by
 have:n % 8=0∨n % 8=1∨n % 8=2∨n % 8=3∨n % 8=4∨n % 8=5∨n % 8=6∨n % 8=7:=by omega
 rcases this with e | e | e | e | e | e | e | e <;> rw [e]
 ·exact ⟨_,bO,by decide,by decide,by decide⟩
 ·exact ⟨_,aB (j:=1) rfl,by decide,by decide,by decide⟩
 ·exact ⟨_,aB (j:=2) rfl,by decide,by decide,by decide⟩
 ·exact ⟨_,aB (j:=3) rfl,by decide,by decide,by decide⟩
 ·exact ⟨_,aB (j:=4) rfl,by decide,by decide,by decide⟩
 ·exact ⟨_,aB (j:=5) rfl,by decide,by decide,by decide⟩
 ·exact ⟨_,aB (j:=6) rfl,by decide,by decide,by decide⟩
 ·exact ⟨_,aB (j:=7) rfl,by decide,by decide,by decide⟩
theorem HE{n:Int}:∃m:Int,atI [Dt.int 10,Dt.int 10,Dt.int 10,Dt.int 10,Dt.int 1,Dt.int 1000,Dt.int 10,Dt.int 10] (n % 8)=some (.int m)∧1≤m∧m≤1000:=by
 have:n % 8=0∨n % 8=1∨n % 8=2∨n % 8=3∨n % 8=4∨n % 8=5∨n % 8=6∨n % 8=7:=by omega
 rcases this with e | e | e | e | e | e | e | e <;> rw [e]
 ·exact ⟨_,bO,by decide,by decide⟩
 ·exact ⟨_,aB (j:=1) rfl,by decide,by decide⟩
 ·exact ⟨_,aB (j:=2) rfl,by decide,by decide⟩
 ·exact ⟨_,aB (j:=3) rfl,by decide,by decide⟩
 ·exact ⟨_,aB (j:=4) rfl,by decide,by decide⟩
 ·exact ⟨_,aB (j:=5) rfl,by decide,by decide⟩
 ·exact ⟨_,aB (j:=6) rfl,by decide,by decide⟩
 ·exact ⟨_,aB (j:=7) rfl,by decide,by decide⟩
structure LF(share:Fr)(rows:List Rw)(far:Bool):Prop where
 sh:aU share=true
 n1:1≤rows.length
 n12:rows.length≤12
 n4:far=true→rows.length≤4
 row:∀r∈rows,RwP far rows.length r
def ssF(far:Bool)(many:Int):List Int:=if far=true then [2 * 10 ^ (30:Int).toNat+1,10 ^ (6:Int).toNat,1,many,150000] else [19,4,1,many,4]
theorem EG{far:Bool}{many:Int}(h1:1≤many)(h2:many≤12):BD (ssF far many):=by
 have m30:many≤2 * 10 ^ 30+1:=abf h2 (by decide)
 cases far with
 | true=>
  refine ⟨rfl,fun s hs=> ?_⟩
  have hs:s∈[2 * 10 ^ (30:Int).toNat+1,10 ^ (6:Int).toNat,1,many,150000]:=hs
  simp only [List.mem_cons,List.not_mem_nil,or_false] at hs
  rcases hs with e | e | e | e | e
  ·rw [e];decide
  ·rw [e];decide
  ·rw [e];decide
  ·rw [e];exact ⟨by omega,m30⟩
  ·rw [e];decide
 | false=>
  refine ⟨rfl,fun s hs=> ?_⟩
  have hs:s∈[19,4,1,many,4]:=hs
  simp only [List.mem_cons,List.not_mem_nil,or_false] at hs
  rcases hs with e | e | e | e | e
  ·rw [e];decide
  ·rw [e];decide
  ·rw [e];decide
  ·rw [e];exact ⟨by omega,m30⟩
  ·rw [e];decide
def wX:DF:=fun as M q _=>∃ns:List Int,as=[.scr ns]∧ns.length≤63∧∀share rows far,LF share rows far→q (.tup [frD share, .loc M.length]) (M++[.lst (rows.map bH)])
theorem aX:ax ["_law_script","_law_begun","_law_how","_law_places","_law_many","_law_share","_law_sizes","_law_rows","_law_k","_law_number","_law_kind","_law_count","_law_xs"] ["_law_script"] (ah iT):=⟨rfl,rfl,rfl,by decide+kernel,rfl,by decide+kernel,by decide+kernel⟩
theorem pw{f:Addr}{fd:FuncData}(F:Fun K "_law_floor" "_law_floor" iT f fd)(E:Ev K mg Cm CF CN){fLawAt:Addr}{dLawAt:FuncData}(c_LawAt:bU P w K mg base 1 "_law_at" ["_law_script","_law_k"] TAt fLawAt dLawAt){fLawByDigits:Addr}{dLawByDigits:FuncData}(c_LawByDigits:bU P w K mg base 1 "_law_by_digits" ["_law_number"] D7 fLawByDigits dLawByDigits){fLawShareOf:Addr}{dLawShareOf:FuncData}(c_LawShareOf:bU P w K mg base 2 "_law_share_of" ["_law_number","_law_low"] rP fLawShareOf dLawShareOf){fLawPay:Addr}{dLawPay:FuncData}(c_LawPay:bU P w K mg base 2 "_law_pay" ["_law_xs","_law_far"] BC fLawPay dLawPay){fLawThings:Addr}{dLawThings:FuncData}(c_LawThings:bU P w K mg base 2 "_law_things" ["_law_number","_law_k","_law_many","_law_sizes"] wW fLawThings dLawThings){fLawDoors:Addr}{dLawDoors:FuncData}(c_LawDoors:bU P w K mg base 4 "_law_doors" ["_law_kind","_law_xs","_law_many","_law_far"] wY fLawDoors dLawDoors):bK P w K mg base (CX1 P w) 5 f fd ["_law_script"] (spD K wX):=by
 refine F.okD aX (fun ds M q x h=> ?_) (fun cdv A outer s H E' hr=>⟨_,(ae (au (i:=1) aX.nd rfl (Or.inl rfl) (br c_LawAt hr ar (aa (jv 0) (aa av af (hs:=cD)) (hs:=ao))))
   (ae (au (i:=2) aX.nd rfl (Or.inl rfl) (bQ (jv 1) av))
   (ae (fP (au (i:=3) aX.nd rfl (Or.inl rfl) (sU (cQ (br c_LawByDigits hr ar (aa (jv 1) af (hs:=ao)))) (js (jv 1) av) (bQ (aO (jv 1) av) av))))
   (ae (au (i:=4) aX.nd rfl (Or.inl rfl) (cz av (bQ (jv 3) (aG (dI 3 (d:= .lst [.int 4, .int 4, .int 4, .int 4, .int 4, .int 4, .int 6, .int 12]) (by rfl)) (jv 2)))))
   (ae (au (i:=5) aX.nd rfl (Or.inl rfl) (br c_LawShareOf hr ar (aa (br c_LawAt hr ar (aa (jv 0) (aa av af (hs:=cD)) (hs:=ao))) (aa (aG (dI 3 (d:= .lst [.int 10, .int 10, .int 10, .int 10, .int 1, .int 1000, .int 10, .int 10]) (by rfl)) (jv 2)) af (hs:=bL)) (hs:=bM))))
   (ae (au (i:=6) aX.nd rfl (Or.inl rfl) (aG (jr (aa (jr (aa av (aa av (aa av (aa (jv 4) (aa av af (hs:=cD)) (hs:=ao)) (hs:=cD)) (hs:=cD)) (hs:=cD))) (aa (jr (aa (cz (aO av (g6 av av)) av) (aa (g6 av av) (aa av (aa (jv 4) (aa av af (hs:=cD)) (hs:=ao)) (hs:=cD)) (hs:=bT)) (hs:=bT))) af))) (C6 E.n_int (aa (Ee hr (jv 2) av) af (hs:=xu)))))
   (ae (au (i:=7) aX.nd rfl (Or.inl rfl) (jq af))
   (ae (fk (cy E.n_range (aa (jv 4) af (hs:=ao))) (aN (i:=8) aX.nd rfl (Or.inl rfl)) bR (ae (au (i:=9) aX.nd rfl (Or.inl rfl) (br c_LawAt hr ar (aa (jv 0) (aa (cz av (jv 8)) af (hs:=bT)) (hs:=ao))))
   (ae (au (i:=10) aX.nd rfl (Or.inl rfl) (aG (dI 3 (d:= .lst [.str "one", .str "other", .str "chance", .str "end", .str "one", .str "other", .str "chance", .str "chance"]) (by rfl)) (bQ (jv 9) av)))
   (ae (fP (au (i:=11) aX.nd rfl (Or.inl rfl) (cz av (bQ (sU (cQ (br c_LawByDigits hr ar (aa (jv 9) af (hs:=ao)))) (js (jv 9) av) (bQ (aO (jv 9) av) av)) av))))
   (ai (bu (gz hr (jv 10) kz) (ai (eK (eL (jv 7) (aa (eU (aa (jv 10) (aa (br c_LawPay hr ar (aa (da (br c_LawThings hr ar (aa (jv 9) (aa (jv 8) (aa av (aa (jv 6) af (hs:=ao)) (hs:=cD)) (hs:=ao)) (hs:=ao)))) (aa (Ee hr (jv 2) av) af (hs:=xu)) (hs:=bM))) af (hs:=bM)) (hs:=ao))) af (hs:=Ac))))) (ae (au (i:=12) aX.nd rfl (Or.inl rfl) (da (br c_LawThings hr ar (aa (jv 9) (aa (jv 8) (aa (aO av (jv 11)) (aa (jv 6) af (hs:=ao)) (hs:=bT)) (hs:=ao)) (hs:=ao)))))
   (ai (eK (eL (jv 7) (aa (eU (aa (jv 10) (aa (da (br c_LawDoors hr ar (aa (jv 10) (aa (jv 12) (aa (jv 4) (aa (Ee hr (jv 2) av) af (hs:=xu)) (hs:=ao)) (hs:=ao)) (hs:=ao)))) af (hs:=bM)) (hs:=ao))) af (hs:=Ac))))))))))))
   (ai (ay (eU (aa (jv 5) (aa (jv 7) af (hs:=ao)) (hs:=ao))))))))))))),fun ds M q x h=> ?_⟩)
 ·obtain ⟨ns,rfl,_⟩:=h;rfl
 ·obtain ⟨ns,rfl,nl,h⟩:=h
  refine ⟨ns,0,rfl,nl,by decide,by decide,fun b0 hb0=>⟨by decide, ?_⟩⟩
  refine ⟨fun ρ M'=>M'=M∧∃t:Int,ρ=[some (.scr ns),some (.int b0),some (.int (b0 % 8)),some (.int t),none,none,none,none,none,none,none,none,none], ?_, ?_⟩
  ·refine ⟨b0,rfl,fun b=>⟨fun _=> ?_,fun _=> ?_⟩⟩
   ·exact ⟨⟨by decide,bg (k:=10) (by decide)⟩,rfl,_,rfl⟩
   ·exact ⟨⟨i9 hb0,bg (k:=20) (by decide)⟩,by decide,rfl,_,rfl⟩
  rintro ρ M' ⟨rfl,t,rfl⟩
  obtain ⟨mx,emx,mx1,mx12,mx5⟩:=E8 (n:=b0)
  obtain ⟨low,elow,low1,low2⟩:=HE (n:=b0)
  have t0:=aaJ t (show mx≠0 by omega)
  have t1:=aaH t (show 0 < mx by omega)
  walk_at "vc"
  refine (az rfl emx ?_:fIx (.lst [Dt.int 4,Dt.int 4,Dt.int 4,Dt.int 4,Dt.int 4,Dt.int 4,Dt.int 6,Dt.int 12]) (.int (b0 % 8)) _ _)
  refine ⟨by omega, ?_⟩
  dsimp only [tM]
  obtain ⟨sz,hz,z1,z12,z4⟩:∃sz:Nat,1+t % mx=(sz:Int)∧1≤sz∧sz≤12∧(b0 % 8=5→sz≤4):=⟨(1+t % mx).toNat,by omega,by omega,by omega,fun z=>by have:=mx5 z;omega⟩
  rw [hz]
  refine ⟨ns,1,rfl,nl,by decide,by decide,fun b1 hb1=> ?_⟩
  refine (az rfl elow ?_:fIx (.lst [Dt.int 10,Dt.int 10,Dt.int 10,Dt.int 10,Dt.int 1,Dt.int 1000,Dt.int 10,Dt.int 10]) (.int (b0 % 8)) _ _)
  refine ⟨b1,low,rfl,hb1,low1,low2,fun share hs=> ?_⟩
  obtain ⟨far,hfar⟩:∃far,far=decide (b0 % 8=5):=⟨_,rfl⟩
  have b30:Big ((10:Int) ^ (30:Int).toNat):=bg (k:=110) (by decide)
  have sl:∀{z:Nat},z≤1000→z≤sizeLine:=fun h=>aau h (by decide)
  refine ⟨sl (by decide),p30,⟨bg (k:=4) (by decide),b30⟩,p6,sl (by decide),sl (by decide), ?_⟩
  have rd:∀(M':Ms) (q:DQ),q (szD (ssF far sz)) M'→Du (.int (b0 % 8)) (.int 5) M' fun d M1=>zz [d] M1 fun d2 M2=>fIx (.lst [.lst [.int 19, .int 4, .int 1, .int (sz:Int), .int 4], .lst [.int (2 * 10 ^ (30:Int).toNat+1), .int (10 ^ (6:Int).toNat), .int 1, .int (sz:Int), .int 150000]]) d2 M2 q:=fun M' q hq=>by
   show zz [.bl (decide (b0 % 8=5))] M' fun d2 M2=>fIx (.lst [szD (ssF false sz),szD (ssF true sz)]) d2 M2 q
   rw [←hfar]
   dsimp only [zz]
   cases far with
   | true=>exact az (d:= .lst [szD (ssF false sz),szD (ssF true sz)]) rfl (aB (j:=1) rfl) hq
   | false=>exact az (d:= .lst [szD (ssF false sz),szD (ssF true sz)]) rfl bO hq
  refine rd _ _ ?_
  have n4:far=true→sz≤4:=fun z=>z4 (of_decide_eq_true (by rw [←hfar];exact z))
  refine ⟨by decide,⟨by omega,by omega⟩, ?_⟩
  rw [show ((sz:Int)).toNat=sz by omega]
  refine bX (fun zs ρ M2=>∃(n k:Nat) (rs:List Rw) (o1 o2 o3 o4 o5:Option Dt),zs=gm k n∧k+n=sz∧rs.length=k∧(∀r∈rs,RwP far sz r)∧M2=M'++[MO.lst (rs.map bH)]∧ρ=[some (.scr ns),some (.int b0),some (.int (b0 % 8)),some (.int t),some (.int (sz:Int)),some (frD share),some (szD (ssF far sz)),some (.loc M'.length),o1,o2,o3,o4,o5]) (fun x zs ρ M2 hj nxt=> ?_) (fun ρ M2 hj=> ?_) _ _ _ ⟨sz,0,[],none,none,none,none,none,by simp,by simp,rfl,fun _ z=>(nomatch z),rfl,rfl⟩
  ·obtain ⟨n,k,rs,o1,o2,o3,o4,o5,ex,hkn,hl,hd,rfl,rfl⟩:=hj
   obtain ⟨m,rfl,rfl,rfl⟩:=bI ex
   have k12:(k:Int) < 12:=by omega
   have atM:(M'++[MO.lst (rs.map bH)])[M'.length]? =some (.lst (rs.map bH)):=by simp
   have setM:∀y:Rw,(M'++[MO.lst (rs.map bH)]).set M'.length (.lst (rs.map bH++[bH y]))=M'++[.lst ((rs++[y]).map bH)]:=fun y=>by simp
   have lt:(rs.map bH).length < sizeLine:=by rw [aac,hl];exact aaM (show k≤12 by omega) (by decide)
   have first:∃k' xs',Dt.loc M'.length= .loc k'∧(M'++[MO.lst (rs.map bH)])[k']? =some (.lst xs'):=⟨_,_,rfl,atM⟩
   have more:∀y,RwP far sz y→∀r∈rs++[y],RwP far sz r:=fun y hy r hr=>by
    rcases aaN.mp hr with hr | hr
    ·exact hd r hr
    ·rw [abh.mp hr];exact hy
   have so:=EG (far:=far) (many:=(sz:Int)) (by omega) (by omega)
   refine ⟨ns,2+(k:Int),rfl,nl,by omega,by omega,fun f hf=>⟨by decide, ?_⟩⟩
   obtain ⟨kd,ek,hkd⟩:=CQ (n:=f)
   refine az rfl ek ?_
   refine ⟨fun ρ M2=>M2=M'++[MO.lst (rs.map bH)]∧∃c:Nat,(1≤c∧c≤6)∧ρ=[some (.scr ns),some (.int b0),some (.int (b0 % 8)),some (.int t),some (.int (sz:Int)),some (frD share),some (szD (ssF far sz)),some (.loc M'.length),some (.int (k:Int)),some (.int f),some (.str kd),some (.int (c:Int)),o5], ?_, ?_⟩
   ·have cut:∀t:Int,∃c:Nat,(1≤c∧c≤6)∧1+t % 6=(c:Int):=fun t=>⟨(1+t % 6).toNat,by omega,by omega⟩
    have cutE:∀(t:Int) (ρ:List (Option Dt)),(∃c:Nat,(1≤c∧c≤6)∧ρ++[some (.int (1+t % 6)),o5]=ρ++[some (.int (c:Int)),o5]):=fun t ρ=>by
     obtain ⟨c,h1,h2⟩:=cut t
     exact ⟨c,h1,by rw [h2]⟩
    refine ⟨f,rfl,fun b=>⟨fun _=> ?_,fun _=> ?_⟩⟩
    ·exact ⟨⟨by decide,bg (k:=10) (by decide)⟩,by decide,rfl,cutE (f / 8) [some (.scr ns),some (.int b0),some (.int (b0 % 8)),some (.int t),some (.int (sz:Int)),some (frD share),some (szD (ssF far sz)),some (.loc M'.length),some (.int (k:Int)),some (.int f),some (.str kd)]⟩
    ·exact ⟨⟨i9 hf,bg (k:=20) (by decide)⟩,by decide,by decide,rfl,cutE (f * 48271 % 65537) [some (.scr ns),some (.int b0),some (.int (b0 % 8)),some (.int t),some (.int (sz:Int)),some (frD share),some (szD (ssF far sz)),some (.loc M'.length),some (.int (k:Int)),some (.int f),some (.str kd)]⟩
   rintro ρ2 M2 ⟨rfl,c,⟨c1,c6⟩,rfl⟩
   refine ⟨fun z=> ?_,fun z=> ?_⟩
   ·have z:kd="end":=of_decide_eq_true z
    refine ⟨first,f,(k:Int),3,ssF far sz,rfl,hf,by omega,by omega,by decide,so,fun xs xl hx=>cR (eN _) ?_⟩
    refine ⟨xs,decide (b0 % 8=5),rfl,by omega,hx,fun p pp=>⟨by show 2≤sizeLine;decide,M'.length,_,_,rfl,rfl,atM,lt, ?_⟩⟩
    rw [←hfar] at pp
    have e:Dt.tup [.str kd,frD p]=bH (.fin p):=by rw [z];rfl
    rw [e,setM (.fin p)]
    exact nxt _ _ ⟨m,k+1,rs++[Rw.fin p],_,_,_,_,_,by simp,by omega,by simp [hl],more (.fin p) ⟨⟨⟨pp.red.pos,pp.fit⟩,fun _ _ e=>nomatch e⟩,fun _ e=>by cases e;exact pp,fun _ _ e=>nomatch e⟩,rfl,rfl⟩
   ·have z:kd≠"end":=of_decide_eq_false z
    have hkd:aK kd=true∨kd="chance":=by
     rcases hkd with hk | hk | hk
     ·exact .inl hk
     ·exact .inr hk
     ·exact absurd hk z
    refine ⟨⟨bg (k:=10) (by decide),bg (k:=10) (by omega)⟩,f,(k:Int),5 * c,ssF far sz,by rw [Int.natCast_mul];rfl,hf,by omega,by omega,by omega,so,fun xs xl hx=>cR (eN _) ?_⟩
    refine ⟨first,kd,xs,sz,decide (b0 % 8=5),c,rfl,xl,c1,c6,hx,by omega,by omega,hkd,fun ds dl hds=>cR (gb ds) ?_⟩
    rw [←hfar] at hds
    refine ⟨by show 2≤sizeLine;decide,M'.length,_,_,rfl,rfl,atM,lt, ?_⟩
    exact nxt _ _ ⟨m,k+1,rs++[Rw.doors kd ds],_,_,_,_,_,by simp,by omega,by simp [hl],more (.doors kd ds) hds,setM (.doors kd ds),rfl⟩
  ·obtain ⟨n,k,rs,o1,o2,o3,o4,o5,ex,hkn,hl,hd,rfl,rfl⟩:=hj
   have hn:n=0:=by
    have:=congrArg List.length ex
    unfold gm at this
    simpa using this.symm
   have e:rs.length=sz:=by omega
   exact ⟨by show 2≤sizeLine;decide,h share rs far ⟨hs,by omega,by omega,fun z=>by have:=n4 z;omega,by rw [e];exact hd⟩⟩
def zR:DF:=fun as M q _=>∃rows:List Rw,as=[.lst (rows.map bH)]∧rows.length≤12∧(∀r∈rows,gh r)∧q (.lst (rows.map bH)) M
theorem uk:ax ["_law_rows"] ["_law_rows"] (ah gs):=⟨rfl,rfl,rfl,by decide+kernel,rfl,by decide+kernel,by decide+kernel⟩
theorem sF{f:Addr}{fd:FuncData}(F:Fun K "_law_copy" "_law_copy" gs f fd)(E:Ev K mg Cm CF CN):bK P w K mg base (CX1 P w) 1 f fd ["_law_rows"] (spD K zR):=by
 refine F.okD uk (fun ds M q x h=> ?_) (fun cdv A outer s H E' hr=>⟨_,(ai (ay (vG (ys:=[]) (caps:=[]) ⟨rfl,by decide+kernel,by decide+kernel,(by show∀x:Str,x∈(["_law_kind","_law_part"]:List Str)→_;decide+kernel),(by show∀p:Str×NameKind,p∈_→p.2=NameKind.free→List.lookup p.1 (ah gs).names=some .cell;decide+kernel),by decide+kernel,(by show∀q:Str×Nat,q∈_→(["_law_rows"]:List Str)[q.2]? =some q.1∧List.lookup q.1 (ah gs).names=some .cell∧_;decide+kernel),rfl⟩ (cG (jv 0)) (fun C s H fp=>(eU (aa (jv 0) (aa (sU (gz hr (jv 0) kz) (jv 1) (da (nE E.n_list (aa (jv 1) af (hs:=ao))))) af) (hs:=ao))))))),fun ds M q x h=> ?_⟩)
 ·obtain ⟨rows,rfl,_⟩:=h;rfl
 ·obtain ⟨rows,rfl,l12,ro,h⟩:=h
  walk_at "vc"
  dsimp only [zE,gB]
  walk_at "vc"
  refine ⟨by rw [aac];exact aau (show _≤12 by omega) (by decide), ?_⟩
  refine jF trivial (fun x=>x) _ _ (fun x hx qq hq=> ?_) ?_
  ·obtain ⟨r,hr',rfl⟩:=aan.mp hx
   have rr:=ro r hr'
   cases r with
   | fin p=>
    refine ⟨fun _=> ?_,fun z=>(nomatch z)⟩
    exact ⟨by show 2≤sizeLine;decide,hq⟩
   | doors k ds=>
    refine ⟨fun z=>absurd (of_decide_eq_true z) rr.1,fun _=> ?_⟩
    refine A8 (gb ds) ?_
    exact ⟨by show 2≤sizeLine;decide,hq⟩
  ·rw [aaP,List.map_id']
   exact h
def xF(far:Bool):Int:=if far=true then 10 ^ 36 else 12
def cF(far:Bool):Int:=if far=true then 10 ^ 30 else 9
theorem i5{b:Int}{m n:Nat}(hb:1≤b)(hmn:m≤n):b ^ m≤b ^ n:=by
 obtain ⟨c,rfl⟩:=Nat.exists_eq_add_of_le hmn
 rw [Int.pow_add]
 have p:0 < b ^ c:=Int.pow_pos (by omega)
 have q:0≤b ^ m:=abw (by omega)
 have:=aap (show 1≤b ^ c by omega) q
 omega
theorem lG{p:Fr}(h:bo p=true)(p0:0 < p.2):d7 p (10 ^ 30)∧p.2≤1000000:=by
 unfold bo at h
 rw [aao,decide_eq_true_iff,decide_eq_true_iff] at h
 have h1:=h.1
 have:10 ^ 30≤p.2 * 10 ^ 30:=by
  have:=aay (show 1≤p.2 by omega) (show (0:Int)≤10 ^ 30 by decide)
  omega
 unfold d7
 split at h1 <;> exact ⟨⟨by omega,by omega⟩,h.2⟩
theorem yC.nr{far:Bool}{p:Fr}{E:Int}(h:yC far p)(he:p.2∣E):Nr E (cF far) p:=by
 refine ⟨h.red,rh he, ?_⟩
 cases far with
 | true=>exact (lG h.fit h.red.pos).1
 | false=>exact (h.near rfl).2
theorem LF.fw{share:Fr}{rows:List Rw}{far:Bool}(lf:LF share rows far):FW share rows (xF far) (cF far):=by
 refine ⟨⟨lf.sh,lf.n12,fun r hr=>(lf.row r hr).1.1⟩,lf.n1,fun k ds hm hk=>(lf.row _ hm).1.2 k ds rfl hk,fun k ds hm=> ?_,fun p hm=> ?_, ?_, ?_, ?_⟩
 ·have pp:=(lf.row _ hm).2.2 k ds rfl
  cases far with
  | true=>
   have l6:ds.length≤6:=(fD (share:=share) (rows:=rows) ⟨lf.sh,lf.n12,fun r hr=>(lf.row r hr).1.1⟩ hm).l6
   have all:∀a∈ds.map (·.2.1.2),0 < a∧a≤1000000:=fun a ha=>by
    obtain ⟨d,hd,rfl⟩:=aan.mp ha
    exact ⟨(pp d hd).red.pos,(lG (pp d hd).fit (pp d hd).red.pos).2⟩
   refine ⟨mV (ds.map (·.2.1.2)),lB fun a ha=>(all a ha).1, ?_,fun d hd=>(pp d hd).nr (qE (aan.mpr ⟨d,hd,rfl⟩))⟩
   have:=uL all
   rw [aac] at this
   refine abf this ?_
   exact abf (i5 (by decide) l6) (by decide)
  | false=>exact ⟨12,by decide,by decide,fun d hd=>(pp d hd).nr ((pp d hd).near rfl).1⟩
 ·have pp:=(lf.row _ hm).2.1 p rfl
  cases far with
  | true=>exact ⟨p.2,pp.red.pos,abf (lG pp.fit pp.red.pos).2 (by decide),pp.nr (Int.dvd_refl _)⟩
  | false=>exact ⟨12,by decide,by decide,pp.nr (pp.near rfl).1⟩
 ·cases far <;> decide
 ·cases far <;> decide
 ·cases far <;> decide
theorem LF.sz{share:Fr}{rows:List Rw}{far:Bool}(lf:LF share rows far):fwB (xF far) (cF far)≤2 ^ 450∧(12 * fwB (xF far) (cF far)) ^ rows.length < 2 ^ 1030:=by
 cases far with
 | true=>exact ⟨by decide,aax (i5 (by decide) (lf.n4 rfl)) (by decide)⟩
 | false=>exact ⟨by decide,aax (i5 (by decide) lf.n12) (by decide)⟩
structure ou(rows:List Rw)(hand:Str)(p:Pl):Prop where
 nd:NdP p
 len:p.length≤12
 has:∀(i:Nat) (r:Rw),rows[i]? =some r→kindOf r=hand→∃j:Nat,aY p i=some (j:Int)∧j < (aI r).length
 only:∀(i v:Int),aY p i=some v→∃(j:Nat) (r:Rw),i=(j:Int)∧rows[j]? =some r∧kindOf r=hand
structure jI(rows:List Rw)(hand:Str)(n:Nat)(p:Pl):Prop where
 nd:NdP p
 len:p.length≤n
 has:∀(i:Nat) (r:Rw),i < n→rows[i]? =some r→kindOf r=hand→∃j:Nat,aY p i=some (j:Int)∧j < (aI r).length
 only:∀(i v:Int),aY p i=some v→∃(j:Nat) (r:Rw),i=(j:Int)∧rows[j]? =some r∧kindOf r=hand
theorem uI{p:Pl}{i v:Int}{n:Nat}(h:p.length≤n):(i4 p i v).length≤n+1:=by
 unfold i4
 split
 ·rw [aac];omega
 ·rw [aai];exact Nat.succ_le_succ h
theorem jI.put{rows:List Rw}{hand:Str}{n j:Nat}{p:Pl}{r:Rw}(h:jI rows hand n p)(hi:rows[n]? =some r)(hk:kindOf r=hand)(hj:j < (aI r).length):jI rows hand (n+1) (i4 p n (j:Int)):=by
 refine ⟨zf h.nd,uI h.len,fun i r' il hi' hk'=> ?_,fun i v hg=> ?_⟩
 ·rw [jz]
  by_cases e:i=n
  ·subst e
   rw [hi] at hi'
   cases hi'
   exact ⟨j,by rw [if_pos rfl],hj⟩
  ·rw [if_neg (by omega)];exact h.has i r' (by omega) hi' hk'
 ·rw [jz] at hg
  split at hg
  ·rename_i e
   exact ⟨n,r,e,hi,hk⟩
  ·exact h.only i v hg
theorem jI.skip{rows:List Rw}{hand:Str}{n:Nat}{p:Pl}{r:Rw}(h:jI rows hand n p)(hi:rows[n]? =some r)(hk:kindOf r≠hand):jI rows hand (n+1) p:=by
 refine ⟨h.nd,Nat.le_succ_of_le h.len,fun i r' il hi' hk'=> ?_,h.only⟩
 by_cases e:i=n
 ·subst e
  rw [hi] at hi'
  cases hi'
  exact absurd hk' hk
 ·exact h.has i r' (by omega) hi' hk'
theorem oW{r:Rw}{M:Ms}{q:DQ}(h:q (.str (kindOf r)) M):fIx (bH r) (.int 0) M q:=by
 obtain ⟨e,er⟩:=yY (r:=r)
 rw [er]
 exact az (xs:=[.str (kindOf r),e]) rfl bO h
theorem uD{rows:List Rw}{i:Nat}{r:Rw}(hi:rows[i]? =some r){M:Ms}{q:DQ}(h:q (bH r) M):fIx (.lst (rows.map bH)) (.int (i:Int)) M q:=az (xs:=rows.map bH) rfl (aB (ly hi)) h
def zM:DF:=fun as M q _=>∃(ns:List Int) (rows:List Rw) (hand:Str) (at':Int),as=[.scr ns, .lst (rows.map bH), .str hand, .int at']∧ns.length≤63∧0≤at'∧at'≤100∧rows.length≤12∧aK hand=true∧(∀k ds,Rw.doors k ds∈rows→1≤ds.length∧ds.length≤6)∧∀p,ou rows hand p→q (.loc M.length) (M++[dP p])
theorem cN:ax ["_law_script","_law_rows","_law_hand","_law_at_here","_law_plan_here","_law_number","_law_digits","_law_xs","_law_k","_law_count"] ["_law_script","_law_rows","_law_hand","_law_at_here"] (ah k9):=⟨rfl,rfl,rfl,by decide+kernel,rfl,by decide+kernel,by decide+kernel⟩
theorem sE{f:Addr}{fd:FuncData}(F:Fun K "_law_plan" "_law_plan" k9 f fd)(E:Ev K mg Cm CF CN){fLawAt:Addr}{dLawAt:FuncData}(c_LawAt:bU P w K mg base 1 "_law_at" ["_law_script","_law_k"] TAt fLawAt dLawAt){fLawByDigits:Addr}{dLawByDigits:FuncData}(c_LawByDigits:bU P w K mg base 1 "_law_by_digits" ["_law_number"] D7 fLawByDigits dLawByDigits){fLawStream:Addr}{dLawStream:FuncData}(c_LawStream:bU P w K mg base 1 "_law_stream" ["_law_number","_law_many"] qe fLawStream dLawStream):bK P w K mg base (CX1 P w) 2 f fd ["_law_script","_law_rows","_law_hand","_law_at_here"] (spD K zM):=by
 refine F.okD cN (fun ds M q x h=> ?_) (fun cdv A outer s H E' hr=>⟨_,(ae (au (i:=4) cN.nd rfl (Or.inl rfl) zm)
   (ae (au (i:=5) cN.nd rfl (Or.inl rfl) (br c_LawAt hr ar (aa (jv 0) (aa (jv 3) af (hs:=ao)) (hs:=ao))))
   (ae (au (i:=6) cN.nd rfl (Or.inl rfl) (br c_LawByDigits hr ar (aa (jv 5) af (hs:=ao))))
   (ae (au (i:=7) cN.nd rfl (Or.inl rfl) (da (br c_LawStream hr ar (aa (jv 5) (aa (cW E.n_len (aa (jv 1) af (hs:=ao))) af (hs:=bM)) (hs:=ao)))))
   (ae (fk (cy E.n_range (aa (cW E.n_len (aa (jv 1) af (hs:=ao))) af (hs:=bM))) (aN (i:=8) cN.nd rfl (Or.inl rfl)) bR (ai (bu (gz hr (aG (aG (jv 1) (jv 8)) av) (jv 2)) (ae (au (i:=9) cN.nd rfl (Or.inl rfl) (cW E.n_len (aa (aG (aG (jv 1) (jv 8)) av) af (hs:=bL))))
   (ae (fP (lW hr (jv 4) (jv 8) (bQ (sU (cQ (jv 6)) (jv 5) (aG (jv 7) (jv 8))) (jv 9))))
   (ai (au (i:=5) cN.nd rfl (Or.inl rfl) (js (jv 5) (jv 9)))))) aE)))
   (ai (ay (jv 4)))))))),fun ds M q x h=> ?_⟩)
 ·obtain ⟨ns,rows,hand,at',rfl,_⟩:=h;rfl
 ·obtain ⟨ns,rows,hand,at',rfl,nl,a0,a1,l12,hh,hdr,h⟩:=h
  refine ⟨ns,at',rfl,nl,a0,by omega,fun n0 hn0=>⟨n0,rfl,fun dg=> ?_⟩⟩
  walk_at "vc"
  refine (aJ (d:= .lst (rows.map bH)) (xs:=rows.map bH) rfl ?_:ik [.lst (rows.map bH)] _ _)
  rw [aac]
  refine ⟨n0,rows.length,rfl,i9 hn0,by omega,fun xs xl hx=>cR (eN _) ?_⟩
  refine (aJ (d:= .lst (rows.map bH)) (xs:=rows.map bH) rfl ?_:ik [.lst (rows.map bH)] _ _)
  rw [aac]
  refine ⟨by omega, ?_⟩
  rw [show ((rows.length:Int)).toNat=rows.length by omega]
  refine bX (fun zs ρ' M'=>∃(i m:Nat) (p:Pl) (n:Int) (o8 o9:Option Dt),zs=gm (i:Int) m∧i+m=rows.length∧jI rows hand i p∧Nm n∧M'=M++[dP p]∧ρ'=[some (.scr ns),some (.lst (rows.map bH)),some (.str hand),some (.int at'),some (.loc M.length),some (.int n),some (.bl dg),some (.lst (xs.map Dt.int)),o8,o9]) (fun x zs ρ' M' hj nxt=> ?_) (fun ρ' M' hj=> ?_) _ _ _ ⟨0,rows.length,[],n0,none,none,rfl,by omega,⟨List.nodup_nil,aah _,fun i r il=>absurd il (abe _),fun i v hg=>(nomatch hg)⟩,hn0,rfl,rfl⟩
  ·obtain ⟨i,m,p,n,o8,o9,ex,im,pt,hn,rfl,rfl⟩:=hj
   obtain ⟨m',rfl,rfl,rfl⟩:=bI ex
   have il:i < rows.length:=by omega
   have hi:rows[i]? =some rows[i]:=aaa il
   generalize hr0:rows[i]=r at *
   have rm:r∈rows:=aaj hi
   walk_at "vc"
   refine uD hi (oW ?_)
   refine ⟨fun z=> ?_,fun z=> ?_⟩
   ·have z:kindOf r=hand:=of_decide_eq_true z
    cases r with
    | fin p=>exact absurd (z▸hh) (by show¬aK (Str.ofString "end")=true;decide)
    | doors k ds=>
     obtain ⟨d1,d6⟩:=hdr k ds rm
     refine uD hi (Aj ?_)
     refine (aJ (d:= .lst (ds.map drG)) (xs:=ds.map drG) rfl ?_:ik [.lst (ds.map drG)] _ _)
     rw [aac]
     have d0:(0:Int) < ds.length:=by omega
     have put:∀v:Int,∃j:Nat,v % (ds.length:Int)=(j:Int)∧j < ds.length:=fun v=>by
      have v0:=aaJ v (show (ds.length:Int)≠0 by omega)
      have v1:=aaH v d0
      exact ⟨(v % (ds.length:Int)).toNat,by omega,by omega⟩
     have fin:∀v:Int,∃k ks ds' key,Dt.loc M.length= .loc k∧(M++[dP p])[k]? =some (.dct ks ds')∧AX (.int (i:Int))=some key∧ks.length < 1000∧(∃j:Nat,j < ds.length∧(M++[dP p]).set k (.dct (fH ks key) (eD ks key ds' (.int (v % (ds.length:Int)))))=M++[dP (i4 p i (j:Int))]):=fun v=>by
      obtain ⟨j,e,jl⟩:=put v
      refine ⟨M.length,_,_,Sum.inl (i:Int),rfl,aQ,rfl,by unfold kP;rw [List.length_map];have:=pt.len;omega,j,jl, ?_⟩
      rw [e,sy (v:=(j:Int)),uJ,cn]
     refine ⟨fun ρ M2=>∃j:Nat,j < ds.length∧M2=M++[dP (i4 p i (j:Int))]∧ρ=[some (.scr ns),some (.lst (rows.map bH)),some (.str hand),some (.int at'),some (.loc M.length),some (.int n),some (.bl dg),some (.lst (xs.map Dt.int)),some (.int (i:Int)),some (.int (ds.length:Int))],⟨fun _=> ?_,fun _=> ?_⟩, ?_⟩
     ·refine ⟨d0, ?_⟩
      obtain ⟨k',ks,ds',key,f1,f2,f3,f4,j,jl,f5⟩:=fin n
      exact ⟨k',ks,ds',key,f1,f2,f3,f4,j,jl,f5,rfl⟩
     ·have kx:i < xs.length:=by omega
      walk_at "vc"
      refine (az (d:= .lst (xs.map Dt.int)) rfl (eT kx) ?_:fIx (.lst (xs.map Dt.int)) (.int (i:Int)) _ _)
      refine ⟨d0, ?_⟩
      obtain ⟨k',ks,ds',key,f1,f2,f3,f4,j,jl,f5⟩:=fin xs[i]
      exact ⟨k',ks,ds',key,f1,f2,f3,f4,j,jl,f5,rfl⟩
     ·rintro ρ2 M2 ⟨j,jl,rfl,rfl⟩
      refine ⟨⟨d0,bg (k:=10) (by omega)⟩, ?_⟩
      exact nxt _ _ ⟨i+1,m',_,_,_,_,by rw [abg];rfl,by omega,pt.put hi z jl,vh hn d0,rfl,rfl⟩
   ·have z:kindOf r≠hand:=of_decide_eq_false z
    exact nxt _ _ ⟨i+1,m',p,n,_,_,by rw [abg];rfl,by omega,pt.skip hi z,hn,rfl,rfl⟩
  ·obtain ⟨i,m,p,n,o8,o9,ex,im,pt,hn,rfl,rfl⟩:=hj
   have m0:m=0:=by
    have:=congrArg List.length ex
    rw [eC] at this;exact this.symm
   have e:i=rows.length:=by omega
   subst e
   exact h p ⟨pt.nd,aau pt.len l12,fun i r hi hk=>pt.has i r (aaf.mp hi).1 hi hk,pt.only⟩
structure kN(p p':Pl)(n:Nat):Prop where
 nd:NdP p'
 len:p'.length≤n
 same:∀(i v:Int),aY p i=some v→aY p' i=some v
theorem kN.put{p p':Pl}{n:Nat}{i v:Int}(h:kN p p' n)(hi:aY p i=none):kN p (i4 p' i v) (n+1):=⟨zf h.nd,uI h.len,fun j x hj=>by
 rw [jz,if_neg fun z=>by rw [z,hi] at hj;cases hj]
 exact h.same j x hj⟩
def zO:DF:=fun as M q _=>∃(kp:Nat) (p:Pl) (rows:List Rw) (cell:Int),as=[.loc kp, .lst (rows.map bH), .int cell]∧M[kp]? =some (dP p)∧NdP p∧p.length≤12∧(∀i v,aY p i=some v→0≤i)∧Nm cell∧rows.length≤12∧∀p',kN p p' 30→q (.loc M.length) (M++[dP p'])
theorem eg:ax ["_law_plan_here","_law_rows","_law_cell","_law_some","_law_k"] ["_law_plan_here","_law_rows","_law_cell"] (ah fb):=⟨rfl,rfl,rfl,by decide+kernel,rfl,by decide+kernel,by decide+kernel⟩
theorem jS{f:Addr}{fd:FuncData}(F:Fun K "_law_with_more" "_law_with_more" fb f fd)(E:Ev K mg Cm CF CN):bK P w K mg base (CX1 P w) 1 f fd ["_law_plan_here","_law_rows","_law_cell"] (spD K zO):=by
 refine F.okD eg (fun ds M q x h=> ?_) (fun cdv A outer s H E' hr=>⟨_,(ae (au (i:=3) eg.nd rfl (Or.inl rfl) (nG E.n_dict (aa (jv 0) af (hs:=ao))))
   (ae (fP (bu (gz hr (bQ (jv 2) av) av) (ae (fk (cy E.n_range (aa (cz (cW E.n_len (aa (jv 1) af (hs:=ao))) av) af (hs:=bT))) (aN (i:=4) eg.nd rfl (Or.inl rfl)) bR (ai (bu (nC hr (jv 4) (jv 0)) (ai (lW hr (jv 3) (jv 4) (pO (bQ (bQ (aO (jv 2) (cz av (aO (jv 4) (jv 4)))) av) av) av))) aE)))
   (ai (lW hr (jv 3) (pO (C4 av) (bQ (jv 2) av)) (bQ (bQ (aO (jv 2) av) av) av)))) aE))
   (ai (ay (jv 3))))),fun ds M q x h=> ?_⟩)
 ·obtain ⟨kp,p,rows,cell,rfl,_⟩:=h;rfl
 ·obtain ⟨kp,p,rows,cell,rfl,hk,nd,pl,pos,hc,l12,h⟩:=h
  have km:∀m:MO,(M++[m])[kp]? =some (dP p):=fun m=>aM hk
  refine ⟨kp,_,_,rfl,hk, ?_⟩
  refine ⟨fun ρ M'=>∃p',kN p p' 30∧M'=M++[dP p']∧∃o4,ρ=[some (.loc kp),some (.lst (rows.map bH)),some (.int cell),some (.loc M.length),o4], ?_, ?_⟩
  ·refine ⟨by decide,fun _=> ?_,fun _=>⟨p,⟨nd,by omega,fun _ _ h=>h⟩,rfl,none,rfl⟩⟩
   walk_at "vc"
   refine (aJ (d:= .lst (rows.map bH)) (xs:=rows.map bH) rfl ?_:ik [.lst (rows.map bH)] _ _)
   rw [aac]
   dsimp only [tM]
   refine ⟨by omega, ?_⟩
   rw [show ((rows.length:Int)+2).toNat=rows.length+2 by omega]
   refine bX (fun zs ρ' M'=>∃(i m:Nat) (p':Pl) (o4:Option Dt),zs=gm (i:Int) m∧i+m=rows.length+2∧kN p p' (12+i)∧M'=M++[dP p']∧ρ'=[some (.loc kp),some (.lst (rows.map bH)),some (.int cell),some (.loc M.length),o4]) (fun x zs ρ' M' hj nxt=> ?_) (fun ρ' M' hj=> ?_) _ _ _ ⟨0,rows.length+2,p,none,rfl,by omega,⟨nd,by omega,fun _ _ h=>h⟩,rfl,rfl⟩
   ·obtain ⟨i,m,p',o4,ex,im,mo,rfl,rfl⟩:=hj
    obtain ⟨m',rfl,rfl,rfl⟩:=bI ex
    have i14:(i:Int) < 14:=by omega
    have ii:0≤(i:Int) * i∧(i:Int) * i≤14 * 14:=⟨aaR (by omega) (by omega),aa6 (by omega) (by omega) (by omega) (by decide)⟩
    refine ⟨kp,_,_,Sum.inl (i:Int),rfl,km _,rfl, ?_⟩
    rw [Di]
    cases hg:aY p i with
    | some v=>
     refine ⟨fun z=>(nomatch z),fun _=> ?_⟩
     exact nxt _ _ ⟨i+1,m',p',_,by rw [abg];rfl,by omega,⟨mo.nd,by have:=mo.len;omega,mo.same⟩,rfl,rfl⟩
    | none=>
     refine ⟨fun _=> ?_,fun z=>(nomatch z)⟩
     dsimp only [qy]
     walk_at "vc"
     refine ⟨⟨bg (k:=10) (by omega),bg (k:=10) (by omega)⟩,⟨i9 hc,bg (k:=20) (by omega)⟩,by decide,by decide, ?_⟩
     dsimp only [ym]
     refine ⟨M.length,_,_,Sum.inl (i:Int),rfl,aQ,rfl,by unfold kP;rw [List.length_map];have:=mo.len;omega, ?_⟩
     rw [sy (v:=_),uJ,cn]
     exact nxt _ _ ⟨i+1,m',_,_,by rw [abg];rfl,by omega,mo.put hg,rfl,rfl⟩
   ·obtain ⟨i,m,p',o4,ex,im,mo,rfl,rfl⟩:=hj
    have m0:m=0:=by
     have:=congrArg List.length ex
     rw [eC] at this;exact this.symm
    have c0:=aaJ cell (show (13:Int)≠0 by decide)
    dsimp only [qy]
    walk_at "vc"
    refine ⟨⟨i9 hc,bg (k:=20) (by decide)⟩,by decide,by decide,by decide, ?_⟩
    dsimp only [ym]
    refine ⟨M.length,_,_,Sum.inl (-1 - cell % 13),rfl,aQ,rfl,by unfold kP;rw [List.length_map];have:=mo.len;omega, ?_⟩
    rw [sy (v:=_),uJ,cn]
    have hn:aY p (-1 - cell % 13)=none:=by
     cases hg:aY p (-1 - cell % 13) with
     | none=>rfl
     | some v=>have:=pos _ v hg;omega
    have mo':=mo.put (v:=cell * 69621 % 65521 % 6) hn
    exact ⟨_,⟨mo'.nd,by have:=mo'.len;omega,mo'.same⟩,rfl,_,rfl⟩
  ·rintro ρ M' ⟨p',mo,rfl,o4,rfl⟩
   exact h p' mo
theorem BB{p:Fr}{C:Int}(h:0 < p.2)(a:d7 p C):ab (val p)≤(C:Rat):=by
 have e:val p * (p.2:Rat)=p.1:=by
  have:=aP (show p.2≠0 by omega)
  unfold val
  generalize (p.1:Rat)=x at *
  generalize (p.2:Rat)=y at *
  grind
 have p0:(0:Rat) < (p.2:Rat):=abH.mpr h
 have a1:(p.1:Rat)≤(p.2:Rat) * (C:Rat):=by rw [←aaC];exact aaV.mpr a.1
 have a2: -((p.2:Rat) * (C:Rat))≤(p.1:Rat):=by rw [←aaC,←Rat.intCast_neg];exact aaV.mpr a.2
 refine jZ.mpr ⟨?_, ?_⟩
 ·by_cases z: -(C:Rat)≤val p
  ·exact z
  ·have:=Rat.mul_pos (show 0 < -(C:Rat) - val p by grind) p0
   grind
 ·by_cases z:val p≤(C:Rat)
  ·exact z
  ·have:=Rat.mul_pos (show 0 < val p - (C:Rat) by grind) p0
   grind
theorem zY{p:Fr}{C:Int}(h:0 < p.2)(a:ab (val p)≤(C:Rat)):d7 p C:=by
 have e:val p * (p.2:Rat)=p.1:=by
  have:=aP (show p.2≠0 by omega)
  unfold val
  generalize (p.1:Rat)=x at *
  generalize (p.2:Rat)=y at *
  grind
 have p0:(0:Rat)≤(p.2:Rat):=aaV.mpr (aag h)
 obtain ⟨a1,a2⟩:=jZ.mp a
 have b1:=abB a1 p0
 have b2:=abB a2 p0
 constructor
 ·apply aaV.mp
  rw [Rat.intCast_mul];grind
 ·apply aaV.mp
  rw [Rat.intCast_neg,Rat.intCast_mul];grind
theorem Sys.abs{share:Fr}{n:Nat}{B:Int}{ws:Nat→List DrG}{gv:Nat→Fr}{tb:List Fr}{c:Rat}(S:Sys share n B ws gv)(h:Tab share n ws gv tb)(s3:1≤1000 * (1 - val share))(hg:∀i,i < n→ab (val (gv i))≤c):∀i,i < n→ab (val (tb.getD i (0,1)))≤1000 * c:=fun i hi=>by
 have s0:=S.s0
 have s1:=S.s1
 have:=yT (n:=n) (x:=fun x=>val (tb.getD x (0,1))) (c:=c) s1 (fun i hi m hm=>by
  obtain ⟨E,C,p,_⟩:=S.plc i hi
  have w:=jZ.mp (tS p.wo (by omega) hm)
  have a:=aaO w.1 s0
  have b:=aaO w.2 s0
  have g:=jZ.mp (hg i hi)
  rw [h.eq i hi]
  refine jZ.mpr ⟨?_, ?_⟩ <;> grind) i hi
 have a0:=FU (val (tb.getD i (0,1)))
 have:=aaO s3 a0
 grind
structure BI(tb:List Fr)(n:Nat):Prop where
 len:tb.length=n
 red:∀t∈tb,Red t
 sz:∀t∈tb,t.2 < 2 ^ 1030∧t.1.natAbs < 2 ^ 1150
theorem Wth.ok{share:Fr}{rows:List Rw}{acc:Pl}{tb:List Fr}{X C:Int}(fw:FW share rows X C)(dk:xc rows acc)(b1:1≤fwB X C)(h:Wth share rows acc tb):BI tb rows.length:=by
 have S:=fw.sys dk b1
 obtain ⟨_,_,_,_,_,s3⟩:=fw.sh
 have c1:=fw.c1
 have ln:=h.tab.len
 have g:∀t∈tb,∃i,i < rows.length∧tb.getD i (0,1)=t:=fun t ht=>by
  obtain ⟨i,hi,e⟩:=aa3 ht
  exact ⟨i,by omega,by rw [aab,aaa hi,e];rfl⟩
 have ab:=S.abs h.tab s3 (c:=((6 * C:Int):Rat)) fun i hi=>by
  obtain ⟨E,p,_⟩:=fw.plc dk (uw hi)
  exact BB p.gn.red.pos p.gn.ab
 refine ⟨ln,fun t ht=> ?_,fun t ht=> ?_⟩
 ·obtain ⟨i,hi,e⟩:=g t ht
  rw [←e];exact h.tab.red i hi
 ·obtain ⟨i,hi,e⟩:=g t ht
  have r:=h.tab.red i hi
  have b:=h.bot i hi
  have a:=ab i hi
  rw [e] at r b a
  have r0:=r.pos
  have a:Pg.ab (val t)≤((1000 * (6 * C):Int):Rat):=by rw [aaC];exact a
  obtain ⟨v1,v2⟩:=zY r0 a
  refine ⟨b, ?_⟩
  have m:t.2 * (1000 * (6 * C))≤2 ^ 1030 * (1000 * (6 * 10 ^ 30)):=aa6 (aag b) (by omega) (by have:=fw.c9;omega) (by decide)
  have:(t.1.natAbs:Int) < ((2 ^ 1150:Nat):Int):=aax (show _≤(2:Int) ^ 1030 * (1000 * (6 * 10 ^ 30)) by omega) (by decide)
  exact abv.mp this
def shL(share:Fr)(tb:List Fr)(d:DrG):Fr:=(d.2.1.1 * share.2 * (tb.getD d.1.toNat (0,1)).2+share.1 * (tb.getD d.1.toNat (0,1)).1 * d.2.1.2,d.2.1.2 * share.2 * (tb.getD d.1.toNat (0,1)).2)
theorem yU{share:Fr}{tb:List Fr}{d:DrG}(h1:0 < share.2)(h2:0 < d.2.1.2)(h3:0 < (tb.getD d.1.toNat (0,1)).2):val (shL share tb d)=val d.2.1+val share * val (tb.getD d.1.toNat (0,1))∧0 < (shL share tb d).2:=by
 refine ⟨?_,aaB (aaB h2 h1) h3⟩
 have a:=aP (show share.2≠0 by omega)
 have b:=aP (show d.2.1.2≠0 by omega)
 have c:=aP (show (tb.getD d.1.toNat (0,1)).2≠0 by omega)
 unfold shL val
 simp only [Rat.intCast_add,Rat.intCast_mul]
 generalize (d.2.1.1:Rat)=x1 at *
 generalize (d.2.1.2:Rat)=x2 at *
 generalize (share.1:Rat)=y1 at *
 generalize (share.2:Rat)=y2 at *
 generalize ((tb.getD d.1.toNat (0,1)).1:Rat)=z1 at *
 generalize ((tb.getD d.1.toNat (0,1)).2:Rat)=z2 at *
 grind
theorem bJ{a b:Int}{j k:Nat}(h1:a.natAbs < 2 ^ j)(h2:b.natAbs < 2 ^ k):(a * b).natAbs < 2 ^ (j+k):=by
 rw [aaS];exact bz h1 h2
theorem vj{a b:Int}{j:Nat}(h1:a.natAbs < 2 ^ j)(h2:b.natAbs < 2 ^ j):(a+b).natAbs < 2 ^ (j+1):=by
 have:=Int.natAbs_add_le a b
 rw [Nat.pow_succ];omega
theorem eE{a:Int}{j k:Nat}(h:a.natAbs < 2 ^ j)(l:j≤k):a.natAbs < 2 ^ k:=aam h (aby (by decide) l)
structure DrL(share:Fr)(n:Nat)(d:DrG):Prop where
 to:0≤d.1∧d.1 < n
 p1:d.2.1.1.natAbs < 2 ^ 101
 p2:0 < d.2.1.2∧d.2.1.2.natAbs < 2 ^ 20
 s1:share.1.natAbs < 2 ^ 10
 s2:0 < share.2∧share.2.natAbs < 2 ^ 10
theorem ub{tb:List Fr}{n:Nat}(tk:BI tb n){t:Int}(h:0≤t∧t < n):Red (tb.getD t.toNat (0,1))∧(tb.getD t.toNat (0,1)).2.natAbs < 2 ^ 1030∧(tb.getD t.toNat (0,1)).1.natAbs < 2 ^ 1150∧atI (tb.map frD) t=some (frD (tb.getD t.toNat (0,1))):=by
 have hl:t.toNat < tb.length:=by rw [tk.len];omega
 have m:=vV hl
 obtain ⟨s1,s2⟩:=tk.sz _ m
 have r:=tk.red _ m
 refine ⟨r, ?_,s2, ?_⟩
 ·have:((tb.getD t.toNat (0,1)).2.natAbs:Int) < ((2 ^ 1030:Nat):Int):=by
   rw [aa1 (aag r.pos),Int.natCast_pow];exact s1
  exact abv.mp this
 ·have:=Bb hl
  rw [show ((t.toNat:Nat):Int)=t by omega] at this
  rw [this,aab,aaa hl];rfl
theorem BZ{share:Fr}{tb:List Fr}{n:Nat}{d:DrG}(tk:BI tb n)(dl:DrL share n d):(shL share tb d).1.natAbs < 2 ^ 1181∧(shL share tb d).2.natAbs < 2 ^ 1060:=by
 obtain ⟨r,b2,b1,_⟩:=ub tk dl.to
 have a:=bJ (bJ dl.p1 dl.s2.2) b2
 have b:=bJ (bJ dl.s1 b1) dl.p2.2
 have c:=bJ (bJ dl.p2.2 dl.s2.2) b2
 exact ⟨vj (j:=1180) (eE a (by decide)) (eE b (by decide)),eE c (by decide)⟩
def dsF(acc s c:Fr):Fr:=(acc.1 * (s.2 * c.2)+s.1 * c.1 * acc.2,acc.2 * (s.2 * c.2))
theorem Dy{acc s c:Fr}(h1:0 < acc.2)(h2:0 < s.2)(h3:0 < c.2):val (dsF acc s c)=val acc+val c * val s∧0 < (dsF acc s c).2:=by
 refine ⟨?_,aaB h1 (aaB h2 h3)⟩
 have a:=aP (show acc.2≠0 by omega)
 have b:=aP (show s.2≠0 by omega)
 have d:=aP (show c.2≠0 by omega)
 unfold dsF val
 simp only [Rat.intCast_add,Rat.intCast_mul]
 generalize (acc.1:Rat)=x1 at *
 generalize (acc.2:Rat)=x2 at *
 generalize (s.1:Rat)=y1 at *
 generalize (s.2:Rat)=y2 at *
 generalize (c.1:Rat)=z1 at *
 generalize (c.2:Rat)=z2 at *
 grind
structure yI(k:Nat)(v:Rat)(acc:Fr):Prop where
 pos:0 < acc.2
 val:val acc=v
 t:acc.1.natAbs < 2 ^ (1202+1081 * k)
 b:acc.2.natAbs < 2 ^ (1080 * k+1)
theorem yI.step{k:Nat}{v:Rat}{acc s c:Fr}(h:yI k v acc)(s0:0 < s.2)(c0:0 < c.2)(s1:s.1.natAbs < 2 ^ 1181)(s2:s.2.natAbs < 2 ^ 1060)(c1:c.1.natAbs < 2 ^ 20)(c2:c.2.natAbs < 2 ^ 20):yI (k+1) (v+Pg.val c * Pg.val s) (dsF acc s c):=by
 obtain ⟨e,p⟩:=Dy h.pos s0 c0
 refine ⟨p,by rw [e,h.val], ?_, ?_⟩
 ·have a:=bJ h.t (bJ s2 c2)
  have b:=bJ (bJ s1 c1) h.b
  refine eE (vj (j:=1202+1081 * k+1080) (eE a (by omega)) (eE b (by omega))) (by omega)
 ·exact eE (bJ h.b (bJ s2 c2)) (by omega)
theorem qR(f:DrG→Rat):∀(l r:List DrG),bY f (l++r)=bY f l+bY f r
 | [],r=>by show bY f r=0+bY f r;grind
 | d::l,r=>by
  show f d+bY f (l++r)=f d+bY f l+bY f r
  rw [qR f l r];grind
theorem yd{M:Ms}{k:Nat}{xs:List Dt}(h:M[k]? =some (MO.lst xs)):pR M (.loc k)=some (xs,fun M'=>M'[k]? =some (MO.lst xs)):=by
 show (match M[k]? with | some (MO.lst xs)=>some (xs,fun M':Ms=>M'[k]? =some (MO.lst xs)) | _=>none)=_
 rw [h]
def G7:DF:=fun as M q _=>∃(share:Fr) (d:DrG) (tb:List Fr) (n kt:Nat),as=[frD share,drG d, .loc kt]∧M[kt]? =some (.lst (tb.map frD))∧BI tb n∧DrL share n d∧q (frD (shL share tb d)) M
theorem gJ:ax ["_law_share","_law_door","_law_table_here","_law_number","_law_top"] ["_law_share","_law_door","_law_table_here"] (ah iR):=⟨rfl,rfl,rfl,by decide+kernel,rfl,by decide+kernel,by decide+kernel⟩
theorem pq{f:Addr}{fd:FuncData}(F:Fun K "_law_shown" "_law_shown" iR f fd)(E:Ev K mg Cm CF CN):bK P w K mg base (CX1 P w) 1 f fd ["_law_share","_law_door","_law_table_here"] (spD K G7):=by
 refine F.okD gJ (fun ds M q x h=> ?_) (fun cdv A outer s H E' hr=>⟨_,(ae (au (i:=3) gJ.nd rfl (Or.inl rfl) (aG (jv 2) (aG (jv 1) av)))
   (ae (au (i:=4) gJ.nd rfl (Or.inl rfl) (cz (aO (aO (aG (aG (jv 1) av) av) (aG (jv 0) av)) (aG (jv 3) av)) (aO (aO (aG (jv 0) av) (aG (jv 3) av)) (aG (aG (jv 1) av) av))))
   (ai (ay (eU (aa (jv 4) (aa (aO (aO (aG (aG (jv 1) av) av) (aG (jv 0) av)) (aG (jv 3) av)) af (hs:=bT)) (hs:=ao))))))),fun ds M q x h=> ?_⟩)
 ·obtain ⟨share,d,tb,n,kt,rfl,_⟩:=h;rfl
 ·obtain ⟨share,d,tb,n,kt,rfl,hk,tk,dl,h⟩:=h
  obtain ⟨r,b2,b1,at_⟩:=ub tk dl.to
  have h:q (frD (d.2.1.1 * share.2 * (tb.getD d.1.toNat (0,1)).2+share.1 * (tb.getD d.1.toNat (0,1)).1 * d.2.1.2,d.2.1.2 * share.2 * (tb.getD d.1.toNat (0,1)).2)) M:=h
  generalize tb.getD d.1.toNat (0,1)=t at *
  walk_at "vc"
  refine Bj ?_
  refine (az (d:= .loc kt) (kf hk) at_ ?_:fIx (.loc kt) (.int d.1) _ _)
  refine yr (gC ?_)
  refine (fo ?_:fIx (frD share) (.int 1) _ _)
  refine ⟨⟨bg dl.p1,bg dl.s2.2⟩, ?_⟩
  refine (fo ?_:fIx (frD t) (.int 1) _ _)
  refine ⟨⟨bg (bJ dl.p1 dl.s2.2),bg b2⟩, ?_⟩
  refine (gC ?_:fIx (frD share) (.int 0) _ _)
  refine (gC ?_:fIx (frD t) (.int 0) _ _)
  refine ⟨⟨bg dl.s1,bg b1⟩, ?_⟩
  refine yr (fo ?_)
  refine ⟨⟨bg (bJ dl.s1 b1),bg dl.p2.2⟩, ?_⟩
  dsimp only [tM]
  refine yr (fo ?_)
  refine (fo ?_:fIx (frD share) (.int 1) _ _)
  refine ⟨⟨bg dl.p2.2,bg dl.s2.2⟩, ?_⟩
  refine (fo ?_:fIx (frD t) (.int 1) _ _)
  exact ⟨⟨bg (bJ dl.p2.2 dl.s2.2),bg b2⟩,by show 2≤sizeLine;decide,h⟩
structure RwL(share:Fr)(n:Nat)(r:Rw)(dd:Dt):Prop where
 ds:∀k ds,r= .doors k ds→ds.length≤6∧k≠"end"∧(∀d∈ds,DrL share n d)∧(k="chance"→∀d∈ds,d.2.2=[aj d]∧0 < (aj d).2∧(aj d).1.natAbs < 2 ^ 20∧(aj d).2.natAbs < 2 ^ 20)∧(k≠"chance"→∃j:Nat,dd= .int (j:Int)∧j < ds.length)
def D6:DF:=fun as M q _=>∃(share:Fr) (r:Rw) (tb:List Fr) (n kt:Nat) (dd:Dt),as=[frD share,bH r, .loc kt,dd]∧M[kt]? =some (.lst (tb.map frD))∧BI tb n∧RwL share n r dd∧0 < share.2∧(∀p,r= .fin p→q (frD p) M)∧(∀ds,r= .doors "chance" ds→∀f,0 < f.2→Big f.1→Big f.2→val f=bY (fun d=>cV d * (val d.2.1+val share * val (tb.getD d.1.toNat (0,1)))) ds→q (frD f) M)∧
 (∀k ds (j:Nat) d,r= .doors k ds→k≠"chance"→dd= .int (j:Int)→ds[j]? =some d→q (frD (shL share tb d)) M)
theorem dD:ax ["_law_share","_law_row","_law_table_here","_law_door","_law_some","_law_top","_law_bottom","_law_k","_law_part","_law_best","_law_number"] ["_law_share","_law_row","_law_table_here","_law_door"] (ah iU):=⟨rfl,rfl,rfl,by decide+kernel,rfl,by decide+kernel,by decide+kernel⟩
theorem vd{f:Addr}{fd:FuncData}(F:Fun K "_law_due" "_law_due" iU f fd)(E:Ev K mg Cm CF CN){fLawShown:Addr}{dLawShown:FuncData}(c_LawShown:bU P w K mg base 1 "_law_shown" ["_law_share","_law_door","_law_table_here"] G7 fLawShown dLawShown):bK P w K mg base (CX1 P w) 2 f fd ["_law_share","_law_row","_law_table_here","_law_door"] (spD K D6):=by
 refine F.okD dD (fun ds M q x h=> ?_) (fun cdv A outer s H E' hr=>⟨_,(ae (bu (gz hr (aG (jv 1) av) kz) (ai (ay (aG (jv 1) av))) aE)
   (ae (eG (i:=4) dD.nd rfl (Or.inl rfl) (ys:=["_law_share","_law_table_here"]) (caps:=[0,2]) ⟨rfl,by decide+kernel,by decide+kernel,rfl,(by show∀p:Str×NameKind,p∈_→p.2=NameKind.free→List.lookup p.1 (ah iU).names=some .cell;decide+kernel),by decide+kernel,(by show∀q:Str×Nat,q∈_→(["_law_share","_law_row","_law_table_here","_law_door","_law_some","_law_top","_law_bottom","_law_k","_law_part","_law_best","_law_number"]:List Str)[q.2]? =some q.1∧List.lookup q.1 (ah iU).names=some .cell∧_;decide+kernel),rfl⟩ (cG (aG (jv 1) av)) (fun C s H fp=>(br c_LawShown hr (gZ (P:=P) (w:=w)) (aa (jv 1) (aa (jv 0) (aa (jv 2) af (hs:=ao)) (hs:=ao)) (hs:=ao)))))
   (ae (bu (gz hr (aG (jv 1) av) kz) (ae (au (i:=5) dD.nd rfl (Or.inl rfl) av)
   (ae (au (i:=6) dD.nd rfl (Or.inl rfl) av)
   (ae (fk (cy E.n_range (aa (cW E.n_len (aa (jv 4) af (hs:=ao))) af (hs:=bM))) (aN (i:=7) dD.nd rfl (Or.inl rfl)) bR (ae (au (i:=8) dD.nd rfl (Or.inl rfl) (eU (aa (aO (aG (aG (jv 4) (jv 7)) av) (aG (aG (aG (aG (jv 1) av) (jv 7)) av) av)) (aa (aO (aG (aG (jv 4) (jv 7)) av) (aG (aG (aG (aG (jv 1) av) (jv 7)) av) av)) af (hs:=bT)) (hs:=bT))))
   (ae (au (i:=5) dD.nd rfl (Or.inl rfl) (cz (aO (jv 5) (aG (jv 8) av)) (aO (aG (jv 8) av) (jv 6))))
   (ai (au (i:=6) dD.nd rfl (Or.inl rfl) (aO (jv 6) (aG (jv 8) av)))))))
   (ai (ay (eU (aa (jv 5) (aa (jv 6) af (hs:=ao)) (hs:=ao)))))))) aE)
   (ae (bu (AY (jv 3) Ec) (ai (ay (aG (jv 4) (jv 3)))) aE)
   (ae eI
   (ae eI
   (ai eI))))))),fun ds M q x h=> ?_⟩)
 ·obtain ⟨share,r,tb,n,kt,dd,rfl,_⟩:=h;rfl
 ·obtain ⟨share,r,tb,n,kt,dd,rfl,hk,tk,rl,s0,hf,hc,hh⟩:=h
  have sl:∀{z:Nat},z≤1000→z≤sizeLine:=fun h=>aau h (by decide)
  walk_at "vc"
  refine oW ?_
  cases r with
  | fin p=>
   refine ⟨fun _=> ?_,fun z=>(nomatch z)⟩
   exact Aj (hf p rfl)
  | doors k ds=>
   obtain ⟨l6,ke,dl,dc,dh⟩:=rl.ds k ds rfl
   refine ⟨fun z=>absurd (of_decide_eq_true z) ke,fun _=> ?_⟩
   refine q9 (i:=1) (j:=1) rfl (aB (j:=1) rfl) rfl ?_
   refine ⟨by rw [aac];exact sl (by omega), ?_⟩
   refine bZ (F:=fun x d=>x=drG d∧d∈ds) (f:=fun d=>frD (shL share tb d)) (as:=ds) trivial (fun x d hx qq hq=> ?_) (fC drG ds ds fun x hx=>hx) ?_
   ·obtain ⟨rfl,hd⟩:=hx
    exact ⟨share,d,tb,n,kt,rfl,hk,tk,dl d hd,hq⟩
   rw [aaP]
   generalize hss:ds.map (fun d=>frD (shL share tb d))=ss
   have sat:∀{j:Nat} {d:DrG},ds[j]? =some d→atI ss (j:Int)=some (frD (shL share tb d)):=fun {j d} h=>aB (by rw [←hss,aak,h];rfl)
   have ssl:ss.length=ds.length:=by rw [←hss,aac]
   refine oW (r:= .doors k ds) ?_
   refine ⟨fun z=> ?_,fun z=> ?_⟩
   ·have z:k="chance":=of_decide_eq_true z
    subst z
    have dc:=dc rfl
    refine (aJ (d:= .lst ss) (xs:=ss) rfl ?_:ik [.lst ss] _ _)
    rw [ssl]
    refine ⟨by omega, ?_⟩
    rw [show ((ds.length:Int)).toNat=ds.length by omega]
    refine bX (fun zs ρ' M'=>M'=M∧∃(i m:Nat) (acc:Fr) (o7 o8:Option Dt),zs=gm (i:Int) m∧i+m=ds.length∧yI i (bY (fun d=>cV d * (val d.2.1+val share * val (tb.getD d.1.toNat (0,1)))) (ds.take i)) acc∧ρ'=[some (frD share),some (bH (.doors "chance" ds)),some (.loc kt),some dd,some (.lst ss),some (.int acc.1),some (.int acc.2),o7,o8,none,none]) (fun x zs ρ' M' hj nxt=> ?_) (fun ρ' M' hj=> ?_) _ _ _ ⟨rfl,0,ds.length,(0,1),none,none,rfl,by omega,⟨by decide,by show ((0:Int):Rat) / ((1:Int):Rat)=0;grind,by show (0:Int).natAbs < _;exact Nat.pow_pos (by decide),by show (1:Int).natAbs < _;decide⟩,rfl⟩
    ·obtain ⟨rfl,i,m,acc,o7,o8,ex,im,ak,rfl⟩:=hj
     obtain ⟨m',rfl,rfl,rfl⟩:=bI ex
     have il:i < ds.length:=by omega
     have i6:i < 6:=by omega
     have hi:ds[i]? =some ds[i]:=aaa il
     have hd:=aaA il
     have tk1:ds.take (i+1)=ds.take i++[ds[i]]:=by rw [List.take_succ,hi];rfl
     obtain ⟨c1,c2,c3,c4⟩:=dc _ hd
     obtain ⟨t1,t2⟩:=BZ tk (dl _ hd)
     obtain ⟨v1,v2⟩:=yU (share:=share) s0 (dl _ hd).p2.1 (ub tk (dl _ hd).to).1.pos
     have nx:∀o8,_:=fun o8=>nxt [some (frD share),some (bH (.doors "chance" ds)),some (.loc kt),some dd,some (.lst ss),some (.int (dsF acc (shL share tb ds[i]) (aj ds[i])).1),some (.int (dsF acc (shL share tb ds[i]) (aj ds[i])).2),some (.int (i:Int)),o8,none,none] M' ⟨rfl,i+1,m',_,_,o8,by rw [abg];rfl,by omega,by
      have:=ak.step v2 c2 t1 t2 c3 c4
      rw [tk1,qR]
      rw [v1] at this
      have e:bY (fun d=>cV d * (val d.2.1+val share * val (tb.getD d.1.toNat (0,1)))) [ds[i]]=cV ds[i] * (val ds[i].2.1+val share * val (tb.getD ds[i].1.toNat (0,1))):=by
       show cV ds[i] * (val ds[i].2.1+val share * val (tb.getD ds[i].1.toNat (0,1)))+0=_
       grind
      rw [e];exact this,rfl⟩
     have rs:∀(M':Ms) (q:DQ),q (frD (shL share tb ds[i])) M'→fIx (.lst ss) (.int (i:Int)) M' q:=fun M' q hq=>az (d:= .lst ss) rfl (sat hi) hq
     have rr:∀(M':Ms) (q:DQ),q (frD (aj ds[i])) M'→fIx (bH (.doors "chance" ds)) (.int 1) M' fun d1 M1=>fIx d1 (.int (i:Int)) M1 fun d1 M1=>fIx d1 (.int 2) M1 q:=fun M' q hq=>Aj (az (d:= .lst (ds.map drG)) rfl (Dz il) (Bi c1 hq))
     have at':=ak.t
     have ab':=ak.b
     generalize hs:shL share tb ds[i]=sv at *
     generalize hcv:aj ds[i]=cv at *
     have ba:Big acc.1:=bg at' (by omega)
     have bb:Big acc.2:=bg ab' (by omega)
     have b3:=bJ t1 c3
     have b4:=bJ t2 c4
     walk_at "vc"
     refine rs _ _ ?_
     refine (gC ?_:fIx (frD sv) (.int 0) _ _)
     refine rr _ _ ?_
     refine (gC ?_:fIx (frD cv) (.int 0) _ _)
     refine ⟨⟨bg t1,bg c3⟩, ?_⟩
     try walk_at "vc"
     refine rs _ _ ?_
     refine (fo ?_:fIx (frD sv) (.int 1) _ _)
     refine rr _ _ ?_
     refine (fo ?_:fIx (frD cv) (.int 1) _ _)
     refine ⟨⟨bg t2,bg c4⟩,by show 2≤sizeLine;decide, ?_⟩
     try walk_at "vc"
     refine (az (d:= .tup [.int (sv.1 * cv.1), .int (sv.2 * cv.2)]) rfl (aB (j:=1) rfl) ?_:fIx (.tup [.int (sv.1 * cv.1), .int (sv.2 * cv.2)]) (.int 1) _ _)
     refine ⟨⟨ba,bg b4⟩, ?_⟩
     try walk_at "vc"
     refine (az (d:= .tup [.int (sv.1 * cv.1), .int (sv.2 * cv.2)]) rfl bO ?_:fIx (.tup [.int (sv.1 * cv.1), .int (sv.2 * cv.2)]) (.int 0) _ _)
     refine ⟨⟨bg b3,bb⟩, ?_⟩
     try walk_at "vc"
     dsimp only [tM]
     refine (az (d:= .tup [.int (sv.1 * cv.1), .int (sv.2 * cv.2)]) rfl (aB (j:=1) rfl) ?_:fIx (.tup [.int (sv.1 * cv.1), .int (sv.2 * cv.2)]) (.int 1) _ _)
     exact ⟨⟨bb,bg b4⟩,nx _⟩
    ·obtain ⟨rfl,i,m,acc,o7,o8,ex,im,ak,rfl⟩:=hj
     have m0:m=0:=by
      have:=congrArg List.length ex
      rw [eC] at this;exact this.symm
     have e:i=ds.length:=by omega
     subst e
     have v:=ak.val
     rw [List.take_length] at v
     exact ⟨by show 2≤sizeLine;decide,hc ds rfl acc ak.pos (bg ak.t (by omega)) (bg ak.b (by omega)) v⟩
   ·have z:k≠"chance":=of_decide_eq_false z
    obtain ⟨j,rfl,jl⟩:=dh z
    have hj:ds[j]? =some ds[j]:=aaa jl
    refine ⟨rfl,fun _=> ?_,fun z=>(nomatch z)⟩
    refine (az (d:= .lst ss) rfl (sat hj) ?_:fIx (.lst ss) (.int (j:Int)) _ _)
    exact hh k ds j _ rfl z rfl hj
theorem HS(p q:Fr):sY [.int p.1, .int p.2] [.int q.1, .int q.2]=decide (p=q):=by
 obtain ⟨a,b⟩:=p
 obtain ⟨c,d⟩:=q
 show ((a==c)&&((b==d)&&true))=_
 rw [Bool.and_true]
 by_cases h1:a=c
 ·by_cases h2:b=d
  ·subst h1 h2;simp
  ·simp [h1,h2]
 ·simp [h1]
theorem Be(i:Int):eqV (V.int i) (V.int i)=true:=by unfold eqV;simp
theorem mm{l:List Nat}{f:Nat→Bool}(h:∀j,f j=true):l.all f=true:=abl.mpr fun j _=>h j
theorem wa{M:Ms}{n:Nat}(i:Int):EqM M n (.int i) (.int i) true:=by
 have:=EqM.flat (M:=M) (n:=n) (d:= .int i) (e:= .int i) rfl rfl
 rwa [Be] at this
theorem me{M:Ms}{n:Nat}{ds:List Dt}(h:∀d∈ds,EqM M n d d true):EqM M (n+1) (.tup ds) (.tup ds) true:=by
 have:=EqM.tup (M:=M) (n:=n) (ds:=ds) (es:=ds) (f:=fun _=>true) fun j d e h1 h2=>by
  rw [h1] at h2;cases h2;exact h d (aaj h1)
 rwa [mm fun _=>rfl,beq_self_eq_true] at this
theorem pX{M:Ms}{n:Nat}{d e:Dt}{ds:List Dt}(h1:nu M d=some ds)(h2:nu M e=some ds)(h:∀d∈ds,EqM M n d d true):EqM M (n+1) d e true:=by
 have:=EqM.lst (M:=M) (n:=n) (d:=d) (e:=e) (f:=fun _=>true) h1 h2 rfl fun j d e h1 h2=>by
  rw [h1] at h2;cases h2;exact h d (aaj h1)
 rwa [mm fun _=>rfl] at this
theorem rF{M:Ms}{n:Nat}(p:Fr):EqM M (n+1) (frD p) (frD p) true:=me fun d hd=>by
 have hd:d∈[Dt.int p.1,Dt.int p.2]:=hd
 simp only [List.mem_cons,List.not_mem_nil,or_false] at hd
 rcases hd with rfl | rfl <;> exact wa _
theorem wb{M:Ms}{n:Nat}{d e:Dt}{tb:List Fr}(h1:nu M d=some (tb.map frD))(h2:nu M e=some (tb.map frD)):EqM M (n+2) d e true:=pX h1 h2 fun d hd=>by
 obtain ⟨p,_,rfl⟩:=aan.mp hd
 exact rF p
theorem AR{p:Fr}{M:Ms}{k:Bool→Ms→Prop}(h:k false M):Ef (frD p) (frD p) M (fun d M1=>match d with | .bl b=>k b M1 | _=>False):=by
 show k (!sY [.int p.1, .int p.2] [.int p.1, .int p.2]) M
 rw [HS,decide_eq_true rfl];exact h
theorem qQ{share:Fr}{tb:List Fr}:∀ws:List DrG,bY (fun d=>cV d * (val d.2.1+val share * val (tb.getD d.1.toNat (0,1)))) ws=bY (fun d=>cV d * val d.2.1) ws+val share * bY (fun d=>cV d * val (tb.getD d.1.toNat (0,1))) ws
 | []=>by show (0:Rat)=0+val share * 0;grind
 | d::ws=>by
  have ih:=qQ (share:=share) (tb:=tb) ws
  show cV d * (val d.2.1+val share * val (tb.getD d.1.toNat (0,1)))+bY (fun d=>cV d * (val d.2.1+val share * val (tb.getD d.1.toNat (0,1)))) ws=(cV d * val d.2.1+bY (fun d=>cV d * val d.2.1) ws)+val share * (cV d * val (tb.getD d.1.toNat (0,1))+bY (fun d=>cV d * val (tb.getD d.1.toNat (0,1))) ws)
  rw [ih];grind
section
variable{share:Fr}{rows:List Rw}{X C:Int}{acc:Pl}{tb:List Fr}
theorem ux{i:Nat}{r:Rw}(hi:rows[i]? =some r):Ai rows i=r:=by
 unfold Ai
 rw [aab,hi];rfl
theorem Wth.fin(h:Wth share rows acc tb){i:Nat}{p:Fr}(hi:rows[i]? =some (.fin p)):val (tb.getD i (0,1))=val p:=by
 have e:=h.tab.eq i (aaf.mp hi).1
 unfold wsA gvA at e
 rw [ux hi] at e
 have e:val (tb.getD i (0,1))=val p+val share * 0:=e
 grind
theorem Wth.due(h:Wth share rows acc tb)(fw:FW share rows X C)(dk:xc rows acc){i:Nat}{k:Str}{ds:List DrG}(hi:rows[i]? =some (.doors k ds)):val (tb.getD i (0,1))=bY (fun d=>cV d * (val d.2.1+val share * val (tb.getD d.1.toNat (0,1)))) (bq acc i (.doors k ds)):=by
 have e:=h.tab.eq i (aaf.mp hi).1
 unfold wsA gvA at e
 rw [ux hi] at e
 obtain ⟨_,_,_,B,E,_,_,_,_,hw⟩:=fw.ways dk hi
 have v:=mE (bq acc i (.doors k ds)) (0,1) (by decide) fun d hd=>⟨(hw d hd).ch.pos,(hw d hd).py.red.pos⟩
 have e:val (tb.getD i (0,1))=val (((bq acc i (.doors k ds)).map aj |>.zip ((bq acc i (.doors k ds)).map (·.2.1))).foldl (fun w p=>fJ w (bc p.1 p.2)) (0,1))+val share * bY (fun d=>cV d * val (tb.getD d.1.toNat (0,1))) (bq acc i (.doors k ds)):=e
 rw [e,v,qQ]
 have:val ((0,1):Fr)=0:=by show ((0:Int):Rat) / ((1:Int):Rat)=0;grind
 rw [this];grind
theorem iD{f t:Fr}(h1:0 < f.2)(h2:0 < t.2)(e:val f=val t):f.1 * t.2=t.1 * f.2:=by
 have a:=aP (show f.2≠0 by omega)
 have b:=aP (show t.2≠0 by omega)
 unfold val at e
 have:(f.1:Rat) * (t.2:Rat)=(t.1:Rat) * (f.2:Rat):=by
  generalize (f.1:Rat)=x1 at *
  generalize (f.2:Rat)=x2 at *
  generalize (t.1:Rat)=y1 at *
  generalize (t.2:Rat)=y2 at *
  grind
 rw [←aaC,←aaC] at this
 exact Rat.intCast_inj.mp this
theorem lN{b:Int}(h0:0≤b)(h:b≤1000000):b.natAbs < 2 ^ 20:=by
 have:b.natAbs≤1000000:=by omega
 exact aaM this (by decide)
theorem FW.rl(fw:FW share rows X C)(dk:xc rows acc){i:Nat}{r:Rw}(hi:rows[i]? =some r){dd:Dt}(hd:aK (kindOf r)=true→∀j:Nat,aY acc i=some (j:Int)→dd= .int (j:Int)):RwL share rows.length r dd:=by
 have rm:r∈rows:=aaj hi
 refine ⟨fun k ds e=> ?_⟩
 subst e
 have dr:=fD fw.pl rm
 have sh:=fw.pl.sh
 unfold aU at sh
 rw [aao,aao,decide_eq_true_iff,decide_eq_true_iff,decide_eq_true_iff] at sh
 obtain ⟨h1,h2,h3⟩:=sh
 refine ⟨dr.l6,dr.ro.1,fun d hm=> ?_,fun hk d hm=> ?_,fun hk=> ?_⟩
 ·obtain ⟨py,p0⟩:=dr.py d hm
  have sp:=yR py p0
  exact ⟨dr.to d hm,sp.1,⟨p0,lN (Int.le_of_lt p0) (by unfold bo at py;rw [Bool.and_eq_true,decide_eq_true_iff,decide_eq_true_iff] at py;exact py.2)⟩,by omega,by omega,by omega⟩
 ·subst hk
  have co:BJ (ds.map aj):=by
   rcases dr.kd with z | ⟨_,_,z⟩
   ·exact absurd z (by decide)
   ·exact z
  obtain ⟨c0,cd,cu,_⟩:=wC co (aan.mpr ⟨d,hm,rfl⟩)
  have b1:=co.b1
  have le:=abE co.b0 cd
  obtain ⟨u0,u1⟩:=cu
  exact ⟨(dr.ro.2.2.1 rfl).1 d hm,c0,lN u0 (by omega),lN (by omega) (by omega)⟩
 ·have hh:aK k=true:=by
   rcases dr.kd with z | ⟨_,z,_⟩
   ·exact z
   ·exact absurd z hk
  obtain ⟨j,gj,jl⟩:=dk.hand i _ hi hh
  exact ⟨j,hd hh j gj,jl⟩
end
def wU:DF:=fun as M q _=>∃i:Int,as=[.int i]∧q (.bl true) M
theorem sj:ax ["_law_number"] ["_law_number"] (ah iP):=⟨rfl,rfl,rfl,by decide+kernel,rfl,by decide+kernel,by decide+kernel⟩
theorem pj{f:Addr}{fd:FuncData}(F:Fun K "_law_whole" "_law_whole" iP f fd)(E:Ev K mg Cm CF CN):bK P w K mg base (CX1 P w) 1 f fd ["_law_number"] (spD K wU):=by
 refine F.okD sj (fun ds M q x h=> ?_) (fun cdv A outer s H E' hr=>⟨_,(ai (ay (dU (qX K E.n_isinstance (aa (jv 0) (aa (Ed E.n_int oi) af (hs:=ao)) (hs:=ao))) (hZ (C1 (qX K E.n_isinstance (aa (jv 0) (aa (Ed E.n_bool tD) af (hs:=ao)) (hs:=ao)))))))),fun ds M q x h=> ?_⟩)
 ·obtain ⟨i,rfl,_⟩:=h;rfl
 ·obtain ⟨i,rfl,h⟩:=h
  refine ⟨_,_,_,_,true,rfl,rfl,rfl,vy,fun _=> ?_,fun z=>(nomatch z)⟩
  exact ⟨_,_,_,_,false,rfl,rfl,rfl,E.ib,h⟩
def zJ:DF:=fun as M q _=>∃(kt:Nat) (tb:List Fr) (n:Nat),as=[.loc kt, .int (n:Nat)]∧M[kt]? =some (.lst (tb.map frD))∧BI tb n∧q (.bl true) M
theorem ki:ax ["_law_table_here","_law_many","_law_one"] ["_law_table_here","_law_many"] (ah iQ):=⟨rfl,rfl,rfl,by decide+kernel,rfl,by decide+kernel,by decide+kernel⟩
theorem pk{f:Addr}{fd:FuncData}(F:Fun K "_law_table" "_law_table" iQ f fd)(E:Ev K mg Cm CF CN){fLawWhole:Addr}{dLawWhole:FuncData}(c_LawWhole:bU P w K mg base 1 "_law_whole" ["_law_number"] wU fLawWhole dLawWhole){fLawLowest:Addr}{dLawLowest:FuncData}(c_LawLowest:bU P w K mg base 1 "_law_lowest" ["_law_top","_law_bottom"] D3 fLawLowest dLawLowest):bK P w K mg base (CX1 P w) 2 f fd ["_law_table_here","_law_many"] (spD K zJ):=by
 refine F.okD ki (fun ds M q x h=> ?_) (fun cdv A outer s H E' hr=>⟨_,(ae (bu (JW.jt (pN (fj (cQ (qX K E.n_isinstance (aa (jv 0) (aa (Ed E.n_list kJ) af (hs:=ao)) (hs:=ao))))) (nA (nB hr (cW E.n_len (aa (jv 0) af (hs:=ao))) (jv 1))))) (ai (ay jbl)) aE)
   (ae (eJ (cG (jv 0)) (aN (i:=2) ki.nd rfl (Or.inl rfl)) bR (ae (bu (JW.jt (pN (fj (cQ (qX K E.n_isinstance (aa (jv 2) (aa (Ed E.n_tuple qa) af (hs:=ao)) (hs:=ao))))) (pN (nB hr (cW E.n_len (aa (jv 2) af (hs:=ao))) av) (pN (fj (cQ (br c_LawWhole hr ar (aa (aG (jv 2) av) af (hs:=bL))))) (nA (fj (cQ (br c_LawWhole hr ar (aa (aG (jv 2) av) af (hs:=bL)))))))))) (ai (ay jbl)) aE)
   (ai (bu (JW.jt (pN (sT (aG (jv 2) av) av) (nA (nB hr (br c_LawLowest hr ar (aa (aG (jv 2) av) (aa (aG (jv 2) av) af (hs:=bL)) (hs:=bL))) (jv 2))))) (ai (ay jbl)) aE))))
   (ai (ay jbl)))),fun ds M q x h=> ?_⟩)
 ·obtain ⟨kt,tb,n,rfl,_⟩:=h;rfl
 ·obtain ⟨kt,tb,n,rfl,hk,tk,h⟩:=h
  have hkind:x9 M (.loc kt)=some (.type "list"):=vq (fh hk)
  walk_at "vc"
  refine ⟨_,_,_,_,true,rfl,hkind,rfl,vy,fun z=>(nomatch z),fun _=> ?_⟩
  refine (aJ (d:= .loc kt) (kf hk) ?_:ik [.loc kt] _ _)
  rw [aac,tk.len]
  refine ⟨fun z=> ?_,fun _=> ?_⟩
  ·have z:(!decide ((n:Int)=(n:Int)))=true:=z
   rw [decide_eq_true rfl] at z;exact nomatch z
  dsimp only [uv,gB]
  walk_at "vc"
  rw [show (List.map some [Dt.loc kt,Dt.int (n:Int)]++[none])[0]? =some (some (Dt.loc kt)) from rfl]
  dsimp only
  rw [yd hk]
  refine cM (fun zs ρ' M'=>M=M'∧∃(rest:List Fr) (o2:Option Dt),zs=rest.map frD∧(∀p∈rest,p∈tb)∧ρ'=[some (.loc kt),some (.int (n:Int)),o2]) (fun zs ρ' M' hj=>by obtain ⟨rfl,_⟩:=hj;exact hk) (fun x zs ρ' M' hj nxt=> ?_) (fun ρ' M' hj=> ?_) _ _ _ ⟨rfl,tb,none,rfl,fun _ h=>h,rfl⟩
  ·obtain ⟨rfl,rest,o2,ex,hr',rfl⟩:=hj
   cases rest with
   | nil=>cases ex
   | cons p rest=>
    cases ex
    have pm:=hr' p aae
    have rp:=tk.red p pm
    obtain ⟨s1,s2⟩:=tk.sz p pm
    walk_at "vc"
    refine ⟨_,_,_,_,true,rfl,rfl,rfl,vy,fun z=>(nomatch z),fun _=> ?_⟩
    refine (aJ (d:=frD p) (xs:=[.int p.1, .int p.2]) rfl ?_:ik [frD p] _ _)
    refine ⟨fun z=>(nomatch z),fun _=> ?_⟩
    refine (gC ?_:fIx (frD p) (.int 0) _ _)
    refine ⟨p.1,rfl,fun z=>(nomatch z),fun _=> ?_⟩
    refine (fo ?_:fIx (frD p) (.int 1) _ _)
    refine ⟨p.2,rfl,fun z=>(nomatch z),fun _=> ?_⟩
    refine (fo ?_:fIx (frD p) (.int 1) _ _)
    refine ⟨fun z=> ?_,fun _=> ?_⟩
    ·have z:p.2 < 1:=of_decide_eq_true z
     have:=rp.pos
     omega
    refine (gC ?_:fIx (frD p) (.int 0) _ _)
    refine (fo ?_:fIx (frD p) (.int 1) _ _)
    refine ⟨p.1,p.2,rfl,rp.pos,tN (k:=1030) (aag rp.pos) s1 (by decide), ?_⟩
    rw [nO rp.pos rp.low]
    refine AR ?_
    exact ⟨fun z=>(nomatch z),fun _=>nxt _ _ ⟨rfl,rest,_,rfl,fun y hy=>hr' y (aad _ hy),rfl⟩⟩
  ·obtain ⟨rfl,rest,o2,ex,hr',rfl⟩:=hj
   exact h
def zQ:DF:=fun as M q _=>∃(share:Fr) (rows:List Rw) (kt kb:Nat) (tb:List Fr) (zG acc:Pl) (X C:Int),as=[frD share, .lst (rows.map bH), .loc kt, .loc kb]∧M[kt]? =some (.lst (tb.map frD))∧M[kb]? =some (dP zG)∧FW share rows X C∧1≤fwB X C∧xc rows acc∧Wth share rows acc tb∧(∀(i:Nat) (r:Rw),rows[i]? =some r→aK (kindOf r)=true→aY zG i=aY acc i)∧q (.bl true) M
theorem gK:ax ["_law_share","_law_rows","_law_table_here","_law_plan_here","_law_k","_law_due_here"] ["_law_share","_law_rows","_law_table_here","_law_plan_here"] (ah iS):=⟨rfl,rfl,rfl,by decide+kernel,rfl,by decide+kernel,by decide+kernel⟩
theorem pv{f:Addr}{fd:FuncData}(F:Fun K "_law_meets" "_law_meets" iS f fd)(E:Ev K mg Cm CF CN){fLawTable:Addr}{dLawTable:FuncData}(c_LawTable:bU P w K mg base 2 "_law_table" ["_law_table_here","_law_many"] zJ fLawTable dLawTable){fLawDue:Addr}{dLawDue:FuncData}(c_LawDue:bU P w K mg base 2 "_law_due" ["_law_share","_law_row","_law_table_here","_law_door"] D6 fLawDue dLawDue):bK P w K mg base (CX1 P w) 3 f fd ["_law_share","_law_rows","_law_table_here","_law_plan_here"] (spD K zQ):=by
 refine F.okD gK (fun ds M q x h=> ?_) (fun cdv A outer s H E' hr=>⟨_,(ae (bu (fj (cQ (br c_LawTable hr ar (aa (jv 2) (aa (cW E.n_len (aa (jv 1) af (hs:=ao))) af (hs:=bM)) (hs:=ao))))) (ai (ay jbl)) aE)
   (ae (fk (cy E.n_range (aa (cW E.n_len (aa (jv 1) af (hs:=ao))) af (hs:=bM))) (aN (i:=4) gK.nd rfl (Or.inl rfl)) bR (ae (au (i:=5) gK.nd rfl (Or.inl rfl) (br c_LawDue hr ar (aa (jv 0) (aa (aG (jv 1) (jv 4)) (aa (jv 2) (aa (yb hr (jv 3) (jv 4)) af (hs:=bM)) (hs:=ao)) (hs:=bL)) (hs:=ao))))
   (ai (bu (nB hr (aO (aG (jv 5) av) (aG (aG (jv 2) (jv 4)) av)) (aO (aG (aG (jv 2) (jv 4)) av) (aG (jv 5) av))) (ai (ay jbl)) aE))))
   (ai (ay jbl)))),fun ds M q x h=> ?_⟩)
 ·obtain ⟨share,rows,kt,kb,tb,zG,acc,X,C,rfl,_⟩:=h;rfl
 ·obtain ⟨share,rows,kt,kb,tb,zG,acc,X,C,rfl,hk,hb,fw,b1,dk,wt,ag,h⟩:=h
  have tk:=wt.ok fw dk b1
  have l12:=fw.pl.len
  have s0:=fw.sh.1
  walk_at "vc"
  refine (aJ (d:= .lst (rows.map bH)) (xs:=rows.map bH) rfl ?_:ik [.lst (rows.map bH)] _ _)
  rw [aac]
  refine ⟨kt,tb,rows.length,rfl,hk,tk,fun z=>(nomatch z),fun _=> ?_⟩
  refine (aJ (d:= .lst (rows.map bH)) (xs:=rows.map bH) rfl ?_:ik [.lst (rows.map bH)] _ _)
  rw [aac]
  refine ⟨by omega, ?_⟩
  rw [show ((rows.length:Int)).toNat=rows.length by omega]
  refine bX (fun zs ρ' M'=>M'=M∧∃(i m:Nat) (o4 o5:Option Dt),zs=gm (i:Int) m∧i+m=rows.length∧ρ'=[some (frD share),some (.lst (rows.map bH)),some (.loc kt),some (.loc kb),o4,o5]) (fun x zs ρ' M' hj nxt=> ?_) (fun ρ' M' hj=> ?_) _ _ _ ⟨rfl,0,rows.length,none,none,rfl,by omega,rfl⟩
  ·obtain ⟨rfl,i,m,o4,o5,ex,im,rfl⟩:=hj
   obtain ⟨m',rfl,rfl,rfl⟩:=bI ex
   have il:i < rows.length:=by omega
   have hi:rows[i]? =some rows[i]:=aaa il
   generalize hr0:rows[i]=r at *
   obtain ⟨rt,t2,t1,at_⟩:=ub tk (t:=(i:Int)) (by omega)
   rw [abL] at rt t2 t1 at_
   obtain ⟨dd,hdd⟩:∃dd,dd=((aZ (kP zG) (vP zG) (Sum.inl (i:Int))).getD Dt.non):=⟨_,rfl⟩
   have hd:aK (kindOf r)=true→∀j:Nat,aY acc i=some (j:Int)→dd= .int (j:Int):=fun hh j hj=>by
    rw [hdd,pT,ag i r hi hh,hj];rfl
   have fin:∀f:Fr,0 < f.2→Big f.1→Big f.2→val f=val (tb.getD i (0,1))→∀(o:Dt→Option Dt) (nx:Bool→Prop),nx false→(Big f.1∧Big (tb.getD i (0,1)).2)∧(Big (tb.getD i (0,1)).1∧Big f.2)∧nx (!decide (f.1 * (tb.getD i (0,1)).2=(tb.getD i (0,1)).1 * f.2)):=fun f f0 f1 f2 e o nx hn=>by
    rw [decide_eq_true (iD f0 rt.pos e)]
    exact ⟨⟨f1,bg t2⟩,⟨bg t1,f2⟩,hn⟩
   walk_at "vc"
   refine uD hi ?_
   refine ⟨⟨kb,_,_,rfl,hb⟩,kb,_,_,Sum.inl (i:Int),rfl,hb,rfl, ?_⟩
   rw [←hdd]
   have go:∀f:Fr,0 < f.2→Big f.1→Big f.2→val f=val (tb.getD i (0,1))→_:=fun f f0 f1 f2 e=>(show xh _ _ _ _ _ _ from nxt [some (frD share),some (.lst (rows.map bH)),some (.loc kt),some (.loc kb),some (.int (i:Int)),some (frD f)] M' ⟨rfl,i+1,m',_,_,by rw [abg];rfl,by omega,rfl⟩)
   have rd:∀(q:DQ),q (frD (tb.getD i (0,1))) M'→fIx (.loc kt) (.int (i:Int)) M' q:=fun q hq=>az (d:= .loc kt) (kf hk) at_ hq
   refine ⟨share,r,tb,rows.length,kt,dd,rfl,hk,tk,fw.rl dk hi hd,s0,fun p e=> ?_,fun ds e f f0 f1 f2 ev=> ?_,fun k ds j d e hne ej hj=> ?_⟩
   ·subst e
    have py:=fw.pl.row _ (aaj hi)
    have sp:=yR py.2 py.1
    have e:=(wt.fin hi).symm
    generalize tb.getD i (0,1)=t at *
    refine (gC ?_:fIx (frD p) (.int 0) _ _)
    refine rd _ ?_
    refine (fo ?_:fIx (frD t) (.int 1) _ _)
    refine ⟨⟨d8 sp (by decide),bg t2⟩, ?_⟩
    refine rd _ ?_
    refine (gC ?_:fIx (frD t) (.int 0) _ _)
    refine (fo ?_:fIx (frD p) (.int 1) _ _)
    refine ⟨⟨bg t1,cH sp (by decide)⟩,fun z=> ?_,fun _=>go p py.1 (d8 sp (by decide)) (cH sp (by decide)) e⟩
    have z:(!decide (p.1 * t.2=t.1 * p.2))=true:=z
    rw [decide_eq_true (iD py.1 rt.pos e)] at z
    exact nomatch z
   ·subst e
    have e:=(wt.due fw dk hi).symm
    have ew:bq acc i (.doors "chance" ds)=ds:=by
     unfold bq
     rw [dk.oth i _ hi (show aK (Str.ofString "chance")=false by decide)];rfl
    rw [ew,←ev] at e
    generalize tb.getD i (0,1)=t at *
    refine (gC ?_:fIx (frD f) (.int 0) _ _)
    refine rd _ ?_
    refine (fo ?_:fIx (frD t) (.int 1) _ _)
    refine ⟨⟨f1,bg t2⟩, ?_⟩
    refine rd _ ?_
    refine (gC ?_:fIx (frD t) (.int 0) _ _)
    refine (fo ?_:fIx (frD f) (.int 1) _ _)
    refine ⟨⟨bg t1,f2⟩,fun z=> ?_,fun _=>go f f0 f1 f2 e⟩
    have z:(!decide (f.1 * t.2=t.1 * f.2))=true:=z
    rw [decide_eq_true (iD f0 rt.pos e)] at z
    exact nomatch z
   ·subst e
    have rl:=fw.rl dk hi hd
    obtain ⟨_,_,dl,_,dh⟩:=rl.ds k ds rfl
    have hm:d∈ds:=aaj hj
    have hh:aK k=true:=by
     rcases (fD fw.pl (aaj hi)).kd with z | ⟨_,z,_⟩
     ·exact z
     ·exact absurd z hne
    obtain ⟨j',gj,jl⟩:=dk.hand i _ hi hh
    have ejj:j'=j:=by
     have:=hd hh j' gj
     rw [ej] at this
     injection this with this
     omega
    subst ejj
    have jl:j' < ds.length:=jl
    have ed:ds[j']=d:=by
     rw [aaa jl] at hj;exact aal hj
    have gd:ds.getD j' d0=d:=by rw [aab,hj];rfl
    obtain ⟨v1,v2⟩:=yU (share:=share) (tb:=tb) (d:=d) s0 (dl d hm).p2.1 (ub tk (dl d hm).to).1.pos
    obtain ⟨z1,z2⟩:=BZ tk (dl d hm)
    have e:val (shL share tb d)=val (tb.getD i (0,1)):=by
     rw [wt.due fw dk hi,v1]
     have ew:bq acc i (.doors k ds)=[(d.1,d.2.1,[(1,1)])]:=by
      unfold bq
      rw [gj]
      show [((ds.getD ((j':Int)).toNat d0).1,(ds.getD ((j':Int)).toNat d0).2.1,(ds.getD ((j':Int)).toNat d0).2.2++[(1,1)])]=_
      rw [abL,gd,fw.hnd k ds (aaj hi) hh d hm];rfl
     rw [ew]
     show _=cV (d.1,d.2.1,[((1,1):Fr)]) * (val d.2.1+val share * val (tb.getD d.1.toNat (0,1)))+0
     have:cV (d.1,d.2.1,[((1,1):Fr)])=1:=by show ((1:Int):Rat) / ((1:Int):Rat)=1;grind
     rw [this];grind
    have f1:Big (shL share tb d).1:=bg z1
    have f2:Big (shL share tb d).2:=bg z2
    generalize shL share tb d=f at *
    generalize tb.getD i (0,1)=t at *
    refine (gC ?_:fIx (frD f) (.int 0) _ _)
    refine rd _ ?_
    refine (fo ?_:fIx (frD t) (.int 1) _ _)
    refine ⟨⟨f1,bg t2⟩, ?_⟩
    refine rd _ ?_
    refine (gC ?_:fIx (frD t) (.int 0) _ _)
    refine (fo ?_:fIx (frD f) (.int 1) _ _)
    refine ⟨⟨bg t1,f2⟩,fun z=> ?_,fun _=>go f v2 f1 f2 e⟩
    have z:(!decide (f.1 * t.2=t.1 * f.2))=true:=z
    rw [decide_eq_true (iD v2 rt.pos e)] at z
    exact nomatch z
  ·obtain ⟨rfl,i,m,o4,o5,ex,im,rfl⟩:=hj
   exact h
theorem qF{M:Ms}:∀rs:List Rw,Paired (jH M) (rs.map bH) rs
 | []=> .nil
 | r::rs=> .cons (Al _ r) (qF rs)
theorem yi{M:Ms}{q:DQ}{A:Addr}{share:Fr}{rows:List Rw}(h:q (cC A share rows) M):frzU M q (.loc M.length) ((M++[MO.ins A [] []]).set M.length (.ins A ["kept_share","kept_rows"] [frD share, .lst (rows.map bH)])):=by
 rw [cn]
 exact jA (d':=cC A share rows) (.newO (Nat.le_refl _) (by simp) (.cons (.old (kE share)) (.cons (.old (lx rows)) .nil))) h
def mH:Pl→Pl→Pl
 | p,[]=>p
 | p,e::r=>mH (i4 p e.1 e.2) r
theorem zZ:∀{r p:Pl},mI (kP p) (kP r)=kP (mH p r)
 | [],p=>rfl
 | e::r,p=>by
  show mI (fH (kP p) (Sum.inl e.1)) (kP r)=kP (mH (i4 p e.1 e.2) r)
  rw [sy (v:=e.2)];exact zZ
theorem z5:∀{r p:Pl},oG (kP p) (vP p) (kP r) (vP r)=vP (mH p r)
 | [],p=>rfl
 | e::r,p=>by
  show oG (fH (kP p) (Sum.inl e.1)) (eD (kP p) (Sum.inl e.1) (vP p) (.int e.2)) (kP r) (vP r)=vP (mH (i4 p e.1 e.2) r)
  rw [sy (v:=e.2),uJ];exact z5
theorem tU{i:Int}:∀{r p:Pl},NdP r→aY (mH p r) i=match aY r i with | some v=>some v | none=>aY p i
 | [],p,_=>rfl
 | e::r,p,nd=>by
  unfold NdP at nd
  rw [aaI,abz] at nd
  have ih:=tU (i:=i) (r:=r) (p:=i4 p e.1 e.2) nd.2
  show aY (mH (i4 p e.1 e.2) r) i=match (if e.1=i then some e.2 else aY r i) with | some v=>some v | none=>aY p i
  rw [ih,jz]
  by_cases h:e.1=i
  ·have hn:aY r i=none:=by
    cases hg:aY r i with
    | none=>rfl
    | some v=>exact absurd (aan.mpr ⟨_,vS hg,h.symm⟩) nd.1
   rw [hn,if_pos h,if_pos h.symm]
  ·rw [if_neg h,if_neg (Ne.symm h)]
structure Has(rows:List Rw)(hand:Str)(p:Pl):Prop where
 has:∀(i:Nat) (r:Rw),rows[i]? =some r→kindOf r=hand→∃j:Nat,aY p i=some (j:Int)∧j < (aI r).length
theorem vQ{rows:List Rw}{p1 p2:Pl}(h1:Has rows "one" p1)(h2:Has rows "other" p2):∀i,i < rows.length→h8 rows p1 p2 i=true:=fun i il=>by
 have hi:rows[i]? =some rows[i]:=aaa il
 generalize rows[i]=r at *
 unfold h8
 rw [hi]
 show nL p1 p2 i r=true
 have fin:∀{p:Pl} {hand:Str},Has rows hand p→kindOf r=hand→fg p i (aI r).length=true:=fun {p hand} h e=>by
  obtain ⟨j,e,jl⟩:=h.has i r hi e
  unfold fg
  rw [e]
  show (decide (0≤(j:Int))&&decide ((j:Int) < ((aI r).length:Int)))=true
  rw [decide_eq_true (show 0≤(j:Int) by omega),decide_eq_true (show (j:Int) < ((aI r).length:Int) by omega)];rfl
 unfold nL cE
 by_cases e:kindOf r="one"
 ·rw [if_pos e];exact fin h1 e
 ·rw [if_neg e]
  by_cases e':kindOf r="other"
  ·rw [if_pos e'];exact fin h2 e'
  ·rw [if_neg e']
theorem Fs{k:Str}(h:aK k=true):k="one"∨k="other":=by
 unfold aK at h
 rwa [Bool.or_eq_true,beq_iff_eq,beq_iff_eq] at h
theorem DU{rows:List Rw}{p1 p2 q1 q2:Pl}(h1:ou rows "one" p1)(h2:ou rows "other" p2)(m1:∀i v,aY p1 i=some v→aY q1 i=some v)(m2:∀i v,aY p2 i=some v→aY q2 i=some v):∀(i:Nat) (r:Rw),rows[i]? =some r→aK (kindOf r)=true→aY (mH p1 p2) i=aY (iq rows q1 q2 rows.length) i:=fun i r hi hh=>by
 have il:=(aaf.mp hi).1
 rw [mn,if_pos il,hi,tU h2.nd]
 show _=Option.map (fun pl=>(aY pl i).getD 0) (cE q1 q2 (kindOf r))
 rcases Fs hh with e | e
 ·obtain ⟨j,ej,_⟩:=h1.has i r hi e
  have hn:aY p2 i=none:=by
   cases hg:aY p2 i with
   | none=>rfl
   | some v=>
    obtain ⟨j',r',e1,e2,e3⟩:=h2.only i v hg
    have:j'=i:=by omega
    subst this
    rw [hi] at e2
    cases e2
    rw [e] at e3
    exact absurd e3 (by decide)
  rw [hn,e]
  show aY p1 i=some ((aY q1 i).getD 0)
  rw [ej,m1 i _ ej];rfl
 ·obtain ⟨j,ej,_⟩:=h2.has i r hi e
  have ne:¬(Str.ofString "other"=Str.ofString "one"):=by decide
  rw [ej,e]
  show some (j:Int)=Option.map (fun pl=>(aY pl i).getD 0) (if Str.ofString "other"=Str.ofString "one" then some q1 else if Str.ofString "other"=Str.ofString "other" then some q2 else none)
  rw [if_neg ne,if_pos rfl]
  show some (j:Int)=some ((aY q2 i).getD 0)
  rw [m2 i _ ej];rfl
theorem lM{M:Ms}{a b:Nat}{ks:List Key}{ds xs:List Dt}(h1:M[a]? =some (.dct ks ds))(h2:M[b]? =some (.lst xs)):a≠b:=fun z=>by rw [z,h2] at h1;cases h1
theorem By{M:Ms}{a:Nat}{m:MO}(h:M[a]? =some m):a < M.length:=(aaf.mp h).1
theorem Ei{M:Ms}{a b c:MO}:(M++[a,b,c])[M.length+2]? =some c:=by
 rw [aaw (by omega),show M.length+2 - M.length=2 by omega];rfl
theorem v8{M:Ms}{n:Nat}(x:Str):EqM M n (.str x) (.str x) true:=by
 have:=EqM.flat (M:=M) (n:=n) (d:= .str x) (e:= .str x) rfl rfl
 rwa [show eqV (V.str x) (V.str x)=true by unfold eqV;simp] at this
theorem yo{M:Ms}(rows:List Rw):EqM M 5 (.lst (rows.map bH)) (.lst (rows.map bH)) true:=pX rfl rfl fun d hd=>by
 obtain ⟨r,_,rfl⟩:=aan.mp hd
 cases r with
 | fin p=>
  refine me fun d hd=> ?_
  have hd:d∈[Dt.str "end",frD p]:=hd
  simp only [List.mem_cons,List.not_mem_nil,or_false] at hd
  rcases hd with rfl | rfl
  ·exact v8 _
  ·exact rF p
 | doors k ds=>
  refine me fun d hd=> ?_
  have hd:d∈[Dt.str k, .lst (ds.map drG)]:=hd
  simp only [List.mem_cons,List.not_mem_nil,or_false] at hd
  rcases hd with rfl | rfl
  ·exact v8 _
  ·refine pX rfl rfl fun d hd=> ?_
   obtain ⟨x,_,rfl⟩:=aan.mp hd
   refine me fun d hd=> ?_
   rcases aaG.mp hd with e | hd
   ·rw [e];exact wa _
   ·rcases aaG.mp hd with e | hd
    ·rw [e];exact rF _
    ·obtain ⟨p,_,rfl⟩:=aan.mp hd
     exact rF p
theorem Bg{M:Ms}{a b c d:Nat}{p1 p2:Pl}{q:DQ}(n1:NdP p1)(n2:NdP p2)(h1:M[a]? =some (dP p1))(h2:M[b]? =some (dP p2))(h3:M[c]? =some (dP p1))(h4:M[d]? =some (dP p2))(hq:q (.bl true) M):Fz 1 (.lst [.loc a, .loc b]) (.lst [.loc c, .loc d]) M q:=by
 refine ⟨_,_,fun _=>true,rfl,rfl,rfl,fun j u v hu hv=> ?_, ?_⟩
 ·match j,hu,hv with
  | 0,hu,hv=>
   cases hu;cases hv
   have:=Dx (n:=0) h1 h3
   rwa [rE n1] at this
  | 1,hu,hv=>
   cases hu;cases hv
   have:=Dx (n:=0) h2 h4
   rwa [rE n2] at this
 ·rw [mm fun _=>rfl];exact hq
theorem rj{M:Ms}{k:Nat}{q:DQ}{ds:List Dt}(hk:M[k]? =some (.lst ds))(u:Dt.underL M.length ds)(h:q (.lst ds) M):sX [.loc k] M (frzU M q):=by
 unfold sX
 dsimp only
 rw [kf hk]
 exact cR u h
theorem eZ:ax ["_law_script","_law_share","_law_rows","_law_told","_law_floor_here","_law_one","_law_two","_law_handed","_law_kept","_law_both","_law_table_here","_law_others","_law_later","_law_held","_law_first"] ["_law_script"] (ah EK):=⟨rfl,rfl,rfl,by decide+kernel,rfl,by decide+kernel,by decide+kernel⟩
theorem CK{f:Addr}{fd:FuncData}(F:Fun K "law" "law" EK f fd)(E:Ev K mg Cm CF CN){fLawFloor:Addr}{dLawFloor:FuncData}(c_LawFloor:bU P w K mg base 5 "_law_floor" ["_law_script"] wX fLawFloor dLawFloor){fLawCopy:Addr}{dLawCopy:FuncData}(c_LawCopy:bU P w K mg base 1 "_law_copy" ["_law_rows"] zR fLawCopy dLawCopy){fFloorInit:Addr}{dFloorInit:FuncData}(c_FloorInit:Gf P w K mg base 5 "Floor" Cm ["self","share","rows"] (D4 Cm) fFloorInit dFloorInit){fLawPlan:Addr}{dLawPlan:FuncData}(c_LawPlan:bU P w K mg base 2 "_law_plan" ["_law_script","_law_rows","_law_hand","_law_at_here"] zM fLawPlan dLawPlan){fLawWithMore:Addr}{dLawWithMore:FuncData}(c_LawWithMore:bU P w K mg base 1 "_law_with_more" ["_law_plan_here","_law_rows","_law_cell"] zO fLawWithMore dLawWithMore){fLawAt:Addr}{dLawAt:FuncData}(c_LawAt:bU P w K mg base 1 "_law_at" ["_law_script","_law_k"] TAt fLawAt dLawAt){fWorthsOf:Addr}{dWorthsOf:FuncData}(c_WorthsOf:bU P w K mg base 8 "worths_of" ["floor","plan_one","plan_other"] (wR Cm) fWorthsOf dWorthsOf){fLawMeets:Addr}{dLawMeets:FuncData}(c_LawMeets:bU P w K mg base 3 "_law_meets" ["_law_share","_law_rows","_law_table_here","_law_plan_here"] zQ fLawMeets dLawMeets):bK P w K mg base (CX1 P w) 9 f fd ["_law_script"] (spD K FY):=by
 refine F.okD eZ (fun ds M q x h=> ?_) (fun cdv A outer s H E' hr=>⟨_,(ae (A0 (da (br c_LawFloor hr ar (aa (jv 0) af (hs:=ao)))) (kn rfl (bW (aN (i:=1) eZ.nd rfl (Or.inl rfl)) (bW (aN (i:=2) eZ.nd rfl (Or.inl rfl)) gY))))
   (ae (au (i:=3) eZ.nd rfl (Or.inl rfl) (br c_LawCopy hr ar (aa (jv 2) af (hs:=ao))))
   (ae (au (i:=4) eZ.nd rfl (Or.inl rfl) (da (C5 c_FloorInit hr ar (aa (jv 1) (aa (jv 3) af (hs:=ao)) (hs:=ao)))))
   (ae (au (i:=5) eZ.nd rfl (Or.inl rfl) (br c_LawPlan hr ar (aa (jv 0) (aa (jv 2) (aa kz (aa av af (hs:=cD)) (hs:=cD)) (hs:=ao)) (hs:=ao))))
   (ae (au (i:=6) eZ.nd rfl (Or.inl rfl) (br c_LawPlan hr ar (aa (jv 0) (aa (jv 2) (aa kz (aa av af (hs:=cD)) (hs:=cD)) (hs:=ao)) (hs:=ao))))
   (ae (au (i:=7) eZ.nd rfl (Or.inl rfl) (jr (aa (br c_LawWithMore hr ar (aa (jv 5) (aa (jv 2) (aa (br c_LawAt hr ar (aa (jv 0) (aa av af (hs:=cD)) (hs:=ao))) af (hs:=bM)) (hs:=ao)) (hs:=ao))) (aa (br c_LawWithMore hr ar (aa (jv 6) (aa (jv 2) (aa (br c_LawAt hr ar (aa (jv 0) (aa av af (hs:=cD)) (hs:=ao))) af (hs:=bM)) (hs:=ao)) (hs:=ao))) af (hs:=bM)) (hs:=bM))))
   (ae (au (i:=8) eZ.nd rfl (Or.inl rfl) (jr (aa (nG E.n_dict (aa (aG (jv 7) av) af (hs:=bL))) (aa (nG E.n_dict (aa (aG (jv 7) av) af (hs:=bL))) af (hs:=bM)) (hs:=bM))))
   (ae (au (i:=9) eZ.nd rfl (Or.inl rfl) (nG E.n_dict (aa (jv 5) af (hs:=ao))))
   (ae (eK (zl (jv 9) (jv 6)))
   (ae (au (i:=10) eZ.nd rfl (Or.inl rfl) (br c_WorthsOf hr ar (aa (jv 4) (aa (aG (jv 7) av) (aa (aG (jv 7) av) af (hs:=bL)) (hs:=bL)) (hs:=ao))))
   (ae (bu (fj (cQ (br c_LawMeets hr ar (aa (jv 1) (aa (jv 2) (aa (jv 10) (aa (jv 9) af (hs:=ao)) (hs:=ao)) (hs:=ao)) (hs:=ao))))) (ai (ay jbl)) aE)
   (ae (fP (au (i:=5) eZ.nd rfl (Or.inl rfl) (br c_LawPlan hr ar (aa (jv 0) (aa (jv 2) (aa kz (aa av af (hs:=cD)) (hs:=cD)) (hs:=ao)) (hs:=ao)))))
   (ae (au (i:=6) eZ.nd rfl (Or.inl rfl) (br c_LawPlan hr ar (aa (jv 0) (aa (jv 2) (aa kz (aa av af (hs:=cD)) (hs:=cD)) (hs:=ao)) (hs:=ao))))
   (ae (au (i:=11) eZ.nd rfl (Or.inl rfl) (nG E.n_dict (aa (jv 5) af (hs:=ao))))
   (ae (eK (zl (jv 11) (jv 6)))
   (ae (au (i:=12) eZ.nd rfl (Or.inl rfl) (br c_WorthsOf hr ar (aa (jv 4) (aa (jv 5) (aa (jv 6) af (hs:=ao)) (hs:=ao)) (hs:=ao))))
   (ae (bu (fj (cQ (br c_LawMeets hr ar (aa (jv 1) (aa (jv 2) (aa (jv 12) (aa (jv 11) af (hs:=ao)) (hs:=ao)) (hs:=ao)) (hs:=ao))))) (ai (ay jbl)) aE)
   (ae (fP (au (i:=13) eZ.nd rfl (Or.inl rfl) (da (nE E.n_list (aa (jv 12) af (hs:=ao))))))
   (ae (au (i:=14) eZ.nd rfl (Or.inl rfl) (da (nE E.n_list (aa (jv 10) af (hs:=ao)))))
   (ae (gA (jv 10) av (eU (aa (cz (aG (aG (jv 10) av) av) av) (aa av af (hs:=cD)) (hs:=bT))))
   (ai (ay (dU (A1 2 hr (br c_WorthsOf hr ar (aa (jv 4) (aa (aG (jv 7) av) (aa (aG (jv 7) av) af (hs:=bL)) (hs:=bL)) (hs:=ao))) (jv 14)) (dU (A1 2 hr (jv 12) (jv 13)) (dU (Fg 1 hr (jv 7) (jv 8)) (hZ (A1 5 hr (jv 3) (jv 2)))))))))))))))))))))))))))),fun ds M q x h=> ?_⟩)
 ·obtain ⟨ns,rfl,_⟩:=h;rfl
 ·obtain ⟨ns,rfl,nl,hq⟩:=h
  refine ⟨ns,rfl,nl,fun share rows far lf=>jA (d':= .tup [frD share, .lst (rows.map bH)]) (.tup (.cons (.old (kE share)) (.cons (.newL (Nat.le_refl _) (by simp) (mw.old (lx rows))) .nil))) ?_⟩
  have fw:=lf.fw
  obtain ⟨b450,bsz⟩:=lf.sz
  have b1:1≤fwB (xF far) (cF far):=by cases far <;> decide
  have l12:=lf.n12
  have n1:=lf.n1
  have ro:∀r∈rows,gh r∧eP r rows.length=true:=fun r hr=>(lf.row r hr).1.1
  have dr:∀k ds,Rw.doors k ds∈rows→1≤ds.length∧ds.length≤6:=fun k ds hm=>⟨(fD fw.pl hm).l1,(fD fw.pl hm).l6⟩
  have sl:∀{z:Nat},z≤1000→z≤sizeLine:=fun h=>aau h (by decide)
  refine ⟨rows,rfl,l12,fun r hr=>(ro r hr).1, ?_⟩
  refine ⟨M.length, .lst (rows.map bH),share,rows.map bH,rows,fun _=>True,rfl,aQ,rfl,qF rows,lf.sh,n1,l12,ro,rfl,yi ?_⟩
  refine ⟨ns,rows,"one",14,rfl,nl,by decide,by decide,l12,by decide,dr,fun p1 o1=> ?_⟩
  refine ⟨ns,rows,"other",15,rfl,nl,by decide,by decide,l12,by decide,dr,fun p2 o2=> ?_⟩
  obtain ⟨N,hN⟩:∃N,N=M++[dP p1]++[dP p2]:=⟨_,rfl⟩
  have a1:N[M.length]? =some (dP p1):=by rw [hN];exact aM aQ
  have a2:N[(M++[dP p1]).length]? =some (dP p2):=by rw [hN];exact aQ
  rw [←hN]
  generalize M.length=k1 at *
  generalize (M++[dP p1]).length=k2 at *
  clear hN
  have pos:∀{p:Pl} {hand:Str},ou rows hand p→∀i v,aY p i=some v→0≤i:=fun {p hand} o i v hg=>by
   obtain ⟨j,r,e,_⟩:=o.only i v hg
   omega
  walk_at "vc"
  refine ⟨ns,16,rfl,nl,by decide,by decide,fun c1 hc1=> ?_⟩
  refine ⟨k1,p1,rows,c1,rfl,a1,o1.nd,o1.len,pos o1,hc1,l12,fun h1 m1=> ?_⟩
  refine ⟨ns,19,rfl,nl,by decide,by decide,fun c2 hc2=> ?_⟩
  refine ⟨k2,p2,rows,c2,rfl,aM a2,o2.nd,o2.len,pos o2,hc2,l12,fun h2 m2=> ?_⟩
  refine ⟨sl (by decide), ?_⟩
  obtain ⟨N2,hN2⟩:∃N2,N2=N++[dP h1]++[dP h2]:=⟨_,rfl⟩
  have a3:N2[N.length]? =some (dP h1):=by rw [hN2];exact aM aQ
  have a4:N2[(N++[dP h1]).length]? =some (dP h2):=by rw [hN2];exact aQ
  have a1:N2[k1]? =some (dP p1):=by rw [hN2];exact aM (aM a1)
  have a2:N2[k2]? =some (dP p2):=by rw [hN2];exact aM (aM a2)
  rw [←hN2]
  generalize N.length=k3 at *
  generalize (N++[dP h1]).length=k4 at *
  clear hN2
  have r0:∀(M':Ms) (q:DQ),q (.loc k3) M'→fIx (.lst [.loc k3, .loc k4]) (.int 0) M' q:=fun M' q hq=>az (d:= .lst [.loc k3, .loc k4]) rfl bO hq
  have r1:∀(M':Ms) (q:DQ),q (.loc k4) M'→fIx (.lst [.loc k3, .loc k4]) (.int 1) M' q:=fun M' q hq=>az (d:= .lst [.loc k3, .loc k4]) rfl (aB (j:=1) rfl) hq
  refine r0 _ _ ?_
  refine ⟨k3,_,_,rfl,a3, ?_⟩
  refine r1 _ _ ?_
  refine ⟨k4,_,_,rfl,aM a4, ?_⟩
  refine ⟨sl (by decide), ?_⟩
  obtain ⟨N3,hN3⟩:∃N3,N3=N2++[dP h1]++[dP h2]:=⟨_,rfl⟩
  have a5:N3[N2.length]? =some (dP h1):=by rw [hN3];exact aM aQ
  have a6:N3[(N2++[dP h1]).length]? =some (dP h2):=by rw [hN3];exact aQ
  have up:∀{j:Nat} {m:MO},N2[j]? =some m→N3[j]? =some m:=fun h=>by rw [hN3];exact aM (aM h)
  have a1:=up a1
  have a2:=up a2
  have a3:=up a3
  have a4:=up a4
  rw [←hN3]
  generalize N2.length=k5 at *
  generalize (N2++[dP h1]).length=k6 at *
  clear up hN3
  refine ⟨k1,_,_,rfl,a1, ?_⟩
  dsimp only [DJ]
  walk_at "vc"
  refine ⟨⟨N3.length,_,_,rfl,aQ⟩,N3.length,k2,_,_,_,_,rfl,rfl,(fun z=>by have:=By a2;omega),aQ,aM a2, ?_, ?_⟩
  ·unfold kP;rw [List.length_map,List.length_map];have:=o1.len;have:=o2.len;omega
  rw [zZ,z5,cn]
  have gd:=vQ (rows:=rows) (p1:=h1) (p2:=h2) ⟨fun i r hi hk=>by obtain ⟨j,e,jl⟩:=o1.has i r hi hk;exact ⟨j,m1.same _ _ e,jl⟩⟩ ⟨fun i r hi hk=>by obtain ⟨j,e,jl⟩:=o2.has i r hi hk;exact ⟨j,m2.same _ _ e,jl⟩⟩
  have dk:=Bh gd
  refine r0 _ _ ?_
  refine r1 _ _ ?_
  refine ⟨share,rows,k3,k4,h1,h2,_,_,rfl,aM a3,aM a4,fw,b450,bsz,gd,fun tb wt x1 x2=> ?_⟩
  obtain ⟨N4,hN4⟩:∃N4,N4=N3++[dP (mH p1 p2)]++[x1,x2, .lst (tb.map frD)]:=⟨_,rfl⟩
  have up:∀{j:Nat} {m:MO},N3[j]? =some m→N4[j]? =some m:=fun h=>by rw [hN4];exact aM (aM h)
  have a7:N4[N3.length]? =some (dP (mH p1 p2)):=by rw [hN4];exact aM aQ
  have a8:N4[(N3++[dP (mH p1 p2)]).length+2]? =some (.lst (tb.map frD)):=by rw [hN4];exact Ei
  have a3:=up a3
  have a4:=up a4
  have a5:=up a5
  have a6:=up a6
  rw [←hN4]
  generalize N3.length=k7 at *
  generalize (N3++[dP (mH p1 p2)]).length+2=k8 at *
  clear up hN4 a1 a2
  refine ⟨share,rows,k8,k7,tb,_,_,_,_,rfl,a8,a7,fw,b1,dk,wt,DU o1 o2 m1.same m2.same,fun z=>(nomatch z),fun _=> ?_⟩
  refine ⟨fun ρ M'=>∃p3,ou rows "one" p3∧M'=N4++[dP p3]∧ρ=[some (.scr ns),some (frD share),some (.lst (rows.map bH)),some (.lst (rows.map bH)),some (cC Cm share rows),some (.loc N4.length),some (.loc k2),some (.lst [.loc k3, .loc k4]),some (.lst [.loc k5, .loc k6]),some (.loc k7),some (.loc k8),none,none,none,none],⟨ns,rows,"one",17,rfl,nl,by decide,by decide,l12,by decide,dr,fun p3 o3=>⟨p3,o3,rfl,rfl⟩⟩, ?_⟩
  rintro ρ M' ⟨p3,o3,rfl,rfl⟩
  refine ⟨ns,rows,"other",18,rfl,nl,by decide,by decide,l12,by decide,dr,fun p4 o4=> ?_⟩
  obtain ⟨N5,hN5⟩:∃N5,N5=N4++[dP p3]++[dP p4]:=⟨_,rfl⟩
  have b3:N5[N4.length]? =some (dP p3):=by rw [hN5];exact aM aQ
  have b4:N5[(N4++[dP p3]).length]? =some (dP p4):=by rw [hN5];exact aQ
  have up:∀{j:Nat} {m:MO},N4[j]? =some m→N5[j]? =some m:=fun h=>by rw [hN5];exact aM (aM h)
  have a3:=up a3
  have a4:=up a4
  have a5:=up a5
  have a6:=up a6
  have a8:=up a8
  rw [←hN5]
  generalize N4.length=j3 at *
  generalize (N4++[dP p3]).length=j4 at *
  clear up hN5
  refine ⟨j3,_,_,rfl,b3, ?_⟩
  refine ⟨⟨N5.length,_,_,rfl,aQ⟩,N5.length,j4,_,_,_,_,rfl,rfl,(fun z=>by have:=By b4;omega),aQ,aM b4, ?_, ?_⟩
  ·unfold kP;rw [List.length_map,List.length_map];have:=o3.len;have:=o4.len;omega
  rw [zZ,z5,cn]
  have gd2:=vQ (rows:=rows) (p1:=p3) (p2:=p4) ⟨o3.has⟩ ⟨o4.has⟩
  refine ⟨share,rows,j3,j4,p3,p4,_,_,rfl,aM b3,aM b4,fw,b450,bsz,gd2,fun tb2 wt2 x3 x4=> ?_⟩
  obtain ⟨N6,hN6⟩:∃N6,N6=N5++[dP (mH p3 p4)]++[x3,x4, .lst (tb2.map frD)]:=⟨_,rfl⟩
  have up:∀{j:Nat} {m:MO},N5[j]? =some m→N6[j]? =some m:=fun h=>by rw [hN6];exact aM (aM h)
  have b7:N6[N5.length]? =some (dP (mH p3 p4)):=by rw [hN6];exact aM aQ
  have b8:N6[(N5++[dP (mH p3 p4)]).length+2]? =some (.lst (tb2.map frD)):=by rw [hN6];exact Ei
  have ne8:k8≠(N5++[dP (mH p3 p4)]).length+2:=fun z=>by have:=By a8;rw [aai] at z;omega
  have a3:=up a3
  have a4:=up a4
  have a5:=up a5
  have a6:=up a6
  have a8:=up a8
  rw [←hN6]
  generalize N5.length=j7 at *
  generalize (N5++[dP (mH p3 p4)]).length+2=j8 at *
  clear up hN6 b3 b4
  refine ⟨share,rows,j8,j7,tb2,_,_,_,_,rfl,b8,b7,fw,b1,Bh gd2,wt2,DU o3 o4 (fun _ _ h=>h) (fun _ _ h=>h),fun z=>(nomatch z),fun _=> ?_⟩
  refine ⟨fun ρ M'=>M'=N6∧ρ=[some (.scr ns),some (frD share),some (.lst (rows.map bH)),some (.lst (rows.map bH)),some (cC Cm share rows),some (.loc j3),some (.loc j4),some (.lst [.loc k3, .loc k4]),some (.lst [.loc k5, .loc k6]),some (.loc k7),some (.loc k8),some (.loc j7),some (.loc j8),some (.lst (tb2.map frD)),none],rj b8 (md _) ⟨rfl,rfl⟩, ?_⟩
  rintro ρ M' ⟨rfl,rfl⟩
  refine rj a8 (md _) ?_
  have tl:0 < tb.length:=by rw [wt.tab.len];omega
  dsimp only [EJ,mT]
  walk_at "vc"
  refine (az (d:= .loc k8) (kf a8) (Bb tl) ?_:fIx (.loc k8) (.int ((0:Nat):Int)) _ _)
  refine gC ?_
  dsimp only [tM]
  refine ⟨sl (by decide), ?_⟩
  refine ⟨k8,0,_,0,rfl,rfl,a8,by rw [aac];exact nI tl, ?_⟩
  have st:∀{j:Nat} {m:MO} (y:MO),j≠k8→M'[j]? =some m→(M'.set k8 y)[j]? =some m:=fun y hne h=>by rw [aa8 (Ne.symm hne)];exact h
  have a3:=fun y=>st y (lM a3 a8) a3
  have a4:=fun y=>st y (lM a4 a8) a4
  have a5:=fun y=>st y (lM a5 a8) a5
  have a6:=fun y=>st y (lM a6 a8) a6
  have b8:=fun y=>st y (Ne.symm ne8) b8
  generalize hy:M'.set k8 (MO.lst ((tb.map frD).set 0 (.tup [.int (tb[0].1+1), .int 7])))=N7
  have a3:N7[k3]? =some (dP h1):=by rw [←hy];exact a3 _
  have a4:N7[k4]? =some (dP h2):=by rw [←hy];exact a4 _
  have a5:N7[k5]? =some (dP h1):=by rw [←hy];exact a5 _
  have a6:N7[k6]? =some (dP h2):=by rw [←hy];exact a6 _
  have b8:N7[j8]? =some (.lst (tb2.map frD)):=by rw [←hy];exact b8 _
  clear hy st
  refine r0 _ _ ?_
  refine r1 _ _ ?_
  refine ⟨share,rows,k3,k4,h1,h2,_,_,rfl,a3,a4,fw,b450,bsz,gd,fun tb3 wt3 x5 x6=> ?_⟩
  have eqt:tb3=tb:=(fw.sys dk b1).uniq wt3.tab wt.tab
  subst eqt
  refine ⟨true, .inr ⟨_,qS (fh Ei)⟩, .inr ⟨_,rfl⟩,wb (qS (fh Ei)) rfl,fun _=> ?_,fun z=>(nomatch z)⟩
  refine ⟨true, .inr ⟨_,qS (fh (aM b8))⟩, .inr ⟨_,rfl⟩,wb (qS (fh (aM b8))) rfl,fun _=> ?_,fun z=>(nomatch z)⟩
  refine Bg m1.nd m2.nd (aM a3) (aM a4) (aM a5) (aM a6) ?_
  refine ⟨fun _=> ?_,fun z=>(nomatch z)⟩
  exact ⟨true, .inr ⟨_,rfl⟩, .inr ⟨_,rfl⟩,yo rows,hq _⟩
structure FT(K:PySem.W.Frag)(f:Addr)(x:Str)(st:Stmt):Prop where
  a:PySem.W.nsIn K mainGlobals x=some (some (.ref f))
  e:∃fd,Fun K x x st f fd
structure FM(K:PySem.W.Frag)(C f:Addr)(m x:Str)(st:Stmt):Prop where
  a:PySem.W.findIn K (.ref C) m=some (some (.ref f))
  i:PySem.W.isFn K (.ref f)=true
  e:∃fd,Fun K m x st f fd
section
variable{K:PySem.W.Frag}{C f:Addr}{m x:Str}{st:Stmt}{oc:Value}{od an:Option Addr}{osl:Array (Option Value)}{kV doc pm cdv ct:Value}
theorem FT.of(a:PySem.W.nsIn K mainGlobals x=some (some (.ref f)))(l:K.lookup f=some ⟨oc,od, .func (PySem.W.fnOf x x (hI st) (ft st) (ah st) .none kV doc pm an cdv ct),osl⟩)(c:PySem.W.codeIn K cdv x=true)(k:PySem.W.keepIn K (.ref f)=true):FT K f x st:=⟨a,_,zw l c k⟩
theorem FM.of(a:PySem.W.findIn K (.ref C) m=some (some (.ref f)))(i:PySem.W.isFn K (.ref f)=true)(l:K.lookup f=some ⟨oc,od, .func (PySem.W.fnOf m x (hI st) (ft st) (ah st) .none kV doc pm an cdv ct),osl⟩)(c:PySem.W.codeIn K cdv x=true)(k:PySem.W.keepIn K (.ref f)=true):FM K C f m x st:=⟨a,i,_,zw l c k⟩
end
theorem gy{P:List Value→Prop}(h:∀a0:Value,P [a0]):∀us:List Value,us.length=1→P us
  | [a0],_=>h a0
theorem dH{P:List Value→Prop}(h:∀a0 a1:Value,P [a0,a1]):∀us:List Value,us.length=2→P us
  | [a0,a1],_=>h a0 a1
theorem lR{P:List Value→Prop}(h:∀a0 a1 a2:Value,P [a0,a1,a2]):∀us:List Value,us.length=3→P us
  | [a0,a1,a2],_=>h a0 a1 a2
theorem pK{P:List Value→Prop}(h:∀a0 a1 a2 a3:Value,P [a0,a1,a2,a3]):∀us:List Value,us.length=4→P us
  | [a0,a1,a2,a3],_=>h a0 a1 a2 a3
theorem Fb{P:List Value→Prop}(h:∀a0 a1 a2 a3 a4:Value,P [a0,a1,a2,a3,a4]):∀us:List Value,us.length=5→P us
  | [a0,a1,a2,a3,a4],_=>h a0 a1 a2 a3 a4
theorem nz{K:PySem.W.Frag}(h:PySem.W.subIn K (.type "int") (.type "bool")=some false):PySem.W.kitOne K (.type "int") (.type "bool")=some false:=by
  unfold PySem.W.kitOne PySem.W.kitCls
  rw [if_neg (by decide+kernel)]
  show (if PySem.W.kitMeta "bool"=true then _ else _)=_
  rw [if_pos (by decide+kernel)]
  exact h
theorem pL{K:PySem.W.Frag}(h:PySem.W.subIn K (.type "int") (.type "str")=some false):PySem.W.kitOne K (.type "int") (.type "str")=some false:=by
  unfold PySem.W.kitOne PySem.W.kitCls
  rw [if_neg (by decide+kernel)]
  show (if PySem.W.kitMeta "str"=true then _ else _)=_
  rw [if_pos (by decide+kernel)]
  exact h
theorem lT{K:PySem.W.Frag}(h:PySem.W.subIn K (.type "tuple") (.type "str")=some false):PySem.W.kitOne K (.type "tuple") (.type "str")=some false:=by
  unfold PySem.W.kitOne PySem.W.kitCls
  rw [if_neg (by decide+kernel)]
  show (if PySem.W.kitMeta "str"=true then _ else _)=_
  rw [if_pos (by decide+kernel)]
  exact h
theorem lU{K:PySem.W.Frag}(h:PySem.W.subIn K (.type "tuple") (.type "int")=some false):PySem.W.kitOne K (.type "tuple") (.type "int")=some false:=by
  unfold PySem.W.kitOne PySem.W.kitCls
  rw [if_neg (by decide+kernel)]
  show (if PySem.W.kitMeta "int"=true then _ else _)=_
  rw [if_pos (by decide+kernel)]
  exact h
theorem nv{K:PySem.W.Frag}(h:PySem.W.subIn K (.type "list") (.type "str")=some false):PySem.W.kitOne K (.type "list") (.type "str")=some false:=by
  unfold PySem.W.kitOne PySem.W.kitCls
  rw [if_neg (by decide+kernel)]
  show (if PySem.W.kitMeta "str"=true then _ else _)=_
  rw [if_pos (by decide+kernel)]
  exact h
theorem ny{K:PySem.W.Frag}(h:PySem.W.subIn K (.type "list") (.type "int")=some false):PySem.W.kitOne K (.type "list") (.type "int")=some false:=by
  unfold PySem.W.kitOne PySem.W.kitCls
  rw [if_neg (by decide+kernel)]
  show (if PySem.W.kitMeta "int"=true then _ else _)=_
  rw [if_pos (by decide+kernel)]
  exact h
theorem jW{K:PySem.W.Frag}(h:PySem.W.subIn K (.type "tuple") (.type "list")=some false):PySem.W.kitOne K (.type "tuple") (.type "list")=some false:=by
  unfold PySem.W.kitOne PySem.W.kitCls
  rw [if_neg (by decide+kernel)]
  show (if PySem.W.kitMeta "list"=true then _ else _)=_
  rw [if_pos (by decide+kernel)]
  exact h
theorem jX{K:PySem.W.Frag}(h:PySem.W.subIn K (.type "list") (.type "tuple")=some false):PySem.W.kitOne K (.type "list") (.type "tuple")=some false:=by
  unfold PySem.W.kitOne PySem.W.kitCls
  rw [if_neg (by decide+kernel)]
  show (if PySem.W.kitMeta "tuple"=true then _ else _)=_
  rw [if_pos (by decide+kernel)]
  exact h
open PySem.W in
theorem DR{l:OpenLaw}{w:World}{K:Frag}{h:Heap}{mg:Str→Option Value}{fa Cf Cl Cm atHANDS f1 f2 f3 f4 f5 f6 f7 f8 f9 f10 f11 f12 f13 f14 f15 f16 f17 f18 f19 f20 f21 f22 f23 f24 f25 f26 f27 f28 f29 f30 f31 f32 f33 f34 f35 f36 f37 f38 f39 f40 f41 f42 f43 f44 f45 f46 f47 f48 f49 f50 f51 f52 f53:Addr}(X:K.In h)(G:h.Ns mainGlobals mg)(hfa:mg "law"=some (.ref fa))
    {tkMOST_DOORS tkMOST_BOTTOM tkMOST_PLACES tkMOST_SHARE_BOTTOM:Tok}
    (aENoFloor:nsIn K mainGlobals "NoFloor"=some (some (.ref Cf))) (xENoFloor:excIn K Cf [.type "ValueError", .type "Exception", .type "BaseException", .type "object"] "ValueError.__new__"=true)
    (aENoNumber:nsIn K mainGlobals "NoNumber"=some (some (.ref Cl))) (xENoNumber:excIn K Cl [.type "ValueError", .type "Exception", .type "BaseException", .type "object"] "ValueError.__new__"=true)
    (acMOST_DOORS:nsIn K mainGlobals "MOST_DOORS"=some (some (.int (6) tkMOST_DOORS)))
    (acMOST_BOTTOM:nsIn K mainGlobals "MOST_BOTTOM"=some (some (.int (1000000) tkMOST_BOTTOM)))
    (acMOST_PLACES:nsIn K mainGlobals "MOST_PLACES"=some (some (.int (12) tkMOST_PLACES)))
    (acMOST_SHARE_BOTTOM:nsIn K mainGlobals "MOST_SHARE_BOTTOM"=some (some (.int (1000) tkMOST_SHARE_BOTTOM)))
    (aCFloor:nsIn K mainGlobals "Floor"=some (some (.ref Cm))) (pgFloor:plainGet K Cm Str.empty=true) (hdFloor:hasDictIn K Cm=true) (poFloor:plainOver K Cm=true) (saFloor:findIn K (.ref Cm) "__setattr__"=some (some (.builtin "object.__setattr__"))) (mkFloor:makesIn K Cm=true) (kcFloor:keepIn K (.ref Cm)=true)
    (nf_kept_rows:findIn K (.ref Cm) "kept_rows"=some none)
    (nf_kept_share:findIn K (.ref Cm) "kept_share"=some none)
    {ttHANDS0 ttHANDS1:Tok} {otdHANDS:Option Addr} {otsHANDS:Array (Option Value)} {otnHANDS:Nat} (at_HANDS:nsIn K mainGlobals "HANDS"=some (some (.ref atHANDS))) (lt_HANDS:K.lookup atHANDS=some ⟨.type "tuple",otdHANDS, .seq #[(.str "one" ttHANDS0),(.str "other" ttHANDS1)] otnHANDS,otsHANDS⟩)
    (ks_int_bool:subIn K (.type "int") (.type "bool")=some false)
    (ks_int_str:subIn K (.type "int") (.type "str")=some false)
    (ks_tuple_str:subIn K (.type "tuple") (.type "str")=some false)
    (ks_tuple_int:subIn K (.type "tuple") (.type "int")=some false)
    (ks_list_str:subIn K (.type "list") (.type "str")=some false)
    (ks_list_int:subIn K (.type "list") (.type "int")=some false)
    (ks_tuple_list:subIn K (.type "tuple") (.type "list")=some false)
    (ks_list_tuple:subIn K (.type "list") (.type "tuple")=some false)
    (t1:FT K f1 "_law_at" uu)
    (t2:FT K f2 "_law_by_digits" fe)
    (t3:FT K f3 "_law_lowest" gQ)
    (t4:FT K f4 "_law_share_of" fU)
    (t5:FT K f5 "_law_pay" oR)
    (t6:FT K f6 "_law_stream" gP)
    (t7:FT K f7 "_law_things" gO)
    (t8:FT K f8 "_law_doors" fc)
    (t9:FT K f9 "_law_floor" iT)
    (t10:FT K f10 "_law_copy" gs)
    (t11:FT K f11 "fits_share" gT)
    (t12:FT K f12 "fits_pay" lj)
    (t13:FT K f13 "fits_door" iX)
    (t14:FT K f14 "fits_doors" dR)
    (t15:FT K f15 "common_divisor" dG)
    (t16:FT K f16 "common_bottom" eA)
    (t17:FT K f17 "fits_chances" bG)
    (t18:FT K f18 "fits_row" gu)
    (t19:FT K f19 "copied_row" gU)
    (t20:FM K Cm f20 "__init__" "Floor.__init__" dQ)
    (t21:FT K f21 "_law_plan" k9)
    (t22:FT K f22 "_law_with_more" fb)
    (t23:FT K f23 "with_weights" e7)
    (t24:FT K f24 "number_of_head" et)
    (t25:FT K f25 "moved_ahead" fT)
    (t26:FT K f26 "cleared_line" cP)
    (t27:FT K f27 "cleared" eB)
    (t28:FT K f28 "fraction" iV)
    (t29:FT K f29 "quotients" gM)
    (t30:FT K f30 "answer_of" iY)
    (t31:FM K Cm f31 "size" "Floor.size" gR)
    (t32:FM K Cm f32 "kind" "Floor.kind" gS)
    (t33:FT K f33 "minus" ur)
    (t34:FT K f34 "times" uq)
    (t35:FT K f35 "whole_row" e9)
    (t36:FT K f36 "led_row" oQ)
    (t37:FM K Cm f37 "pay" "Floor.pay" iW)
    (t38:FM K Cm f38 "share" "Floor.share" fV)
    (t39:FM K Cm f39 "doors" "Floor.doors" fW)
    (t40:FT K f40 "ways_from" iN)
    (t41:FT K f41 "plus" Ah)
    (t42:FT K f42 "weighed" kZ)
    (t43:FT K f43 "row_of" iO)
    (t44:FT K f44 "worths_by" e6)
    (t45:FT K f45 "has_door" lh)
    (t46:FT K f46 "doors_of" ll)
    (t47:FT K f47 "worths_of" iM)
    (t48:FT K f48 "_law_whole" iP)
    (t49:FT K f49 "_law_table" iQ)
    (t50:FT K f50 "_law_shown" iR)
    (t51:FT K f51 "_law_due" iU)
    (t52:FT K f52 "_law_meets" iS)
    (t53:FT K f53 "law" EK)
    (z_len:nsIn K mainGlobals "len"=some none)
    (z_abs:nsIn K mainGlobals "abs"=some none)
    (z_isinstance:nsIn K mainGlobals "isinstance"=some none)
    (z_int:nsIn K mainGlobals "int"=some none)
    (z_bool:nsIn K mainGlobals "bool"=some none)
    (z_str:nsIn K mainGlobals "str"=some none)
    (z_tuple:nsIn K mainGlobals "tuple"=some none)
    (z_list:nsIn K mainGlobals "list"=some none)
    (z_range:nsIn K mainGlobals "range"=some none)
    (z_enumerate:nsIn K mainGlobals "enumerate"=some none)
    (z_any:nsIn K mainGlobals "any"=some none)
    (z_all:nsIn K mainGlobals "all"=some none)
    (z_sum:nsIn K mainGlobals "sum"=some none)
    (z_zip:nsIn K mainGlobals "zip"=some none)
    (z_dict:nsIn K mainGlobals "dict"=some none)
    :∃fd:FuncData,(∀(s:Shared) (v:Value),BindsTo s fd ⟨[v],[]⟩ [("_law_script",v)])∧∀base:Heap,K.In base→base.Ns mainGlobals mg→bK l.prog w K mg base CX0 9 fa fd ["_law_script"] (uh K):=by
  obtain ⟨a1,_,F1⟩:=t1
  obtain ⟨a2,_,F2⟩:=t2
  obtain ⟨a3,_,F3⟩:=t3
  obtain ⟨a4,_,F4⟩:=t4
  obtain ⟨a5,_,F5⟩:=t5
  obtain ⟨a6,_,F6⟩:=t6
  obtain ⟨a7,_,F7⟩:=t7
  obtain ⟨a8,_,F8⟩:=t8
  obtain ⟨a9,_,F9⟩:=t9
  obtain ⟨a10,_,F10⟩:=t10
  obtain ⟨a11,_,F11⟩:=t11
  obtain ⟨a12,_,F12⟩:=t12
  obtain ⟨a13,_,F13⟩:=t13
  obtain ⟨a14,_,F14⟩:=t14
  obtain ⟨a15,_,F15⟩:=t15
  obtain ⟨a16,_,F16⟩:=t16
  obtain ⟨a17,_,F17⟩:=t17
  obtain ⟨a18,_,F18⟩:=t18
  obtain ⟨a19,_,F19⟩:=t19
  obtain ⟨a20,i20,_,F20⟩:=t20
  obtain ⟨a21,_,F21⟩:=t21
  obtain ⟨a22,_,F22⟩:=t22
  obtain ⟨a23,_,F23⟩:=t23
  obtain ⟨a24,_,F24⟩:=t24
  obtain ⟨a25,_,F25⟩:=t25
  obtain ⟨a26,_,F26⟩:=t26
  obtain ⟨a27,_,F27⟩:=t27
  obtain ⟨a28,_,F28⟩:=t28
  obtain ⟨a29,_,F29⟩:=t29
  obtain ⟨a30,_,F30⟩:=t30
  obtain ⟨a31,i31,_,F31⟩:=t31
  obtain ⟨a32,i32,_,F32⟩:=t32
  obtain ⟨a33,_,F33⟩:=t33
  obtain ⟨a34,_,F34⟩:=t34
  obtain ⟨a35,_,F35⟩:=t35
  obtain ⟨a36,_,F36⟩:=t36
  obtain ⟨a37,i37,_,F37⟩:=t37
  obtain ⟨a38,i38,_,F38⟩:=t38
  obtain ⟨a39,i39,_,F39⟩:=t39
  obtain ⟨a40,_,F40⟩:=t40
  obtain ⟨a41,_,F41⟩:=t41
  obtain ⟨a42,_,F42⟩:=t42
  obtain ⟨a43,_,F43⟩:=t43
  obtain ⟨a44,_,F44⟩:=t44
  obtain ⟨a45,_,F45⟩:=t45
  obtain ⟨a46,_,F46⟩:=t46
  obtain ⟨a47,_,F47⟩:=t47
  obtain ⟨a48,_,F48⟩:=t48
  obtain ⟨a49,_,F49⟩:=t49
  obtain ⟨a50,_,F50⟩:=t50
  obtain ⟨a51,_,F51⟩:=t51
  obtain ⟨a52,_,F52⟩:=t52
  obtain ⟨a53,dL,F53⟩:=t53
  have e:=hfa.symm.trans (mg_of X G a53)
  cases e
  have mENoFloor:=mg_of X G aENoFloor
  have ENoFloor:ig K Cf _ _:=⟨xENoFloor⟩
  have mENoNumber:=mg_of X G aENoNumber
  have ENoNumber:ig K Cl _ _:=⟨xENoNumber⟩
  have mcMOST_DOORS:=mg_of X G acMOST_DOORS
  have mcMOST_BOTTOM:=mg_of X G acMOST_BOTTOM
  have mcMOST_PLACES:=mg_of X G acMOST_PLACES
  have mcMOST_SHARE_BOTTOM:=mg_of X G acMOST_SHARE_BOTTOM
  have n_len:=mg_none_of X G z_len
  have n_abs:=mg_none_of X G z_abs
  have n_isinstance:=mg_none_of X G z_isinstance
  have n_int:=mg_none_of X G z_int
  have n_bool:=mg_none_of X G z_bool
  have n_str:=mg_none_of X G z_str
  have n_tuple:=mg_none_of X G z_tuple
  have n_list:=mg_none_of X G z_list
  have n_range:=mg_none_of X G z_range
  have n_enumerate:=mg_none_of X G z_enumerate
  have n_any:=mg_none_of X G z_any
  have n_all:=mg_none_of X G z_all
  have n_sum:=mg_none_of X G z_sum
  have n_zip:=mg_none_of X G z_zip
  have n_dict:=mg_none_of X G z_dict
  have E:Ev K mg Cm Cf Cl:={n_len:=n_len,n_abs:=n_abs,n_isinstance:=n_isinstance,n_int:=n_int,n_bool:=n_bool,n_str:=n_str,n_tuple:=n_tuple,n_list:=n_list,n_range:=n_range,n_enumerate:=n_enumerate,n_any:=n_any,n_all:=n_all,n_sum:=n_sum,n_zip:=n_zip,n_dict:=n_dict,ib:=nz ks_int_bool,kis:=pL ks_int_str,kts:=lT ks_tuple_str,kti:=lU ks_tuple_int,kls:=nv ks_list_str,kli:=ny ks_list_int,ktl:=jW ks_tuple_list,klt:=jX ks_list_tuple,mNoFloor:=mENoFloor,eNoFloor:=ENoFloor,mNoNumber:=mENoNumber,eNoNumber:=ENoNumber,clsFloor:=⟨pgFloor,hdFloor,poFloor,saFloor⟩,na_kept_rows:=nf_kept_rows,na_kept_share:=nf_kept_share,mHANDS:=⟨_,_,_,_,mg_of X G at_HANDS,lt_HANDS,rfl,rfl,(by show 2≤sizeLine;decide), .cons ⟨_,rfl⟩ (.cons ⟨_,rfl⟩ .nil)⟩,mMOST_DOORS:=⟨_,mcMOST_DOORS⟩,mMOST_BOTTOM:=⟨_,mcMOST_BOTTOM⟩,mMOST_PLACES:=⟨_,mcMOST_PLACES⟩,mMOST_SHARE_BOTTOM:=⟨_,mcMOST_SHARE_BOTTOM⟩}
  refine ⟨dL,fun s v=>by obtain ⟨_,_,_,_,_,_,_,_,_,rfl,_⟩:=F53.ex;exact .of_eq rfl,fun base _ _=> ?_⟩
  have mc:= @bU.mk l.prog w K mg base
  have c_LawAt:=mc (xU F1 E) (F1.binds fun _ _ _ _ _ _=>dH fun _ _=>rfl) (mg_of X G a1) F1.kp
  have c_LawByDigits:=mc (jT F2 E) (F2.binds fun _ _ _ _ _ _=>gy fun _=>rfl) (mg_of X G a2) F2.kp
  have c_LawLowest:=mc (mZ F3 E) (F3.binds fun _ _ _ _ _ _=>dH fun _ _=>rfl) (mg_of X G a3) F3.kp
  have c_LawShareOf:=mc (lJ F4 E c_LawByDigits c_LawLowest) (F4.binds fun _ _ _ _ _ _=>dH fun _ _=>rfl) (mg_of X G a4) F4.kp
  have c_LawPay:=mc (vc F5 E c_LawLowest) (F5.binds fun _ _ _ _ _ _=>dH fun _ _=>rfl) (mg_of X G a5) F5.kp
  have c_LawStream:=mc (mY F6 E) (F6.binds fun _ _ _ _ _ _=>dH fun _ _=>rfl) (mg_of X G a6) F6.kp
  have c_LawThings:=mc (mX F7 E c_LawByDigits c_LawStream) (F7.binds fun _ _ _ _ _ _=>pK fun _ _ _ _=>rfl) (mg_of X G a7) F7.kp
  have c_LawDoors:=mc (pA F8 E c_LawPay c_LawLowest) (F8.binds fun _ _ _ _ _ _=>pK fun _ _ _ _=>rfl) (mg_of X G a8) F8.kp
  have c_LawFloor:=mc (pw F9 E c_LawAt c_LawByDigits c_LawShareOf c_LawPay c_LawThings c_LawDoors) (F9.binds fun _ _ _ _ _ _=>gy fun _=>rfl) (mg_of X G a9) F9.kp
  have c_LawCopy:=mc (sF F10 E) (F10.binds fun _ _ _ _ _ _=>gy fun _=>rfl) (mg_of X G a10) F10.kp
  have c_FitsShare:=mc (nc F11 E) (F11.binds fun _ _ _ _ _ _=>gy fun _=>rfl) (mg_of X G a11) F11.kp
  have c_FitsPay:=mc (sI F12 E) (F12.binds fun _ _ _ _ _ _=>gy fun _=>rfl) (mg_of X G a12) F12.kp
  have c_FitsDoor:=mc (pD F13 E c_FitsPay) (F13.binds fun _ _ _ _ _ _=>dH fun _ _=>rfl) (mg_of X G a13) F13.kp
  have c_FitsDoors:=mc (ng F14 E c_FitsDoor) (F14.binds fun _ _ _ _ _ _=>dH fun _ _=>rfl) (mg_of X G a14) F14.kp
  have c_CommonDivisor:=mc (ij F15 E) (F15.binds fun _ _ _ _ _ _=>dH fun _ _=>rfl) (mg_of X G a15) F15.kp
  have c_CommonBottom:=mc (i8 F16 E c_CommonDivisor) (F16.binds fun _ _ _ _ _ _=>gy fun _=>rfl) (mg_of X G a16) F16.kp
  have c_FitsChances:=mc (jU F17 E c_CommonBottom) (F17.binds fun _ _ _ _ _ _=>gy fun _=>rfl) (mg_of X G a17) F17.kp
  have c_FitsRow:=mc (sH F18 E c_FitsPay c_FitsDoors c_FitsChances) (F18.binds fun _ _ _ _ _ _=>dH fun _ _=>rfl) (mg_of X G a18) F18.kp
  have c_CopiedRow:=mc (nh F19 E) (F19.binds fun _ _ _ _ _ _=>gy fun _=>rfl) (mg_of X G a19) F19.kp
  have c_FloorInit:Gf l.prog w K mg base _ "Floor" Cm _ _ _ _:=⟨m8 F20 E c_FitsShare c_FitsRow c_CopiedRow,(F20.binds fun _ _ _ _ _ _=>lR fun _ _ _=>rfl),⟨mkFloor,a20,i20,kcFloor⟩,mg_of X G aCFloor⟩
  have c_LawPlan:=mc (sE F21 E c_LawAt c_LawByDigits c_LawStream) (F21.binds fun _ _ _ _ _ _=>pK fun _ _ _ _=>rfl) (mg_of X G a21) F21.kp
  have c_LawWithMore:=mc (jS F22 E) (F22.binds fun _ _ _ _ _ _=>lR fun _ _ _=>rfl) (mg_of X G a22) F22.kp
  have c_WithWeights:=mc (jR F23 E) (F23.binds fun _ _ _ _ _ _=>gy fun _=>rfl) (mg_of X G a23) F23.kp
  have c_NumberOfHead:=mc (i7 F24 E) (F24.binds fun _ _ _ _ _ _=>lR fun _ _ _=>rfl) (mg_of X G a24) F24.kp
  have c_MovedAhead:=mc (lI F25 E) (F25.binds fun _ _ _ _ _ _=>lR fun _ _ _=>rfl) (mg_of X G a25) F25.kp
  have c_ClearedLine:=mc (jV F26 E) (F26.binds fun _ _ _ _ _ _=>pK fun _ _ _ _=>rfl) (mg_of X G a26) F26.kp
  have c_Cleared:=mc (sL F27 E c_WithWeights c_NumberOfHead c_MovedAhead c_ClearedLine) (F27.binds fun _ _ _ _ _ _=>dH fun _ _=>rfl) (mg_of X G a27) F27.kp
  have c_Fraction:=mc (pB F28 E c_CommonDivisor) (F28.binds fun _ _ _ _ _ _=>dH fun _ _=>rfl) (mg_of X G a28) F28.kp
  have c_Quotients:=mc (mW F29 E c_Fraction) (F29.binds fun _ _ _ _ _ _=>pK fun _ _ _ _=>rfl) (mg_of X G a29) F29.kp
  have c_AnswerOf:=mc (pE F30 E c_Cleared c_Quotients) (F30.binds fun _ _ _ _ _ _=>gy fun _=>rfl) (mg_of X G a30) F30.kp
  have c_FloorSize:mv l.prog w K mg base _ Cm "size" _ _ _ _:=⟨m6 F31 E,(F31.binds fun _ _ _ _ _ _=>gy fun _=>rfl),⟨pgFloor,hdFloor,poFloor,saFloor⟩,⟨a31,i31,F31.kp⟩⟩
  have c_FloorKind:mv l.prog w K mg base _ Cm "kind" _ _ _ _:=⟨m7 F32 E,(F32.binds fun _ _ _ _ _ _=>dH fun _ _=>rfl),⟨pgFloor,hdFloor,poFloor,saFloor⟩,⟨a32,i32,F32.kp⟩⟩
  have c_Minus:=mc (xT F33 E c_Fraction) (F33.binds fun _ _ _ _ _ _=>dH fun _ _=>rfl) (mg_of X G a33) F33.kp
  have c_Times:=mc (xR F34 E c_Fraction) (F34.binds fun _ _ _ _ _ _=>dH fun _ _=>rfl) (mg_of X G a34) F34.kp
  have c_WholeRow:=mc (pf F35 E c_CommonBottom) (F35.binds fun _ _ _ _ _ _=>gy fun _=>rfl) (mg_of X G a35) F35.kp
  have c_LedRow:=mc (vb F36 E c_FloorSize c_Minus c_Times c_WholeRow) (F36.binds fun _ _ _ _ _ _=>Fb fun _ _ _ _ _=>rfl) (mg_of X G a36) F36.kp
  have c_FloorPay:mv l.prog w K mg base _ Cm "pay" _ _ _ _:=⟨pC F37 E c_FloorKind,(F37.binds fun _ _ _ _ _ _=>dH fun _ _=>rfl),⟨pgFloor,hdFloor,poFloor,saFloor⟩,⟨a37,i37,F37.kp⟩⟩
  have c_FloorShare:mv l.prog w K mg base _ Cm "share" _ _ _ _:=⟨lK F38 E,(F38.binds fun _ _ _ _ _ _=>gy fun _=>rfl),⟨pgFloor,hdFloor,poFloor,saFloor⟩,⟨a38,i38,F38.kp⟩⟩
  have c_FloorDoors:mv l.prog w K mg base _ Cm "doors" _ _ _ _:=⟨lL F39 E c_FloorKind,(F39.binds fun _ _ _ _ _ _=>dH fun _ _=>rfl),⟨pgFloor,hdFloor,poFloor,saFloor⟩,⟨a39,i39,F39.kp⟩⟩
  have c_WaysFrom:=mc (ph F40 E c_FloorDoors c_FloorKind) (F40.binds fun _ _ _ _ _ _=>lR fun _ _ _=>rfl) (mg_of X G a40) F40.kp
  have c_Plus:=mc (AJ F41 E c_Fraction) (F41.binds fun _ _ _ _ _ _=>dH fun _ _=>rfl) (mg_of X G a41) F41.kp
  have c_Weighed:=mc (sD F42 E c_Plus c_Times) (F42.binds fun _ _ _ _ _ _=>dH fun _ _=>rfl) (mg_of X G a42) F42.kp
  have c_RowOf:=mc (xS F43 E c_FloorKind c_LedRow c_FloorPay c_FloorShare c_WaysFrom c_Weighed) (F43.binds fun _ _ _ _ _ _=>lR fun _ _ _=>rfl) (mg_of X G a43) F43.kp
  have c_WorthsBy:=mc (pe F44 E c_AnswerOf c_FloorSize c_RowOf) (F44.binds fun _ _ _ _ _ _=>dH fun _ _=>rfl) (mg_of X G a44) F44.kp
  have c_HasDoor:=mc (sG F45 E c_FloorDoors) (F45.binds fun _ _ _ _ _ _=>lR fun _ _ _=>rfl) (mg_of X G a45) F45.kp
  have c_DoorsOf:=mc (sJ F46 E c_FloorSize c_FloorKind c_HasDoor) (F46.binds fun _ _ _ _ _ _=>dH fun _ _=>rfl) (mg_of X G a46) F46.kp
  have c_WorthsOf:=mc (pd F47 E c_WorthsBy c_DoorsOf) (F47.binds fun _ _ _ _ _ _=>lR fun _ _ _=>rfl) (mg_of X G a47) F47.kp
  have c_LawWhole:=mc (pj F48 E) (F48.binds fun _ _ _ _ _ _=>gy fun _=>rfl) (mg_of X G a48) F48.kp
  have c_LawTable:=mc (pk F49 E c_LawWhole c_LawLowest) (F49.binds fun _ _ _ _ _ _=>dH fun _ _=>rfl) (mg_of X G a49) F49.kp
  have c_LawShown:=mc (pq F50 E) (F50.binds fun _ _ _ _ _ _=>lR fun _ _ _=>rfl) (mg_of X G a50) F50.kp
  have c_LawDue:=mc (vd F51 E c_LawShown) (F51.binds fun _ _ _ _ _ _=>pK fun _ _ _ _=>rfl) (mg_of X G a51) F51.kp
  have c_LawMeets:=mc (pv F52 E c_LawTable c_LawDue) (F52.binds fun _ _ _ _ _ _=>pK fun _ _ _ _=>rfl) (mg_of X G a52) F52.kp
  exact CP (CK F53 E c_LawFloor c_LawCopy c_FloorInit c_LawPlan c_LawWithMore c_LawAt c_WorthsOf c_LawMeets)
theorem Hf{l:PySem.W.OpenLaw}{q:Program}{loose:List Str}{XP:(Str→Option Value)→Heap→Prop}{YP:World→Heap→Prop}{d:DefRec}{K:Params→PySem.W.Frag}(hn:l.most=some 63)(hdf:d.params.defaults=[])
    (hY:∀(w:World) (h:Heap),YP w h→(K w.params).In h)
    (F:∀(w:World) (mg:Str→Option Value) (fa:Addr) (h:Heap),(K w.params).In h→h.Ns mainGlobals mg→mg d.name=some (.ref fa)→
      ∃fd:FuncData,(∀(s:Shared) (u:Value),BindsTo s fd ⟨[u],[]⟩ [("_law_script",u)])∧∀base:Heap,(K w.params).In base→base.Ns mainGlobals mg→bK l.prog w (K w.params) mg base CX0 9 fa fd ["_law_script"] (uh (K w.params))):
    PySem.W.WalkO q loose XP YP l.row.toRowW d [] (fun f vs=>PySem.call f vs):=
  L2.oE (n:=63) (k:=9) (x:="_law_script") (CX:=fun _=>CX0) (sp:=fun w=>uh (K w.params)) hn (by decide) hdf ⟨rfl,by decide,by decide⟩ hY F (fun _ _ a ns hl _ hS=>⟨a,ns,rfl,hS,hl,fun _=>rfl⟩) fun _ _ _ _ _ z=>z
end
end Pg
open PySem PySem.W PyProof.Rows
set_option maxRecDepth 100000 in
set_option maxHeartbeats 0 in
theorem PySem.Challenge.cw_chanceduel_k22_worths_of_two_plans_holds : PySem.Challenge.rw_chanceduel_k22_worths_of_two_plans.Holds := by
  w_on;o_law
  refine holds_open (q:=Hd.q) (loose:=[]) (Xt:=Hd.Xt) (XP:=XL Hd.q [])
    (Yf:=Hd.H.obs) (Ya:=Hd.H.val) (YP:=Hd.H.says) Hd.left Hd.H.of Hd.H.keeps
    (fun s e=>xl_of s (Bool.and_eq_true_iff.mp e).1) XL.keeps (by rfl) (by rfl) (by rfl)
    (fun s e=>recFacts_of (Bool.and_eq_true_iff.mp e).2) (by rfl) (by assumption) (by decide+kernel)
    ⟨rfl,rfl,rfl,rfl,rfl,by decide+kernel⟩ ?hw ?hc
  (case hw=>w_witness2)
  refine Pg.Hf (l:=PySem.Challenge.rw_chanceduel_k22_worths_of_two_plans) rfl rfl (fun w h Y=>PySem.W.kIn_of Y) ?F
  case F=>
    k_fill
    intro w mg fa h KX G hmg
    refine' Pg.DR KX G hmg ?_ ?_ ?_ ?_ ?_ ?_ ?_ ?_ ?_ ?_ ?_ ?_ ?_ ?_ ?_ ?_ ?_ ?_ ?_ ?_ ?_ ?_ ?_ ?_ ?_ ?_ ?_ ?_ ?_ ?_ ?_ ?_ ?_ ?_ ?_ ?_ ?_ ?_ ?_ ?_ ?_ ?_ ?_ ?_ ?_ ?_ ?_ ?_ ?_ ?_ ?_ ?_ ?_ ?_ ?_ ?_ ?_ ?_ ?_ ?_ ?_ ?_ ?_ ?_ ?_ ?_ ?_ ?_ ?_ ?_ ?_ ?_ ?_ ?_ ?_ ?_ ?_ ?_ ?_ ?_ ?_ ?_ ?_ ?_ ?_ ?_ ?_ ?_ ?_ ?_ ?_ ?_ ?_ ?_ ?_
    all_goals try first | (refine' Pg.FT.of ?_ ?_ ?_ ?_ <;> try k_is) | (refine' Pg.FM.of ?_ ?_ ?_ ?_ ?_ <;> try k_is) | k_is | k_exc | kernel_rfl
