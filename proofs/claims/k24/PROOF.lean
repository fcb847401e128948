import PyProof.Rows.All
import Wide.All
import OpenK.AllK
import Wide.FinOn
import Lean
import PyProof.EqAt
import PyProof.EqKinds
import PyProof.TupleCall
import PyProof.NeKinds
import PyProof.ZipIter
import PyProof.DictUpdate
import PyProof.FactsAll.dict_1
import PyProof.DictIter
import PyProof.DictWalks
import PySem.Challenge.RW_chanceduel_k24_whole_no_plan_does_better
set_option Elab.async false
set_option linter.all false
set_option maxRecDepth 100000
set_option maxHeartbeats 4000000
def aaa:=@List.getElem?_eq_getElem
def aab:=@List.getD_eq_getElem?_getD
def aad:=@List.mem_cons_of_mem
def aae:=@List.length_map
def aaf:=@List.mem_cons_self
def aag:=@List.getElem?_eq_some_iff
def aah:=@Int.le_of_lt
def aai:=@List.length_append
def aaj:=@Nat.le_refl
def aak:=@List.mem_map
def aal:=@List.mem_of_getElem?
def aan:=@List.mem_append_right
def aao:=@List.getElem?_map
def aap:=@Nat.lt_of_lt_of_le
def aaq:=@List.getElem?_append_right
def aar:=@Option.some.inj
def aas:=@Bool.and_eq_true
def aat:=@List.getElem?_append_left
def aau:=@List.length_cons
def aav:=@Int.mul_le_mul_of_nonneg_left
def aaw:=@Nat.le_trans
def aax:=@Bool.false_ne_true
def aay:=@List.mem_cons
def aaz:=@Nat.ne_of_lt
def aaA:=@List.getElem_mem
def aaB:=@Int.lt_of_le_of_lt
def aaC:=@Int.mul_le_mul_of_nonneg_right
def aaD:=@List.length_replicate
def aaE:=@List.map_map
def aaF:=@List.map_cons
def aaG:=@Rat.intCast_mul
def aaH:=@Int.eq_of_mul_eq_mul_left
def aaI:=@List.getElem?_range
def aaJ:=@Int.mul_pos
def aaK:=@Rat.mul_le_mul_of_nonneg_left
def aaL:=@Int.emod_lt_of_pos
def aaM:=@List.nil_append
def aaN:=@List.mem_append
def aaO:=@Int.emod_nonneg
def aaP:=@List.drop_eq_getElem_cons
def aaQ:=@Int.mul_comm
def aaR:=@Nat.lt_of_le_of_lt
def aaS:=@List.map_append
def aaT:=@Option.isSome_iff_exists
def aaU:=@List.length_range
def aaW:=@List.map_congr_left
def aaX:=@Rat.intCast_le_intCast
def aaY:=@Nat.lt_irrefl
def aaZ:=@List.append_nil
def aa0:=@List.size_toArray
def aa1:=@Int.natAbs_mul
def aa2:=@List.getElem_of_mem
def aa3:=@Int.mul_nonneg
def aa4:=@Int.natAbs_of_nonneg
def aa5:=@List.getElem?_set_self
def aa6:=@List.length_set
def aa7:=@List.replicate_succ
def aa8:=@Nat.lt_succ_self
def aa9:=@List.exists_cons_of_ne_nil
def aba:=@List.mem_singleton
def abb:=@List.drop_eq_nil_of_le
def abc:=@List.mem_range
def abd:=@List.lookup_cons
def abe:=@List.ext_getElem
def abf:=@List.append_assoc
def abg:=@Int.mul_ediv_cancel_left
def abh:=@Int.ne_of_gt
def abi:=@List.zip_cons_cons
def abj:=@List.length_zip
def abk:=@Nat.add_sub_cancel_left
def abl:=@Rat.intCast_lt_intCast
def abm:=@List.flatten_cons
def abn:=@Int.mul_le_mul
def abo:=@List.of_mem_zip
def abp:=@List.foldl_cons
def abq:=@Nat.not_lt_zero
def abr:=@Int.le_trans
def abt:=@Rat.mul_le_mul_of_nonneg_right
def abu:=@List.length_drop
def abv:=@List.getElem?_set_ne
def abw:=@List.getElem?_replicate
def abx:=@Int.ofNat_lt
def aby:=@List.nodup_cons
def abz:=@List.range_succ_eq_map
def abA:=@List.take_of_length_le
def abB:=@Int.fmod_eq_emod_of_nonneg
def abC:=@Nat.le_add_right
def abD:=@Int.pow_succ
def abE:=@Nat.zero_le
def abF:=@List.drop_zero
def abG:=@Int.pow_nonneg
def abH:=@Int.mul_neg_of_pos_of_neg
def abI:=@List.set_append_left
def abJ:=@Int.toNat_natCast
def abK:=@Nat.lt_succ_of_lt
def abL:=@Int.natCast_add
def abM:=@List.all_cons
def abN:=@List.any_cons
def abO:=@Nat.ne_of_gt
def abP:=@Int.le_of_dvd
def abQ:=@Array.getElem?_eq_some_iff
def abR:=@Int.fdiv_eq_ediv_of_nonneg
def abS:=@Nat.pow_le_pow_right
def abT:=@PySem.F.slot_dict_getitem
def abU:=@Int.le_of_mul_le_mul_left
def abV:=@List.length_take
def abW:=@Int.ediv_le_self
def abX:=@List.filterMap_cons
def abY:=@Int.toNat_of_nonneg
def abZ:=@List.getElem?_take_of_lt
def ab0:=@List.mem_of_mem_eraseIdx
def ab1:=@Int.lt_or_le
def ab2:=@Int.lt_trans
def ab3:=@List.mem_filterMap
def ab4:=@Nat.min_eq_left
def ab5:=@List.map_take
def ab6:=@List.map_drop
def ab7:=@List.nodup_append
def ab8:=@Int.dvd_zero
namespace Hd
open PySem PySem.W PyProof.Rows
def at_(i:Nat):Stmt:=PySem.Challenge.pw_chanceduel_k24_whole_no_plan_does_better.main.body.getD i (.Pass ⟨0,0,0,0⟩)
def Jf:Stmt->Nat->Stmt
  | .ClassDef _ _ _ b _ _ _ _ _ _ _,j=>b.getD j (.Pass ⟨0,0,0,0⟩)
  | s,_=>s
def dA:Stmt->Arguments
  | .FunctionDef _ a _ _ _ _ _ _ _ _=>a
  | _=>⟨[],[],none,[],[],none,[]⟩
def dB:Stmt->List Stmt
  | .FunctionDef _ _ b _ _ _ _ _ _ _=>b
  | _=>[]
def dS:Stmt->Scope
  | .FunctionDef _ _ _ _ _ _ c _ _ _=>c
  | _=>{kind:= .function,names:=[],isGenerator:=false,isCoroutine:=false}
abbrev row:=PySem.Challenge.rw_chanceduel_k24_whole_no_plan_does_better.row
abbrev en(P:Params)(x:Str)(t:Tok)(v:Value):DictEntry:=⟨PyData.keyHash P x, .str x t,v⟩
def q:Program:={PySem.Challenge.pw_chanceduel_k24_whole_no_plan_does_better with main:={PySem.Challenge.pw_chanceduel_k24_whole_no_plan_does_better.main with body:=[at_ 1,at_ 2,at_ 3,at_ 4,at_ 5,at_ 6,at_ 7,at_ 9,at_ 10,at_ 11,at_ 12,at_ 13,at_ 14,at_ 16,at_ 17,at_ 18,at_ 19,at_ 20,at_ 21,at_ 22,at_ 23,at_ 24,at_ 25,at_ 27,at_ 28,at_ 29,at_ 30,at_ 31,at_ 32,at_ 33,at_ 34,at_ 36,at_ 37,at_ 38,at_ 39,at_ 40,at_ 41,at_ 42,at_ 43,at_ 45,at_ 46,at_ 47,at_ 48,at_ 49,at_ 50,at_ 51,at_ 52,at_ 53,at_ 54,at_ 55,at_ 57,at_ 58,at_ 60,at_ 61,at_ 62,at_ 63,at_ 64,at_ 65,at_ 66,at_ 67,at_ 68,at_ 69,at_ 70,at_ 71,at_ 72,at_ 73,at_ 74]}}
abbrev cO(x q:Str)(t l n f a m:Nat):Obj:=⟨.type "code",none, .fields #[.str x t, .str q (t+1), .str "/claim/cut.py" (t+2), .int l 0, .int n 0, .int 0 0, .int 0 0, .int f 0, .ref a, .bool true, .int 181 0, .ref (a+1), .none, .ref (a+2), .ref (a+3), .ref (a+4), .int m 0, .int l 0, .str "/claim/cut.py" (m+1)], #[]⟩
abbrev dO(x q:Str)(t l n f a m:Nat):Obj:=⟨.type "code",none, .fields #[.str x t, .str q (t+1), .str "/claim/cut.py" (t+2), .int l 0, .int n 0, .int 0 0, .int 0 0, .int f 0, .ref a, .bool true, .int 181 0, .ref (a+1), .none, .none, .none, .ref (a+2), .int m 0, .int l 0, .str "/claim/cut.py" (m+1)], #[]⟩
abbrev fO(x q:Str)(s:Stmt)(m:Value)(c:Nat):Obj:=⟨.type "function",none, .func ⟨x,q,(dA s), .stmts (dB s),(dS s),3,[], .none, .none, .none,m,none, .ref c, .none,0⟩, #[]⟩
abbrev m0:Value:= .str "chanceduel.parts" 341
abbrev m1:Value:= .str "chanceduel.places" 395
abbrev m2:Value:= .str "chanceduel.floors" 453
abbrev m3:Value:= .str "chanceduel.rows" 606
abbrev m4:Value:= .str "chanceduel.plans" 682
abbrev m5:Value:= .str "chanceduel.answers" 782
abbrev m6:Value:= .str "law_chanceduel_k24_whole_no_plan_does_better" 807
noncomputable def K:Params->Frag:=λP=>
(nat_lit 2,⟨.none,none,(.dict #[] 0), #[]⟩)::
(nat_lit 3,⟨(.type "dict"),none,(.dict #[(en P "__name__" 165 m6),(en P "__doc__" 166 .none),(en P "__package__" 167 .none),(en P "__loader__" 168 (.builtin "__main__.__loader__#opaque")),(en P "__spec__" 169 .none),(en P "__annotations__" 170 (.ref 6)),(en P "__builtins__" 171 (.ref 4)),(en P "__file__" 173 (.str "/claim/cut.py" 172)),(en P "__cached__" 174 .none),(en P "DuelError" 206 (.ref 24)),(en P "NoNumber" 222 (.ref 37)),(en P "NoFloor" 238 (.ref 49)),(en P "NoPlace" 263 (.ref 68)),(en P "NoAnswer" 288 (.ref 87)),(en P "ManyAnswers" 315 (.ref 106)),(en P "NoPlan" 340 (.ref 125)),(en P "common_divisor" 353 (.ref 134)),(en P "fraction" 362 (.ref 141)),(en P "plus" 370 (.ref 148)),(en P "minus" 378 (.ref 155)),(en P "times" 386 (.ref 162)),(en P "under" 394 (.ref 169)),(en P "HANDS" 399 (.ref 170)),(en P "MOST_DOORS" 401 (.int 6 400)),(en P "MOST_BOTTOM" 403 (.int 1000000 402)),(en P "fits_pay" 410 (.ref 177)),(en P "fits_door" 418 (.ref 184)),(en P "common_bottom" 427 (.ref 191)),(en P "fits_chances" 433 (.ref 196)),(en P "fits_doors" 439 (.ref 201)),(en P "fits_row" 445 (.ref 206)),(en P "copied_row" 452 (.ref 213)),(en P "MOST_PLACES" 456 (.int 12 455)),(en P "MOST_SHARE_BOTTOM" 458 (.int 1000 457)),(en P "TURNED_KINDS" 468 (.ref 214)),(en P "fits_share" 475 (.ref 221)),(en P "weighed" 486 (.ref 228)),(en P "greatest" 495 (.ref 235)),(en P "least" 504 (.ref 242)),(en P "Floor" 605 (.ref 319)),(en P "with_weights" 618 (.ref 330)),(en P "number_of_head" 628 (.ref 337)),(en P "moved_ahead" 637 (.ref 344)),(en P "cleared_line" 643 (.ref 349)),(en P "cleared" 649 (.ref 354)),(en P "quotients" 662 (.ref 361)),(en P "still_of" 668 (.ref 366)),(en P "answer_of" 681 (.ref 373)),(en P "places_of" 689 (.ref 378)),(en P "first_plan" 699 (.ref 385)),(en P "has_door" 708 (.ref 392)),(en P "doors_of" 719 (.ref 399)),(en P "better_doors" 731 (.ref 406)),(en P "ways_from" 741 (.ref 413)),(en P "whole_row" 747 (.ref 418)),(en P "led_row" 760 (.ref 425)),(en P "row_of" 766 (.ref 430)),(en P "worths_by" 772 (.ref 435)),(en P "worths_of" 781 (.ref 442)),(en P "worths_against" 793 (.ref 449)),(en P "against" 806 (.ref 456)),(en P "_law_at" 818 (.ref 463)),(en P "_law_stream" 829 (.ref 470)),(en P "_law_lowest" 839 (.ref 477)),(en P "_law_pay" 848 (.ref 484)),(en P "_law_doors" 854 (.ref 489)),(en P "_law_by_digits" 861 (.ref 496)),(en P "_law_things" 874 (.ref 503)),(en P "_law_share_of" 884 (.ref 510)),(en P "_law_floor" 904 (.ref 517)),(en P "_law_copy" 910 (.ref 522)),(en P "_law_plan" 923 (.ref 529)),(en P "_law_whole" 930 (.ref 536)),(en P "_law_table" 939 (.ref 543)),(en P "_law_no_better" 951 (.ref 550)),(en P "law" 969 (.ref 557))] 76), #[]⟩)::
(nat_lit 23,⟨(.type "dict"),none,(.dict #[(en P "__module__" 196 (.str "chanceduel.errors" 187)),(en P "__firstlineno__" 200 (.int 2 199)),(en P "__static_attributes__" 201 (.ref 22)),(en P "__weakref__" 203 (.ref 25)),(en P "__doc__" 204 .none)] 3), #[]⟩)::
(nat_lit 24,⟨(.type "type"),none,(.cls ⟨"DuelError",[(.type "ValueError")],[(.ref 24),(.type "ValueError"),(.type "Exception"),(.type "BaseException"),(.type "object")],23,"DuelError",true,[],[(.ref 37),(.ref 49),(.ref 68),(.ref 87),(.ref 106),(.ref 125)],false,none,false⟩), #[(some (.ref 15)),none,(some (.str "DuelError" 189)),(some (.str "DuelError" 197)),(some (.builtin "ValueError.__new__")),(some (.bool true))]⟩)::
(nat_lit 37,⟨(.type "type"),none,(.cls ⟨"NoNumber",[(.ref 24)],[(.ref 37),(.ref 24),(.type "ValueError"),(.type "Exception"),(.type "BaseException"),(.type "object")],36,"NoNumber",true,[],[],false,none,false⟩), #[(some (.ref 28)),none,(some (.str "NoNumber" 207)),(some (.str "NoNumber" 215)),(some (.builtin "ValueError.__new__")),(some (.bool true))]⟩)::
(nat_lit 49,⟨(.type "type"),none,(.cls ⟨"NoFloor",[(.ref 24)],[(.ref 49),(.ref 24),(.type "ValueError"),(.type "Exception"),(.type "BaseException"),(.type "object")],48,"NoFloor",true,[],[],false,none,false⟩), #[(some (.ref 40)),none,(some (.str "NoFloor" 223)),(some (.str "NoFloor" 231)),(some (.builtin "ValueError.__new__")),(some (.bool true))]⟩)::
(nat_lit 68,⟨(.type "type"),none,(.cls ⟨"NoPlace",[(.ref 24)],[(.ref 68),(.ref 24),(.type "ValueError"),(.type "Exception"),(.type "BaseException"),(.type "object")],67,"NoPlace",true,[],[],false,none,false⟩), #[(some (.ref 52)),none,(some (.str "NoPlace" 239)),(some (.str "NoPlace" 247)),(some (.builtin "ValueError.__new__")),(some (.bool true))]⟩)::
(nat_lit 87,⟨(.type "type"),none,(.cls ⟨"NoAnswer",[(.ref 24)],[(.ref 87),(.ref 24),(.type "ValueError"),(.type "Exception"),(.type "BaseException"),(.type "object")],86,"NoAnswer",true,[],[],false,none,false⟩), #[(some (.ref 71)),none,(some (.str "NoAnswer" 264)),(some (.str "NoAnswer" 272)),(some (.builtin "ValueError.__new__")),(some (.bool true))]⟩)::
(nat_lit 106,⟨(.type "type"),none,(.cls ⟨"ManyAnswers",[(.ref 24)],[(.ref 106),(.ref 24),(.type "ValueError"),(.type "Exception"),(.type "BaseException"),(.type "object")],105,"ManyAnswers",true,[],[],false,none,false⟩), #[(some (.ref 90)),none,(some (.str "ManyAnswers" 289)),(some (.str "ManyAnswers" 297)),(some (.builtin "ValueError.__new__")),(some (.bool true))]⟩)::
(nat_lit 125,⟨(.type "type"),none,(.cls ⟨"NoPlan",[(.ref 24)],[(.ref 125),(.ref 24),(.type "ValueError"),(.type "Exception"),(.type "BaseException"),(.type "object")],124,"NoPlan",true,[],[],false,none,false⟩), #[(some (.ref 109)),none,(some (.str "NoPlan" 316)),(some (.str "NoPlan" 324)),(some (.builtin "ValueError.__new__")),(some (.bool true))]⟩)::
(nat_lit 133,cO "common_divisor" "common_divisor" 343 30 2 3 128 351)::
(nat_lit 134,fO "common_divisor" "common_divisor" (at_ 9) m0 133)::
(nat_lit 140,cO "fraction" "fraction" 354 38 2 3 135 360)::
(nat_lit 141,fO "fraction" "fraction" (at_ 10) m0 140)::
(nat_lit 147,cO "plus" "plus" 363 45 2 3 142 368)::
(nat_lit 148,fO "plus" "plus" (at_ 11) m0 147)::
(nat_lit 154,cO "minus" "minus" 371 47 2 3 149 376)::
(nat_lit 155,fO "minus" "minus" (at_ 12) m0 154)::
(nat_lit 161,cO "times" "times" 379 49 2 3 156 384)::
(nat_lit 162,fO "times" "times" (at_ 13) m0 161)::
(nat_lit 168,cO "under" "under" 387 51 2 3 163 392)::
(nat_lit 169,fO "under" "under" (at_ 14) m0 168)::
(nat_lit 170,⟨(.type "tuple"),none,(.seq #[(.str "one" 397),(.str "other" 398)] 0), #[]⟩)::
(nat_lit 176,cO "fits_pay" "fits_pay" 404 57 1 3 171 408)::
(nat_lit 177,fO "fits_pay" "fits_pay" (at_ 19) m1 176)::
(nat_lit 183,cO "fits_door" "fits_door" 411 59 2 3 178 416)::
(nat_lit 184,fO "fits_door" "fits_door" (at_ 20) m1 183)::
(nat_lit 190,cO "common_bottom" "common_bottom" 419 61 1 3 185 425)::
(nat_lit 191,fO "common_bottom" "common_bottom" (at_ 21) m1 190)::
(nat_lit 195,dO "fits_chances" "fits_chances" 428 66 1 3 192 431)::
(nat_lit 196,fO "fits_chances" "fits_chances" (at_ 22) m1 195)::
(nat_lit 200,dO "fits_doors" "fits_doors" 434 72 2 3 197 437)::
(nat_lit 201,fO "fits_doors" "fits_doors" (at_ 23) m1 200)::
(nat_lit 205,dO "fits_row" "fits_row" 440 76 2 3 202 443)::
(nat_lit 206,fO "fits_row" "fits_row" (at_ 24) m1 205)::
(nat_lit 212,cO "copied_row" "copied_row" 446 85 1 3 207 450)::
(nat_lit 213,fO "copied_row" "copied_row" (at_ 25) m1 212)::
(nat_lit 214,⟨(.type "dict"),none,(.dict #[(en P "one" 459 (.str "other" 460)),(en P "other" 461 (.str "one" 462)),(en P "chance" 463 (.str "chance" 464))] 3), #[]⟩)::
(nat_lit 220,cO "fits_share" "fits_share" 469 93 1 3 215 473)::
(nat_lit 221,fO "fits_share" "fits_share" (at_ 30) m2 220)::
(nat_lit 227,cO "weighed" "weighed" 476 95 2 3 222 484)::
(nat_lit 228,fO "weighed" "weighed" (at_ 31) m2 227)::
(nat_lit 234,cO "greatest" "greatest" 487 100 1 3 229 493)::
(nat_lit 235,fO "greatest" "greatest" (at_ 32) m2 234)::
(nat_lit 241,cO "least" "least" 496 106 1 3 236 502)::
(nat_lit 242,fO "least" "least" (at_ 33) m2 241)::
(nat_lit 253,dO "__init__" "Floor.__init__" 517 114 3 3 250 520)::
(nat_lit 254,fO "__init__" "Floor.__init__" (Jf (at_ 34) 0) m2 253)::
(nat_lit 260,cO "size" "Floor.size" 523 125 1 3 255 527)::
(nat_lit 261,fO "size" "Floor.size" (Jf (at_ 34) 1) m2 260)::
(nat_lit 267,cO "share" "Floor.share" 530 128 1 3 262 534)::
(nat_lit 268,fO "share" "Floor.share" (Jf (at_ 34) 2) m2 267)::
(nat_lit 274,cO "kind" "Floor.kind" 537 131 2 3 269 542)::
(nat_lit 275,fO "kind" "Floor.kind" (Jf (at_ 34) 3) m2 274)::
(nat_lit 281,cO "doors" "Floor.doors" 545 134 2 3 276 550)::
(nat_lit 282,fO "doors" "Floor.doors" (Jf (at_ 34) 4) m2 281)::
(nat_lit 288,cO "pay" "Floor.pay" 553 139 2 3 283 558)::
(nat_lit 289,fO "pay" "Floor.pay" (Jf (at_ 34) 5) m2 288)::
(nat_lit 300,cO "shown" "Floor.shown" 567 147 4 3 295 575)::
(nat_lit 301,fO "shown" "Floor.shown" (Jf (at_ 34) 7) m2 300)::
(nat_lit 305,dO "all_shown" "Floor.all_shown" 578 151 3 3 302 581)::
(nat_lit 306,fO "all_shown" "Floor.all_shown" (Jf (at_ 34) 8) m2 305)::
(nat_lit 310,dO "look" "Floor.look" 584 154 3 3 307 587)::
(nat_lit 311,fO "look" "Floor.look" (Jf (at_ 34) 9) m2 310)::
(nat_lit 315,dO "best" "Floor.best" 590 164 3 3 312 593)::
(nat_lit 316,fO "best" "Floor.best" (Jf (at_ 34) 10) m2 315)::
(nat_lit 318,⟨(.type "dict"),none,(.dict #[(en P "__module__" 512 m2),(en P "__firstlineno__" 516 (.int 112 515)),(en P "__init__" 522 (.ref 254)),(en P "size" 529 (.ref 261)),(en P "share" 536 (.ref 268)),(en P "kind" 544 (.ref 275)),(en P "doors" 552 (.ref 282)),(en P "pay" 560 (.ref 289)),(en P "rows" 566 (.ref 294)),(en P "shown" 577 (.ref 301)),(en P "all_shown" 583 (.ref 306)),(en P "look" 589 (.ref 311)),(en P "best" 595 (.ref 316)),(en P "__static_attributes__" 598 (.ref 317)),(en P "__dict__" 600 (.ref 320)),(en P "__weakref__" 602 (.ref 321)),(en P "__doc__" 603 .none)] 4), #[]⟩)::
(nat_lit 319,⟨(.type "type"),none,(.cls ⟨"Floor",[(.type "object")],[(.ref 319),(.type "object")],318,"Floor",true,[],[],false,none,false⟩), #[none,none,(some (.str "Floor" 505)),(some (.str "Floor" 513)),(some (.builtin "object.__new__")),(some (.bool true))]⟩)::
(nat_lit 329,cO "with_weights" "with_weights" 608 170 1 3 324 616)::
(nat_lit 330,fO "with_weights" "with_weights" (at_ 36) m3 329)::
(nat_lit 336,cO "number_of_head" "number_of_head" 619 177 3 3 331 626)::
(nat_lit 337,fO "number_of_head" "number_of_head" (at_ 37) m3 336)::
(nat_lit 343,cO "moved_ahead" "moved_ahead" 629 182 3 3 338 635)::
(nat_lit 344,fO "moved_ahead" "moved_ahead" (at_ 38) m3 343)::
(nat_lit 348,dO "cleared_line" "cleared_line" 638 184 4 3 345 641)::
(nat_lit 349,fO "cleared_line" "cleared_line" (at_ 39) m3 348)::
(nat_lit 353,dO "cleared" "cleared" 644 186 2 3 350 647)::
(nat_lit 354,fO "cleared" "cleared" (at_ 40) m3 353)::
(nat_lit 360,cO "quotients" "quotients" 650 203 4 3 355 660)::
(nat_lit 361,fO "quotients" "quotients" (at_ 41) m3 360)::
(nat_lit 372,cO "answer_of" "answer_of" 669 213 1 3 367 679)::
(nat_lit 373,fO "answer_of" "answer_of" (at_ 43) m3 372)::
(nat_lit 377,dO "places_of" "places_of" 684 226 2 3 374 687)::
(nat_lit 378,fO "places_of" "places_of" (at_ 45) m4 377)::
(nat_lit 384,cO "first_plan" "first_plan" 690 228 2 3 379 697)::
(nat_lit 385,fO "first_plan" "first_plan" (at_ 46) m4 384)::
(nat_lit 391,cO "has_door" "has_door" 700 233 3 3 386 706)::
(nat_lit 392,fO "has_door" "has_door" (at_ 47) m4 391)::
(nat_lit 398,cO "doors_of" "doors_of" 709 235 2 3 393 717)::
(nat_lit 399,fO "doors_of" "doors_of" (at_ 48) m4 398)::
(nat_lit 405,cO "better_doors" "better_doors" 720 245 3 3 400 729)::
(nat_lit 406,fO "better_doors" "better_doors" (at_ 49) m4 405)::
(nat_lit 412,cO "ways_from" "ways_from" 732 252 3 3 407 739)::
(nat_lit 413,fO "ways_from" "ways_from" (at_ 50) m4 412)::
(nat_lit 417,dO "whole_row" "whole_row" 742 257 1 3 414 745)::
(nat_lit 418,fO "whole_row" "whole_row" (at_ 51) m4 417)::
(nat_lit 424,cO "led_row" "led_row" 748 260 5 3 419 758)::
(nat_lit 425,fO "led_row" "led_row" (at_ 52) m4 424)::
(nat_lit 429,dO "row_of" "row_of" 761 266 3 3 426 764)::
(nat_lit 430,fO "row_of" "row_of" (at_ 53) m4 429)::
(nat_lit 434,dO "worths_by" "worths_by" 767 272 2 3 431 770)::
(nat_lit 435,fO "worths_by" "worths_by" (at_ 54) m4 434)::
(nat_lit 441,cO "worths_of" "worths_of" 773 274 3 3 436 779)::
(nat_lit 442,fO "worths_of" "worths_of" (at_ 55) m4 441)::
(nat_lit 448,cO "worths_against" "worths_against" 784 277 3 3 443 791)::
(nat_lit 449,fO "worths_against" "worths_against" (at_ 57) m5 448)::
(nat_lit 455,cO "against" "against" 794 281 3 3 450 804)::
(nat_lit 456,fO "against" "against" (at_ 58) m5 455)::
(nat_lit 462,cO "_law_at" "_law_at" 809 292 2 3 457 816)::
(nat_lit 463,fO "_law_at" "_law_at" (at_ 60) m6 462)::
(nat_lit 469,cO "_law_stream" "_law_stream" 819 299 2 3 464 827)::
(nat_lit 470,fO "_law_stream" "_law_stream" (at_ 61) m6 469)::
(nat_lit 476,cO "_law_lowest" "_law_lowest" 830 306 2 3 471 837)::
(nat_lit 477,fO "_law_lowest" "_law_lowest" (at_ 62) m6 476)::
(nat_lit 483,cO "_law_pay" "_law_pay" 840 311 2 3 478 846)::
(nat_lit 484,fO "_law_pay" "_law_pay" (at_ 63) m6 483)::
(nat_lit 488,dO "_law_doors" "_law_doors" 849 316 4 3 485 852)::
(nat_lit 489,fO "_law_doors" "_law_doors" (at_ 64) m6 488)::
(nat_lit 495,cO "_law_by_digits" "_law_by_digits" 855 325 1 3 490 859)::
(nat_lit 496,fO "_law_by_digits" "_law_by_digits" (at_ 65) m6 495)::
(nat_lit 502,cO "_law_things" "_law_things" 862 327 4 3 497 872)::
(nat_lit 503,fO "_law_things" "_law_things" (at_ 66) m6 502)::
(nat_lit 509,cO "_law_share_of" "_law_share_of" 875 336 2 3 504 882)::
(nat_lit 510,fO "_law_share_of" "_law_share_of" (at_ 67) m6 509)::
(nat_lit 516,cO "_law_floor" "_law_floor" 885 340 1 3 511 902)::
(nat_lit 517,fO "_law_floor" "_law_floor" (at_ 68) m6 516)::
(nat_lit 521,dO "_law_copy" "_law_copy" 905 362 1 3 518 908)::
(nat_lit 522,fO "_law_copy" "_law_copy" (at_ 69) m6 521)::
(nat_lit 528,cO "_law_plan" "_law_plan" 911 364 3 3 523 921)::
(nat_lit 529,fO "_law_plan" "_law_plan" (at_ 70) m6 528)::
(nat_lit 535,cO "_law_whole" "_law_whole" 924 373 1 3 530 928)::
(nat_lit 536,fO "_law_whole" "_law_whole" (at_ 71) m6 535)::
(nat_lit 542,cO "_law_table" "_law_table" 931 375 2 3 537 937)::
(nat_lit 543,fO "_law_table" "_law_table" (at_ 72) m6 542)::
(nat_lit 549,cO "_law_no_better" "_law_no_better" 940 384 3 3 544 949)::
(nat_lit 550,fO "_law_no_better" "_law_no_better" (at_ 73) m6 549)::
(nat_lit 556,cO "law" "law" 952 391 1 3 551 967)::
(nat_lit 557,fO "law" "law" (at_ 74) m6 556)::[]
noncomputable abbrev H:Hook:=kHook K [2,3,23,24,37,49,68,87,106,125,133,134,140,141,147,148,154,155,161,162,168,169,170,176,177,183,184,190,191,195,196,200,201,205,206,212,213,214,220,221,227,228,234,235,241,242,253,254,260,261,267,268,274,275,281,282,288,289,300,301,305,306,310,311,315,316,318,319,329,330,336,337,343,344,348,349,353,354,360,361,372,373,377,378,384,385,391,392,398,399,405,406,412,413,417,418,424,425,429,430,434,435,441,442,448,449,455,456,462,463,469,470,476,477,483,484,488,489,495,496,502,503,509,510,516,517,521,522,528,529,535,536,542,543,549,550,556,557] (λ_=>by kernel_rfl)
abbrev Xt:Shared->Bool:=λs=>xlAt q [] s&&recOk (RowW.records row.toRowW) s
structure Z where
  o:List (List Obj)
  n:Nat
  t:Nat
  g:List DictEntry
  c:List (List Value)
  m:Value
  s:List Value
noncomputable def tu(l:List Value):Obj:=⟨.type "tuple",none, .seq ⟨l⟩ 0, #[]⟩
noncomputable def fl(c:Value)(l:List Value):Obj:=⟨c,none, .fields ⟨l⟩, #[]⟩
noncomputable def ss:List Str->Nat->List Value
  | [],_=>[]
  | x::r,t=> .str x t::ss r (t+1)
noncomputable def lo:List (Str×NameKind)->List Str
  | []=>[]
  | (x, .local)::r=>x::lo r
  | _::r=>lo r
noncomputable def cd(x q:Str)(t l a k b:Nat)(f:Bool)(v w z:Value)(e:Nat):Obj:=fl (.type "code") [.str x t, .str q (t+1), .str "/claim/cut.py" (t+2), .int l 0, .int a 0, .int 0 0, .int 0 0, .int k 0, .ref b, .bool f, .int 181 0, .ref (b+1), .none,v,w,z, .int e 0, .int l 0, .str "/claim/cut.py" (e+1)]
noncomputable def dfO (d:Value) (x q:Str) (a:Arguments) (b:List Stmt) (s:Scope) (l:Nat) (m:Value) (n t:Nat):List Obj×Nat:=
  let f (c:Value) (g:Nat) (d m h:Value):Obj:=⟨c,none, .func ⟨x,q,a, .stmts b,s,g,[],d, .none, .none,m,none,h, .none,0⟩, #[]⟩
  match s.more with
  | []=>let v:=lo s.names
    ([tu [],fl .none [],tu (ss v (t+3)),tu [],f .none 0 .none .none .none,cd x q t l a.args.length 3 n true (.ref (n+2)) (.ref (n+3)) (.ref (n+4)) (t+3+v.length),f (.type "function") 3 d m (.ref (n+5))],t+5+v.length)
  | _=>([tu [],fl .none [],f .none 0 .none .none .none,cd x q t l a.args.length 3 n true .none .none (.ref (n+2)) (t+3),f (.type "function") 3 d m (.ref (n+3))],t+5)
noncomputable def mt (P:Params) (x:Str) (m:Value):List Stmt->Nat->Nat->List Obj×List DictEntry×List Value×Nat×Nat
  | .FunctionDef y a b _ _ _ s _ _ p::r,n,t=>match dfO .none y (x++"."++y) a b s p.line m n t with
    | (os,k)=>match mt P x m r (n+os.length) (k+1) with
      | (o,e,c,w)=>(os++o,en P y k (.ref (n+os.length - 1))::e, .int p.line 0:: .int p.col 0:: .ref (n+os.length - 2)::c,w)
  | _::r,n,t=>mt P x m r n t
  | [],n,t=>([],[],[],n,t)
noncomputable def ty(x:Str)(bs mro:List Value)(d t:Nat)(b:Option Value)(w:String)(s:List Value):Obj:=⟨.type "type",none, .cls ⟨x,bs, .ref (d+1)::mro,d,x,true,[],s,false,none,false⟩, #[b,none,some (.str x t),some (.str x (t+8)),some (.builtin w),some (.bool true)]⟩
noncomputable abbrev VE:List Value:=[.type "ValueError", .type "Exception", .type "BaseException", .type "object"]
noncomputable def clO (P:Params) (x:Str) (bs:List Expr) (b:List Stmt) (sa:List Str) (l:Nat) (m:Value) (n t:Nat):List Obj×Nat×Nat:=
  match mt P x m b (n+7) (t+12) with
  | (mo,me,mc,n2,t2)=>
    let k:=t2+sa.length
    let e1:=en P "__module__" (t+7) m
    let e2:=en P "__firstlineno__" (t+11) (.int l (t+10))
    let e3:=en P "__static_attributes__" k (.ref n2)
    let ds (w k:Nat) (x:List DictEntry):Obj:=⟨.type "dict",none, .dict ⟨e1::e2::(me++e3::(x++[en P "__doc__" k .none]))⟩ w, #[]⟩
    let de (x:Str) (t:Nat) (u:String) (v:Value):Obj:=fl (.type "getset_descriptor") [.str x t, .ref (n2+2), .builtin u,v]
    let h (bt:List Value) (r:List Obj):List Obj:=tu bt::fl (.type "builtin_function_or_method") [.builtin "type.__prepare__", .type "type"]::⟨.type "dict",none, .dict ⟨e1::en P "__qualname__" (t+9) (.str x (t+8))::e2::(me++[e3])⟩ (4+me.length), #[]⟩::tu []::fl .none mc::cd x x (t+2) l 0 0 (n+3) false .none .none .none (t+5)::⟨.type "frame",none, .plain, #[some (.ref (n+5)),some (.ref 3),some (.ref (n+2)),none,some m,none,some (.ref 0)]⟩::(mo++tu (ss sa t2)::(r++[fl (.type "super") [.ref (n2+2), .ref (n2+2), .ref (n2+2)],fl (.type "builtin_function_or_method") [.builtin "object.__init_subclass__", .ref (n2+2)]]))
    match bs with
    | []=>(h [] [ds 4 (k+5) [en P "__dict__" (k+2) (.ref (n2+3)),en P "__weakref__" (k+4) (.ref (n2+4))],ty x [.type "object"] [.type "object"] (n2+1) t none "object.__new__" [],de "__dict__" (k+1) "function.__dict__" (.builtin "function.__dict__#set"),de "__weakref__" (k+3) "ExceptionGroup.__weakref__" .none],k+7,n2+2)
    | _=>match n with
      | 15=>(h [.type "ValueError"] [ds 3 (k+3) [en P "__weakref__" (k+2) (.ref (n2+3))],ty x [.type "ValueError"] VE (n2+1) t (some (.ref n)) "ValueError.__new__" [],de "__weakref__" (k+1) "ExceptionGroup.__weakref__" .none],k+5,n2+2)
      | _=>(h [.ref 24] [ds 2 (k+1) [],ty x [.ref 24] (.ref 24::VE) (n2+1) t (some (.ref n)) "ValueError.__new__" []],k+3,n2+2)
noncomputable def ls:List Expr->Nat->List Value×Nat
  | .Constant (.str z) _ _::r,t=>match ls r (t+1) with
    | (v,k)=>(.str z t::v,k)
  | .Constant (.int z) _ _::r,t=>match ls r (t+1) with
    | (v,k)=>(.int z t::v,k)
  | .Constant .none _ _::r,t=>match ls r t with
    | (v,k)=>(.none::v,k)
  | _,t=>([],t)
noncomputable def gv(x:Str):List DictEntry->Value
  | ⟨_, .str y _,v⟩::r=>if x=y then v else gv x r
  | _=> .none
noncomputable def dv (P:Params) (g:List DictEntry):List (Option Expr)->List Expr->Nat->List DictEntry×Nat
  | some (.Constant (.str z) _ _)::r, .Name x _::u,t=>match dv P g r u (t+1) with
    | (e,k)=>(en P z t (gv x g)::e,k+1)
  | some (.Constant (.str z) _ _)::r,c::u,t=>match ls [c] (t+1) with
    | (v,k)=>match dv P g r u k with
      | (e,k)=>(en P z t (v.headD .none)::e,k+1)
  | _,_,t=>([],t)
noncomputable def stp (P:Params) (z:Z):Stmt->Z
  | .FunctionDef x a b _ _ _ s _ _ p=>match a.defaults with
    | []=>match dfO .none x x a b s p.line z.m z.n z.t with
      | (os,k)=>{z with o:=os::z.o,n:=z.n+os.length,t:=k+1,g:=en P x k (.ref (z.n+os.length - 1))::z.g,c:=[.int p.line 0, .int p.col 0, .ref (z.n+os.length - 2)]::z.c}
    | ds=>match ls ds z.t with
      | (v,k)=>match dfO (.ref z.n) x x a b s p.line z.m (z.n+1) k with
        | (os,k)=>{z with o:=os::[tu v]::z.o,n:=z.n+1+os.length,t:=k+1,g:=en P x k (.ref (z.n+os.length))::z.g,c:=[.int p.line 0, .int p.col 0, .ref (z.n+os.length - 1)]::z.c}
  | .ClassDef x bs _ b _ _ _ _ _ sa p=>match clO P x bs b sa p.line z.m z.n z.t with
    | (os,k,d)=>{z with o:=os::z.o,n:=z.n+os.length,t:=k+1,g:=en P x k (.ref d)::z.g,c:=[.int p.line 0, .int p.col 0, .ref (z.n+5)]::z.c,s:=match z.n with
        | 15=>[]
        | _=>match bs with
          | []=>z.s
          | _=> .ref d::z.s}
  | .Assign [.Name x _] (.Tuple es _ _) _=>match ls es z.t with
    | (v,k)=>{z with o:=[tu v]::z.o,n:=z.n+1,t:=k+1,g:=en P x k (.ref z.n)::z.g}
  | .Assign [.Name x _] (.Dict ks vs _) _=>match dv P z.g ks vs z.t with
    | (e,k)=>{z with o:=[⟨.type "dict",none, .dict ⟨e⟩ e.length, #[]⟩]::z.o,n:=z.n+1,t:=k+1,g:=en P x k (.ref z.n)::z.g}
  | .Assign [.Name x _] c _=>match ls [c] z.t with
    | (v,k)=>if x="__name__" then {z with t:=k+1,m:=v.headD .none} else {z with t:=k+1,g:=en P x k (v.headD .none)::z.g}
  | _=>z
noncomputable def z0:Z:=⟨[],15,187,[],[], .str "__main__" 164,[]⟩
noncomputable def zs(P:Params)(k:Nat):Z:=((behindTheImports row.prog).take k).foldl (stp P) z0
noncomputable def g9(P:Params)(m:Value):List DictEntry:=[en P "__name__" 165 m,en P "__doc__" 166 .none,en P "__package__" 167 .none,en P "__loader__" 168 (.builtin "__main__.__loader__#opaque"),en P "__spec__" 169 .none,en P "__annotations__" 170 (.ref 6),en P "__builtins__" 171 (.ref 4),en P "__file__" 173 (.str "/claim/cut.py" 172),en P "__cached__" 174 .none]
noncomputable def zl(P:Params)(z:Z):List Obj:=boot_o_0 P::boot_o_1 P::boot_o_2 P::⟨.type "dict",none, .dict ⟨g9 P z.m++z.g.reverse⟩ (z.g.length+9), #[]⟩::boot_o_4 P::boot_o_5 P::boot_o_6 P::boot_o_7 P::boot_o_8 P::boot_o_9 P::boot_o_10 P::tu []::fl .none z.c.reverse.flatten::cd "<module>" "<module>" 182 1 0 0 11 false .none .none .none 185::⟨.type "frame",none, .plain, #[some (.ref 13),some (.ref 3),some (.ref 3),none,some (.str "__main__" 164),none,some (.ref 0)]⟩::(z.o.reverse.flatten.set 9 (ty "DuelError" [.type "ValueError"] VE 23 189 (some (.ref 15)) "ValueError.__new__" z.s.reverse))
noncomputable def od:List Obj->List Obj
  | x::_::r=>x::od r
  | l=>l
noncomputable def mkT:Nat->List Obj->BT
  | 0,_=> .nil
  | _,[]=> .nil
  | n+1,x::r=> .node x (mkT n (od r)) (mkT n (od r.tail))
noncomputable def T(P:Params)(k:Nat):BT:=mkT 12 (zl P (zs P k))
noncomputable abbrev S(k n t:Nat)(w:World)(os:OsState):SharedT:=⟨T w.params k,n,{}, #[],{},t,os⟩
noncomputable def env:Env:={scope:=row.prog.main.scope,locals:=mainNs,globals:=mainNs,cells:=[],code:= .ref 13,frame:=some 14}
noncomputable abbrev bI:List Stmt:=behindTheImports row.prog
noncomputable def cE:Code:= .body bI env
noncomputable abbrev tF:List Frame:=[topFrame ⟨0,0,0,0⟩]
noncomputable abbrev sg(w:World)(os:OsState)(N k n t:Nat)(p:Pos)(l:Nat):=segRunT treeTable row.prog w 11 (some (.ref 6)) 1 N (S k n t w os) (piecesOf ((bI.drop k).take l) env cE p tF)
noncomputable abbrev sr(w:World)(os:OsState)(k n t:Nat)(p:Pos):Option (Flow×SharedT×Code×Pos):=some (.next,S k n t w os,cE,p)
noncomputable abbrev se(w:World)(N k n t:Nat)(p:Pos)(l:Nat)(k' n' t':Nat)(p':Pos):Prop:=(λos=>sg w os N k n t p l)=λos=>sr w os k' n' t' p'
theorem lw:looseW q ["TURNED_KINDS"]=(["TURNED_KINDS","HANDS"]:List Str):=by kernel_rfl
theorem s0(w:World):se w 2060 0 15 187 ⟨0,0,0,0⟩ 29 29 214 459 ⟨91,0,91,17⟩:=by kernel_rfl
theorem s29f(w:World):se (w.withFollow "special-get-raises" false) 56 29 214 459 ⟨91,0,91,17⟩ 1 30 215 469 ⟨92,0,92,12⟩:=by kernel_rfl
theorem s29t(w:World):se (w.withFollow "special-get-raises" true) 56 29 214 459 ⟨91,0,91,17⟩ 1 30 215 469 ⟨92,0,92,12⟩:=by kernel_rfl
theorem s29(w:World):se w 56 29 214 459 ⟨91,0,91,17⟩ 1 30 215 469 ⟨92,0,92,12⟩:=byRow2 "special-get-raises" (P:=λw=>se w 56 29 214 459 ⟨91,0,91,17⟩ 1 30 215 469 ⟨92,0,92,12⟩) s29f s29t w
theorem s30(w:World):se w 1815 30 215 469 ⟨92,0,92,12⟩ 45 75 558 970 ⟨391,0,408,15⟩:=by kernel_rfl
theorem pre(w:World)(os:OsState):topGo treeTable row.prog w 11 (some (.ref 6)) 12 ⟨boot_heap w.params, #[],boot_drawn,boot_toks,os⟩ (topStub row.prog)=some ((S 0 15 187 w os).abs,⟨denote treeTable cE,cE,⟨0,0,0,0⟩,tF⟩):=by kernel_rfl
theorem blk(w:World)(os:OsState):segRun treeTable row.prog w 11 (some (.ref 6)) 1 1 (S 0 15 187 w os).abs (blockOf bI env cE ⟨0,0,0,0⟩ tF)=some (.next,(S 0 15 187 w os).abs,cE,⟨0,0,0,0⟩):=by kernel_rfl
theorem fin(w:World)(s:Shared)(p:Pos):topRun treeTable row.prog w 11 (some (.ref 6)) 2 s (restOf (bI.drop 75) env cE p tF)=some s:=by rewrite [show bI.drop 75=[] by kernel_rfl];rfl
theorem siz(w:World):((boot_heap w.params).isNs mainGlobals&&(#[]:Array GenState).size==0,(boot_heap w.params).objs.size,(boot_heap w.params).nsMap mainGlobals "__annotations__")=(true,11,some (.ref 6)):=by kernel_rfl
theorem opn:opening row.prog=plainProg row.prog.main.scope.names:=by kernel_rfl
theorem fen(s:Shared):fenceModules? row.prog s=some s:=by kernel_rfl
theorem pc{w:World}{n N k l:Nat}{s s':SharedT}{r:Shared}{p p':Pos}(h:segRunT treeTable row.prog w 11 (some (.ref 6)) 1 n s (piecesOf ((bI.drop k).take l) env cE p tF)=some (.next,s',cE,p'))(g:topRun treeTable row.prog w 11 (some (.ref 6)) N s'.abs (restOf (bI.drop (k+l)) env cE p' tF)=some r):topRun treeTable row.prog w 11 (some (.ref 6)) (n+N) s.abs (restOf (bI.drop k) env cE p tF)=some r:=by
  have e:(bI.drop k).take l++bI.drop (k+l)=bI.drop k:=by rw [<-List.drop_drop,List.take_append_drop]
  rewrite [<-e];exact piece_app (segRun_of h) g
theorem run(w:World)(os:OsState):topRun treeTable row.prog w 11 (some (.ref 6)) (12+(1+(2060+(56+(1815+(2)))))) ⟨boot_heap w.params, #[],boot_drawn,boot_toks,os⟩ (topStub row.prog)=some (S 75 558 970 w os).abs:=go_top (pre w os) (piece_block (blk w os) (pc (congrFun (s0 w) os) (pc (congrFun (s29 w) os) (pc (congrFun (s30 w) os) (fin w _ _)))))
noncomputable abbrev sE(w:World)(os:OsState):Shared:=(S 75 558 970 w os).abs
theorem l1(w:World)(os:OsState):(staticsOk (importedModules row.prog.main.body) (boot_heap w.params) (sE w os).heap&&namesBound row.prog (sE w os).heap&&gensDone (sE w os)&&laidKept (boot_heap w.params) (sE w os).heap)=true:=by kernel_rfl
section
variable{A B D E F G I J:Type}{u t:A×B×Bool×D×E×F×G×I×J}
noncomputable def p1:A×B×Bool×D×E×F×G×I×J->A
  | (a,_,_,_,_,_,_,_,_)=>a
noncomputable def p2:A×B×Bool×D×E×F×G×I×J->B
  | (_,b,_,_,_,_,_,_,_)=>b
noncomputable def p4:A×B×Bool×D×E×F×G×I×J->Bool
  | (_,_,c,_,_,_,_,_,_)=>c
noncomputable def p3:A×B×Bool×D×E×F×G×I×J->D
  | (_,_,_,d,_,_,_,_,_)=>d
noncomputable def p5:A×B×Bool×D×E×F×G×I×J->E
  | (_,_,_,_,e,_,_,_,_)=>e
noncomputable def p6:A×B×Bool×D×E×F×G×I×J->F
  | (_,_,_,_,_,f,_,_,_)=>f
noncomputable def p7:A×B×Bool×D×E×F×G×I×J->G
  | (_,_,_,_,_,_,g,_,_)=>g
noncomputable def p8:A×B×Bool×D×E×F×G×I×J->I
  | (_,_,_,_,_,_,_,g,_)=>g
noncomputable def p9:A×B×Bool×D×E×F×G×I×J->J
  | (_,_,_,_,_,_,_,_,g)=>g
theorem q6{a b c d e f g i j}:p6 ((a,b,c,d,e,f,g,i,j):A×B×Bool×D×E×F×G×I×J)=f:=rfl
theorem pr(h:p1 u=t.1)(g:p2 u=t.2.1)(g1:p4 u=true)(g2:t.2.2.1=true)(k:p3 u=t.2.2.2.1)(k1:p5 u=t.2.2.2.2.1)(k2:p6 u=t.2.2.2.2.2.1)(k3:p7 u=t.2.2.2.2.2.2.1)(k4:p8 u=t.2.2.2.2.2.2.2.1)(k5:p9 u=t.2.2.2.2.2.2.2.2):u=t:=Prod.ext h (Prod.ext g (Prod.ext (g1.trans g2.symm) (Prod.ext k (Prod.ext k1 (Prod.ext k2 (Prod.ext k3 (Prod.ext k4 k5)))))))
end
noncomputable abbrev sn(w:World)(os:OsState):=openSeen q ["TURNED_KINDS"] (importedModules row.prog.main.body) Xt true (sE w os)
noncomputable abbrev gd:=openGood q ["TURNED_KINDS"]
variable(w:World)(os:OsState)
theorem la:p1 (sn w os)=gd.1:=by kernel_rfl
theorem lb:p2 (sn w os)=gd.2.1:=by kernel_rfl
theorem lp:(sE w os).heap.keysOk (looseW q ["TURNED_KINDS"]) ((recsOf q).map (·.name)) ((litsOf q).map (·.1)) ((clssOf q (looseW q ["TURNED_KINDS"])).map (·.name))=true:=by rw[lw];kernel_rfl
theorem lq:(sE w os).heap.accountedOkI (importedModules row.prog.main.body)=true:=by kernel_rfl
theorem lr:(sE w os).heap.isNs mainGlobals=true:=by kernel_rfl
theorem lt:(sE w os).heap.isNs builtinsNs=true:=by kernel_rfl
theorem lu:tablesOk q (sE w os).heap=true:=by kernel_rfl
theorem lv:Xt (sE w os)=true:=by kernel_rfl
theorem p4e(s:Shared):p4 (openSeen q ["TURNED_KINDS"] (importedModules row.prog.main.body) Xt true s)=(s.heap.keysOk (looseW q ["TURNED_KINDS"]) ((recsOf q).map (·.name)) ((litsOf q).map (·.1)) ((clssOf q (looseW q ["TURNED_KINDS"])).map (·.name))&&s.heap.accountedOkI (importedModules row.prog.main.body)&&s.heap.isNs mainGlobals&&s.heap.isNs builtinsNs&&tablesOk q s.heap&&Xt s&&(s.gens.size==0)):=rfl
theorem ld:p4 (sn w os)=true:=(p4e _).trans (look_both (look_both (look_both (look_both (look_both (look_both (lp w os) (lq w os)) (lr w os)) (lt w os)) (lu w os)) (lv w os)) rfl)
theorem na:(((recsOf q).take 50).all λd=>(sE w os).heap.tab0Ok d.name)=true:=by kernel_rfl
theorem ne:(((recsOf q).drop 50).all λd=>(sE w os).heap.tab0Ok d.name)=true:=by kernel_rfl
theorem nt{α}{l:List α}{f}(h:(l.take 50).all f=true)(g:(l.drop 50).all f=true):l.all f=true:=by rw[<-l.take_append_drop 50,List.all_append,h,g];rfl
theorem nb:(sE w os).heap.bmainOk=true:=by kernel_rfl
theorem nc:valsOk q (sE w os).heap=true:=by kernel_rfl
theorem nd:(!importsNone q||(sE w os).heap.noSeerOk)=true:=by kernel_rfl
theorem p3e(s:Shared):p3 (openSeen q ["TURNED_KINDS"] (importedModules row.prog.main.body) Xt true s)=tabsOk q s:=rfl
theorem lc:p3 (sn w os)=gd.2.2.2.1:=(p3e _).trans (look_both (look_both (look_both (nt (na w os) (ne w os)) (nb w os)) (nc w os)) (nd w os))
theorem le:p5 (sn w os)=gd.2.2.2.2.1:=by kernel_rfl
theorem p6e(s:Shared):p6 (openSeen q ["TURNED_KINDS"] (importedModules row.prog.main.body) Xt true s)=plainSeenE q (looseW q ["TURNED_KINDS"]) s:=by delta openSeen;exact q6
theorem ga:plainSeenE q (looseW q ["TURNED_KINDS"]) (sE w os)=plainGoodE q (looseW q ["TURNED_KINDS"]):=by rw[lw];kernel_rfl
theorem lg:p6 (sn w os)=gd.2.2.2.2.2.1:=(p6e _).trans (ga w os)
theorem lh:p7 (sn w os)=gd.2.2.2.2.2.2.1:=by kernel_rfl
theorem lj:p8 (sn w os)=gd.2.2.2.2.2.2.2.1:=by kernel_rfl
theorem lm:p9 (sn w os)=gd.2.2.2.2.2.2.2.2:=by kernel_rfl
theorem l2:sn w os=gd:=pr (la w os) (lb w os) (ld w os) rfl (lc w os) (le w os) (lg w os) (lh w os) (lj w os) (lm w os)
theorem l3:H.obs (sE w os)=H.val w:=by kernel_rfl
theorem left:LeftO row.prog q ["TURNED_KINDS"] Xt H.obs H.val 7982:=LeftO.of_pieces (H₀:=boot_heap) (H₁:=λP=>absHeap (T P 75) 558 {}) (gs₀:= #[]) (gs₁:= #[]) (d₀:=boot_drawn) (d₁:={}) (k₀:=boot_toks) (k₁:=970) (boot_open opn rfl fen) siz run rfl λw=>funext λos=>looks_pair (l1 w os) (looks_pair (l2 w os) (l3 w os))
end Hd
namespace L2
open PySem PySem.Spec PyProof.Rows
abbrev Key:=Sum Int Str
def sI:Key->Value->Bool
 | .inl k,v=>Value.isInt k v
 | .inr x,v=>Value.isStrOf x v
def UQ(w:World):Key->Int
 | .inl k=>hashInt k
 | .inr x=>hashStr w x
theorem aX:∀{k:Key} {v:Value},sI k v=true->(∃i t,k=Sum.inl i/\v=Value.int i t)\/(∃x t,k=Sum.inr x/\v=Value.str x t)
 | .inl i,v,h=>by obtain ⟨t,e⟩:=Value.isInt_shape (k:=i) (v:=v) h;exact .inl ⟨i,t,rfl,e⟩
 | .inr x,v,h=>by obtain ⟨t,e⟩:=Value.isStrOf_shape (x:=x) (v:=v) h;exact .inr ⟨x,t,rfl,e⟩
theorem CT(i:Int)(t:Tok):sI (.inl i) (.int i t)=true:=by simp [sI,Value.isInt]
theorem D_(x:Str)(t:Tok):sI (.inr x) (.str x t)=true:=by simp [sI,Value.isStrOf]
theorem NW(a b:Int):decide ((Sum.inl a:Key)=Sum.inl b)=(a==b):=by
 by_cases e:a=b
 ·subst e;simp
 ·have h:¬(Sum.inl a:Key)=Sum.inl b:=λq=>e (Sum.inl.inj q);rw [decide_eq_false h];exact (beq_eq_false_iff_ne.mpr e).symm
theorem OF(a b:Str):decide ((Sum.inr a:Key)=Sum.inr b)=decide (a=b):=by
 by_cases e:a=b
 ·subst e;simp
 ·have h:¬(Sum.inr a:Key)=Sum.inr b:=λq=>e (Sum.inr.inj q);rw [decide_eq_false h,decide_eq_false e]
theorem Md(a:Int)(b:Str):decide ((Sum.inl a:Key)=Sum.inr b)=false:=decide_eq_false (λq=>nomatch q)
theorem NM(a:Str)(b:Int):decide ((Sum.inr a:Key)=Sum.inl b)=false:=decide_eq_false (λq=>nomatch q)
def bb(prog:Program)(w:World):PySem.KeyKind prog w Key where
 is:=sI
 hash:=UQ w
 inj:=λv a b ha hb=>by
  rcases aX ha with ⟨i,t,rfl,rfl⟩ | ⟨x,t,rfl,rfl⟩
  ·rcases aX hb with ⟨j,u,rfl,e⟩ | ⟨y,u,rfl,e⟩
   ·injection e with e1 _;rw [e1]
   ·exact nomatch e
  ·rcases aX hb with ⟨j,u,rfl,e⟩ | ⟨y,u,rfl,e⟩
   ·exact nomatch e
   ·injection e with e1 _;rw [e1]
 byValue:=λk v h=>by rcases aX h with ⟨i,t,rfl,rfl⟩ | ⟨x,t,rfl,rfl⟩ <;> rfl
 pyHash:=λhv h=>by
  rcases aX hv with ⟨i,t,rfl,rfl⟩ | ⟨x,t,rfl,rfl⟩
  ·exact wpAny_pyHash_int h
  ·exact wpAny_pyHash_str h
 eqBool:=λhu hv h=>by
  rcases aX hu with ⟨i,t,rfl,rfl⟩ | ⟨x,t,rfl,rfl⟩
  ·rcases aX hv with ⟨j,u,rfl,rfl⟩ | ⟨y,u,rfl,rfl⟩
   ·rw [NW] at h;exact wpAny_eqBool_int h
   ·rw [Md] at h;exact SeqAt.EqAt.int_str i t y u _ _ _ _ h
  ·rcases aX hv with ⟨j,u,rfl,rfl⟩ | ⟨y,u,rfl,rfl⟩
   ·rw [NM] at h;exact SeqAt.EqAt.str_int x t j u _ _ _ _ h
   ·rw [OF] at h;exact wpAny_eqBool_str h
 «strs»:=λk x t v h=>by
  rcases aX h with ⟨i,u,rfl,e⟩ | ⟨y,u,rfl,e⟩
  ·exact nomatch e
  ·injection e with e1 _
   subst e1;cases v <;> rfl
theorem x_(prog:Program)(w:World)(i:Int)(t:Tok):(bb prog w).is (.inl i) (.int i t)=true:=CT i t
theorem yp(prog:Program)(w:World)(x:Str)(t:Tok):(bb prog w).is (.inr x) (.str x t)=true:=D_ x t
inductive V where
 | br | bl (b:Bool) | int (i:Int) | str (x:Str) | EU (b:Array UInt8) | MB (b:UInt64) | ref (a:Addr) | ty (n:String)
 deriving DecidableEq
def au:V->Value->Prop
 | .br,u=>u=Value.none
 | .bl b,u=>u=Value.bool b
 | .int i,u=>∃t,u=Value.int i t
 | .str x,u=>∃t,u=Value.str x t
 | .EU b,u=>∃t,u=Value.bytes b t
 | .MB b,u=>∃t,u=Value.float b t
 | .ref a,u=>u=Value.ref a
 | .ty n,u=>u=Value.type n
abbrev ao:List V->List Value->Prop:=Paired au
theorem ao.length{xs:List V}{us:List Value}(r:ao xs us):xs.length=us.length:=Paired.length r
theorem ao.get:∀{xs:List V} {us:List Value} {i:Nat} {x:V},ao xs us->xs[i]? =some x->∃u,us[i]? =some u/\au x u
 | _,_,_,_, .nil,e=>by simp at e
 | _,_,0,_, .cons r _,e=>by simp at e;subst e;exact ⟨_,rfl,r⟩
 | _,_,i+1,x, .cons _ t,e=>by obtain ⟨u,h1,h2⟩:=ao.get (i:=i) (x:=x) t (by simpa using e);exact ⟨u,by simpa using h1,h2⟩
theorem ao.set{x:V}{u:Value}(r:au x u):∀{xs:List V} {us:List Value} (i:Nat),ao xs us->ao (xs.set i x) (us.set i u)
 | _,_,_, .nil=> .nil
 | _,_,0, .cons _ t=> .cons r t
 | _,_,i+1, .cons q t=> .cons q (ao.set r i t)
theorem ao.append:∀{xs ys:List V} {us ws:List Value},ao xs us->ao ys ws->ao (xs++ys) (us++ws)
 | _,_,_,_, .nil,s=>s
 | _,_,_,_, .cons r t,s=> .cons r (ao.append t s)
theorem ao.take:∀{xs:List V} {us:List Value} (n:Nat),ao xs us->ao (xs.take n) (us.take n)
 | _,_,0,_=> .nil
 | _,_,_+1, .nil=> .nil
 | _,_,n+1, .cons r t=> .cons r (ao.take n t)
theorem ao.drop:∀{xs:List V} {us:List Value} (n:Nat),ao xs us->ao (xs.drop n) (us.drop n)
 | _,_,0,r=>r
 | _,_,_+1, .nil=> .nil
 | _,_,n+1, .cons _ t=>ao.drop n t
def jx:Option V->Option Value->Prop
 | some v,some u=>au v u
 | none,none=>True
 | _,_=>False
def KV{κ:Type}:List (κ×V)->List (κ×Value)->Prop:=Paired λ(p:κ×V) (q:κ×Value)=>p.1=q.1/\au p.2 q.2
def kV:Key->V
 | .inl i=> .int i
 | .inr x=> .str x
inductive HO where
 | lst (xs:List V)
 | tup (xs:List V)
 | dK (Λ:List (Key×V)) | dT (Λ:List (List Key×V))
 | set (S:Int->Bool) (n:Nat)
 | ins (C dx:Addr) (fs:List (Str×V))
 | own (x:Addr)
 | xd (fs:List (Str×V))
 | met (f x:Addr)
 | TJ (lo hi:Int)
 | wM (o:Obj) (u:HO)
 | Kx (ps:Array Value)
 | ext (φ:Heap->Prop)
abbrev Hp:=Addr->Option HO
def upd(H:Hp)(a:Addr)(o:HO):Hp:=λb=>if b=a then some o else H b
theorem Κ{H:Hp}{a:Addr}{o:HO}:upd H a o a=some o:=by unfold upd;rw [if_pos rfl]
theorem ψ{H:Hp}{a b:Addr}{o:HO}(h:b≠a):upd H a o b=H b:=by unfold upd;rw [if_neg h]
theorem PV{H:Hp}{a b:Addr}{o u:HO}(h:H a=some o)(h':H b=some u)(d:o≠u):a≠b:=by intro e;subst e;rw [h] at h';exact d (aar h')
theorem bx{H:Hp}{a b:Addr}{o:HO}(h:H a=some o)(h':H b=none):a≠b:=by intro e;subst e;rw [h] at h';cases h'
section
variable(P:Program)(w:World)
def bD(H:Hp)(h:Heap)(a:Addr):HO->Prop
 | .lst xs=>xs.length<=sizeLine/\∃(its:List Value) (n:Nat),ao xs its/\h.get? a=some {cls:= .type "list",data:= .seq its.toArray n}
 | .tup xs=>xs.length<=sizeLine/\∃its:List Value,ao xs its/\IsTup h a its.toArray
 | .dK Λ=>Λ.length<=sizeLine/\(a==sysModules)=false/\∃vs,KV Λ vs/\h.DictOf (bb P w) a vs
 | .dT Λ=>Λ.length<=sizeLine/\(a==sysModules)=false/\∃xs:List (List Key×Addr×Value),
   Paired (λ(p:List Key×V) (q:List Key×Addr×Value)=>p.1=q.1/\H q.2.1=some (.tup (p.1.map kV))/\au p.2 q.2.2) Λ xs/\
   ∃o es ep,h.get? a=some o/\o.ExactDict/\o.data= .dict es ep/\es.toList=xs.map (entryOfKey (tupleKind (bb P w)))/\(xs.map (·.1)).Nodup
 | .set S n=>h.SetOf (intKind P w) a S n
 | .ins C dx fs=>H dx=some (.own a)/\fs.length<=1000/\dx≠a/\h.get? a=some (PySem.W.instObj C dx)/\
   ∃mA,h.Ns1 dx mA/\(∀f,jx (fs.lookup f) (mA f))/\PySem.Within mA (fs.map (·.1))
 | .own _=>∃o,h.get? a=some o
 | .xd fs=>∃mA,h.Ns1 a mA/\∀f,jx (fs.lookup f) (mA f)
 | .TJ lo hi=>∃t u v,h.get? a=some {cls:= .type "range",data:= .fields #[.int lo t, .int hi u, .int 1 v]}
 | .wM o u=>h.get? a=some o/\bD H h a u
 | .Kx ps=>h.get? a=some {cls:= .none,data:= .fields ps}
 | .met f x=>h.get? a=some (PySem.W.methodObj (.ref f) (.ref x))
 | .ext φ=>φ h/\(∃o,h.get? a=some o)/\∀h1 h2:Heap,φ h1->(∀o,h1.get? a=some o->h2.get? a=some o)->φ h2
def ky(H:Hp)(h:Heap):Prop:=∀a o,H a=some o->bD P w H h a o
end
section
variable{P:Program}{w:World}{H H':Hp}{h h':Heap}{a:Addr}{o:HO}
theorem bD.lt(x:bD P w H h a o):a < h.objs.size:=by
 cases o with
 | lst xs=>obtain ⟨_,_,_,_,e⟩:=x;exact Heap.lt_size e
 | tup xs=>obtain ⟨_,_,_,p⟩:=x;exact p.lt
 | dK Λ=>obtain ⟨_,_,_,_,o,_,_,e,_⟩:=x;exact Heap.lt_size e
 | dT Λ=>obtain ⟨_,_,_,_,o,_,_,e,_⟩:=x;exact Heap.lt_size e
 | set S n=>obtain ⟨o,_,_,_,e,_⟩:=x;exact Heap.lt_size e
 | ins C dx fs=>obtain ⟨_,_,_,e,_⟩:=x;exact Heap.lt_size e
 | own y=>obtain ⟨_,e⟩:=x;exact Heap.lt_size e
 | xd fs=>obtain ⟨_,⟨_,_,_,e,_⟩,_⟩:=x;exact Heap.lt_size e
 | TJ lo hi=>obtain ⟨_,_,_,e⟩:=x;exact Heap.lt_size e
 | wM ob u=>obtain ⟨e,_⟩:=x;exact Heap.lt_size e
 | Kx ps=>exact Heap.lt_size (show h.get? a=some _ from x)
 | met f y=>exact Heap.lt_size (show h.get? a=some _ from x)
 | ext φ=>obtain ⟨_,⟨_,e⟩,_⟩:=x;exact Heap.lt_size e
theorem Paired.Mr{α β:Type}{F G:α->β->Prop}:∀{l₁:List α} {l₂:List β},Paired F l₁ l₂->(∀a b,F a b->G a b)->Paired G l₁ l₂
 | _,_, .nil,_=> .nil
 | _,_, .cons r t,f=> .cons (f _ _ r) (Paired.Mr t f)
theorem bD.Ap(x:bD P w H h a o)(k:∀b u,(b=a\/H b=some (.own a))->h.get? b=some u->h'.get? b=some u)
  (ho:∀b,H b=some (.own a)->H' b=some (.own a)) (ht:∀b xs,H b=some (.tup xs)->H' b=some (.tup xs)):bD P w H' h' a o:=by
 induction o with
 | lst xs=>obtain ⟨z,its,n,r,e⟩:=x;exact ⟨z,its,n,r,k _ _ (.inl rfl) e⟩
 | tup xs=>obtain ⟨z,its,r,ob,e,c⟩:=x;exact ⟨z,its,r,ob,k _ _ (.inl rfl) e,c⟩
 | dK Λ=>obtain ⟨z,y,vs,r,ob,es,ep,e,c⟩:=x;exact ⟨z,y,vs,r,ob,es,ep,k _ _ (.inl rfl) e,c⟩
 | dT Λ=>
  obtain ⟨z,y,xs,r,ob,es,ep,e,c⟩:=x;exact ⟨z,y,xs,Paired.Mr r λp q z=>⟨z.1,ht _ _ z.2.1,z.2.2⟩,ob,es,ep,k _ _ (.inl rfl) e,c⟩
 | set S n=>obtain ⟨ob,es,ep,t,e,c⟩:=x;exact ⟨ob,es,ep,t,k _ _ (.inl rfl) e,c⟩
 | ins C dx fs=>
  obtain ⟨d,z,ne,e,mA,⟨od,es,ep,e2,c⟩,r⟩:=x;exact ⟨ho _ d,z,ne,k _ _ (.inl rfl) e,mA,⟨od,es,ep,k _ _ (.inr d) e2,c⟩,r⟩
 | own y=>obtain ⟨ob,e⟩:=x;exact ⟨ob,k _ _ (.inl rfl) e⟩
 | xd fs=>obtain ⟨mA,⟨od,es,ep,e,c⟩,r⟩:=x;exact ⟨mA,⟨od,es,ep,k _ _ (.inl rfl) e,c⟩,r⟩
 | TJ lo hi=>obtain ⟨t,u,v,e⟩:=x;exact ⟨t,u,v,k _ _ (.inl rfl) e⟩
 | wM ob u ih=>obtain ⟨e,q⟩:=x;exact ⟨k _ _ (.inl rfl) e,ih q⟩
 | Kx ps=>
  have e:h.get? a=some {cls:= .none,data:= .fields ps}:=x;show h'.get? a=some {cls:= .none,data:= .fields ps};exact k a _ (.inl rfl) e
 | met f y=>
  have e:h.get? a=some (PySem.W.methodObj (.ref f) (.ref y)):=x;show h'.get? a=some (PySem.W.methodObj (.ref f) (.ref y));exact k a _ (.inl rfl) e
 | ext φ=>obtain ⟨p,⟨o,e⟩,st⟩:=x;exact ⟨st _ _ p λo q=>k _ _ (.inl rfl) q,⟨o,k _ _ (.inl rfl) e⟩,st⟩
theorem ky.lt(x:ky P w H h)(e:H a=some o):a < h.objs.size:=(x a o e).lt
theorem ky.fresh(x:ky P w H h)(e:h.objs.size<=a):H a=none:=by
 cases q:H a with
 | none=>rfl
 | some u=>exact absurd (aap (x.lt q) e) (aaY _)
theorem ky.kept(x:ky P w H h)(k:∀b u,h.get? b=some u->h'.get? b=some u):ky P w H h':=λa o e=>
 (x a o e).Ap (λb u _ q=>k b u q) (λ_ q=>q) λ_ _ q=>q
theorem ky.laid(x:ky P w H h)(k:∀b u,h.get? b=some u->h'.get? b=some u)(hp:h.objs.size<=a)(new:bD P w (upd H a o) h' a o):ky P w (upd H a o) h':=λb u e=>by
 have hn:=x.fresh hp;by_cases hb:b=a
 ·subst hb;rw [Κ] at e;cases e;exact new
 ·rw [ψ hb] at e;exact (x b u e).Ap (λc v _ q=>k c v q) (λc q=>by rw [ψ (bx q hn)];exact q) λc xs q=>by rw [ψ (bx q hn)];exact q
end
def Rd(H:Hp)(a:Addr)(u:HO):Prop:=H a=some u\/∃o,H a=some (.wM o u)
theorem Rd.ok{P:Program}{w:World}{H:Hp}{h:Heap}{a:Addr}{u:HO}(r:Rd H a u)(x:ky P w H h):bD P w H h a u:=by
 rcases r with r | ⟨o,r⟩
 ·exact x a u r
 ·obtain ⟨_,q⟩:=x a _ r;exact q
def O2:Option HO->Prop
 | some (.lst _)=>True
 | some (.dK _)=>True
 | some (.dT _)=>True
 | some (.set _ _)=>True
 | some (.ins _ _ _)=>True
 | some (.ext _)=>True
 | _=>False
section
variable{P:Program}{w:World}{H:Hp}{h h':Heap}{x e:Addr}{o':HO}
theorem ky.write(ok:ky P w H h)(mu:O2 (H x))(he:e=x\/H e=some (.own x))(k:∀b u,b≠e->h.get? b=some u->h'.get? b=some u)(O1:∃u,h'.get? e=some u)
  (new:bD P w (upd H x o') h' x o'):ky P w (upd H x o') h':=λb u q=>by
 have RG:∀c y,H c=some (.own y)->c≠x:=λc y r z=>by subst z;rw [r] at mu;exact mu
 have Vd:∀c xs,H c=some (.tup xs)->c≠x:=λc xs r z=>by subst z;rw [r] at mu;exact mu
 by_cases hb:b=x
 ·subst hb;rw [Κ] at q;cases q;exact new
 ·rw [ψ hb] at q;by_cases MG:b=e
  ·have q':H b=some (.own x):=by
    rcases he with z | z
    ·exact absurd (MG.trans z) hb
    ·rw [MG];exact z
   rw [q] at q';cases q';obtain ⟨v,hv⟩:=O1;exact ⟨v,by rw [MG];exact hv⟩
  ·refine (ok b u q).Ap (λc v hc r=>k c v ?_ r) (λc r=>by rw [ψ (RG c b r)];exact r) λc xs r=>by rw [ψ (Vd c xs r)];exact r
   rcases hc with rfl | hc
   ·exact MG
   ·rintro rfl;rcases he with z | z
    ·exact RG c b hc z
    ·rw [hc] at z;cases z;exact hb rfl
end
structure Un(fs ex:List Addr)(H H':Hp)(h h':Heap):Prop where
 keep:∀b o,h.get? b=some o->H b=none->b∉fs->b∉ex->h'.get? b=some o
 slot:∀b o,h.get? b=some o->H b=none->b∈fs->b∉ex->∃sl,h'.get? b=some {o with slots:=sl}
 free:∀b o,h.get? b=some o->H b=none->b∉ex->H' b=none
 there:∀b o,h.get? b=some o->b∉ex->∃o',h'.get? b=some o'
 oW:∀b xs,H b=some (.tup xs)->H' b=some (.tup xs)
 nW:∀b o u,H b=some (.wM o u)->H' b=some (.wM o u)
 oR:∀b ps,H b=some (.Kx ps)->∃more,H' b=some (.Kx (ps++more))
section
variable{fs Vj ex ex':List Addr}{H H1 H2:Hp}{h h1 h2 h':Heap}{a x e:Addr}{o:HO}
theorem Un.any(u:Un fs ex H H1 h h1){b:Addr}{ob:Obj}(q:h.get? b=some ob)(n:H b=none)(hx:b∉ex):∃sl,h1.get? b=some {ob with slots:=sl}:=by
 by_cases hb:b∈fs
 ·exact u.slot b ob q n hb hx
 ·exact ⟨ob.slots,u.keep b ob q n hb hx⟩
theorem Un.kept(k:∀b u,h.get? b=some u->h'.get? b=some u):Un fs ex H H h h':=
 ⟨λb ob q _ _ _=>k b ob q,λb ob q _ _ _=>⟨ob.slots,k b ob q⟩,λ_ _ _ n _=>n,λb ob q _=>⟨ob,k b ob q⟩,λ_ _ q=>q,λ_ _ _ q=>q,λ_ ps q=>⟨#[],by rw [q];simp⟩⟩
theorem Un.refl:Un fs ex H H h h:=Un.kept λ_ _ q=>q
theorem Un.laid(k:∀b u,h.get? b=some u->h'.get? b=some u)(hp:h.objs.size<=a)(hn:H a=none):Un fs ex H (upd H a o) h h' where
 keep:=λb u q _ _ _=>k b u q
 slot:=λb u q _ _ _=>⟨u.slots,k b u q⟩
 free:=λb u q n _=>by rw [ψ (aaz (aap (Heap.lt_size q) hp))];exact n
 there:=λb u q _=>⟨u,k b u q⟩
 oW:=λb xs q=>by rw [ψ (bx q hn)];exact q
 nW:=λb u xs q=>by rw [ψ (bx q hn)];exact q
 oR:=λb ps q=>⟨#[],by rw [ψ (bx q hn),q];simp⟩
theorem Un.write(mu:O2 (H x))(he:e=x\/H e=some (.own x))(k:∀b u,b≠e->h.get? b=some u->h'.get? b=some u)(O1:∃u,h'.get? e=some u):Un fs ex H (upd H x o) h h':=by
 have hx:∀b,H b=none->b≠x:=λb n z=>by subst z;rw [n] at mu;exact mu
 have hb:∀b,H b=none->b≠e:=λb n z=>by
  subst z;rcases he with r | r
  ·exact hx b n r
  ·rw [n] at r;cases r
 have hm:∀b u,H b=some u->¬O2 (some u)->b≠x:=λb u q nm z=>by subst z;rw [q] at mu;exact nm mu
 refine ⟨λb u q n _ _=>k b u (hb b n) q,λb u q n _ _=>⟨u.slots,k b u (hb b n) q⟩,λb u q n _=>by rw [ψ (hx b n)];exact n,λb u q _=> ?_,
  λb xs q=>by rw [ψ (hm b _ q λz=>z)];exact q,λb u xs q=>by rw [ψ (hm b _ q λz=>z)];exact q,λb ps q=>⟨#[],by rw [ψ (hm b _ q λz=>z),q];simp⟩⟩
 by_cases MG:b=e
 ·subst MG;exact O1
 ·exact ⟨u,k b u MG q⟩
end
def SW(h:Heap)(H:Hp):List Addr:=(List.range h.objs.size).filter λa=>(H a).isSome
def vN(h:Heap)(H:Hp):Heap:=PySem.W.hideAll h (SW h H)
theorem DC(h:Heap)(H:Hp):(vN h H).objs.size=h.objs.size:=PySem.W.hideAll_size _ _
theorem IG{h:Heap}{H:Hp}{b:Addr}{o:Obj}(e:h.get? b=some o)(n:H b=none):(vN h H).get? b=some o:=
 PySem.W.hideAll_get _ e λhm=>by have q:(H b).isSome=true:=(List.mem_filter.mp hm).2;rw [n] at q;simp at q
theorem J2{h:Heap}{H:Hp}{b:Addr}{o:Obj}(e:(vN h H).get? b=some o):h.get? b=some o/\H b=none:=by
 have e':h.get? b=some o:=PySem.W.of_hideAll (SW h H) e;refine ⟨e', ?_⟩;cases q:H b with
 | none=>rfl
 | some x=>
  have hm:b∈SW h H:=List.mem_filter.mpr ⟨List.mem_range.mpr (Heap.lt_size e'),by simp [q]⟩;have z:(vN h H).get? b=none:=PySem.W.hideAll_none (SW h H) hm;rw [z] at e;cases e
structure Mod(K:PySem.W.Frag)(mg:Str->Option Value)(base:Heap):Prop where
 QZ:K.In base
 glob:base.Ns mainGlobals mg
 blt:∃mb,base.Ns builtinsNs mb/\∀x:Str,x≠"__name__"->mb x=bootBuiltins x
 nolimit:base.NoLimit
structure Cx where
 prog:Program
 w:World
 K:PySem.W.Frag
 mg:Str->Option Value
 base:Heap
 A:Around
 N:List Str
 s₀:Shared
 H₀:Hp
 env:Env
 outer:List Env
 stack:List Env
 ex:List Addr
 fn:Str->Bool
 calm:Bool
 pn:List (Addr×Obj)
 xe:Value->Shared->Prop
def oV(l:List Env):List Addr:=l.filterMap (·.frame)
abbrev Cx.fs(X:Cx):List Addr:=oV X.outer
def UT(sc:Scope)(x:Str):Prop:=sc.names.lookup x=some .local\/sc.names.lookup x=some .cell\/sc.names.lookup x=some .free
def Loc(sc:Scope)(x:Str):Prop:=sc.names.lookup x=some .local\/sc.names.lookup x=some .cell
def W5(env:Env)(h:Heap)(m:Str->Option Value)(x:Str)(u:Value):Prop:=
 (env.kindOf x=some .local/\m x=some u)\/((env.kindOf x=some .cell\/env.kindOf x=some .free)/\∃c,env.cells.lookup x=some c/\h.IsCell c (some u))
structure Cx.Ok(X:Cx):Prop where
 mod:Mod X.K X.mg X.base
 kind:X.env.scope.kind= .function
 glob:X.env.globals=mainGlobals
 blt:X.env.builtins=builtinsNs
 above:X.s₀.heap.objs.size<=X.env.locals
 inj:∀x y c,X.env.cells.lookup x=some c->X.env.cells.lookup y=some c->x=y
 has:∀x,(X.env.kindOf x=some .cell\/X.env.kindOf x=some .free)->∃c,X.env.cells.lookup x=some c
 T_:∀x c,X.fn x=true->X.env.cells.lookup x=some c->X.s₀.heap.objs.size<=c
 hd:X.calm=true->X.A.handled=none
 frames:X.A.frames=some X.stack
 X7:X.stack=X.outer\/(X.stack=X.env::X.outer/\X.env.frame=some X.env.locals)
 Pd:∀b∈X.ex,b≠X.env.locals/\∀x c,X.env.cells.lookup x=some c->c≠b
 bs:∀b o,X.base.get? b=some o->X.s₀.heap.get? b=some o/\X.H₀ b=none
 sW:X.base.objs.size<=X.s₀.heap.objs.size
 Fo:∀b o,X.base.get? b=some o->b∉X.ex
 G9:∀b∈X.ex,b∉X.fs
 rT:X.s₀.heap.FunFrames X.base X.outer
 Sn:∀b∈X.fs,X.H₀ b=none
structure Inv(X:Cx)(ε:List (Addr×Obj))(σ:List (Option V))(H:Hp)(s:Shared):Prop where
 ok:X.Ok
 os:s.os=X.s₀.os
 bare:AllBare s.gens
 base:Un X.fs X.ex X.H₀ H X.s₀.heap s.heap
 loc:∃m,s.heap.Ns X.env.locals m/\∀(i:Nat) (x:Str) (v:V),X.N[i]? =some x->σ[i]? =some (some v)->UT X.env.scope x->∃u,au v u/\W5 X.env s.heap m x u
 cell:∀x c,X.env.cells.lookup x=some c->∃v,s.heap.IsCell c v
 free:H X.env.locals=none
 kJ:∀x c,X.env.cells.lookup x=some c->H c=none
 pin:∀p∈X.pn++ε,s.heap.get? p.1=some p.2/\H p.1=none/\p.1≠X.env.locals/\p.1∉X.fs/\∀v,p.2.data≠ .cell v
 aG:ky X.prog X.w H s.heap
 len:σ.length=X.N.length
section
variable{X:Cx}{ε:List (Addr×Obj)}{σ:List (Option V)}{H H':Hp}{s:Shared}{h':Heap}
theorem Cx.Ok.Uu(ok:X.Ok){b:Addr}{o:Obj}(e:X.base.get? b=some o):b∉X.fs:=λhb=>by have:=(ok.rT.mem hb).1;rw [e] at this;cases this
theorem Inv.bs(I:Inv X ε σ H s):∀b o,X.base.get? b=some o->s.heap.get? b=some o/\H b=none:=λb o e=>
 ⟨I.base.keep b o (I.ok.bs b o e).1 (I.ok.bs b o e).2 (I.ok.Uu e) (I.ok.Fo b o e),I.base.free b o (I.ok.bs b o e).1 (I.ok.bs b o e).2 (I.ok.Fo b o e)⟩
theorem Inv.bk(I:Inv X ε σ H s):∀b o,X.base.get? b=some o->s.heap.get? b=some o:=λb o e=>(I.bs b o e).1
theorem Inv.mod(I:Inv X ε σ H s):Mod X.K X.mg X.base:=I.ok.mod
theorem Inv.oy(I:Inv X ε σ H s):X.K.In s.heap:=I.ok.mod.QZ.keeps I.bk
theorem Inv.lt(I:Inv X ε σ H s):X.env.locals < s.heap.objs.size:=let ⟨_,hn,_⟩:=I.loc;hn.lt
theorem Inv.sz(I:Inv X ε σ H s):X.s₀.heap.objs.size<=s.heap.objs.size:=aaw I.ok.above (Nat.le_of_lt I.lt)
theorem Inv.Vx(I:Inv X ε σ H s){a:Addr}(h:s.heap.objs.size<=a):a∉X.fs:=λhb=>by obtain ⟨_,o,ho,_⟩:=I.ok.rT.mem hb;exact absurd (aap (Heap.lt_size ho) (aaw I.sz h)) (aaY _)
theorem Inv.D5(I:Inv X ε σ H s):∀x c,X.env.cells.lookup x=some c->c≠X.env.locals:=λx c e z=>by obtain ⟨v,o,ho,hd⟩:=I.cell x c e;obtain ⟨m,⟨o',es,ep,C1,K5,_⟩,_⟩:=I.loc;rw [z,C1] at ho;cases ho;rw [K5] at hd;cases hd
theorem Inv.rT(I:Inv X ε σ H s):s.heap.FunFrames X.base X.outer:=by
 have all:∀(l:List Env),(∀b∈oV l,b∈X.fs)->X.s₀.heap.FunFrames X.base l->s.heap.FunFrames X.base l:=by
  intro l
  induction l with
  | nil=>intro _ _;trivial
  | cons env r ih=>
   intro hs hl;obtain ⟨hk,⟨L,o,hf,hn,ho,hd⟩,hr⟩:=hl;have hL:L∈X.fs:=hs L (by unfold oV;rw [List.filterMap_cons,hf];exact List.mem_cons_self);obtain ⟨sl,e⟩:=I.base.slot L o ho (I.ok.Sn L hL) hL λz=>I.ok.G9 L z hL;exact ⟨hk,⟨L,_,hf,hn,e,hd⟩,ih (λb hb=>hs b (by unfold oV;rw [List.filterMap_cons,hf];exact List.mem_cons_of_mem _ hb)) hr⟩
 exact all X.outer (λ_ hb=>hb) I.ok.rT
theorem Inv.stack(I:Inv X ε σ H s):s.heap.FunFrames X.base X.stack:=by
 rcases I.ok.X7 with e | ⟨e,hf⟩
 ·rw [e];exact I.rT
 ·rw [e];obtain ⟨m,hn,_⟩:=I.loc;refine .cons (by rw [I.ok.kind];decide) hf hn ?_ I.rT;exact Heap.get?_none_of_le (aaw I.ok.sW I.ok.above)
theorem Inv.m_(I:Inv X ε σ H s):∀b∈oV X.stack,b∈X.env.locals::X.fs:=λb hb=>by
 rcases I.ok.X7 with e | ⟨e,hf⟩
 ·rw [e] at hb;exact aad _ hb
 ·rw [e] at hb;unfold oV at hb;rw [abX,hf] at hb;exact hb
theorem Inv.l7(I:Inv X ε σ H s):∀b∈oV X.stack,H b=none:=λb hb=>by
 rcases aay.mp (I.m_ b hb) with e | hb
 ·rw [e];exact I.free
 ·obtain ⟨_,o,ho,_⟩:=I.ok.rT.mem hb;exact I.base.free b o ho (I.ok.Sn b hb) λz=>I.ok.G9 b z hb
theorem Inv.step{g':Array GenState}{t':Nat}{d':Drawn}{ch:List Addr}(I:Inv X ε σ H s)
  (za:∀b∈ch,(b∈X.ex\/X.s₀.heap.objs.size<=b)/\b≠X.env.locals/\(∀x c,X.env.cells.lookup x=some c->c≠b)/\∀p∈X.pn++ε,p.1≠b)
  (keep:∀b o,b≠X.env.locals->b∉X.fs->b∉ch->s.heap.get? b=some o->H b=none->h'.get? b=some o)
  (slot:∀b o,b≠X.env.locals->b∈X.fs->b∉ch->s.heap.get? b=some o->H b=none->∃sl,h'.get? b=some {o with slots:=sl}) (free:∀b o,b∉ch->s.heap.get? b=some o->H b=none->H' b=none)
  (there:∀b o,b∉ch->s.heap.get? b=some o->∃o',h'.get? b=some o')
  (oW:∀b xs,H b=some (.tup xs)->H' b=some (.tup xs)) (nW:∀b o u,H b=some (.wM o u)->H' b=some (.wM o u)) (oR:∀b ps,H b=some (.Kx ps)->∃more,H' b=some (.Kx (ps++more)))
  (ns:∀m,s.heap.Ns X.env.locals m->h'.Ns X.env.locals m) (aG:ky X.prog X.w H' h') (hg:AllBare g'):
  Inv X ε σ H' {s with heap:=h',gens:=g',drawn:=d',toks:=t'}:=by
 have Xr:∀b o,X.s₀.heap.get? b=some o->b≠X.env.locals:=λb o e=>aaz (aap (Heap.lt_size e) I.ok.above);have S8:∀b o,X.s₀.heap.get? b=some o->b∉X.ex->b∉ch:=λb o e hx hb=>by
  rcases (za b hb).1 with z | z
  ·exact hx z
  ·exact absurd (aap (Heap.lt_size e) z) (aaY _)
 have cellK:∀x c,X.env.cells.lookup x=some c->∀v,s.heap.IsCell c v->h'.IsCell c v:=λx c e v ⟨o,ho,hd⟩=>by
  have QY:c∉ch:=λz=>(za c z).2.2.1 x c e rfl;by_cases hc:c∈X.fs
  ·obtain ⟨sl,q⟩:=slot c o (I.D5 x c e) hc QY ho (I.kJ x c e);exact ⟨_,q,hd⟩
  ·exact ⟨o,keep c o (I.D5 x c e) hc QY ho (I.kJ x c e),hd⟩
 refine ⟨I.ok,I.os,hg,⟨λb o e n hb hx=> ?_,λb o e n hb hx=> ?_,λb o e n hx=> ?_,λb o e hx=> ?_,λb xs e=>oW b xs (I.base.oW b xs e),λb o xs e=>nW b o xs (I.base.nW b o xs e),λb ps e=> ?_⟩, ?_,λx c e=> ?_, ?_,λx c e=> ?_,λp hp=> ?_,aG,I.len⟩
 ·exact keep b o (Xr b o e) hb (S8 b o e hx) (I.base.keep b o e n hb hx) (I.base.free b o e n hx)
 ·obtain ⟨sl,e1⟩:=I.base.slot b o e n hb hx;obtain ⟨sl',e2⟩:=slot b _ (Xr b o e) hb (S8 b o e hx) e1 (I.base.free b o e n hx);exact ⟨sl',e2⟩
 ·obtain ⟨o',e1⟩:=I.base.there b o e hx;exact free b o' (S8 b o e hx) e1 (I.base.free b o e n hx)
 ·obtain ⟨o',e1⟩:=I.base.there b o e hx;exact there b o' (S8 b o e hx) e1
 ·obtain ⟨m1,e1⟩:=I.base.oR b ps e;obtain ⟨m2,e2⟩:=oR b _ e1;exact ⟨m1++m2,by rw [e2,Array.append_assoc]⟩
 ·obtain ⟨m,hn,hl⟩:=I.loc;refine ⟨m,ns m hn,λi x v e1 e2 e3=> ?_⟩;obtain ⟨u,r,l⟩:=hl i x v e1 e2 e3;refine ⟨u,r, ?_⟩;rcases l with l | ⟨k,c,e,z⟩
  ·exact .inl l
  ·exact .inr ⟨k,c,e,cellK x c e _ z⟩
 ·obtain ⟨v,z⟩:=I.cell x c e;exact ⟨v,cellK x c e v z⟩
 ·obtain ⟨m,⟨o,_,_,ho,_⟩,_⟩:=I.loc;exact free _ o (λz=>(za _ z).2.1 rfl) ho I.free
 ·obtain ⟨v,o,ho,hd⟩:=I.cell x c e;exact free c o (λz=>(za c z).2.2.1 x c e rfl) ho (I.kJ x c e)
 ·obtain ⟨e,n,ne,nf,d⟩:=I.pin p hp;have QY:p.1∉ch:=λz=>(za p.1 z).2.2.2 p hp rfl;exact ⟨keep p.1 p.2 ne nf QY e n,free p.1 p.2 QY e n,ne,nf,d⟩
theorem Inv.un{t':Nat}(I:Inv X ε σ H s)(u:Un X.fs [] H H' s.heap h')(aG:ky X.prog X.w H' h'):Inv X ε σ H' {s with heap:=h',toks:=t'}:=by
 obtain ⟨m,⟨o,es,ep,ho,r⟩,_⟩:=id I.loc;obtain ⟨sl,hL⟩:=u.any ho I.free (by simp)
 exact I.step (g':=s.gens) (d':=s.drawn) (ch:=[]) (λ_ z=>nomatch z) (λb o _ hb _ e n=>u.keep b o e n hb (by simp)) (λb o _ hb _ e n=>u.slot b o e n hb (by simp)) (λb o _ e n=>u.free b o e n (by simp)) (λb o _ e=>u.there b o e (by simp)) u.oW u.nW u.oR (λm' hm=>by
  obtain ⟨o',UZ,VG,C1,r'⟩:=hm;rw [ho] at C1;cases C1
  exact ⟨_,UZ,VG,hL,r'⟩) aG I.bare
theorem Inv.call{g':Array GenState}{t':Nat}{d':Drawn}{ch:List Addr}(I:Inv X ε σ H s)(u:Un (oV X.stack) ch H H' s.heap h')(aG:ky X.prog X.w H' h')(hg:AllBare g')
  (za:∀b∈ch,(b∈X.ex\/X.s₀.heap.objs.size<=b)/\b≠X.env.locals/\(∀x c,X.env.cells.lookup x=some c->c≠b)/\∀p∈X.pn++ε,p.1≠b):
  Inv X ε σ H' {s with heap:=h',gens:=g',drawn:=d',toks:=t'}:=by
 obtain ⟨m,⟨o,es,ep,ho,r⟩,_⟩:=id I.loc;obtain ⟨sl,hL⟩:=u.any ho I.free λz=>(za _ z).2.1 rfl
 exact I.step (ch:=ch) za (λb o hL hb hc e n=>u.keep b o e n (λz=>(aay.mp (I.m_ b z)).elim hL hb) hc) (λb o _ _ hc e n=>u.any e n hc) (λb o hc e n=>u.free b o e n hc) (λb o hc e=>u.there b o e hc) u.oW u.nW u.oR (λm' hm=>by
  obtain ⟨o',UZ,VG,C1,r'⟩:=hm;rw [ho] at C1;cases C1
  exact ⟨_,UZ,VG,hL,r'⟩) aG hg
theorem Inv.turned{t':Nat}{it:Addr}(I:Inv X ε σ H s)(k:∀b o,b≠it->s.heap.get? b=some o->h'.get? b=some o)(hn:H it=none)(hL:it≠X.env.locals)
  (h1:it∈X.ex\/X.s₀.heap.objs.size<=it) (h2:∀x c,X.env.cells.lookup x=some c->c≠it) (h3:∀p∈X.pn++ε,p.1≠it):Inv X ε σ H {s with heap:=h',toks:=t'}:=by
 have XA:∀b u,H b=some u->b≠it:=λb u e z=>by rw [z,hn] at e;cases e
 refine I.step (g':=s.gens) (d':=s.drawn) (ch:=[it]) (λb hb=> ?_) (λb o _ _ hc e _=>k b o (λz=>hc (by simp [z])) e) (λb o _ _ hc e _=>⟨o.slots,k b o (λz=>hc (by simp [z])) e⟩) (λ_ _ _ _ n=>n)
  (λb o hc e=>⟨o,k b o (λz=>hc (by simp [z])) e⟩) (λ_ _ e=>e) (λ_ _ _ e=>e) (λb ps e=>⟨#[],by rw [e];simp⟩) (λm hm=> ?_) (λb u e=> ?_) I.bare
 ·have e:b=it:=by simpa using hb
  subst e;exact ⟨h1,hL,h2,h3⟩
 ·obtain ⟨o,es,ep,ho,r⟩:=hm;exact ⟨o,es,ep,k _ o (Ne.symm hL) ho,r⟩
 ·refine (I.aG b u e).Ap (λc v hc q=>k c v ?_ q) (λ_ q=>q) λ_ _ q=>q;rcases hc with z | z
  ·rw [z];exact XA b u e
  ·exact XA c _ z
theorem Inv.tok(I:Inv X ε σ H s)(t:Nat):Inv X ε σ H {s with toks:=t}:=I.un (h':=s.heap) (t':=t) Un.refl I.aG
theorem Inv.kept{t':Nat}(I:Inv X ε σ H s)(k:∀b u,s.heap.get? b=some u->h'.get? b=some u):Inv X ε σ H {s with heap:=h',toks:=t'}:=I.un (Un.kept k) (I.aG.kept k)
theorem Inv.laid{a:Addr}{o:HO}{t':Nat}(I:Inv X ε σ H s)(k:∀b u,s.heap.get? b=some u->h'.get? b=some u)(hp:s.heap.objs.size<=a)(new:bD X.prog X.w (upd H a o) h' a o):
  Inv X ε σ (upd H a o) {s with heap:=h',toks:=t'}:=I.un (Un.laid k hp (I.aG.fresh hp)) (I.aG.laid k hp new)
theorem Inv.write{x e:Addr}{o:HO}{t':Nat}(I:Inv X ε σ H s)(mu:O2 (H x))(he:e=x\/H e=some (.own x))(k:∀b u,b≠e->s.heap.get? b=some u->h'.get? b=some u)(O1:∃u,h'.get? e=some u)
  (new:bD X.prog X.w (upd H x o) h' x o):Inv X ε σ (upd H x o) {s with heap:=h',toks:=t'}:=I.un (Un.write mu he k O1) (I.aG.write mu he k O1 new)
theorem Inv.By{Ma:List (Addr×Obj)}(I:Inv X ε σ H s)(h:∀p∈Ma,s.heap.get? p.1=some p.2/\H p.1=none/\p.1≠X.env.locals/\p.1∉X.fs/\∀v,p.2.data≠ .cell v):Inv X Ma σ H s:=
 ⟨I.ok,I.os,I.bare,I.base,I.loc,I.cell,I.free,I.kJ,λp hp=>(aaN.mp hp).elim (λz=>I.pin p (List.mem_append_left _ z)) (h p),I.aG,I.len⟩
theorem xf{N:List Str}(hN:N.Nodup){i j:Nat}{x:Str}(a:N[i]? =some x)(b:N[j]? =some x):i=j:=by obtain ⟨h1,e1⟩:=aag.mp a;obtain ⟨h2,e2⟩:=aag.mp b;exact (List.getElem_inj hN).mp (e1.trans e2.symm)
theorem sN{M:Model}{A:Around}{E:Value->Shared->Prop}{i:Nat}{x:Str}{v:V}{u:Value}{Q:Unit->Shared->Prop}(I:Inv X ε σ H s)(hN:X.N.Nodup)(hi:X.N[i]? =some x)(hx:Loc X.env.scope x)(r:au v u)
  (h:∀s',Inv X ε (σ.set i (some v)) H s'->(∃a,Heap.SameBut a s.heap s'.heap/\(a=X.env.locals\/X.env.cells.lookup x=some a))->Q () s') (hf:X.fn x=true\/X.env.scope.names.lookup x=some .local:=by first | exact .inl rfl | exact .inr rfl | assumption):wpAny M A (storeName X.env x u) Q E s:=by
 obtain ⟨m,hn,hl⟩:=id I.loc;have WQ:(X.env.scope.kind== .class || (X.env.scope.kind== .module&&X.env.locals != X.env.globals))=false:=by rw [I.ok.kind];rfl
 have QK:i < σ.length:=by rw [I.len];exact (aag.mp hi).1
 have D5:=I.D5;have tracked:∀{a:Addr} {h':Heap},(∃o,s.heap.get? a=some o/\H a=none)->Heap.SameBut a s.heap h'->ky X.prog X.w H h':=λ{a h'} ha hs b ob e=>by
  obtain ⟨_,_,LK⟩:=ha;refine (I.aG b ob e).Ap (λc w' hc q=>(hs.2 c ?_).trans q) (λ_ q=>q) λ_ _ q=>q;rintro rfl;rcases hc with rfl | hc
  ·rw [LK] at e;cases e
  ·rw [LK] at hc;cases hc
 rcases hx with hk | hk
 ·refine wpAny_storeName_local hk hn (λh' Ss hs=> ?_) WQ;obtain ⟨oL,_,_,hoL,_⟩:=id hn;refine h _ ⟨I.ok,I.os,I.bare,⟨λb o e n hb hx=> ?_,λb o e n hb hx=> ?_,I.base.free,λb o e hx=> ?_,I.base.oW,I.base.nW,I.base.oR⟩,⟨_,Ss,λj y v' e1 e2 e3=> ?_⟩,λy c e=> ?_,I.free,I.kJ,λp hp=> ?_,tracked ⟨oL,hoL,I.free⟩ hs,by simpa using I.len⟩ ⟨_,hs, .inl rfl⟩
  ·exact (hs.2 b (aaz (aap (Heap.lt_size e) I.ok.above))).trans (I.base.keep b o e n hb hx)
  ·obtain ⟨sl,e1⟩:=I.base.slot b o e n hb hx;exact ⟨sl,(hs.2 b (aaz (aap (Heap.lt_size e) I.ok.above))).trans e1⟩
  ·obtain ⟨o',e1⟩:=I.base.there b o e hx;exact ⟨o',(hs.2 b (aaz (aap (Heap.lt_size e) I.ok.above))).trans e1⟩
  ·by_cases hj:j=i
   ·subst hj;rw [hi] at e1;cases e1;rw [aa5 QK] at e2;cases e2;exact ⟨u,r, .inl ⟨hk,by simp⟩⟩
   ·rw [abv (Ne.symm hj)] at e2;obtain ⟨u',r',q⟩:=hl j y v' e1 e2 e3;refine ⟨u',r', ?_⟩;rcases q with ⟨k,e⟩ | ⟨k,c,e,z⟩
    ·refine .inl ⟨k, ?_⟩;have:y≠x:=λe=>hj (xf hN e1 (e▸hi));simp [this,e]
    ·exact .inr ⟨k,c,e,z.sameBut hs (D5 y c e)⟩
  ·obtain ⟨w',z⟩:=I.cell y c e;exact ⟨w',z.sameBut hs (D5 y c e)⟩
  ·obtain ⟨e,n,ne,nf,d⟩:=I.pin p hp;exact ⟨(hs.2 p.1 ne).trans e,n,ne,nf,d⟩
 ·have Wk:X.fn x=true:=by
   rcases hf with z | z
   ·exact z
   ·rw [z] at hk;cases hk
  obtain ⟨c,hc⟩:=I.ok.has x (.inl hk);obtain ⟨w',z⟩:=I.cell x c hc;refine wpAny_storeName_cell I.ok.kind hk hc z (λh' uX hs=> ?_);obtain ⟨oc,XN,Uc⟩:=id z;refine h {s with heap:=h'} ⟨I.ok,I.os,I.bare,⟨λb o e n hb hx=> ?_,λb o e n hb hx=> ?_,I.base.free,λb o e hx=> ?_,I.base.oW,I.base.nW,I.base.oR⟩,⟨m,hn.sameBut hs (Ne.symm (D5 x c hc)),λj y v' e1 e2 e3=> ?_⟩,λy c' e=> ?_,I.free,I.kJ,λp hp=> ?_,tracked ⟨oc,XN,I.kJ x c hc⟩ hs,by simpa using I.len⟩ ⟨c,hs, .inr hc⟩
  ·exact (hs.2 b (aaz (aap (Heap.lt_size e) (I.ok.T_ x c Wk hc)))).trans (I.base.keep b o e n hb hx)
  ·obtain ⟨sl,e1⟩:=I.base.slot b o e n hb hx;exact ⟨sl,(hs.2 b (aaz (aap (Heap.lt_size e) (I.ok.T_ x c Wk hc)))).trans e1⟩
  ·obtain ⟨o',e1⟩:=I.base.there b o e hx;exact ⟨o',(hs.2 b (aaz (aap (Heap.lt_size e) (I.ok.T_ x c Wk hc)))).trans e1⟩
  ·by_cases hj:j=i
   ·subst hj;rw [hi] at e1;cases e1;rw [aa5 QK] at e2;cases e2;exact ⟨u,r, .inr ⟨.inl hk,c,hc,uX⟩⟩
   ·rw [abv (Ne.symm hj)] at e2;obtain ⟨u',r',q⟩:=hl j y v' e1 e2 e3;refine ⟨u',r', ?_⟩;rcases q with q | ⟨k,c',e,z'⟩
    ·exact .inl q
    ·refine .inr ⟨k,c',e,z'.sameBut hs ?_⟩;rintro rfl;exact hj (xf hN e1 (I.ok.inj _ _ _ e hc▸hi))
  ·by_cases Gn:c'=c
   ·subst Gn;exact ⟨_,uX⟩
   ·obtain ⟨w2,z2⟩:=I.cell y c' e;exact ⟨w2,z2.sameBut hs Gn⟩
  ·obtain ⟨e,n,ne,nf,d⟩:=I.pin p hp;refine ⟨(hs.2 p.1 ?_).trans e,n,ne,nf,d⟩;intro q;rw [q,XN] at e;have q':oc=p.2:=aar e;exact d w' (by rw [<-q'];exact Uc)
theorem l_{M:Model}{A:Around}{E:Value->Shared->Prop}{i:Nat}{x:Str}{v:V}{u:Value}{Q:Unit->Shared->Prop}(I:Inv X ε σ H s)(hN:X.N.Nodup)(hi:X.N[i]? =some x)(hx:Loc X.env.scope x)(r:au v u)
  (h:∀s',Inv X ε (σ.set i (some v)) H s'->Q () s') (hf:X.fn x=true\/X.env.scope.names.lookup x=some .local:=by first | exact .inl rfl | exact .inr rfl | assumption):wpAny M A (storeName X.env x u) Q E s:=
 sN I hN hi hx r (λs' I' _=>h s' I') hf
theorem Inv.GO{s':Shared}{ch:List Addr}(I:Inv X ε σ H s)(ho:s'.os=s.os)(u:Un (oV X.stack) ch H H' s.heap s'.heap)(aG:ky X.prog X.w H' s'.heap)(hg:AllBare s'.gens)
  (za:∀b∈ch,(b∈X.ex\/X.s₀.heap.objs.size<=b)/\b≠X.env.locals/\(∀x c,X.env.cells.lookup x=some c->c≠b)/\∀p∈X.pn++ε,p.1≠b):Inv X ε σ H' s':=by
 obtain ⟨h',g',d',t',o'⟩:=s';have e:o'=s.os:=ho;subst e;exact I.call (g':=g') (t':=t') (d':=d') u aG hg za
end
abbrev XK:=Value->Option Addr->Hp->Prop
abbrev St:=List (Option V)
abbrev VK:=V->Hp->Prop
abbrev TE:=St->Hp->VK->Prop
abbrev TT:=St->Hp->(Bool->Hp->Prop)->Prop
abbrev TA:=St->Hp->(List V->Hp->Prop)->Prop
structure wI where
 nx:St->Hp->Prop
 rt:VK
 bk:St->Hp->Prop:=λ_ _=>False
 ct:St->Hp->Prop:=λ_ _=>False
abbrev TS:=wI->St->Hp->Prop
def EP(X:Cx)(ε:List (Addr×Obj))(σ:St)(Q:VK)(u:Value)(s':Shared):Prop:=∃v H',Inv X ε σ H' s'/\au v u/\Q v H'
def TP(X:Cx)(ε:List (Addr×Obj))(σ:St)(Q:Bool->Hp->Prop)(b:Bool)(s':Shared):Prop:=∃H',Inv X ε σ H' s'/\Q b H'
def AP(X:Cx)(ε:List (Addr×Obj))(σ:St)(Q:List V->Hp->Prop)(us:List Value)(s':Shared):Prop:=∃vs H',Inv X ε σ H' s'/\ao vs us/\Q vs H'
def SP(X:Cx)(ε:List (Addr×Obj))(D:wI)(f:Flow)(s':Shared):Prop:=
 match f with
 | .next=>∃σ' H',Inv X ε σ' H' s'/\D.nx σ' H'
 | .brk=>∃σ' H',Inv X ε σ' H' s'/\D.bk σ' H'
 | .cont=>∃σ' H',Inv X ε σ' H' s'/\D.ct σ' H'
 | .ret u=>∃v σ' H',Inv X ε σ' H' s'/\au v u/\D.rt v H'
def PE(X:Cx)(e:Expr)(t:TE):Prop:=
 ∀(ε:List (Addr×Obj)) (s:Shared) (σ:St) (H:Hp) (Q:VK),Inv X ε σ H s->t σ H Q->wpAny (model X.prog X.w) X.A (eval e X.env) (EP X ε σ Q) X.xe s
def PT(X:Cx)(e:Expr)(t:TT):Prop:=
 ∀(ε:List (Addr×Obj)) (s:Shared) (σ:St) (H:Hp) (Q:Bool->Hp->Prop),Inv X ε σ H s->t σ H Q->wpAny (model X.prog X.w) X.A (isTrue e X.env (eval e X.env)) (TP X ε σ Q) X.xe s
def PW(X:Cx)(e:Expr)(t:TT):Prop:=
 ∀(whole:Sem Value) (ε:List (Addr×Obj)) (s:Shared) (σ:St) (H:Hp) (Q:Bool->Hp->Prop),Inv X ε σ H s->t σ H Q->wpAny (model X.prog X.w) X.A (isTrue e X.env whole) (TP X ε σ Q) X.xe s
def PA(X:Cx)(es:List Expr)(t:TA):Prop:=
 ∀(pos:Pos) (ε:List (Addr×Obj)) (s:Shared) (σ:St) (H:Hp) (Q:List V->Hp->Prop),Inv X ε σ H s->t σ H Q->wpAny (model X.prog X.w) X.A (spliced (backTo pos (starEach es X.env))) (AP X ε σ Q) X.xe s
def PS(X:Cx)(st:Stmt)(t:TS):Prop:=
 ∀(ε:List (Addr×Obj)) (s:Shared) (σ:St) (H:Hp) (D:wI),Inv X ε σ H s->t D σ H->wpAny (model X.prog X.w) X.A (exec st X.env) (SP X ε D) X.xe s
def EV(X:Cx)(st:List Stmt)(t:TS):Prop:=
 ∀(ε:List (Addr×Obj)) (s:Shared) (σ:St) (H:Hp) (D:wI),Inv X ε σ H s->t D σ H->wpAny (model X.prog X.w) X.A (execs st X.env) (SP X ε D) X.xe s
theorem aS{α:Type}{t:Sem α}{Q Q':α->Shared->Prop}{M:Model}{A:Around}{E:Value->Shared->Prop}{s:Shared}(h:wpAny M A t Q E s)(hQ:∀a s,Q a s->Q' a s):wpAny M A t Q' E s:=wpAny_mono h hQ λ_ _ x=>x
section
variable{X:Cx}
def VL(i:Nat):TE:=λσ H Q=>∃v,σ[i]? =some (some v)/\Q v H
def tC(v:V):TE:=λ_ H Q=>Q v H
theorem Nf{i:Nat}{x:Str}{pos:Pos}(hN:X.N[i]? =some x)(hv:UT X.env.scope x)(hd:(x==("__debug__":Str))=false:=by decide)(Fc:(x==("__classdict__":Str))=false:=by decide):PE X (.Name x pos) (VL i):=by
 intro ε s σ H Q I h;obtain ⟨v,e,h⟩:=h;obtain ⟨m,hn,hl⟩:=I.loc;obtain ⟨u,r,l⟩:=hl i x v hN e hv;have fin:EP X ε σ Q u s:=⟨v,H,I,r,h⟩;rcases l with ⟨hk,hm⟩ | ⟨hk,c,hc,LV⟩
 ·exact wpAny_Name (wpAny_loadName_local I.ok.kind hk hn hm fin) hd
 ·rcases hk with hk | hk
  ·exact wpAny_Name (wpAny_loadName_cell I.ok.kind hk hc LV fin) hd
  ·exact wpAny_Name (wpAny_loadName_free I.ok.kind hk hc LV fin Fc) hd
theorem OG{i j pos}:PE X (.Constant (.int i) j pos) (tC (.int i)):=λ_ _ _ H _ I h=>wpAny_Constant_int ⟨.int i,H,I.tok _,⟨_,rfl⟩,h⟩
theorem RZ{b j pos}:PE X (.Constant (.bool b) j pos) (tC (.bl b)):=λ_ _ _ H _ I h=>Constant_bool ⟨.bl b,H,I,rfl,h⟩
theorem Oc{j pos}:PE X (.Constant .none j pos) (tC .br):=λ_ _ _ H _ I h=>Constant_none ⟨.br,H,I,rfl,h⟩
theorem IA{x j pos}:PE X (.Constant (.str x) j pos) (tC (.str x)):=λ_ _ _ H _ I h=>Calls.Constant_str ⟨.str x,H,I.tok _,⟨_,rfl⟩,h⟩
def Gl(X:Cx)(x:Str):Prop:=X.env.kindOf x=some .globalImplicit
theorem pA{E:Value->Shared->Prop}{ε:List (Addr×Obj)}{s:Shared}{σ:St}{H:Hp}{x:Str}{u:Value}{pos:Pos}{Q:Value->Shared->Prop}(I:Inv X ε σ H s)(hg:Gl X x)(hm:X.mg x=some u)(h:Q u s)
  (hd:(x==("__debug__":Str))=false:=by decide):wpAny (model X.prog X.w) X.A (eval (.Name x pos) X.env) Q E s:=
 Calls.Name_function_global I.ok.kind hg (Calls.loadGlobal_global (by rw [I.ok.glob];exact I.mod.glob.keeps I.bk) hm h) hd
theorem lK{E:Value->Shared->Prop}{ε:List (Addr×Obj)}{s:Shared}{σ:St}{H:Hp}{x:Str}{u:Value}{pos:Pos}{Q:Value->Shared->Prop}(I:Inv X ε σ H s)(hg:Gl X x)(hm:X.mg x=none)(hv:bootBuiltins x=some u)(h:Q u s)
  (hn:x≠"__name__":=by decide) (hd:(x==("__debug__":Str))=false:=by decide):wpAny (model X.prog X.w) X.A (eval (.Name x pos) X.env) Q E s:=by
 obtain ⟨mb,h1,h2⟩:=I.mod.blt;exact Calls.Name_function_global I.ok.kind hg (Calls.loadGlobal_builtin (by rw [I.ok.glob];exact I.mod.glob.keeps I.bk) hm (by rw [I.ok.blt];exact h1.keeps I.bk) ((h2 x hn).trans hv) h) hd
theorem BX{x:Str}{v:V}{u:Value}{pos:Pos}(hg:Gl X x)(hm:X.mg x=some u)(r:au v u)(hd:(x==("__debug__":Str))=false:=by decide):PE X (.Name x pos) (tC v):=
 λ_ _ _ H _ I h=>pA I hg hm ⟨v,H,I,r,h⟩ hd
theorem KI{x:Str}{v:V}{u:Value}{pos:Pos}(hg:Gl X x)(hm:X.mg x=none)(hv:bootBuiltins x=some u)(r:au v u)(hn:x≠"__name__":=by decide)(hd:(x==("__debug__":Str))=false:=by decide):PE X (.Name x pos) (tC v):=
 λ_ _ _ H _ I h=>lK I hg hm hv ⟨v,H,I,r,h⟩ hn hd
variable{a b:Expr}{ta tb:TE}{pos:Pos}
def tB(t:TE):TT:=λσ H Q=>t σ H λx H1=>∃c,x= .bl c/\Q c H1
theorem ND{e:Expr}{t:TE}(h:PE X e t)(he:∀whole,isTrue e X.env whole=(do let v<-whole;standAt e.pos;holding [v] (truthy v)):=by intro _;rfl):PT X e (tB t):=by intro ε s σ H Q I hw;refine isTrue_plain (aS (h ε s σ H _ I hw) λv s1 ⟨x,H1,I1,r1,q1⟩=> ?_) (he _);obtain ⟨d,rfl,q⟩:=q1;cases r1;exact wpAny_truthy_bool ⟨H1,I1,q⟩
variable{tA Wf:TT}{rest:List Expr}
def ZA(t u:TT):TT:=λσ H Q=>t σ H λc H1=>if c=true then Q true H1 else u σ H1 Q
def Uz(t:TT):TT:=λσ H Q=>t σ H λc H1=>Q (!c) H1
theorem pw_or1(ha:PT X a tA):PW X (.BoolOp .Or [a] pos) tA:=by
 intro wh ε s σ H Q I h;refine isTrue_or (aS (ha ε s σ H Q I h) λc s1 e=> ?_);cases c with
 | false=>exact isTrue_or_nil e
 | true=>exact e
theorem pw_or(ha:PT X a tA)(hb:PW X (.BoolOp .Or (b::rest) pos) Wf):PW X (.BoolOp .Or (a::b::rest) pos) (ZA tA Wf):=by
 intro wh ε s σ H Q I h;refine isTrue_or (aS (ha ε s σ H _ I h) λc s1 ⟨H1,I1,q1⟩=> ?_);cases c with
 | true=>exact ⟨H1,I1,q1⟩
 | false=>exact hb wh ε s1 σ H1 Q I1 q1
theorem Mh(ha:PT X a tA):PT X (.UnaryOp .Not a pos) (Uz tA):=by intro ε s σ H Q I h;exact isTrue_not (ha ε s σ H (λc H1=>Q (!c) H1) I h)
def PC(ta tb:TE):TE:=λσ H Q=>ta σ H λx H1=>∃c,x= .bl c/\if c=true then tb σ H1 Q else Q (.bl false) H1
def Q3(ta:TE):TE:=λσ H Q=>ta σ H λx H1=>∃c,x= .bl c/\Q (.bl (!c)) H1
theorem NK{op}{t:TE}(h:PE X a t):PE X (.BoolOp op [a] pos) t:=λε s σ H Q I hw=>BoolOp_one (h ε s σ H Q I hw)
theorem NZ(ha:PE X a ta)(hb:PE X (.BoolOp .And (b::rest) pos) tb):PE X (.BoolOp .And (a::b::rest) pos) (PC ta tb):=by
 intro ε s σ H Q I h;refine BoolOp_and (aS (ha ε s σ H _ I h) λv s1 ⟨x,H1,I1,r1,q1⟩=> ?_);obtain ⟨c,rfl,q1⟩:=q1;cases r1;refine wpAny_truthy_bool ?_;cases c with
 | true=>exact hb ε s1 σ H1 Q I1 q1
 | false=>exact ⟨.bl false,H1,I1,rfl,q1⟩
theorem MM(ha:PE X a ta):PE X (.UnaryOp .Not a pos) (Q3 ta):=by intro ε s σ H Q I h;refine UnaryOp_ (aS (ha ε s σ H _ I h) λv s1 ⟨x,H1,I1,r1,q1⟩=> ?_);obtain ⟨c,rfl,q1⟩:=q1;cases r1;exact not_of (wpAny_truthy_bool ⟨.bl (!c),H1,I1,rfl,q1⟩)
def Yw(t:TT)(ta tb:TE):TE:=λσ H Q=>t σ H λc H1=>if c=true then ta σ H1 Q else tb σ H1 Q
theorem Ia{c:Expr}(hc:PT X c tA)(ha:PE X a ta)(hb:PE X b tb):PE X (.IfExp c a b pos) (Yw tA ta tb):=by
 intro ε s σ H Q I h;refine wpAny_IfExp (aS (hc ε s σ H _ I h) λd s1 ⟨H1,I1,q1⟩=> ?_);cases d with
 | true=>exact ha ε s1 σ H1 Q I1 q1
 | false=>exact hb ε s1 σ H1 Q I1 q1
end
def gQ(K:PySem.W.Frag)(H:Hp)(a:Addr)(xs:List V):Prop:=
 Rd H a (.lst xs)\/
  ∃(o:Obj) (its:Array Value) (n:Nat),K.lookup a=some o/\o.cls= .type "list"/\o.dict=none/\o.data= .seq its n/\its.size<=sizeLine/\ao xs its.toList
def oi(K:PySem.W.Frag)(H:Hp)(a:Addr)(xs:List V):Prop:=
 Rd H a (.tup xs)\/
  ∃(o:Obj) (its:Array Value) (n:Nat),K.lookup a=some o/\o.cls= .type "tuple"/\o.data= .seq its n/\its.size<=sizeLine/\ao xs its.toList
def UU:Value->Option V
 | .none=>some .br
 | .bool b=>some (.bl b)
 | .int i _=>some (.int i)
 | .str x _=>some (.str x)
 | .bytes b _=>some (.EU b)
 | .float b _=>some (.MB b)
 | .ref a=>some (.ref a)
 | .type n=>some (.ty n)
 | _=>none
theorem au.abs{x:V}{u:Value}(r:au x u):UU u=some x:=by
 cases x with
 | br=>cases r;rfl
 | bl _=>cases r;rfl
 | int _=>obtain ⟨t,rfl⟩:=r;rfl
 | str _=>obtain ⟨t,rfl⟩:=r;rfl
 | EU _=>obtain ⟨t,rfl⟩:=r;rfl
 | MB _=>obtain ⟨t,rfl⟩:=r;rfl
 | ref _=>cases r;rfl
 | ty _=>cases r;rfl
theorem au.inj{x y:V}{u:Value}(r:au x u)(q:au y u):x=y:=aar (r.abs.symm.trans q.abs)
theorem ao.inj:∀{xs ys:List V} {us:List Value},ao xs us->ao ys us->xs=ys
 | _,_,_, .nil, .nil=>rfl
 | _,_,_, .cons r t, .cons r' t'=>by rw [r.inj r',ao.inj t t']
section
variable{X:Cx}{ε:List (Addr×Obj)}{σ:St}{H:Hp}{s:Shared}{a:Addr}{xs ys:List V}
theorem gQ.of{K:PySem.W.Frag}(h:H a=some (.lst xs)):gQ K H a xs:= .inl (.inl h)
theorem oi.of{K:PySem.W.Frag}(h:H a=some (.tup xs)):oi K H a xs:= .inl (.inl h)
theorem Inv.list(I:Inv X ε σ H s)(h:gQ X.K H a xs):∃its:List Value,ao xs its/\PlainL s.heap a its.toArray/\xs.length<=sizeLine:=by
 rcases h with h | ⟨o,its,n,hk,hc,hd,hs,hz,r⟩
 ·obtain ⟨z,its,n,r,e⟩:=h.ok I.aG;exact ⟨its,r,⟨_,n,e,rfl,rfl,rfl⟩,z⟩
 ·refine ⟨its.toList,r,⟨o,n,I.oy a o hk,hc,hd,by simpa using hs⟩, ?_⟩;have e:=r.length;simp only [Array.length_toList] at e;omega
theorem Inv.tuple(I:Inv X ε σ H s)(h:oi X.K H a xs):∃its:List Value,ao xs its/\IsTup s.heap a its.toArray/\xs.length<=sizeLine:=by
 rcases h with h | ⟨o,its,n,hk,hc,hs,hz,r⟩
 ·obtain ⟨z,its,r,p⟩:=h.ok I.aG;exact ⟨its,r,p,z⟩
 ·refine ⟨its.toList,r,⟨o,I.oy a o hk,hc,n,by simpa using hs⟩, ?_⟩;have e:=r.length;simp only [Array.length_toList] at e;omega
theorem Inv.mr(I:Inv X ε σ H s)(h:gQ X.K H a xs)(h':gQ X.K H a ys):xs=ys:=by
 obtain ⟨its,r,⟨o,n,e,_,_,d⟩,_⟩:=I.list h;obtain ⟨its',r',⟨o',n',e',_,_,d'⟩,_⟩:=I.list h';rw [e] at e';cases e';rw [d] at d';injection d' with d1 _
 have:its=its':=by simpa using congrArg Array.toList d1
 subst this;exact r.inj r'
theorem Inv.Ea(I:Inv X ε σ H s)(h:oi X.K H a xs)(h':oi X.K H a ys):xs=ys:=by
 obtain ⟨its,r,⟨o,e,_,n,d⟩,_⟩:=I.tuple h;obtain ⟨its',r',⟨o',e',_,n',d'⟩,_⟩:=I.tuple h';rw [e] at e';cases e';rw [d] at d';injection d' with d1 _
 have:its=its':=by simpa using congrArg Array.toList d1
 subst this;exact r.inj r'
end
section
variable{X:Cx}{st:Stmt}{rest:List Stmt}{t u:TS}{e:Expr}{te:TE}{pos:Pos}
def RK:TS:=λD σ H=>D.nx σ H
def Uq(t u:TS):TS:=λD σ H=>t {D with nx:=u D} σ H
theorem K3:EV X [] RK:=λ_ _ σ H _ I h=>wpAny_execs_nil ⟨σ,H,I,h⟩
theorem Fu(h1:PS X st t)(h2:EV X rest u):EV X (st::rest) (Uq t u):=by
 intro ε s σ H D I h;refine wpAny_execs_cons (aS (h1 ε s σ H {D with nx:=u D} I h) λf s1 q=> ?_);cases f with
 | next=>
  obtain ⟨σ',H',I',q⟩:=q;exact h2 ε s1 σ' H' D I' q
 | ret v=>exact q
 | brk=>exact q
 | cont=>exact q
theorem JR(h1:PS X st t):EV X [st] t:=by
 intro ε s σ H D I h;refine wpAny_execs_cons (aS (h1 ε s σ H D I h) λf s1 q=> ?_);cases f with
 | next=>exact wpAny_execs_nil q
 | ret v=>exact q
 | brk=>exact q
 | cont=>exact q
def Qi:TS:=λD σ H=>D.ct σ H
theorem xC:PS X (.Continue pos) Qi:=λ_ _ σ H _ I h=>wpAny_Continue ⟨σ,H,I,h⟩
theorem Inv.quiet{ε:List (Addr×Obj)}{σ:St}{H:Hp}{s:Shared}(I:Inv X ε σ H s):interactive X.env=false:=by simp [interactive,I.ok.kind]
def Sq(te:TE):TS:=λD σ H=>te σ H λ_ H1=>D.nx σ H1
theorem JF(he:PE X e te)(hs:swapsWith e none pos.line X.env=pure false:=by rfl):PS X (.Expr e pos) (Sq te):=by intro ε s σ H D I h;exact wpAny_Expr_any (aS (he ε s σ H _ I h) λv s1 ⟨x,H1,I1,r1,q1⟩=>⟨σ,H1,I1,q1⟩) I.quiet hs
def Ue(te:TE):TS:=λD σ H=>te σ H D.rt
theorem NC(he:PE X e te):PS X (.Return (some e) pos) (Ue te):=by intro ε s σ H D I h;exact wpAny_Return_some (aS (he ε s σ H _ I h) λv s1 ⟨x,H1,I1,r1,q1⟩=>⟨x,σ,H1,I1,r1,q1⟩)
def TB(c:TT)(t u:TS):TS:=λD σ H=>c σ H λb H1=>if b=true then t D σ H1 else u D σ H1
theorem Qz{c:Expr}{a b:List Stmt}{tc:TT}(hc:PT X c tc)(ha:EV X a t)(hb:EV X b u):PS X (.If c a b pos) (TB tc t u):=by
 intro ε s σ H D I h;refine wpAny_If (aS (hc ε s σ H _ I h) λd s1 ⟨H1,I1,q1⟩=> ?_);cases d with
 | true=>exact ha ε s1 σ H1 D I1 q1
 | false=>exact hb ε s1 σ H1 D I1 q1
end
abbrev TG:=V->St->Hp->(St->Hp->Prop)->Prop
abbrev OW:=List V->St->Hp->(St->Hp->Prop)->Prop
def PG(X:Cx)(target:Expr)(t:TG):Prop:=
 ∀(ε:List (Addr×Obj)) (s:Shared) (σ:St) (H:Hp) (v:V) (u:Value) (Q:St->Hp->Prop),Inv X ε σ H s->au v u->t v σ H Q->
  wpAny (model X.prog X.w) X.A (assign target X.env u) (λ_ s'=>∃σ' H',Inv X ε σ' H' s'/\Q σ' H') X.xe s
def Ti(X:Cx)(ts:List Expr)(t:OW):Prop:=
 ∀(ε:List (Addr×Obj)) (s:Shared) (σ:St) (H:Hp) (vs:List V) (us:List Value) (Q:St->Hp->Prop),Inv X ε σ H s->ao vs us->t vs σ H Q->
  wpAny (model X.prog X.w) X.A (assignInOrder ((assignEach ts X.env).map (·.2)) us) (λ_ s'=>∃σ' H',Inv X ε σ' H' s'/\Q σ' H') X.xe s
abbrev Mz:=V->V->V->Hp->(Hp->Prop)->Prop
def Q7(X:Cx)(t:Mz):Prop:=
 ∀(ε:List (Addr×Obj)) (s:Shared) (σ:St) (H:Hp) (o i v:V) (ov iv u:Value) (Q:Hp->Prop),Inv X ε σ H s->au o ov->au i iv->au v u->t o i v H Q->
  wpAny (model X.prog X.w) X.A (setItem ov iv u) (λ_ s'=>∃H',Inv X ε σ H' s'/\Q H') X.xe s
section
variable{X:Cx}{pos:Pos}
def gM(i:Nat):TG:=λv σ H Q=>Q (σ.set i (some v)) H
theorem ag{i:Nat}{x:Str}(hN:X.N.Nodup)(hi:X.N[i]? =some x)(hx:Loc X.env.scope x)(hf:X.fn x=true\/X.env.scope.names.lookup x=some .local:=by first | exact .inl rfl | exact .inr rfl | assumption):PG X (.Name x pos) (gM i):=by intro ε s σ H v u Q I r h;exact wpAny_assign_Name (l_ I hN hi hx r (λs' I'=>⟨_,H,I',h⟩) hf)
def Il:OW:=λvs σ H Q=>vs=[]/\Q σ H
def mR(t:TG)(u:OW):OW:=λvs σ H Q=>∃v r,vs=v::r/\t v σ H λσ' H'=>u r σ' H' Q
theorem kq:Ti X [] Il:=by intro ε s σ H vs us Q I r h;obtain ⟨e,h⟩:=h;subst e;cases r;exact assignInOrder_nil ⟨σ,H,I,h⟩
theorem bY{e:Expr}{es:List Expr}{t:TG}{u:OW}(h1:PG X e t)(h2:Ti X es u)
  (hs:(assignEach (e::es) X.env).map (·.2)=assign e X.env::(assignEach es X.env).map (·.2):=by rfl):Ti X (e::es) (mR t u):=by
 intro ε s σ H vs us Q I r h;obtain ⟨v,vr,e1,h⟩:=h;subst e1;cases r with
 | cons r rr=>
  rw [hs];refine assignInOrder_cons (aS (h1 ε s σ H _ _ _ I r h) λ_ s1 ⟨σ1,H1,I1,q1⟩=> ?_);exact h2 ε s1 σ1 H1 _ _ Q I1 rr q1
def F_(K:PySem.W.Frag)(n:Nat)(t:OW):TG:=λv σ H Q=>∃a xs,v= .ref a/\oi K H a xs/\xs.length=n/\t xs σ H Q
theorem nP{es:List Expr}{k:Nat}{t:OW}{n:Nat}(hc:X.calm=true)(h:Ti X es t)
  (hn:(assignEach es X.env).length=n:=by rfl) (M6:(assignEach es X.env).findIdx? (·.1)=none:=by rfl):PG X (.Tuple es k pos) (F_ X.K n t):=by
 intro ε s σ H v u Q I r hw;obtain ⟨a,xs,e1,hq,hl,hw⟩:=hw;subst e1;cases r;obtain ⟨its,rv,ht,hz⟩:=I.tuple hq;refine assign_Tuple_tuple (I.ok.hd hc) ht (by simp [hn,<-hl,rv.length]) M6 λh' hx=> ?_;have I1:Inv X ε σ H {s with heap:=h'}:=I.kept (t':=s.toks) λb o e=>hx b o (aaz (Heap.lt_size e)) e;exact h ε _ σ H xs _ Q I1 (by simpa using rv) hw
def U2(to ti:TE)(t:Mz):TG:=λv σ H Q=>to σ H λo H1=>ti σ H1 λi H2=>t o i v H2 λH3=>Q σ H3
theorem MA{o i:Expr}{to ti:TE}{t:Mz}(ho:PE X o to)(hi:PE X i ti)(hs:Q7 X t)
  (ha:∀v,assign (.Subscript o i pos) X.env v=(do
   let ov<-holding [v] (eval o X.env)
   let iv<-holding [v,ov] (eval i X.env)
   standAt pos
   holding [v,ov,iv] (setItem ov iv v)
   release [v,ov,iv] []):=by intro _;rfl):PG X (.Subscript o i pos) (U2 to ti t):=by
 intro ε s σ H v u Q I r h;rw [ha];refine wpAny_bind (wpAny_holding (aS (ho ε s σ H _ I h) λov s1 ⟨x,H1,I1,r1,q1⟩=> ?_));refine wpAny_bind (wpAny_holding (aS (hi ε s1 σ H1 _ I1 q1) λiv s2 ⟨y,H2,I2,r2,q2⟩=> ?_));refine wpAny_bind (wpAny_standAt (wpAny_bind (wpAny_holding (aS (hs ε s2 σ H2 x y v ov iv u _ I2 r1 r2 r q2) λ_ s3 ⟨H3,I3,q3⟩=> ?_))));exact wpAny_release ⟨σ,H3,I3,q3⟩
def QM(te:TE)(g:TG):TS:=λD σ H=>te σ H λx H1=>g x σ H1 D.nx
theorem HA{tg e:Expr}{te:TE}{g:TG}(he:PE X e te)(hg:PG X tg g)(hs:swapsWithSole [tg] e pos.line X.env=pure false:=by rfl)(hw:swappedStores [tg] e X.env=pure none:=by rfl)
  (h1:(assignEach [tg] X.env).map (·.2)=[assign tg X.env]:=by rfl):PS X (.Assign [tg] e pos) (QM te g):=by
 intro ε s σ H D I h;refine wpAny_Assign_stores (aS (he ε s σ H _ I h) λv s1 ⟨x,H1,I1,r1,q1⟩=> ?_) hs hw;rw [h1];exact aS (hg ε s1 σ H1 x v _ I1 r1 q1) λ_ s2 q=>q
theorem NR{i:Nat}{x:Str}{e:Expr}{te:TE}{pos':Pos}(hN:X.N.Nodup)(hi:X.N[i]? =some x)(hx:Loc X.env.scope x)(he:PE X e te)(hs:swapsWith e (some (.Name x pos')) pos.line X.env=pure false:=by rfl)(hf:X.fn x=true\/X.env.scope.names.lookup x=some .local:=by first | exact .inl rfl | exact .inr rfl | assumption):
  PS X (.Assign [.Name x pos'] e pos) (QM te (gM i)):=by
 intro ε s σ H D I h;refine wpAny_Assign_Name (aS (he ε s σ H _ I h) λv s1 ⟨y,H1,I1,r1,q1⟩=> ?_) hs;exact l_ I1 hN hi hx r1 (λs2 I2=>⟨_,H1,I2,q1⟩) hf
def Vg(i j:Nat)(ta:TA):TS:=λD σ H=>ta σ H λvs H1=>∃v w,vs=[v,w]/\D.nx ((σ.set i (some v)).set j (some w)) H1
theorem MH{i j:Nat}{x y:Str}{a b:Expr}{ta:TA}{px py pt:Pos}{kt k2 NN}(hc:X.calm=true)(hN:X.N.Nodup)(hi:X.N[i]? =some x)(hj:X.N[j]? =some y)(Ug:i≠j)
  (hx:X.env.scope.names.lookup x=some .local) (hy:X.env.scope.names.lookup y=some .local) (ha:PA X [a,b] ta)
  (hw:swappedStores [.Tuple [.Name x px, .Name y py] kt pt] (.Tuple [a,b] k2 NN) X.env=pure (some [x,y]))
  (hs:swapsWithSole [.Tuple [.Name x px, .Name y py] kt pt] (.Tuple [a,b] k2 NN) pos.line X.env=pure false:=by rfl):
  PS X (.Assign [.Tuple [.Name x px, .Name y py] kt pt] (.Tuple [a,b] k2 NN) pos) (Vg i j ta):=by
 intro ε s σ H D I h;rw [exec_Assign_arm];refine wpAny_bind (wpAny_standAt ?_);rw [hs];refine wpAny_bind (wpAny_pure ?_);rw [if_neg (by decide)];refine wpAny_bind (Tuple_ (aS (ha _ ε s σ H _ I h) λus s1 ⟨vs,H1,I1,r1,q1⟩=> ?_));obtain ⟨v,w,e1,q1⟩:=q1;subst e1;obtain ⟨u1,u2,rfl,rv,Er⟩:∃u1 u2,us=[u1,u2]/\au v u1/\au w u2:=by
  cases r1 with
  | cons p q=>
   cases q with
   | cons p' q'=>
    cases q';exact ⟨_,_,rfl,p,p'⟩
 refine wpAny_newObj_type ?_ (by show 2<=sizeLine;decide);have I2:Inv X ε σ H1 {s1 with heap:=s1.heap.push {cls:= .type "tuple",data:= .seq [u1,u2].toArray}}:=I1.kept (t':=s1.toks) λb o e=>Heap.get?_push_of_some _ e;rw [hw];refine wpAny_bind (wpAny_pure ?_);show wpAny (model X.prog X.w) X.A (do rule "assign.swapped-stores";let items<-unpackItems (.ref s1.heap.objs.size) 2 none;assignInOrder [λv=>bindName X.env y v,λv=>bindName X.env x v] items.reverse;pure Flow.next) _ _ _;refine wpAny_bind (wpAny_rule (wpAny_bind (unpackItems_tuple (items:= #[u1,u2]) (I.ok.hd hc) (IsTup.new s1.heap _) λh' PF=> ?_)));have I3:=I2.kept (h':=h') (t':=s1.toks) λb o e=>PF b o (aaz (Heap.lt_size e)) e;show wpAny _ _ (assignInOrder [λv=>bindName X.env y v,λv=>bindName X.env x v] [u2,u1] >>= λ_=>pure Flow.next) _ _ _;refine wpAny_bind (assignInOrder_cons (wpAny_bindName (l_ I3 hN hj (.inl hy) Er (λs2 I4=> ?_) (.inr hy))));refine assignInOrder_cons (wpAny_bindName (l_ I4 hN hi (.inl hx) rv (λs3 I5=>assignInOrder_nil (wpAny_pure ?_)) (.inr hx)));rw [List.set_comm _ _ (Ne.symm Ug)] at I5;exact ⟨_,H1,I5,q1⟩
end
section
variable{X:Cx}{pos:Pos}
def MK(c:TT)(tb:TS):TS:=λD σ H=>∃W:Nat->St->Hp->Prop,(∃m,W m σ H)/\∀m σ H,W m σ H->
 c σ H λb H1=>if b=true then∃N:St->Hp->Prop,(∀σ' H',N σ' H'->∃m',m' < m/\W m' σ' H')/\tb {D with nx:=N,ct:=N,bk:=D.nx} σ H1 else D.nx σ H1
theorem Ih{c:Expr}{body:List Stmt}{tc:TT}{tb:TS}(hp:PassesOwn (model X.prog X.w) X.A X.env X.xe)(hc:PT X c tc)(hb:EV X body tb):PS X (.While c body [] pos) (MK tc tb):=by
 intro ε s σ H D I h;obtain ⟨W,⟨m0,w0⟩,turn⟩:=h;refine wpAny_While (codeAny_whileLoop (λn s'=>∃σ' H',Inv X ε σ' H' s'/\W n σ' H') ?_ m0 ⟨σ,H,I,w0⟩);rintro n s1 ⟨σ1,H1,I1,w1⟩;refine wpAny_passesOwn hp (aS (hc ε s1 σ1 H1 _ I1 (turn n σ1 H1 w1)) λb s2 ⟨H2,I2,q2⟩=> ?_);cases b with
 | true=>
  obtain ⟨N,hN,q2⟩:=q2;rw [if_pos rfl];refine wpAny_passesOwn hp (aS (hb ε s2 σ1 H2 _ I2 q2) λf s3 q3=> ?_);cases f with
  | next=>
   obtain ⟨σ3,H3,I3,n3⟩:=q3;obtain ⟨m',hm,w3⟩:=hN σ3 H3 n3;exact ⟨m',hm,σ3,H3,I3,w3⟩
  | cont=>
   obtain ⟨σ3,H3,I3,n3⟩:=q3;obtain ⟨m',hm,w3⟩:=hN σ3 H3 n3;exact ⟨m',hm,σ3,H3,I3,w3⟩
  | brk=>exact q3
  | ret v=>exact q3
 | false=>
  rw [if_neg aax];exact wpAny_execs_nil ⟨σ1,H2,I2,q2⟩
end
structure It where
 go:Nat->Hp->Prop
 Nn:Nat->Hp->V->Hp->Prop
 stop:Nat->Hp->Prop
def lQ(X:Cx)(ε:List (Addr×Obj))(H:Hp)(b:Addr):Prop:=
 H b=none/\b≠X.env.locals/\b∉X.fs/\(b∈X.ex\/X.s₀.heap.objs.size<=b)/\(∀x c,X.env.cells.lookup x=some c->c≠b)/\∀p∈X.pn++ε,p.1≠b
theorem Inv.z_{X:Cx}{ε:List (Addr×Obj)}{σ:St}{H H':Hp}{s:Shared}{b:Addr}(I:Inv X ε σ H s)(hb:s.heap.objs.size<=b)(hn:H' b=none):lQ X ε H' b:=by
 refine ⟨hn,abO (aap I.lt hb),I.Vx hb, .inr (aaw I.sz hb),λx c e z=> ?_,λp hp z=> ?_⟩
 ·obtain ⟨v,q⟩:=I.cell x c e;exact absurd (aap q.lt (by rw [z];exact hb)) (aaY _)
 ·exact absurd (aap (Heap.lt_size (I.pin p hp).1) (by rw [z];exact hb)) (aaY _)
structure Turn(P:Program)(w:World)(K:PySem.W.Frag)(tg:Expr)(J:It)(fp:List Addr)(it:Addr)(tn:Nat->Heap->Prop):Prop where
 mem:it∈fp
 obj:∀i h,tn i h->∀b∈fp,∃o,h.get? b=some o/\∀v,o.data≠ .cell v
 keep:∀i h h',tn i h->(∀b∈fp,∀o,h.get? b=some o->h'.get? b=some o)->tn i h'
 item:∀(X:Cx),X.prog=P->X.w=w->X.K=K->X.calm=true->∀(i:Nat) (ε:List (Addr×Obj)) (s:Shared) (σ:St) (H:Hp) (E:Value->Shared->Prop),Inv X ε σ H s->(∀b∈fp,lQ X ε H b)->tn i s.heap->J.go i H->
  wpAny (model P w) X.A (pyNext (.ref it)) (λr s1=>∃u,r=some u/\
   wpAny (model P w) X.A (letOwnedTupleGo tg (.ref it) u) (λ_ s2=>∃x H',Inv X ε σ H' s2/\au x u/\J.Nn i H x H'/\tn (i+1) s2.heap/\∀b∈fp,H' b=none) E s1) E s
 done:∀(X:Cx),X.prog=P->X.w=w->X.K=K->X.calm=true->∀(i:Nat) (ε:List (Addr×Obj)) (s:Shared) (σ:St) (H:Hp) (E:Value->Shared->Prop),Inv X ε σ H s->(∀b∈fp,lQ X ε H b)->tn i s.heap->J.stop i H->
  wpAny (model P w) X.A (pyNext (.ref it)) (λr s1=>r=none/\Inv X ε σ H s1) E s
 self:∀(A:Around) (i:Nat) (s:Shared) (Q:Value->Shared->Prop) (E:Value->Shared->Prop),tn i s.heap->Q (.ref it) s->wpAny (model P w) A (pyIter (.ref it)) Q E s
abbrev TI:=St->Hp->(It->Hp->Prop)->Prop
def Jk(X:Cx)(ε:List (Addr×Obj))(σ:St)(tg:Expr)(R:It->Hp->Prop)(O5:Value)(s2:Shared):Prop:=
 ∃(it:Addr) (fp:List Addr) (tn:Nat->Heap->Prop) (J:It) (H':Hp),O5= .ref it/\Inv X ε σ H' s2/\Turn X.prog X.w X.K tg J fp it tn/\tn 0 s2.heap/\(∀b∈fp,lQ X ε H' b)/\R J H'
def PI(X:Cx)(tg iter:Expr)(wi:TI):Prop:=
 ∀(ε:List (Addr×Obj)) (s:Shared) (σ:St) (H:Hp) (R:It->Hp->Prop),Inv X ε σ H s->wi σ H R->
  wpAny (model X.prog X.w) X.A (eval iter X.env) (λv s1=>wpAny (model X.prog X.w) X.A (pyIter v) (Jk X ε σ tg R) X.xe s1) X.xe s
theorem tT {M : Model} {A : Around} {E : Value -> Shared -> Prop} {s : Shared} {tg : Expr} {it : Addr} {u : Value} {o : Obj} {n : String} {vs : Array Value} {Q : Unit -> Shared -> Prop} (ho : s.heap.get? it = some o) (hc : o.cls = .type n) (hd : o.data = .fields vs)
    (hn : ["enumerate", "zip", "dict_itemiterator", "dict_reverseitemiterator", "odict_iterator", "itertools.zip_longest", "itertools.pairwise"].contains n = false) (hQ : Q () s) : wpAny M A (letOwnedTupleGo tg (.ref it) u) Q E s := by
  unfold letOwnedTupleGo
  cases tg <;> first
    | exact wpAny_pure hQ
    | (cases u <;> first
        | exact wpAny_pure hQ
        | (refine wpAny_bind (wpAny_load ho ?_)
           rw [hc, hd];show wpAny M A (if (["enumerate", "zip", "dict_itemiterator", "dict_reverseitemiterator", "odict_iterator", "itertools.zip_longest", "itertools.pairwise"].contains n && vs[0]? == some (rawInt _)) = true then _ else _) Q E s;rw [if_neg (by intro h; rw [hn, Bool.false_and] at h; cases h)]
           exact wpAny_pure hQ))
def S5(K:PySem.W.Frag)(a:Addr):It:=
 ⟨λi H=>∃xs x,gQ K H a xs/\xs[i]? =some x,λi H x H'=>H'=H/\∀xs,gQ K H a xs->xs[i]? =some x,λi H=>∃xs,gQ K H a xs/\xs.length<=i⟩
def US(K:PySem.W.Frag)(a:Addr):It:=
 ⟨λi H=>∃xs x,oi K H a xs/\xs[i]? =some x,λi H x H'=>H'=H/\∀xs,oi K H a xs->xs[i]? =some x,λi H=>∃xs,oi K H a xs/\xs.length<=i⟩
def Pk(lo:Int)(n:Nat):It:=⟨λi _=>i < n,λi H x H'=>H'=H/\x= .int (lo+i),λi _=>n<=i⟩
theorem Dj{P:Program}{w:World}{K:PySem.W.Frag}{tg:Expr}(a it:Addr):Turn P w K tg (S5 K a) [it] it (λi h=>h.IsListIter it a i) where
 mem:=by simp
 obj:=λi h st b hb=>by
  have e:b=it:=by simpa using hb
  subst e;obtain ⟨o,e,c,d⟩:=st;exact ⟨o,e,λv z=>by rw [d] at z;cases z⟩
 keep:=λi h h' st k=>st.at λo e=>k it (by simp) o e
 item:=by intro X hP hw hK hc i ε s σ H E I hf st hg;subst hP hw hK;obtain ⟨xs,x,hq,hx⟩:=hg;obtain ⟨its,rv,p,hz⟩:=I.list hq;obtain ⟨u,hu,ru⟩:=rv.get hx;obtain ⟨f0,f1,f2,f3,f4,f5⟩:=hf it (by simp);refine wpAny_pyNext_list_item st p.isList (x:=u) (by simpa using hu) λh' uI sb=> ?_;have I1:Inv X ε σ H {s with heap:=h'}:=I.turned (t':=s.toks) (λb o hb e=>(sb.2 b hb).trans e) f0 f1 f3 f4 f5;obtain ⟨o,e,c,d⟩:=id uI;exact ⟨u,rfl,tT (s:={s with heap:=h'}) e c d (by decide) ⟨x,H,I1,ru,⟨rfl,λys hy=>by rw [I.mr hy hq];exact hx⟩,uI,λb hb=>(hf b hb).1⟩⟩
 done:=by intro X hP hw hK hc i ε s σ H E I hf st hg;subst hP hw hK;obtain ⟨xs,hq,hx⟩:=hg;obtain ⟨its,rv,p,hz⟩:=I.list hq;obtain ⟨f0,f1,f2,f3,f4,f5⟩:=hf it (by simp);have hl:=rv.length;exact wpAny_pyNext_list_end (I.ok.hd hc) st p.isList (by simp;omega) λh' eb=>⟨rfl,I.turned (t':=s.toks) (λb o hb e=>eb b o hb e) f0 f1 f3 f4 f5⟩
 self:=λ_ _ _ _ _ st h=>wpAny_pyIter_listiter st h
theorem zU{P:Program}{w:World}{K:PySem.W.Frag}{tg:Expr}(a it:Addr):Turn P w K tg (US K a) [it] it (λi h=>h.IsTupleIter it a i) where
 mem:=by simp
 obj:=λi h st b hb=>by
  have e:b=it:=by simpa using hb
  subst e;obtain ⟨o,e,c,d⟩:=st;exact ⟨o,e,λv z=>by rw [d] at z;cases z⟩
 keep:=λi h h' st k=>st.at λo e=>k it (by simp) o e
 item:=by intro X hP hw hK hc i ε s σ H E I hf st hg;subst hP hw hK;obtain ⟨xs,x,hq,hx⟩:=hg;obtain ⟨its,rv,p,hz⟩:=I.tuple hq;obtain ⟨u,hu,ru⟩:=rv.get hx;obtain ⟨f0,f1,f2,f3,f4,f5⟩:=hf it (by simp);refine wpAny_pyNext_tuple_item st (show s.heap.IsTuple a its.toArray from p) (x:=u) (by simpa using hu) λh' uI sb=> ?_;have I1:Inv X ε σ H {s with heap:=h'}:=I.turned (t':=s.toks) (λb o hb e=>(sb.2 b hb).trans e) f0 f1 f3 f4 f5;obtain ⟨o,e,c,d⟩:=id uI;exact ⟨u,rfl,tT (s:={s with heap:=h'}) e c d (by decide) ⟨x,H,I1,ru,⟨rfl,λys hy=>by rw [I.Ea hy hq];exact hx⟩,uI,λb hb=>(hf b hb).1⟩⟩
 done:=by intro X hP hw hK hc i ε s σ H E I hf st hg;subst hP hw hK;obtain ⟨xs,hq,hx⟩:=hg;obtain ⟨its,rv,p,hz⟩:=I.tuple hq;obtain ⟨f0,f1,f2,f3,f4,f5⟩:=hf it (by simp);have hl:=rv.length;exact wpAny_pyNext_tuple_end (I.ok.hd hc) st (show s.heap.IsTuple a its.toArray from p) (by simp;omega) λh' eb=>⟨rfl,I.turned (t':=s.toks) (λb o hb e=>eb b o hb e) f0 f1 f3 f4 f5⟩
 self:=λ_ _ _ _ _ st h=>wpAny_pyIter_tupleiter st h
theorem zh{P:Program}{w:World}{K:PySem.W.Frag}{tg:Expr}(it:Addr)(lo:Int)(n:Nat):Turn P w K tg (Pk lo n) [it] it (λi h=>IsRangeIter h it (lo+(i:Nat) * 1) ((n:Int) - (i:Nat)) 1) where
 mem:=by simp
 obj:=λi h st b hb=>by
  have e:b=it:=by simpa using hb
  subst e
  exact ⟨_,st,λv z=>by
   have z':Data.fields _=Data.cell v:=z
   cases z'⟩
 keep:=λi h h' st k=>k it (by simp) _ st
 item:=by intro X hP hw hK hc i ε s σ H E I hf st hg;subst hP hw hK;obtain ⟨f0,f1,f2,f3,f4,f5⟩:=hf it (by simp);have W:=Walks.range (prog:=X.prog) (w:=X.w) (I.ok.hd hc) it lo 1 n;refine W.item i s _ _ hg st λv h' tk hv uI kk=> ?_;obtain ⟨t,rfl⟩:=hv;have I1:Inv X ε σ H {s with heap:=h',toks:=tk}:=I.turned (λb o hb e=>kk b o (by simpa using hb) e) f0 f1 f3 f4 f5;refine ⟨_,rfl,tT (s:={s with heap:=h',toks:=tk}) (n:="range_iterator") uI rfl rfl (by decide) ⟨.int (lo+i),H,I1,⟨t, ?_⟩,⟨rfl,rfl⟩,uI,λb hb=>(hf b hb).1⟩⟩;rw [Int.mul_one]
 done:=by intro X hP hw hK hc i ε s σ H E I hf st hg;subst hP hw hK;obtain ⟨f0,f1,f2,f3,f4,f5⟩:=hf it (by simp);exact wpAny_pyNext_range_end (I.ok.hd hc) st (by have:n<=i:=hg;omega) λh' eb=>⟨rfl,I.turned (t':=s.toks) (λb o hb e=>eb b o hb e) f0 f1 f3 f4 f5⟩
 self:=λ_ _ _ _ _ st h=>wpAny_pyIter_rangeiter st h
section
variable{X:Cx}{tg:Expr}
theorem x9{ε:List (Addr×Obj)}{σ:St}{H:Hp}{s:Shared}{R:It->Hp->Prop}{E:Value->Shared->Prop}{lo hi:Int}{t u v:Tok}{tk:Nat}(I:Inv X ε σ H s)(h1: -(2 ^ 62)<=lo)(h2:lo < 2 ^ 62)(h3: -(2 ^ 62)<=hi)(h4:hi < 2 ^ 62)
  (q:R (Pk lo (hi - lo).toNat) H):wpAny (model X.prog X.w) X.A (pyIter (.ref s.heap.objs.size)) (Jk X ε σ tg R) E {s with heap:=s.heap.push {cls:= .type "range",data:= .fields #[.int lo t, .int hi u, .int 1 v]},toks:=tk}:=by
 refine wpAny_pyIter_range (IsRange.new ..) (small_one h1 h2 h3 h4) ?_;have I1:Inv X ε σ H {s with heap:=s.heap.push {cls:= .type "range",data:= .fields #[.int lo t, .int hi u, .int 1 v]},toks:=tk}:=I.kept λb o e=>Heap.get?_push_of_some _ e
 refine ⟨(s.heap.push {cls:= .type "range",data:= .fields #[.int lo t, .int hi u, .int 1 v]}).objs.size,[(s.heap.push {cls:= .type "range",data:= .fields #[.int lo t, .int hi u, .int 1 v]}).objs.size],_,_,H,rfl,
  I1.kept (t':=tk) λb o e=>Heap.get?_push_of_some _ e,zh _ lo (hi - lo).toNat, ?_,λb hb=> ?_,q⟩
 ·have e1:lo+((0:Nat):Int) * 1=lo:=by simp
  have e2:(((hi - lo).toNat:Nat):Int) - ((0:Nat):Int)=Builtin.Range.rangeSize lo hi 1:=by rw [rangeSize_one];split <;> omega
  show IsRangeIter _ _ (lo+((0:Nat):Int) * 1) ((((hi - lo).toNat:Nat):Int) - ((0:Nat):Int)) 1;rw [e1,e2];exact Heap.get?_push_size _ rfl
 ·have e:b=(s.heap.push {cls:= .type "range",data:= .fields #[.int lo t, .int hi u, .int 1 v]}).objs.size:=by simpa using hb
  subst e;exact I1.z_ (aaj _) (I1.aG.fresh (aaj _))
def Q9(ta:TA):TI:=λσ H R=>ta σ H λvs H1=>∃j:Int,vs=[.int j]/\ -(2 ^ 62)<=j/\j < 2 ^ 62/\R (Pk 0 j.toNat) H1
def So(ta:TA):TI:=λσ H R=>ta σ H λvs H1=>∃i j:Int,vs=[.int i, .int j]/\(-(2 ^ 62)<=i/\i < 2 ^ 62/\ -(2 ^ 62)<=j/\j < 2 ^ 62)/\R (Pk i (j - i).toNat) H1
theorem DW{a:Expr}{ta:TA}{p pos:Pos}(hg:Gl X "range")(hm:X.mg "range"=none)(ha:PA X [a] ta)(hs:starEach [a] X.env=[(false,eval a X.env)]:=by rfl):PI X tg (.Call (.Name "range" p) [a] [] pos) (Q9 ta):=by
 intro ε s σ H R I h;refine Call_ (lK I hg hm boot_range (PyProof.Rows.callWith_type1 (aS (ha pos ε s σ H _ I h) λus s1 ⟨vs,H1,I1,r1,q1⟩=> ?_) hs rfl));obtain ⟨j,e,q1,q2,q⟩:=q1;subst e;cases r1 with
 | cons r rr=>
  cases rr;obtain ⟨t,rfl⟩:=r;exact call_range_1 (x9 I1 (by omega) (by omega) q1 q2 (by simpa using q))
theorem DM{a b:Expr}{ta:TA}{p pos:Pos}(hg:Gl X "range")(hm:X.mg "range"=none)(ha:PA X [a,b] ta)(hs:starEach [a,b] X.env=[(false,eval a X.env),(false,eval b X.env)]:=by rfl)(Mt:starEach [b] X.env=[(false,eval b X.env)]:=by rfl):
  PI X tg (.Call (.Name "range" p) [a,b] [] pos) (So ta):=by
 intro ε s σ H R I h;refine Call_ (lK I hg hm boot_range (PyProof.Rows.callWith_type1 (aS (ha pos ε s σ H _ I h) λus s1 ⟨vs,H1,I1,r1,q1⟩=> ?_) (by rw [hs,Mt]) (by rw [Mt];rfl)));obtain ⟨i,j,e,⟨q1,q2,q3,q4⟩,q⟩:=q1;subst e;cases r1 with
 | cons r rr=>
  cases rr with
  | cons r' rr=>
   cases rr;obtain ⟨t,rfl⟩:=r;obtain ⟨t',rfl⟩:=r';exact call_range_2 (x9 I1 q1 q2 q3 q4 q)
def Va(wi:TI)(g:TG)(tb:TS):TS:=λD σ H=>wi σ H λJ H1=>∃W:Nat->Nat->St->Hp->Prop,(∃m,W 0 m σ H1)/\∀i m σ H,W i m σ H->
 (J.stop i H/\D.nx σ H)\/(J.go i H/\∃N:St->Hp->Prop,(∀σ' H',N σ' H'->∃m',m' < m/\W (i+1) m' σ' H')/\∀x H',J.Nn i H x H'->g x σ H' λσ2 H2=>tb {D with nx:=N,ct:=N,bk:=D.nx} σ2 H2)
def vd(fp:List Addr)(h:Heap):List (Addr×Obj):=fp.filterMap λb=>(h.get? b).map λo=>(b,o)
theorem bz{fp:List Addr}{h:Heap}{b:Addr}{o:Obj}(hb:b∈fp)(e:h.get? b=some o):(b,o)∈vd fp h:=ab3.mpr ⟨b,hb,by rw [e];rfl⟩
theorem Ej{fp:List Addr}{h:Heap}{p:Addr×Obj}(hp:p∈vd fp h):p.1∈fp/\h.get? p.1=some p.2:=by
 obtain ⟨b,hb,e⟩:=ab3.mp hp;cases q:h.get? b with
 | none=>rw [q] at e;cases e
 | some o=>
  rw [q] at e;have e':(b,o)=p:=aar e;subst e';exact ⟨hb,q⟩
theorem Inv.pinned{ε:List (Addr×Obj)}{σ:St}{H:Hp}{s:Shared}{fp:List Addr}(I:Inv X ε σ H s)(hf:∀b∈fp,lQ X ε H b)(ho:∀b∈fp,∃o,s.heap.get? b=some o/\∀v,o.data≠ .cell v):Inv X (ε++vd fp s.heap) σ H s:=
 I.By λp hp=>(aaN.mp hp).elim (λz=>I.pin p (aan _ z)) λz=>by obtain ⟨hb,e⟩:=Ej z;obtain ⟨f0,f1,f2,_⟩:=hf p.1 hb;obtain ⟨o,e',d⟩:=ho p.1 hb;rw [e] at e';cases e';exact ⟨e,f0,f1,f2,d⟩
theorem Inv.fW{ε pl:List (Addr×Obj)}{σ:St}{H:Hp}{s:Shared}(I:Inv X (ε++pl) σ H s):Inv X ε σ H s:=I.By λp hp=>I.pin p (aan _ (List.mem_append_left _ hp))
theorem AY{iter:Expr}{body:List Stmt}{wi:TI}{g:TG}{tb:TS}{pos:Pos}(hp:PassesOwn (model X.prog X.w) X.A X.env X.xe)(hc:X.calm=true)(hi:PI X tg iter wi)(hg:PG X tg g)(hb:EV X body tb)
  (hs:∀x,foldedSetIterable iter X.env x=pure x:=by intro _;rfl):PS X (.For tg iter body [] pos) (Va wi g tb):=by
 intro ε s σ H D I h;refine wpAny_For (aS (hi ε s σ H _ I h) λv s1 h1=>aS h1 λO5 s2 h2=> ?_) hs;obtain ⟨it,fp,tn,J,H2,e,I2,T,st2,f2,W,⟨m0,w0⟩,turn⟩:=h2;subst e;have MC:∀{H':Hp},(∀b∈fp,H' b=none)->∀b∈fp,lQ X ε H' b:=λhn b hb=>⟨hn b hb,(f2 b hb).2⟩;refine codeAny_forLoop_any (λn s'=>∃i σ' H',Inv X ε σ' H' s'/\tn i s'.heap/\(∀b∈fp,H' b=none)/\W i n σ' H') ?_ m0 ⟨0,σ,H2,I2,st2,λb hb=>(f2 b hb).1,w0⟩;rintro n s3 ⟨i,σ3,H3,I3,X_,X0,w3⟩;rcases turn i n σ3 H3 w3 with ⟨stop,qn⟩ | ⟨go,N,hN,step⟩
 ·refine wpAny_passesOwn hp (aS (T.done X rfl rfl rfl hc i ε s3 σ3 H3 X.xe I3 (MC X0) X_ stop) λr s4 ⟨hr,I4⟩=> ?_);subst hr;exact wpAny_execs_nil ⟨σ3,H3,I4,qn⟩
 ·refine wpAny_passesOwn hp (aS (T.item X rfl rfl rfl hc i ε s3 σ3 H3 X.xe I3 (MC X0) X_ go) λr s4 ⟨u,hr,h4⟩=> ?_);subst hr;refine wpAny_passesOwn hp (aS h4 λ_ s5 ⟨x,H5,I5,r5,y5,Tw,Jh⟩=> ?_);have YB:=I5.pinned (MC Jh) (T.obj _ _ Tw);refine wpAny_passesOwn hp (aS (hg _ s5 σ3 H5 x u _ YB r5 (step x H5 y5)) λ_ s6 ⟨σ6,H6,I6,q6⟩=> ?_);refine wpAny_passesOwn hp (aS (hb _ s6 σ6 H6 _ I6 q6) λf s7 q7=> ?_);have again:∀{σ7:St} {H7:Hp},Inv X (ε++vd fp s5.heap) σ7 H7 s7->N σ7 H7->∃m,m < n/\∃i σ' H',Inv X ε σ' H' s7/\tn i s7.heap/\(∀b∈fp,H' b=none)/\W i m σ' H':=λ{σ7 H7} I7 n7=>by obtain ⟨m',hm,w7⟩:=hN σ7 H7 n7;refine ⟨m',hm,i+1,σ7,H7,I7.fW,T.keep _ _ _ Tw λb hb o e=>(I7.pin (b,o) (aan _ (aan _ (bz hb e)))).1,λb hb=> ?_,w7⟩;obtain ⟨o,e,d⟩:=T.obj _ _ Tw b hb;exact (I7.pin (b,o) (aan _ (aan _ (bz hb e)))).2.1
  cases f with
  | next=>obtain ⟨σ7,H7,I7,n7⟩:=q7;exact again I7 n7
  | cont=>obtain ⟨σ7,H7,I7,n7⟩:=q7;exact again I7 n7
  | brk=>obtain ⟨σ7,H7,I7,q7⟩:=q7;exact ⟨σ7,H7,I7.fW,q7⟩
  | ret v=>obtain ⟨x7,σ7,H7,I7,r7,q7⟩:=q7;exact ⟨x7,σ7,H7,I7.fW,r7,q7⟩
end
abbrev R2:=V->V->Hp->VK->Prop
def jq(X:Cx)(f:Value->Value->Sem Value)(r:R2):Prop:=
 ∀(ε:List (Addr×Obj)) (s:Shared) (σ:St) (H:Hp) (x y:V) (v u:Value) (Q:VK),Inv X ε σ H s->au x v->au y u->r x y H Q->
  wpAny (model X.prog X.w) X.A (f v u) (EP X ε σ Q) X.xe s
def Tc(X:Cx)(f:Value->Sem Value)(r:V->Hp->VK->Prop):Prop:=
 ∀(ε:List (Addr×Obj)) (s:Shared) (σ:St) (H:Hp) (x:V) (v:Value) (Q:VK),Inv X ε σ H s->au x v->r x H Q->
  wpAny (model X.prog X.w) X.A (f v) (EP X ε σ Q) X.xe s
def cM(X:Cx)(f:Value)(r:List V->Hp->VK->Prop):Prop:=
 ∀(ε:List (Addr×Obj)) (s:Shared) (σ:St) (H:Hp) (xs:List V) (us:List Value) (Q:VK),Inv X ε σ H s->ao xs us->r xs H Q->
  wpAny (model X.prog X.w) X.A (call f us) (EP X ε σ Q) X.xe s
def PH(r:R2)(ta tb:TE):TE:=λσ H Q=>ta σ H λx H1=>tb σ H1 λy H2=>r x y H2 Q
def Xd(r:V->Hp->VK->Prop)(ta:TE):TE:=λσ H Q=>ta σ H λx H1=>r x H1 Q
def rI(C:Int->Int->Prop)(g:Int->Int->V):R2:=λx y H Q=>∃i j,x= .int i/\y= .int j/\C i j/\Q (g i j) H
def DV(g:Int->Int->V):R2:=λx y H Q=>∃i j,x= .int i/\y= .int j/\Q (g i j) H
def rU(g:Int->V):V->Hp->VK->Prop:=λx H Q=>∃i,x= .int i/\Q (g i) H
section
variable{X:Cx}{a b c:Expr}{ta tb tc:TE}{pos:Pos}
theorem Oh(ha:PE X a ta)(hb:PE X b tb){ε:List (Addr×Obj)}{s:Shared}{σ:St}{H:Hp}{R:V->V->Hp->Prop}(I:Inv X ε σ H s)
  (h:ta σ H λx H1=>tb σ H1 λy H2=>R x y H2) {Q:Value->Shared->Prop} {f:Value->Value->Sem Value}
  (hf:∀v u s2 x y H2,Inv X ε σ H2 s2->au x v->au y u->R x y H2->wpAny (model X.prog X.w) X.A (f v u) Q X.xe s2):
  wpAny (model X.prog X.w) X.A (eval a X.env) (λv s₁=>wpAny (model X.prog X.w) X.A (eval b X.env) (λu s₂=>wpAny (model X.prog X.w) X.A (f v u) Q X.xe s₂) X.xe s₁) X.xe s:=by
 refine aS (ha ε s σ H _ I h) λv s1 ⟨x,H1,I1,r1,q1⟩=> ?_;refine aS (hb ε s1 σ H1 _ I1 q1) λu s2 ⟨y,H2,I2,r2,q2⟩=> ?_;exact hf v u s2 x y H2 I2 r1 r2 q2
theorem Rx{op:Operator}{r:R2}(ho:jq X (binaryOp op) r)(ha:PE X a ta)(hb:PE X b tb):PE X (.BinOp a op b pos) (PH r ta tb):=by intro ε s σ H Q I h;exact wpAny_BinOp (Oh ha hb I h λv u s2 x y H2 I2 rx ry q=>ho ε s2 σ H2 x y v u Q I2 rx ry q)
theorem RD{op:UnaryOp}{r:V->Hp->VK->Prop}(ho:Tc X (unaryOp op) r)(ha:PE X a ta):PE X (.UnaryOp op a pos) (Xd r ta):=by intro ε s σ H Q I h;exact UnaryOp_ (aS (ha ε s σ H _ I h) λv s1 ⟨x,H1,I1,r1,q1⟩=>ho ε s1 σ H1 x v Q I1 r1 q1)
theorem SR{f:Value->Value->Sem Value}{C:Int->Int->Prop}{g:Int->Int->Int}
  (rule:∀(i j:Int) (t u:Tok) (s:Shared) (Q:Value->Shared->Prop) (E:Value->Shared->Prop),C i j->Q (.int (g i j) s.toks) {s with toks:=s.toks+1}->wpAny (model X.prog X.w) X.A (f (.int i t) (.int j u)) Q E s):
  jq X f (rI C λi j=> .int (g i j)):=by
 intro ε s σ H x y v u Q I rx ry h;obtain ⟨i,j,rfl,rfl,hc,q⟩:=h;obtain ⟨t,rfl⟩:=rx;obtain ⟨t',rfl⟩:=ry;exact rule i j t t' s _ _ hc ⟨.int (g i j),H,I.tok _,⟨_,rfl⟩,q⟩
theorem RH{f:Value->Value->Sem Value}{g:Int->Int->Int}
  (rule:∀(i j:Int) (t u:Tok) (s:Shared) (Q:Value->Shared->Prop) (E:Value->Shared->Prop),Q (.int (g i j) s.toks) {s with toks:=s.toks+1}->wpAny (model X.prog X.w) X.A (f (.int i t) (.int j u)) Q E s):
  jq X f (DV λi j=> .int (g i j)):=by
 intro ε s σ H x y v u Q I rx ry h;obtain ⟨i,j,rfl,rfl,q⟩:=h;obtain ⟨t,rfl⟩:=rx;obtain ⟨t',rfl⟩:=ry;exact rule i j t t' s _ _ ⟨.int (g i j),H,I.tok _,⟨_,rfl⟩,q⟩
theorem Kc{f:Value->Value->Sem Value}{g:Int->Int->Bool}
  (rule:∀(i j:Int) (t u:Tok) (s:Shared) (Q:Value->Shared->Prop) (E:Value->Shared->Prop),Q (.bool (g i j)) s->wpAny (model X.prog X.w) X.A (f (.int i t) (.int j u)) Q E s):
  jq X f (DV λi j=> .bl (g i j)):=by
 intro ε s σ H x y v u Q I rx ry h;obtain ⟨i,j,rfl,rfl,q⟩:=h;obtain ⟨t,rfl⟩:=rx;obtain ⟨t',rfl⟩:=ry;exact rule i j t t' s _ _ ⟨.bl (g i j),H,I,rfl,q⟩
def yv(i j:Int):Prop:=0<=j/\j<=1000000/\i.natAbs < 2 ^ 64
theorem Ou:jq X (binaryOp .Add) (DV λi j=> .int (i+j)):=RH λ_ _ _ _ _ _ _ q=>add_int q
theorem NV:jq X (binaryOp .Sub) (DV λi j=> .int (i - j)):=RH λ_ _ _ _ _ _ _ q=>sub_int q
theorem OU:jq X (binaryOp .Mod) (rI (λ_ j=>0 < j) λi j=> .int (i % j)):=SR λi j _ _ _ _ _ hc q=>by have h1:(0:Int) < j:=hc;exact mod_int' (by omega) (by rw [abB i (by omega)];exact q)
theorem Mv:jq X (binaryOp .Pow) (rI yv λi j=> .int (i ^ j.toNat)):=SR λ_ _ _ _ _ _ _ hc q=>pow_int_small hc.1 hc.2.1 hc.2.2 q
theorem Z_{f:Value->Sem Value}{g:Int->Int}
  (rule:∀(i:Int) (t:Tok) (s:Shared) (Q:Value->Shared->Prop) (E:Value->Shared->Prop),Q (.int (g i) s.toks) {s with toks:=s.toks+1}->wpAny (model X.prog X.w) X.A (f (.int i t)) Q E s):
  Tc X f (rU λi=> .int (g i)):=by
 intro ε s σ H x v Q I rx h;obtain ⟨i,rfl,q⟩:=h;obtain ⟨t,rfl⟩:=rx;exact rule i t s _ _ ⟨.int (g i),H,I.tok _,⟨_,rfl⟩,q⟩
theorem N0:Tc X (unaryOp .USub) (rU λi=> .int (-i)):=Z_ λ_ _ _ _ _ q=>neg_int q
end
def QC:V->V->Bool
 | .br, .br=>true | .br, .int _=>true | .int _, .br=>true | .br, .bl _=>true | .bl _, .br=>true | .br, .str _=>true | .str _, .br=>true
 | .int _, .int _=>true | .bl _, .bl _=>true | .str _, .str _=>true | .EU _, .EU _=>true
 | .int _, .str _=>true | .str _, .int _=>true | .bl _, .str _=>true | .str _, .bl _=>true
 | _,_=>false
def Xi:R2:=λx y H Q=>QC x y=true/\Q (.bl (decide (x=y))) H
def X1:R2:=λx y H Q=>QC x y=true/\Q (.bl (!decide (x=y))) H
theorem Cn{i j:Int}:decide (V.int i=V.int j)=(i==j):=by rw [Bool.eq_iff_iff];simp
theorem GZ{i j:Bool}:decide (V.bl i=V.bl j)=(i==j):=by rw [Bool.eq_iff_iff];simp
theorem BA{i j:Str}:decide (V.str i=V.str j)=(i==j):=by rw [Bool.eq_iff_iff];simp
theorem BZ{i j:Array UInt8}:decide (V.EU i=V.EU j)=(i.toList==j.toList):=by rw [Bool.eq_iff_iff];cases i;cases j;simp
section
variable{X:Cx}{a b c:Expr}{ta tb tc:TE}{pos:Pos}
theorem aD{ε:List (Addr×Obj)}{σ:St}{H:Hp}{s:Shared}{Q:VK}{k k':Bool}(I:Inv X ε σ H s)(q:Q (.bl k) H)(e:k=k'):EP X ε σ Q (.bool k') s:=by subst e;exact ⟨.bl k,H,I,rfl,q⟩
theorem LZ:jq X (compareOp .Eq) Xi:=by
 intro ε s σ H x y v u Q I rx ry h;obtain ⟨hs,q⟩:=h;cases x with
 | br=>
  cases rx;cases y with
  | br=>cases ry;exact PySem.EqNone.eq_none_none (aD I q (by simp))
  | bl j=>cases ry;exact PySem.EqNone.eq_none_bool (aD I q (by simp))
  | int j=>obtain ⟨t',rfl⟩:=ry;exact PySem.EqNone.eq_none_int (aD I q (by simp))
  | str j=>obtain ⟨t',rfl⟩:=ry;exact PySem.EqNone.eq_none_str (aD I q (by simp))
  | _=>exact absurd (show false=true from hs) aax
 | bl i=>
  cases rx;cases y with
  | br=>cases ry;exact PySem.EqNone.eq_bool_none (aD I q (by simp))
  | bl j=>cases ry;exact eq_bool (aD I q GZ)
  | str j=>obtain ⟨t',rfl⟩:=ry;exact PySem.EqMixed.eq_bool_str (aD I q (by simp))
  | _=>exact absurd (show false=true from hs) aax
 | int i=>
  obtain ⟨t,rfl⟩:=rx;cases y with
  | br=>cases ry;exact PySem.EqNone.eq_int_none (aD I q (by simp))
  | int j=>obtain ⟨t',rfl⟩:=ry;exact eq_int (aD I q Cn)
  | str j=>obtain ⟨t',rfl⟩:=ry;exact PySem.EqMixed.eq_int_str (aD I q (by simp))
  | _=>exact absurd (show false=true from hs) aax
 | str i=>
  obtain ⟨t,rfl⟩:=rx;cases y with
  | br=>cases ry;exact PySem.EqNone.eq_str_none (aD I q (by simp))
  | bl j=>cases ry;exact PySem.EqMixed.eq_str_bool (aD I q (by simp))
  | int j=>obtain ⟨t',rfl⟩:=ry;exact PySem.EqMixed.eq_str_int (aD I q (by simp))
  | str j=>obtain ⟨t',rfl⟩:=ry;exact eq_str (aD I q BA)
  | _=>exact absurd (show false=true from hs) aax
 | EU i=>
  obtain ⟨t,rfl⟩:=rx;cases y with
  | EU j=>obtain ⟨t',rfl⟩:=ry;exact PySem.W.eq_bytes (aD I q BZ)
  | _=>exact absurd (show false=true from hs) aax
 | _=>cases y <;> exact absurd (show false=true from hs) aax
theorem R5:jq X (compareOp .NotEq) X1:=by
 intro ε s σ H x y v u Q I rx ry h;obtain ⟨hs,q⟩:=h;cases x with
 | br=>
  cases rx;cases y with
  | br=>cases ry;exact PySem.EqNone.ne_none_none (aD I q (by simp))
  | bl j=>cases ry;exact PySem.EqNone.ne_none_bool (aD I q (by simp))
  | int j=>obtain ⟨t',rfl⟩:=ry;exact PySem.EqNone.ne_none_int (aD I q (by simp))
  | str j=>obtain ⟨t',rfl⟩:=ry;exact PySem.EqNone.ne_none_str (aD I q (by simp))
  | _=>exact absurd (show false=true from hs) aax
 | bl i=>
  cases rx;cases y with
  | br=>cases ry;exact PySem.EqNone.ne_bool_none (aD I q (by simp))
  | bl j=>cases ry;exact ne_bool (aD I q (congrArg not GZ))
  | str j=>obtain ⟨t',rfl⟩:=ry;exact PySem.EqMixed.ne_bool_str (aD I q (by simp))
  | _=>exact absurd (show false=true from hs) aax
 | int i=>
  obtain ⟨t,rfl⟩:=rx;cases y with
  | br=>cases ry;exact PySem.EqNone.ne_int_none (aD I q (by simp))
  | int j=>obtain ⟨t',rfl⟩:=ry;exact ne_int (aD I q (congrArg not Cn))
  | str j=>obtain ⟨t',rfl⟩:=ry;exact PySem.EqMixed.ne_int_str (aD I q (by simp))
  | _=>exact absurd (show false=true from hs) aax
 | str i=>
  obtain ⟨t,rfl⟩:=rx;cases y with
  | br=>cases ry;exact PySem.EqNone.ne_str_none (aD I q (by simp))
  | bl j=>cases ry;exact PySem.EqMixed.ne_str_bool (aD I q (by simp))
  | int j=>obtain ⟨t',rfl⟩:=ry;exact PySem.EqMixed.ne_str_int (aD I q (by simp))
  | str j=>obtain ⟨t',rfl⟩:=ry;exact ne_str (aD I q (congrArg not BA))
  | _=>exact absurd (show false=true from hs) aax
 | EU i=>
  obtain ⟨t,rfl⟩:=rx;cases y with
  | EU j=>obtain ⟨t',rfl⟩:=ry;exact PySem.W.ne_bytes (aD I q (congrArg not BZ))
  | _=>exact absurd (show false=true from hs) aax
 | _=>cases y <;> exact absurd (show false=true from hs) aax
theorem Mb:jq X (compareOp .Lt) (DV λi j=> .bl (decide (i < j))):=Kc λ_ _ _ _ _ _ _ q=>lt_int q
theorem Sw:jq X (compareOp .LtE) (DV λi j=> .bl (decide (i<=j))):=Kc λ_ _ _ _ _ _ _ q=>le_int q
theorem RB:jq X (compareOp .Gt) (DV λi j=> .bl (decide (j < i))):=Kc λ_ _ _ _ _ _ _ q=>gt_int q
theorem R_:jq X (compareOp .GtE) (DV λi j=> .bl (decide (j<=i))):=Kc λ_ _ _ _ _ _ _ q=>ge_int q
theorem OH:jq X (compareOp .Is) (λx y H Q=>y= .br/\Q (.bl (decide (x= .br))) H):=by
 intro ε s σ H x y v u Q I rx ry h;obtain ⟨rfl,q⟩:=h;cases ry;refine is_none_gen (aD I q ?_)
 cases x <;> first
  | (cases rx;rfl)
  | (obtain ⟨t,rfl⟩:=rx;rfl)
theorem jq.or{f:Value->Value->Sem Value}{r r':R2}(h:jq X f r)(h':jq X f r'):jq X f (λx y H Q=>r x y H Q\/r' x y H Q):=by
 intro ε s σ H x y v u Q I rx ry q;rcases q with q | q
 ·exact h ε s σ H x y v u Q I rx ry q
 ·exact h' ε s σ H x y v u Q I rx ry q
theorem iM(b:Expr){op:CmpOp}(h:op≠ .In:=by decide)(h2:op≠ .NotIn:=by decide):behindInMarks op b=false:=by
 have e1:(op==CmpOp.In)=false:=by cases op <;> first | rfl | exact absurd rfl h
 have e2:(op==CmpOp.NotIn)=false:=by cases op <;> first | rfl | exact absurd rfl h2
 cases b <;> simp [behindInMarks,e1,e2]
theorem JJ{op:CmpOp}{r:R2}(ho:jq X (compareOp op) r)(ha:PE X a ta)(hb:PE X b tb)(hm:behindInMarks op b=false):PE X (.Compare a [op] [b] pos) (PH r ta tb):=by intro ε s σ H Q I h;exact wpAny_Compare1 (Oh ha hb I h λv u s2 x y H2 I2 rx ry q=>ho ε s2 σ H2 x y v u Q I2 rx ry q) hm
def Qn(t:TE):TT:=λσ H Q=>t σ H λx H'=>∃k,x= .bl k/\Q k H'
theorem Kp{op:CmpOp}{r:R2}(ho:jq X (compareOp op) r)(ha:PE X a ta)(hb:PE X b tb)(hm:behindInMarks op b=false):PT X (.Compare a [op] [b] pos) (Qn (PH r ta tb)):=by
 intro ε s σ H Q I h
 refine wpAny_isTrue_Compare1 (aS (ha ε s σ H _ I h) λv s1 ⟨x,H1,I1,r1,q1⟩=>aS (hb ε s1 σ H1 _ I1 q1) λu s2 ⟨y,H2,I2,r2,q2⟩=>
  aS (ho ε s2 σ H2 x y v u _ I2 r1 r2 q2) λc s3 ⟨z,H3,I3,r3,k,e,q3⟩=> ?_) hm
 subst e;cases r3;exact wpAny_truthy_bool ⟨H3,I3,q3⟩
theorem nC:(sizeLine:Nat) < 2 ^ 63:=by rw [sizeLine_eq];decide
theorem AX:jq X (binaryOp .Add) (λx y H Q=>∃i j,x= .str i/\y= .str j/\i.length+j.length<=sizeLine/\Q (.str (i++j)) H):=by intro ε s σ H x y v u Q I rx ry h;obtain ⟨i,j,rfl,rfl,hz,q⟩:=h;obtain ⟨t,rfl⟩:=rx;obtain ⟨t',rfl⟩:=ry;exact add_str (λt' tk=>⟨.str (i++j),H,I.tok _,⟨_,rfl⟩,q⟩) hz
theorem j5{x:V}{us:List Value}(r:ao [x] us):∃u,us=[u]/\au x u:=by
 cases r with
 | cons r1 r2=>cases r2;exact ⟨_,rfl,r1⟩
theorem IV{x y:V}{us:List Value}(r:ao [x,y] us):∃u w',us=[u,w']/\au x u/\au y w':=by
 cases r with
 | cons r1 r2=>
  cases r2 with
  | cons r3 r4=>cases r4;exact ⟨_,_,rfl,r1,r3⟩
theorem Fd:cM X (.builtin "abs") (λxs H Q=>∃i,xs=[.int i]/\Q (.int (if i < 0 then -i else i)) H):=by intro ε s σ H xs us Q I r h;obtain ⟨i,rfl,q⟩:=h;obtain ⟨u,rfl,t,rfl⟩:=j5 r;exact call_abs_int λu tk=>⟨.int (if i < 0 then -i else i),H,I.tok _,⟨_,rfl⟩,q⟩
theorem C7(hc:X.calm=true):cM X (.builtin "max") (λxs H Q=>∃i j,xs=[.int i, .int j]/\Q (.int (if j > i then j else i)) H):=by
 intro ε s σ H xs us Q I r h;obtain ⟨i,j,rfl,q⟩:=h;obtain ⟨u,w',rfl,⟨t,rfl⟩,⟨t',rfl⟩⟩:=IV r;refine max_two_ints (I.ok.hd hc) λh' tk k=>⟨_,H,I.kept k, ?_,q⟩;by_cases hj:j > i
 ·rw [if_pos hj,if_pos hj];exact ⟨_,rfl⟩
 ·rw [if_neg hj,if_neg hj];exact ⟨_,rfl⟩
theorem C_(hc:X.calm=true):cM X (.builtin "min") (λxs H Q=>∃i j,xs=[.int i, .int j]/\Q (.int (if j < i then j else i)) H):=by
 intro ε s σ H xs us Q I r h;obtain ⟨i,j,rfl,q⟩:=h;obtain ⟨u,w',rfl,⟨t,rfl⟩,⟨t',rfl⟩⟩:=IV r;refine min_two_ints (I.ok.hd hc) λh' tk k=>⟨_,H,I.kept k, ?_,q⟩;by_cases hj:j < i
 ·rw [if_pos hj,if_pos hj];exact ⟨_,rfl⟩
 ·rw [if_neg hj,if_neg hj];exact ⟨_,rfl⟩
theorem Dh:cM X (.type "int") (λxs H Q=>(∃i,xs=[.int i]/\Q (.int i) H)\/∃k,xs=[.bl k]/\Q (.int (if k then 1 else 0)) H):=by
 intro ε s σ H xs us Q I r h;rcases h with ⟨i,rfl,q⟩ | ⟨k,rfl,q⟩
 ·obtain ⟨u,rfl,t,rfl⟩:=j5 r;exact call_int_int ⟨.int i,H,I,⟨_,rfl⟩,q⟩
 ·obtain ⟨u,rfl,r1⟩:=j5 r;cases r1;exact call_int_bool ⟨.int (if k then 1 else 0),H,I.tok _,⟨_,rfl⟩,q⟩
end
structure A7(h:Heap)(x dx C:Addr)(mA:Str->Option Value):Prop where
 obj:h.get? x=some (PySem.W.instObj C dx)
 ns:h.Ns1 dx mA
 ne:dx≠x
theorem Em{h:Heap}{dx:Addr}{mA:Str->Option Value}(n:h.Ns1 dx mA):∃od,h.get? dx=some od/\∀name,PySem.W.lookIn name od=some (mA name):=by
 obtain ⟨o,es,ep,ho,hd,hk,_,hm⟩:=n;refine ⟨o,ho,λname=> ?_⟩;have e:=hm name;unfold nsFind findBy at e;rw [<-Array.find?_toList] at e;unfold PySem.W.lookIn;rw [hd];dsimp only;split
 ·rename_i y q;rw [q] at e;exact congrArg some e
 ·rename_i q;rw [q] at e;have a:es.toList.any (·.refKey)=false:=by rw [List.any_eq_false];intro y hy;obtain ⟨z,t,Vq⟩:=hk y (Array.mem_toList_iff.mp hy);simp [DictEntry.refKey,Vq]
  have a':¬es.toList.any (·.refKey)=true:=by rw [a];exact aax
  rw [if_neg a'];exact congrArg some e
theorem A7.look{h:Heap}{x dx C:Addr}{mA:Str->Option Value}(I:A7 h x dx C mA):∃od,PySem.W.InstAt h x (PySem.W.instObj C dx) C (some od)/\∀name,PySem.W.lookIn name od=some (mA name):=
 let ⟨od,ho,hl⟩:=Em I.ns
 ⟨od,⟨I.obj,rfl,rfl,ho⟩,hl⟩
section
variable{prog:Program}{w:World}{A:Around}{E:Value->Shared->Prop}{s:Shared}{K:PySem.W.Frag}{x dx C f:Addr}{mA:Str->Option Value}{name:Str}{v:Value}
theorem pG{expr:Bool}{Q:Value->Shared->Prop}(X:K.In s.heap)(I:A7 s.heap x dx C mA)(hg:PySem.W.plainGet K C name=true)(hh:PySem.W.hasDictIn K C=true)
  (ha:PySem.W.findIn K (.ref C) name=some none) (hv:mA name=some v) (hv':PySem.W.handedIn v=true) (h:Q v {s with toks:=s.toks+1}):
  wpAny (model prog w) A (getAttr (.ref x) name expr) Q E s:=by
 obtain ⟨od,J,hl⟩:=I.look;exact PySem.W.get_value X J (PySem.W.plainGet_of hg).1 (PySem.W.findObj_own hh ha rfl (by rw [hl,hv])) hv' h
theorem IP{pl:Sem Bool}{Q:Value×List Value->Shared->Prop}(X:K.In s.heap)(I:A7 s.heap x dx C mA)(hg:PySem.W.plainGet K C name=true)
  (hf:PySem.W.findIn K (.ref C) name=some (some (.ref f))) (ht:PySem.W.isFn K (.ref f)=true) (hv:mA name=none) (h:Q (.ref f,[.ref x]) s):
  wpAny (model prog w) A (getMethod (.ref x) name pl) Q E s:=by
 obtain ⟨od,J,hl⟩:=I.look;exact PySem.W.method_fn X J (PySem.W.plainGet_of hg).1 (PySem.W.plainGet_of hg).2 hf (beq_iff_eq.mp ht) (by show (PySem.W.lookIn name od).map (·.isSome)=some false;rw [hl,hv];rfl) h
theorem Jp{ns:List Str}{Q:Unit->Shared->Prop}(X:K.In s.heap)(I:A7 s.heap x dx C mA)
  (hs:PySem.W.findIn K (.ref C) "__setattr__"=some (some (.builtin "object.__setattr__"))) (hp:PySem.W.plainOver K C=true) (ht:PySem.W.takerIn K C name=some none) (hh:PySem.W.hasDictIn K C=true)
  (hw:PySem.Within mA ns) (hsz:ns.length<=sizeLine)
  (h:∀h',A7 h' x dx C (λy=>if y=name then some v else mA y)->Heap.SameBut dx s.heap h'->Q () {s with heap:=h',toks:=s.toks+2}):
  wpAny (model prog w) A (setAttr (.ref x) name v) Q E s:=by
 obtain ⟨od,J,hl⟩:=I.look;refine PySem.W.set_plain X J hs (PySem.W.osa_open (s:={s with toks:=s.toks+1}) (r:=none) X J hp ht λb=> ?_);obtain ⟨cd,hc,K5⟩:=PySem.W.any_some hh;have hx:s.heap.get? x=some ⟨.ref C,some dx, .plain, #[]⟩:=I.obj;refine wpAny_bind (wpAny_pure (wpAny_bind (wpAny_bind (wpAny_loadPart hx (wpAny_bind (PySem.W.Looks.here (s:={s with toks:=s.toks+1}) (PySem.W.looks_clsIn X hc) ?_))))));rw [K5];refine wpAny_pure (a:=some dx) (wpAny_bind (wpAny_pure (wpAny_bind ?_)));refine wpAny_nsSet1 (s:={s with toks:=s.toks+1}) I.ns λh' SQ Mt=> ?_;obtain ⟨oD,esD,epD,Zx,hdD,hcD⟩:=SQ.count (PySem.Within.cons name v hw);refine wpAny_bind (wpAny_lookBehind Zx (by rw [hdD];exact pastItsLine_dict (aaw hcD (by rw [aau];omega))) ?_);exact wpAny_pure (h _ ⟨(Mt.2 _ (Ne.symm I.ne)).trans I.obj,SQ,I.ne⟩ Mt)
theorem HG{R:Result->Shared->Prop}{vs:List Value}{kw:List (Str×Value)}(X:K.In s.heap)(hm:PySem.W.makesIn K C=true)
  (hi:PySem.W.findIn K (.ref C) "__init__"=some (some (.ref f))) (hf:PySem.W.typeIn K (.ref f)=some (.type "function"))
  (h:codeAny (model prog w) (A.under (.builtin "type.__call__" ⟨.ref C::vs,kw⟩)) (.call (.ref f) ⟨.ref (s.heap.objs.size+1)::vs,kw⟩) (PySem.W.InitBack (s.heap.objs.size+1) R)
   {s with heap:=(s.heap.push PySem.W.emptyDict).push (PySem.W.instObj C s.heap.objs.size)}):
  codeAny (model prog w) A (.call (.ref C) ⟨vs,kw⟩) R s:=by
 obtain ⟨hh,g,d,t,os⟩:=s;exact PySem.W.make_core (PySem.W.makes_of X hm) (PySem.W.looks_findIn X hi) (λself=>PySem.W.bind_fn X self hf) (.inl rfl) h
end
def jk(f:Str)(v:V):List (Str×V)->List (Str×V)
 | []=>[(f,v)]
 | (g,x)::r=>if g=f then (g,v)::r else (g,x)::jk f v r
theorem oJ(f g:Str)(v:V):∀fs:List (Str×V),(jk f v fs).lookup g=if g=f then some v else fs.lookup g
 | []=>by
  show List.lookup g [(f,v)]=_;by_cases h:g=f
  ·have hb:(g==f)=true:=beq_iff_eq.mpr h;simp only [List.lookup,hb,if_pos h]
  ·have hb:(g==f)=false:=beq_eq_false_iff_ne.mpr h;simp only [List.lookup,hb,if_neg h]
 | (k,x)::r=>by
  have ih:=oJ f g v r;rw [show jk f v ((k,x)::r)=(if k=f then (k,v)::r else (k,x)::jk f v r) from rfl];by_cases hk:k=f
  ·rw [if_pos hk];by_cases h:g=k
   ·have hb:(g==k)=true:=beq_iff_eq.mpr h;simp only [List.lookup,hb,if_pos (h.trans hk)]
   ·have hb:(g==k)=false:=beq_eq_false_iff_ne.mpr h;simp only [List.lookup,hb,if_neg (λe:g=f=>h (e.trans hk.symm))]
  ·rw [if_neg hk];by_cases h:g=k
   ·have hb:(g==k)=true:=beq_iff_eq.mpr h;simp only [List.lookup,hb,if_neg (λe:g=f=>hk (h.symm.trans e))]
   ·have hb:(g==k)=false:=beq_eq_false_iff_ne.mpr h;simp only [List.lookup,hb];exact ih
theorem ng(f:Str)(v:V):∀fs:List (Str×V),f∈(jk f v fs).map (·.1)/\∀g,g∈fs.map (·.1)->g∈(jk f v fs).map (·.1)
 | []=>⟨by simp [jk],λg h=>by simp at h⟩
 | (k,x)::r=>by
  obtain ⟨i1,i2⟩:=ng f v r;rw [show jk f v ((k,x)::r)=(if k=f then (k,v)::r else (k,x)::jk f v r) from rfl];by_cases hk:k=f
  ·rw [if_pos hk];subst hk;exact ⟨by simp,λg h=>by simpa using h⟩
  ·rw [if_neg hk];refine ⟨?_,λg h=> ?_⟩
   ·rw [aaF];exact aad _ i1
   ·rw [aaF] at h⊢;rcases aay.mp h with e | e
    ·exact aay.mpr (.inl e)
    ·exact aad _ (i2 g e)
theorem oo(f:Str)(v:V):∀fs:List (Str×V),(jk f v fs).length<=fs.length+1
 | []=>by simp [jk]
 | (k,x)::r=>by
  have ih:=oo f v r;rw [show jk f v ((k,x)::r)=(if k=f then (k,v)::r else (k,x)::jk f v r) from rfl];by_cases hk:k=f
  ·rw [if_pos hk,aau,aau];omega
  ·rw [if_neg hk,aau,aau];omega
theorem jx.some_of{v:V}{o:Option Value}(r:jx (some v) o):∃u,o=some u/\au v u:=by
 cases o with
 | none=>exact (show False from r).elim
 | some u=>exact ⟨u,rfl,r⟩
theorem jx.none_of{o:Option Value}(r:jx none o):o=none:=by
 cases o with
 | none=>rfl
 | some u=>exact (show False from r).elim
theorem DY{v:V}{u:Value}(r:au v u):PySem.W.handedIn u=true:=by
 cases v with
 | br=>cases (show u=Value.none from r);rfl
 | bl b=>cases (show u=Value.bool b from r);rfl
 | int i=>obtain ⟨t,e⟩:=(show∃t,u=Value.int i t from r);cases e;rfl
 | str x=>obtain ⟨t,e⟩:=(show∃t,u=Value.str x t from r);cases e;rfl
 | EU b=>obtain ⟨t,e⟩:=(show∃t,u=Value.bytes b t from r);cases e;rfl
 | MB b=>obtain ⟨t,e⟩:=(show∃t,u=Value.float b t from r);cases e;rfl
 | ref a=>cases (show u=Value.ref a from r);rfl
 | ty n=>cases (show u=Value.type n from r);rfl
section
variable{P:Program}{w:World}{H H':Hp}{h h':Heap}{a C dx:Addr}{fs Vj:List (Str×V)}
theorem pe(aG:ky P w H h)(e:H a=some (.ins C dx fs)):∃mA,A7 h a dx C mA/\(∀f,jx (fs.lookup f) (mA f))/\PySem.Within mA (fs.map (·.1))/\fs.length<=1000/\H dx=some (.own a):=by obtain ⟨d,z,ne,ob,mA,n,r,q⟩:=(show bD P w H h a (.ins C dx fs) from aG a _ e);exact ⟨mA,⟨ob,n,ne⟩,r,q,z,d⟩
end
structure Cq(K:PySem.W.Frag)(C:Addr):Prop where
 pg:PySem.W.plainGet K C Str.empty=true
 hd:PySem.W.hasDictIn K C=true
 po:PySem.W.plainOver K C=true
 sa:PySem.W.findIn K (.ref C) "__setattr__"=some (some (.builtin "object.__setattr__"))
theorem Cq.get{K:PySem.W.Frag}{C:Addr}(c:Cq K C)(f:Str):PySem.W.plainGet K C f=true:=c.pg
def gX(K:PySem.W.Frag)(C:Addr)(f:Str):Prop:=PySem.W.findIn K (.ref C) f=some none
theorem gX.RA{K:PySem.W.Frag}{C:Addr}{f:Str}(n:gX K C f):PySem.W.takerIn K C f=some none:=by unfold PySem.W.takerIn;rw [show PySem.W.findIn K (.ref C) f=some none from n];rfl
structure Ld(K:PySem.W.Frag)(C:Addr)(m:Str)(f:Addr):Prop where
 at_:PySem.W.findIn K (.ref C) m=some (some (.ref f))
 fn:PySem.W.isFn K (.ref f)=true
 kp:PySem.W.keepIn K (.ref f)=true
section
variable{X:Cx}{ε:List (Addr×Obj)}{σ:St}{H:Hp}{s:Shared}{a C dx:Addr}{fs:List (Str×V)}{f:Str}{v:V}{A:Around}{E:Value->Shared->Prop}
theorem A5{b:Bool}{Q:Value->Shared->Prop}(I:Inv X ε σ H s)(e:H a=some (.ins C dx fs))(c:Cq X.K C)(n:gX X.K C f)(l:fs.lookup f=some v)
  (h:∀u s',Inv X ε σ H s'->au v u->Q u s'):wpAny (model X.prog X.w) A (getAttr (.ref a) f b) Q E s:=by
 obtain ⟨mA,O,r,_,_,_⟩:=pe I.aG e;obtain ⟨u,hu,ru⟩:=jx.some_of (v:=v) (o:=mA f) (by rw [<-l];exact r f);exact pG I.oy O (c.get f) c.hd n hu (DY ru) (h u _ (I.tok _) ru)
theorem qU{m:Str}{g:Addr}{pl:Sem Bool}{Q:Value×List Value->Shared->Prop}(I:Inv X ε σ H s)(e:H a=some (.ins C dx fs))(c:Cq X.K C)(k:Ld X.K C m g)(l:fs.lookup m=none)
  (h:Q (.ref g,[.ref a]) s):wpAny (model X.prog X.w) A (getMethod (.ref a) m pl) Q E s:=by
 obtain ⟨mA,O,r,_,_,_⟩:=pe I.aG e;have hn:mA m=none:=jx.none_of (by rw [<-l];exact r m);exact IP I.oy O (c.get m) k.at_ k.fn hn h
theorem zG{y:V}{u:Value}{Q:Unit->Shared->Prop}(I:Inv X ε σ H s)(e:H a=some (.ins C dx fs))(c:Cq X.K C)(n:gX X.K C f)(hl:fs.length < 1000)(ry:au y u)
  (h:∀s',Inv X ε σ (upd H a (.ins C dx (jk f y fs))) s'->Q () s'):wpAny (model X.prog X.w) A (setAttr (.ref a) f u) Q E s:=by
 obtain ⟨mA,O,r,wi,_,ho⟩:=pe I.aG e;have hz:(fs.map (·.1)).length<=sizeLine:=by rw [aae,sizeLine_eq];omega
 refine Jp I.oy O c.sa c.po n.RA c.hd wi hz λh' O' sb=>h _ ?_;have hd:∃o,h'.get? dx=some o:=let ⟨o,_,_,e',_⟩:=O'.ns;⟨o,e'⟩
 refine I.write (x:=a) (e:=dx) (by rw [e];exact True.intro) (.inr ho) (λb q hb z=>(sb.2 b hb).trans z) hd ?_;refine ⟨by rw [ψ O.ne];exact ho, ?_,O.ne,O'.obj,_,O'.ns,λg=> ?_,λg hg=> ?_⟩
 ·have:=oo f y fs;omega
 ·show jx ((jk f y fs).lookup g) (if g=f then some u else mA g);rw [oJ];by_cases q:g=f
  ·rw [if_pos q,if_pos q];exact ry
  ·rw [if_neg q,if_neg q];exact r g
 ·by_cases q:g=f
  ·rw [q];exact (ng f y fs).1
  ·refine (ng f y fs).2 g (wi g λz=>hg ?_);show (if g=f then some u else mA g)=none;rw [if_neg q];exact z
theorem Inv.made(I:Inv X ε σ H s):Inv X ε σ (upd (upd H s.heap.objs.size (.own (s.heap.objs.size+1))) (s.heap.objs.size+1) (.ins C s.heap.objs.size []))
  {s with heap:=(s.heap.push PySem.W.emptyDict).push (PySem.W.instObj C s.heap.objs.size)}:=by
 have e1:(s.heap.push PySem.W.emptyDict).get? s.heap.objs.size=some PySem.W.emptyDict:=Heap.get?_push_size s.heap rfl;have e2:((s.heap.push PySem.W.emptyDict).push (PySem.W.instObj C s.heap.objs.size)).get? (s.heap.objs.size+1)=some (PySem.W.instObj C s.heap.objs.size):=by have:=Heap.get?_push_size (s.heap.push PySem.W.emptyDict) (o:=PySem.W.instObj C s.heap.objs.size) rfl;rwa [Heap.size_push] at this
 have e3:(s.heap.push PySem.W.emptyDict).Ns s.heap.objs.size (λ_=>none):=⟨PySem.W.emptyDict, #[],_,e1,rfl,(λe he=>absurd he (by simp)),λ_=>rfl⟩;have I1:=I.laid (a:=s.heap.objs.size) (o:= .own (s.heap.objs.size+1)) (h':=s.heap.push PySem.W.emptyDict) (t':=s.toks) (λb u q=>Heap.get?_push_of_some _ q) (aaj _) ⟨_,e1⟩;refine I1.laid (a:=s.heap.objs.size+1) (o:= .ins C s.heap.objs.size []) (t':=s.toks) (λb u q=>Heap.get?_push_of_some _ q) (Nat.le_of_eq (Heap.size_push _ _)) ?_;have ne:s.heap.objs.size≠s.heap.objs.size+1:=aaz (aa8 _);refine ⟨by rw [ψ ne,Κ],abE _,ne,e2,λ_=>none,(Heap.Ns1.of_empty e3).at λo q=>Heap.get?_push_of_some _ q,λ_=>True.intro,λy hy=>absurd rfl hy⟩
theorem J3{prog:Program}{w:World}{env:Env}{e:Expr}{f:Str}{pos:Pos}{s:Shared}{Q:Value->Shared->Prop}(hb:attributeBase e f env (eval e env)=eval e env)
  (h:wpAny (model prog w) A (eval e env) (λo s₁=>wpAny (model prog w) A (getAttr o f true) Q E s₁) E s):wpAny (model prog w) A (eval (.Attribute e f pos) env) Q E s:=
 Attribute_any_ h (by rw [arm_eval_Attribute,hb])
end
def T5(K:PySem.W.Frag)(ta:TE)(f:Str):TE:=λσ H Q=>ta σ H λx H1=>∃a C dx fs v,x= .ref a/\H1 a=some (.ins C dx fs)/\Cq K C/\gX K C f/\fs.lookup f=some v/\Q v H1
def Wx(K:PySem.W.Frag)(ta tv:TE)(f:Str):TS:=λD σ H=>tv σ H λy H1=>ta σ H1 λx H2=>∃a C dx fs,x= .ref a/\H2 a=some (.ins C dx fs)/\Cq K C/\gX K C f/\fs.length < 1000/\
 D.nx σ (upd H2 a (.ins C dx (jk f y fs)))
section
variable{X:Cx}{o e value:Expr}{f:Str}{pos pos' rY:Pos}{ta tv:TE}
theorem MF(he:PE X e ta)(hb:attributeBase e f X.env (eval e X.env)=eval e X.env):PE X (.Attribute e f pos) (T5 X.K ta f):=by intro ε s σ H Q I h;refine J3 hb (aS (he ε s σ H _ I h) λu s1 ⟨x,H1,I1,rx,a,C,dx,fs,v,ex,ea,c,n,l,q⟩=> ?_);subst ex;obtain rfl:u=Value.ref a:=rx;exact A5 I1 ea c n l λu' s2 I2 ru=>⟨v,H1,I2,ru,q⟩
theorem NP(ha:PE X o ta)(hv:PE X value tv)(hs:swapsWith value (some (.Attribute o f pos')) pos.line X.env=pure false):PS X (.Assign [.Attribute o f pos'] value pos) (Wx X.K ta tv f):=by intro ε s σ H D I h;refine plainObj_wpAny_Assign_Attribute (aS (hv ε s σ H _ I h) λu s1 ⟨y,H1,I1,ry,q⟩=>aS (ha ε s1 σ H1 _ I1 q) λov s2 ⟨x,H2,I2,rx,a,C,dx,fs,ex,ea,c,n,l,q2⟩=> ?_) hs;subst ex;obtain rfl:ov=Value.ref a:=rx;exact zG I2 ea c n l ry λs3 I3=>⟨σ,_,I3,q2⟩
end
section
variable{X:Cx}{ε:List (Addr×Obj)}{σ:St}{H:Hp}{s:Shared}{A:Around}{E:Value->Shared->Prop}{Q:Value->Shared->Prop}{c:Value}{b:Bool}
inductive kD(K:PySem.W.Frag)(H:Hp):V->Value->Prop where
 | br:kD K H .br (.type "NoneType")
 | bl (x:Bool):kD K H (.bl x) (.type "bool")
 | int (i:Int):kD K H (.int i) (.type "int")
 | str (x:Str):kD K H (.str x) (.type "str")
 | MB (x:UInt64):kD K H (.MB x) (.type "float")
 | lst {a:Addr} {xs:List V} (e:H a=some (.lst xs)):kD K H (.ref a) (.type "list")
 | wM {a:Addr} {o:Obj} {xs:List V} (e:H a=some (.wM o (.lst xs))):kD K H (.ref a) (.type "list")
 | tup {a:Addr} {xs:List V} (e:H a=some (.tup xs)):kD K H (.ref a) (.type "tuple")
 | dK {a:Addr} {Λ:List (Key×V)} (e:H a=some (.dK Λ)):kD K H (.ref a) (.type "dict")
 | dT {a:Addr} {Λ:List (List Key×V)} (e:H a=some (.dT Λ)):kD K H (.ref a) (.type "dict")
 | ins {a C dx:Addr} {fs:List (Str×V)} (e:H a=some (.ins C dx fs)) (cl:Cq K C) (ha:PySem.W.findIn K (.ref C) "__class__"=some (some (.builtin "object.__class__")))
   (hn:PySem.W.specialIn K (.builtin "object.__class__") "__get__"=some (some (.builtin "getset_descriptor.__get__"))) (XX:PySem.W.takesIn K (.builtin "object.__class__")=some true)
   (hm:PySem.W.mroIn K C (.type "object")=some true):kD K H (.ref a) (.ref C)
theorem Ey{x:V}{u t:Value}(I:Inv X ε σ H s)(rx:au x u)(ty:kD X.K H x t)(e:PySem.W.kitOne X.K t c=some b)(h:∀tk,Q (.bool b) {s with toks:=tk}):
  wpAny (model X.prog X.w) A (call (.builtin "isinstance") [u,c]) Q E s:=by
 cases ty with
 | br=>cases (show u=Value.none from rx);exact PySem.W.kia_one PySem.W.kitx_none I.oy True.intro e (λz=>nomatch z) h
 | bl y=>cases (show u=Value.bool y from rx);exact PySem.W.kia_one PySem.W.kitx_bool I.oy True.intro e (λz=>nomatch z) h
 | int i=>obtain ⟨t,q⟩:=(show∃t,u=Value.int i t from rx);cases q;exact PySem.W.kia_one PySem.W.kitx_int I.oy True.intro e (λz=>nomatch z) h
 | str y=>obtain ⟨t,q⟩:=(show∃t,u=Value.str y t from rx);cases q;exact PySem.W.kia_one PySem.W.kitx_str I.oy True.intro e (λz=>nomatch z) h
 | MB y=>obtain ⟨t,q⟩:=(show∃t,u=Value.float y t from rx);cases q;exact PySem.W.kia_one PySem.W.kitx_float I.oy True.intro e (λz=>nomatch z) h
 | @lst a xs ea=>
  cases (show u=Value.ref a from rx);obtain ⟨_,_,n,_,h1⟩:=(show bD X.prog X.w H s.heap a (.lst xs) from I.aG a _ ea);exact PySem.W.kia_one PySem.W.kitx_list I.oy ⟨_,h1,rfl⟩ e (λz=>nomatch z) h
 | @wM a ob xs ea=>
  cases (show u=Value.ref a from rx);obtain ⟨_,_,_,n,_,h1⟩:=(show bD X.prog X.w H s.heap a (.wM ob (.lst xs)) from I.aG a _ ea);exact PySem.W.kia_one PySem.W.kitx_list I.oy ⟨_,h1,rfl⟩ e (λz=>nomatch z) h
 | @tup a xs ea=>
  cases (show u=Value.ref a from rx);obtain ⟨_,_,_,p⟩:=(show bD X.prog X.w H s.heap a (.tup xs) from I.aG a _ ea);obtain ⟨o,h1,h2,_⟩:=p;exact PySem.W.kia_one PySem.W.kitx_tuple I.oy ⟨o,h1,h2⟩ e (λz=>nomatch z) h
 | @dK a Λ ea=>
  cases (show u=Value.ref a from rx);obtain ⟨_,_,vs,_,p⟩:=(show bD X.prog X.w H s.heap a (.dK Λ) from I.aG a _ ea);obtain ⟨o,es,ep,h1,h2,_⟩:=p;exact PySem.W.kia_one PySem.W.kitx_dict I.oy ⟨o,h1,h2.1⟩ e (λz=>nomatch z) h
 | @dT a Λ ea=>
  cases (show u=Value.ref a from rx);obtain ⟨_,_,xs,_,o,es,ep,h1,h2,_⟩:=(show bD X.prog X.w H s.heap a (.dT Λ) from I.aG a _ ea);exact PySem.W.kia_one PySem.W.kitx_dict I.oy ⟨o,h1,h2.1⟩ e (λz=>nomatch z) h
 | @ins a C dx fs ea cl ha hn XX hm=>
  cases (show u=Value.ref a from rx);obtain ⟨mA,O,_⟩:=pe I.aG ea;obtain ⟨od,J,_⟩:=O.look;exact PySem.W.kia_one (PySem.W.kitx_own (cl.get _) cl.hd ha hn XX hm) I.oy J e (λz=>nomatch z) h
end
structure bO(k:Nat)(A:Around):Prop where
 hd:A.handled=none
 dp:A.depth+3 * k+5 < recursionLimit
 un:A.units+16 * k+200 < cLine
theorem bO.mono{j k:Nat}{A:Around}(r:bO k A)(h:j<=k):bO j A:=⟨r.hd,by have:=r.dp;omega,by have:=r.un;omega⟩
theorem bO.deeper{k:Nat}{A:Around}(r:bO (k+1) A)(env:Env):bO k (A.deeper env):=
 ⟨r.hd,by have:=r.dp;show A.depth+1+3 * k+5 < _;omega,by have:=r.un;show A.units+3+16 * k+200 < _;omega⟩
theorem AF{A:Around}{C:Addr}{us:List Value}{kw:List (Str×Value)}:(A.under (.builtin "type.__call__" ⟨.ref C::us,kw⟩)).depth=A.depth+1:=by
 first | rfl | simp [Around.under,Code.weight,Code.isCreation,Code.isGuard,Code.isCaller,Code.frames,Code.isFrame,guardIds]
theorem zj{A:Around}{C:Addr}{us:List Value}{kw:List (Str×Value)}:(A.under (.builtin "type.__call__" ⟨.ref C::us,kw⟩)).units=A.units+1:=by
 first | rfl | simp [Around.under,Code.cUnits,Code.frames,Code.isFrame]
theorem bO.make{k:Nat}{A:Around}(r:bO (k+1) A)(C:Addr)(us:List Value)(kw:List (Str×Value)):bO k (A.under (.builtin "type.__call__" ⟨.ref C::us,kw⟩)):=
 ⟨r.hd,by have:=r.dp;rw [AF];omega,by have:=r.un;rw [zj];omega⟩
theorem bO.depth{k:Nat}{A:Around}(r:bO k A):A.depth < recursionLimit:=by have:=r.dp;omega
theorem bO.units{k:Nat}{A:Around}(r:bO k A):A.units+64 < cLine:=by have:=r.un;omega
theorem bO.zN{k:Nat}{A:Around}(r:bO k A):A.units < cLine:=by have:=r.un;omega
def Sf:TA:=λ_ H Q=>Q [] H
def Sg(ta:TE)(tr:TA):TA:=λσ H Q=>ta σ H λx H1=>tr σ H1 λxs H2=>Q (x::xs) H2
section
variable{X:Cx}{e:Expr}{es:List Expr}{te:TE}{t:TA}{pos:Pos}
theorem OJ:PA X [] Sf:=λ_ _ _ _ H Q I h=>Calls.spliced_nil ⟨[],H,I, .nil,h⟩
theorem JH(ha:PE X e te)(hr:PA X es t)(hs:starEach (e::es) X.env=(false,eval e X.env)::starEach es X.env:=by rfl):PA X (e::es) (Sg te t):=by intro pos ε s σ H Q I h;rw [hs];show wpAny _ _ (spliced ((false,eval e X.env)::backTo pos (starEach es X.env))) _ _ s;refine Calls.spliced_cons (aS (ha ε s σ H _ I h) λu s1 ⟨x,H1,I1,r1,q1⟩=> ?_);exact aS (hr pos ε s1 σ H1 _ I1 q1) λus s2 ⟨xs,H2,I2,r2,q2⟩=>⟨x::xs,H2,I2, .cons r1 r2,q2⟩
def VD(t:TA):TE:=λσ H Q=>t σ H λxs H1=>xs.length<=sizeLine/\∀p,H1 p=none->Q (.ref p) (upd H1 p (.tup xs))
def U1(t:TA):TE:=λσ H Q=>t σ H λxs H1=>xs.length<=sizeLine/\∀p,H1 p=none->Q (.ref p) (upd H1 p (.lst xs))
theorem OL{x1}(h:PA X es t):PE X (.Tuple es x1 pos) (VD t):=by intro ε s σ H Q I hq;refine wpAny_Tuple_spliced (aS (h pos ε s σ H _ I hq) λus s1 ⟨xs,H1,I1,r,z,q⟩=>⟨by rw [<-r.length];exact z, ?_⟩);have hf:H1 s1.heap.objs.size=none:=I1.aG.fresh (aaj _);refine ⟨.ref s1.heap.objs.size,upd H1 s1.heap.objs.size (.tup xs),I1.laid (t':=s1.toks) (λb u e=>Heap.get?_push_of_some _ e) (aaj _) ?_,rfl,q _ hf⟩;exact ⟨z,us,r,⟨_,Heap.get?_push_size _ rfl,rfl,_,rfl⟩⟩
theorem GR(h:PA X es t):PE X (.List es pos) (U1 t):=by intro ε s σ H Q I hq;refine wpAny_List_spliced (aS (h pos ε s σ H _ I hq) λus s1 ⟨xs,H1,I1,r,z,q⟩=>⟨by rw [<-r.length];exact z, ?_⟩);have hf:H1 s1.heap.objs.size=none:=I1.aG.fresh (aaj _);refine ⟨.ref s1.heap.objs.size,upd H1 s1.heap.objs.size (.lst xs),I1.laid (t':=s1.toks) (λb u e=>Heap.get?_push_of_some _ e) (aaj _) ?_,rfl,q _ hf⟩;exact ⟨z,us,0,r,Heap.get?_push_size _ rfl⟩
end
abbrev Sp:=List V->Hp->VK->XK->Prop
abbrev ze:=List Env->Hp->Shared->XK->Value->Shared->Prop
structure Ag(P:Program)(w:World)(K:PySem.W.Frag)(mg:Str->Option Value)(base:Heap)(A:Around)(outer:List Env)(s:Shared)(H:Hp):Prop where
 frames:A.frames=some outer
 mod:Mod K mg base
 bs:∀b o,base.get? b=some o->s.heap.get? b=some o/\H b=none
 sW:base.objs.size<=s.heap.objs.size
 rT:s.heap.FunFrames base outer
 Sn:∀b∈oV outer,H b=none
 aG:ky P w H s.heap
 bare:AllBare s.gens
def CE(outer:List Env)(P:Program)(w:World)(H:Hp)(s:Shared)(Q:VK)(u:Value)(s':Shared):Prop:=
 ∃v H',s'.os=s.os/\AllBare s'.gens/\Un (oV outer) [] H H' s.heap s'.heap/\ky P w H' s'.heap/\au v u/\Q v H'
def CR(CX:ze)(outer:List Env)(P:Program)(w:World)(H:Hp)(s:Shared)(Q:VK)(E:XK)(r:Result)(s':Shared):Prop:=
 match r with
 | .ok (.ret u)=>CE outer P w H s Q u s'
 | .ok _=>False
 | .error e=>CX outer H s E e s'
structure af(P:Program)(w:World)(K:PySem.W.Frag)(mg:Str->Option Value)(base:Heap)(CX:ze)(k:Nat)(f:Addr)(fd:FuncData)(ps:List Str)(sp:Sp):Prop where
 len:∀vs H Q E,sp vs H Q E->vs.length=ps.length
 run:∀(A:Around) (outer:List Env) (s:Shared) (H:Hp) (args:Args) (us:List Value) (vs:List V) (Q:VK) (E:XK),bO k A->Ag P w K mg base A outer s H->BindsTo s fd args (ps.zip us)->ao vs us->sp vs H Q E->
  codeAny (model P w) A (.call (.ref f) args) (CR CX outer P w H s Q E) s
theorem Ag.make{P:Program}{w:World}{K:PySem.W.Frag}{mg:Str->Option Value}{base:Heap}{A:Around}{outer:List Env}{s:Shared}{H:Hp}(e:Ag P w K mg base A outer s H)(C:Addr)(us:List Value)(kw:List (Str×Value)):
  Ag P w K mg base (A.under (.builtin "type.__call__" ⟨.ref C::us,kw⟩)) outer s H:=⟨by first | exact e.frames | (simpa [Around.under,Code.envs,Code.isFrame,pushEnvs] using e.frames),e.mod,e.bs,e.sW,e.rT,e.Sn,e.aG,e.bare⟩
section
variable{X:Cx}{ε:List (Addr×Obj)}{σ:St}{H:Hp}{s s':Shared}
theorem Inv.Sr(I:Inv X ε σ H s):Ag X.prog X.w X.K X.mg X.base X.A X.stack s H:=
 ⟨I.ok.frames,I.ok.mod,I.bs,aaw I.ok.sW I.sz,I.stack,I.l7,I.aG,I.bare⟩
theorem Inv.after{Q:VK}{u:Value}(I:Inv X ε σ H s)(h:CE X.stack X.prog X.w H s Q u s'):EP X ε σ Q u s':=by obtain ⟨v,H',os,bare,un,aG,r,q⟩:=h;obtain ⟨hh,g,d,t,Te⟩:=s';obtain rfl:Te=s.os:=os;exact ⟨v,H',I.call (h':=hh) (g':=g) (d':=d) (t':=t) (ch:=[]) un aG bare (λb z=>absurd z (by simp)),r,q⟩
end
def jh(K:PySem.W.Frag)(fd:FuncData)(ps:List Str)(ds:List Value):Prop:=
 ∀(s:Shared) (us:List Value),K.In s.heap->(us++ds).length=ps.length->BindsTo s fd ⟨us,[]⟩ (ps.zip (us++ds))
theorem jh.all{K:PySem.W.Frag}{fd:FuncData}{ps:List Str}(h:∀us:List Value,us.length=ps.length->bindArgs fd ⟨us,[]⟩=pure (ps.zip us)):jh K fd ps []:=λs us _ hl=>by rw [aaZ] at hl⊢;exact .of_eq (h us hl)
section
variable{X:Cx}{CX:ze}{k:Nat}{f C:Addr}{fd:FuncData}{ps:List Str}{sp:Sp}{pF:List V}{ds:List Value}{E:XK}{x m:Str}{p pos apos:Pos}{e o:Expr}{es:List Expr}{ta:TE}{t:TA}
structure Mk(K:PySem.W.Frag)(C f:Addr):Prop where
 makes:PySem.W.makesIn K C=true
 init:PySem.W.findIn K (.ref C) "__init__"=some (some (.ref f))
 fn:PySem.W.isFn K (.ref f)=true
 kp:PySem.W.keepIn K (.ref C)=true
end
structure Γ(N P:List Str)(sc:Scope):Prop where
 kind:sc.kind= .function
 co:sc.isCoroutine=false
 gen:sc.isGenerator=false
 nd:N.Nodup
 pre:N.take P.length=P
 par:∀x∈P,sc.names.lookup x=some .local\/sc.names.lookup x=some .cell
 Mn:∀y∈sc.names,y.2≠ .free
theorem tj{kindOf:Str->Option NameKind}{x:Str}:∀{binds:List (Str×Value)} {m:Str->Option Value},(∀v,(x,v)∉binds)->bindL kindOf binds m x=m x
 | [],_,_=>rfl
 | (n,v)::r,m,h=>by
  unfold bindL;rw [tj λw hw=>h w (aad _ hw)];split
  ·have:x≠n:=by rintro rfl;exact h v aaf
   simp [this]
  ·rfl
theorem tK{kindOf:Str->Option NameKind}{x:Str}:∀{binds:List (Str×Value)} {m:Str->Option Value},(∀v,(x,v)∉binds)->bindC kindOf binds m x=m x
 | [],_,_=>rfl
 | (n,v)::r,m,h=>by
  unfold bindC;rw [tK λw hw=>h w (aad _ hw)];split
  ·rfl
  ·have:x≠n:=by rintro rfl;exact h v aaf
   simp [this]
theorem tG{kindOf:Str->Option NameKind}{x:Str}{v:Value}:∀{P:List Str} {vs:List Value} {i:Nat} {m:Str->Option Value},P.Nodup->P[i]? =some x->vs[i]? =some v->kindOf x=some .local->
  bindL kindOf (P.zip vs) m x=some v
 | [],_,_,_,_,h,_,_=>by simp at h
 | _::_,[],_,_,_,_,h,_=>by simp at h
 | p::P,w::vs,0,m,nd,h1,h2,hk=>by simp at h1 h2;subst h1;subst h2;show bindL kindOf ((p,w)::P.zip vs) m p=_;unfold bindL;rw [tj λv hv=>(aby.mp nd).1 (abo hv).1,if_pos hk];simp
 | p::P,w::vs,i+1,m,nd,h1,h2,hk=>by show bindL kindOf ((p,w)::P.zip vs) m x=_;unfold bindL;exact tG (i:=i) (List.nodup_cons.mp nd).2 (by simpa using h1) (by simpa using h2) hk
theorem sR{kindOf:Str->Option NameKind}{x:Str}{v:Value}:∀{P:List Str} {vs:List Value} {i:Nat} {m:Str->Option Value},P.Nodup->P[i]? =some x->vs[i]? =some v->kindOf x≠some .local->
  bindC kindOf (P.zip vs) m x=some v
 | [],_,_,_,_,h,_,_=>by simp at h
 | _::_,[],_,_,_,_,h,_=>by simp at h
 | p::P,w::vs,0,m,nd,h1,h2,hk=>by simp at h1 h2;subst h1;subst h2;show bindC kindOf ((p,w)::P.zip vs) m p=_;unfold bindC;rw [tK λv hv=>(aby.mp nd).1 (abo hv).1,if_neg hk];simp
 | p::P,w::vs,i+1,m,nd,h1,h2,hk=>by show bindC kindOf ((p,w)::P.zip vs) m x=_;unfold bindC;exact sR (i:=i) (List.nodup_cons.mp nd).2 (by simpa using h1) (by simpa using h2) hk
def start(N:List Str)(vs:List V):St:=vs.map some++List.replicate (N.length - vs.length) none
def uM(CX:ze)(P:Program)(w:World)(K:PySem.W.Frag)(mg:Str->Option Value)(base:Heap)(N:List Str)(qual:Str)(scope:Scope)(f:Addr)(cd:Value)(A:Around)(outer:List Env)(s:Shared)(H:Hp)(E:XK):Cx where
 prog:=P
 w:=w
 K:=K
 mg:=mg
 base:=base
 A:=A.deeper (envOfC qual scope s.heap.objs.size f cd)
 N:=N
 s₀:=s
 H₀:=H
 env:=envOfC qual scope s.heap.objs.size f cd
 outer:=outer
 stack:=envOfC qual scope s.heap.objs.size f cd::outer
 ex:=[]
 calm:=true
 fn:=λ_=>true
 pn:=[]
 xe:=λe s'=>wpAny (model P w) (A.deeper (envOfC qual scope s.heap.objs.size f cd)) (leaving (envOfC qual scope s.heap.objs.size f cd) e) (λ_ WD=>CX outer H s E e WD) (λe' WD=>CX outer H s E e' WD) s'
theorem yg{sc:Scope}{n:Nat}{x:Str}(h:sc.names.lookup x=some .cell):∃c,(cellsFrom n sc.names []).lookup x=some c:=by have q:=PySem.W.cellsFrom_some sc.names n [] (.inl h);exact aaT.mp q
theorem D9{CX:ze}{P:Program}{w:World}{K:PySem.W.Frag}{mg:Str->Option Value}{base:Heap}{N ps:List Str}{qual:Str}{scope:Scope}{f:Addr}{cd:Value}{A:Around}{outer:List Env}{s s1:Shared}{H:Hp}{E:XK}{us:List Value}{vs:List V}
  (S:Γ N ps scope) (hd:A.handled=none) (e0:Ag P w K mg base A outer s H) (hl:vs.length=ps.length) (r:ao vs us)
  (x:InCallC s s.heap.objs.size (bindL (envOfC qual scope s.heap.objs.size f cd).kindOf (ps.zip us) λ_=>none) (cellsFrom (s.heap.objs.size+1) scope.names []) (bindC (envOfC qual scope s.heap.objs.size f cd).kindOf (ps.zip us) λ_=>none) s1):
  Inv (uM CX P w K mg base N qual scope f cd A outer s H E) [] (start N vs) H s1:=by
 have fF:ps.length<=N.length:=by have:=congrArg List.length S.pre;rw [abV] at this;omega
 obtain ⟨h1,tk,rfl,hk⟩:=x.done;have Qy:∀b:Addr,b∉(uM CX P w K mg base N qual scope f cd A outer s H E).ex:=λb z=>absurd (show b∈([]:List Addr) from z) (by simp)
 refine ⟨⟨e0.mod,S.kind,rfl,rfl,aaj _,λy z c h1 h2=> ?_,λy hy=> ?_,λy c _ h=> ?_,λ_=>hd,Around.frames_deeper e0.frames, .inr ⟨rfl,rfl⟩,λb z=>absurd z (Qy b),e0.bs,e0.sW,λb _ _=>Qy b,λb z=>absurd z (Qy b),e0.rT,e0.Sn⟩,
  rfl,e0.bare,Un.kept hk,⟨_,x.toInCall.ns,λi y v h1 h2 h3=> ?_⟩,λy c h=>⟨_,x.cell y c h⟩,e0.aG.fresh (Nat.le_refl _),λy c h=> ?_,λp hp=>absurd (show p∈([]:List (Addr×Obj)) from hp) (by simp),e0.aG.kept hk, ?_⟩
 ·exact name_of_addr x.apart (PySem.mem_of_lookup h1) (PySem.mem_of_lookup h2)
 ·have hy:scope.names.lookup y=some .cell\/scope.names.lookup y=some .free:=hy;rcases hy with hy | hy
  ·exact yg hy
  ·exact absurd rfl (S.Mn _ (PySem.mem_of_lookup hy))
 ·exact Nat.le_of_lt (x.above y c (PySem.mem_of_lookup h))
 ·have hi:i < vs.length:=by
   unfold start at h2;by_cases hi:i < vs.length
   ·exact hi
   ·rw [List.getElem?_append_right (by simpa using hi)] at h2;rw [abw] at h2;split at h2 <;> cases h2
  have ha:vs[i]? =some v:=by
   unfold start at h2;rw [List.getElem?_append_left (by simpa using hi),List.getElem?_map] at h2;cases e:vs[i]? with
   | none=>rw [e] at h2;cases h2
   | some a=>rw [e] at h2;cases h2;rfl
  obtain ⟨u,hu,rv⟩:=r.get ha;have hp:ps[i]? =some y:=by rw [<-S.pre,abZ (by omega)];exact h1
  have X5:ps.Nodup:=by rw [<-S.pre];exact S.nd.sublist (List.take_sublist _ _)
  refine ⟨u,rv, ?_⟩;rcases S.par y (aal hp) with k | k
  ·exact .inl ⟨k,tG X5 hp hu k⟩
  ·obtain ⟨c,e⟩:=yg (n:=s.heap.objs.size+1) k;refine .inr ⟨.inl k,c,e, ?_⟩;have q:=x.cell y c e;rw [sR X5 hp hu (by show scope.names.lookup y≠_;rw [k];decide)] at q;exact q
 ·exact e0.aG.fresh (Nat.le_of_lt (x.above y c (PySem.mem_of_lookup h)))
 ·unfold start;show _=N.length;rw [aai,aae,aaD];omega
theorem RT{CX:ze}{P:Program}{w:World}{K:PySem.W.Frag}{mg:Str->Option Value}{base:Heap}{k:Nat}{f:Addr}{name qual:Str}{params:Arguments}{body:List Stmt}{scope:Scope}{dV kV doc pm aV ct oc:Value}{an od:Option Addr}
  {Hf:Array (Option Value)} {N ps:List Str} {sp:Sp} (lk:K.lookup f=some ⟨oc,od, .func (PySem.W.fnOf name qual params body scope dV kV doc pm an aV ct),Hf⟩) (Fc:PySem.W.codeIn K aV qual=true) (S:Γ N ps scope)
  (len:∀vs H Q E,sp vs H Q E->vs.length=ps.length)
  (xr:∀(A:Around) (outer:List Env) (s:Shared) (H:Hp) (vs:List V) (Q:VK) (E:XK),bO k (A.deeper (envOfC qual scope s.heap.objs.size f aV))->sp vs H Q E->
   ∃t,EV (uM CX P w K mg base N qual scope f aV A outer s H E) body t/\t {nx:=λ_ H'=>Q .br H',rt:=Q} (start N vs) H):
  af P w K mg base CX (k+1) f (PySem.W.fnOf name qual params body scope dV kV doc pm an aV ct) ps sp:=by
 refine ⟨len,λA outer s H args us vs Q E hr e0 hb r LN=> ?_⟩;have hl:=len _ _ _ _ LN;have KX:K.In s.heap:=e0.mod.QZ.keeps λb o e=>(e0.bs b o e).1;have lim:s.heap.NoLimit:=e0.mod.nolimit.keeps λb o e=>(e0.bs b o e).1;have Fx:∀y∈ps.zip us,scope.names.lookup y.1=some .local\/(scope.names.lookup y.1=some .cell/\((cellsFrom (s.heap.objs.size+1) scope.names []).lookup y.1).isSome=true):=λ⟨n,v⟩ hy=>by
  rcases S.par n (abo hy).1 with q | q
  ·exact .inl q
  ·exact .inr ⟨q,PySem.W.cellsFrom_some _ _ _ (.inl q)⟩
 refine codeAny_call_function hr.depth (KX _ _ lk) rfl S.co S.gen rfl (PySem.W.codeRec_of KX Fc) (hb _ _ _ _ ?_);refine wpAny_newFunctionEnv_cells S.kind Fx λenv he s1 x=> ?_;subst he;refine ⟨lim.keeps x.toInCall.keep,codeAny_func ?_⟩;obtain ⟨t,ht,hq⟩:=xr A outer s H vs Q E (hr.deeper _) LN;have I:Inv (uM CX P w K mg base N qual scope f aV A outer s H E) [] (start N vs) H s1:=D9 S hr.hd e0 hl r x;refine wpAny_mono (ht [] s1 (start N vs) H _ I hq) (λfl s' hs=> ?_) λe s' hs=>hs
 have fin:∀{σ':St} {H':Hp} {v:V} {u:Value},Inv (uM CX P w K mg base N qual scope f aV A outer s H E) [] σ' H' s'->au v u->Q v H'->CE outer P w H s Q u s':=
  λ{σ' H' v u} J rv q=>⟨v,H',J.os,J.bare,J.base,J.aG,rv,q⟩
 cases fl with
 | ret u=>
  obtain ⟨v,σ',H',J,rv,q⟩:=hs;exact fin J rv q
 | next=>
  obtain ⟨σ',H',J,q⟩:=hs;exact fin (v:=V.br) (u:=Value.none) J rfl q
 | brk=>
  obtain ⟨_,_,_,q⟩:=hs;exact False.elim q
 | cont=>
  obtain ⟨_,_,_,q⟩:=hs;exact False.elim q
section
variable{X:Cx}{x:Str}{p pos:Pos}{e:Expr}{es:List Expr}{t:TA}{id T:String}{r:List V->Hp->VK->Prop}
def Uj(r:List V->Hp->VK->Prop)(t:TA):TE:=λσ H Q=>t σ H λvs H1=>r vs H1 Q
theorem IH(hc:cM X (.builtin id) r)(hg:Gl X x)(hm:X.mg x=none)(hv:bootBuiltins x=some (.builtin id))(ha:PA X (e::es) t)(hn:x≠"__name__":=by decide)(wq:(x==("__debug__":Str))=false:=by decide)
  (he:starEach (e::es) X.env=(false,eval e X.env)::starEach es X.env:=by rfl) (fF:(backTo pos (starEach es X.env)).any (·.1)=false:=by rfl):PE X (.Call (.Name x p) (e::es) [] pos) (Uj r t):=by
 intro ε s σ H Q I h;refine wpAny_Call_Name_kw (lK I hg hm hv ?_ hn wq);exact PyProof.Rows.callWith_builtin1 (aS (ha pos ε s σ H _ I h) λus s1 ⟨vs,H1,I1,r1,q1⟩=>hc ε s1 σ H1 vs us Q I1 r1 q1) he fF
theorem DJ(hc:cM X (.type T) r)(hg:Gl X x)(hm:X.mg x=none)(hv:bootBuiltins x=some (.type T))(ha:PA X (e::es) t)(hn:x≠"__name__":=by decide)(wq:(x==("__debug__":Str))=false:=by decide)
  (he:starEach (e::es) X.env=(false,eval e X.env)::starEach es X.env:=by rfl) (fF:(backTo pos (starEach es X.env)).any (·.1)=false:=by rfl):PE X (.Call (.Name x p) (e::es) [] pos) (Uj r t):=by
 intro ε s σ H Q I h;refine wpAny_Call_Name_kw (lK I hg hm hv ?_ hn wq);exact PyProof.Rows.callWith_type1 (aS (ha pos ε s σ H _ I h) λus s1 ⟨vs,H1,I1,r1,q1⟩=>hc ε s1 σ H1 vs us Q I1 r1 q1) he fF
end
end L2
namespace HT
open PySem PyProof.Rows
section
variable{prog:Program}{w:World}{A:Around}{E:Value->Shared->Prop}{s:Shared}
theorem Jl{t b:Addr}{vs ws:List Value}{Q:Value->Shared->Prop}(ht:IsTup s.heap t vs.toArray)(hb:IsTup s.heap b ws.toArray)(hv:vs≠[])
  (h1:ws=[]->Q (.ref t) s) (h2:ws≠[]->Q (.ref s.heap.objs.size) {s with heap:=s.heap.push {cls:= .type "tuple",data:= .seq (vs++ws).toArray}})
  (hsz:vs.length+ws.length<=sizeLine):wpAny (model prog w) A (binaryOp .Add (.ref t) (.ref b)) Q E s:=by
 obtain ⟨⟨cls,dd,data,sl⟩,ho,hc,n,hd⟩:=id ht;obtain ⟨⟨aac,Ta,data2,S6⟩,Tn,Xw,n2,hd2⟩:=id hb;simp only at hc hd Xw hd2;subst hc hd Xw hd2;have e:vs.toArray++ws.toArray=(vs++ws).toArray:=by simp
 by_cases hw:ws=[]
 ·exact concat_meets ⟨_,ho,rfl⟩ ⟨_,Tn,rfl⟩ noFill_tuple_add seq_tuple_add PySem.F.slot_tuple_add PySem.F.entry_tuple_add (PySem.F.args_tuple_add_2 _ _)
   (tuple_addW1 t b vs.toArray ws.toArray n n2 dd Ta sl S6 (by simpa using hv) (by simp [hw])) ⟨ho,Tn,h1 hw⟩
 ·refine concat_meets ⟨_,ho,rfl⟩ ⟨_,Tn,rfl⟩ noFill_tuple_add seq_tuple_add PySem.F.slot_tuple_add PySem.F.entry_tuple_add (PySem.F.args_tuple_add_2 _ _)
   (tuple_addW2 t b vs.toArray ws.toArray n n2 dd Ta sl S6 (by simpa using hv) (by simpa using hw) (by rw [List.size_toArray,List.size_toArray];exact hsz)) ⟨ho,Tn, ?_⟩
  rw [e];exact h2 hw
def yt(n d:Nat):Option Int->Nat
 | none=>d
 | some v=>if v < 0 then (v+(n:Int)).toNat else min v.toNat n
theorem y9(n d:Nat):yt n d none=d:=rfl
theorem pq(n d k:Nat):yt n d (some (k:Int))=min k n:=by show (if (k:Int) < 0 then ((k:Int)+(n:Int)).toNat else min (k:Int).toNat n)=min k n;rw [if_neg (by omega),abJ]
end
end HT
namespace L2
open PySem PySem.Spec PyProof.Rows
abbrev TO:=St->Hp->(Option Int->Hp->Prop)->Prop
def PO(X:Cx)(e:Option Expr)(t:TO):Prop:=
 ∀(ε:List (Addr×Obj)) (s:Shared) (σ:St) (H:Hp) (Q:Option Int->Hp->Prop),Inv X ε σ H s->t σ H Q->
  wpAny (model X.prog X.w) X.A (evalPart e X.env) (λu s'=>∃o H',Inv X ε σ H' s'/\IsPart u o/\Q o H') X.xe s
def Ky:TO:=λ_ H Q=>Q none H
def Qc(t:TE):TO:=λσ H Q=>t σ H λx H1=>∃i,x= .int i/\Q (some i) H1
section
variable{X:Cx}{e:Expr}{te:TE}{lo hi:Option Expr}{tl th:TO}{pos p2:Pos}
theorem B7:PO X none Ky:=by intro ε s σ H Q I h;rw [evalPart_none];exact wpAny_pure ⟨none,H,I, .none,h⟩
theorem ku(h:PE X e te):PO X (some e) (Qc te):=by intro ε s σ H Q I hw;rw [evalPart_some];refine aS (h ε s σ H _ I hw) λu s1 ⟨x,H1,I1,r1,q1⟩=> ?_;obtain ⟨i,rfl,q⟩:=q1;obtain ⟨t,rfl⟩:=r1;exact ⟨some i,H1,I1, .int i t,q⟩
def W9(X:Cx)(r:V->Option Int->Option Int->Hp->VK->Prop):Prop:=
 ∀(ε:List (Addr×Obj)) (s:Shared) (σ:St) (H:Hp) (x:V) (v vl vu:Value) (lo hi:Option Int) (sl:Addr) (Q:VK),Inv X ε σ H s->au x v->s.heap.IsSliceOf sl vl vu .none->IsPart vl lo->IsPart vu hi->r x lo hi H Q->
  ∃T id,typeLookup (.type T) "__getitem__"=pure (some (.builtin id))/\s.TypeIs v T/\wpAny (model X.prog X.w) X.A (getItem v (.ref sl)) (EP X ε σ Q) X.xe s
def Zn(r:V->Option Int->Option Int->Hp->VK->Prop)(te:TE)(tl th:TO):TE:=λσ H Q=>te σ H λx H1=>tl σ H1 λl H2=>th σ H2 λu H3=>r x l u H3 Q
theorem qS{r:V->Option Int->Option Int->Hp->VK->Prop}(hr:W9 X r)(he:PE X e te)(hl:PO X lo tl)(hu:PO X hi th):PE X (.Subscript e (.Slice lo hi none p2) pos) (Zn r te tl th):=by intro ε s σ H Q I h;refine Subscript_ (aS (he ε s σ H _ I h) λv s1 ⟨x,H1,I1,r1,q1⟩=> ?_);refine wpAny_Slice (aS (hl ε s1 σ H1 _ I1 q1) λvl s2 ⟨l,H2,I2,pl,q2⟩=>aS (hu ε s2 σ H2 _ I2 q2) λvu s3 ⟨u,H3,I3,pu,q3⟩=> ?_);rw [evalPart_none];refine wpAny_pure ?_;have I4:Inv X ε σ H3 {s3 with heap:=s3.heap.push {cls:= .type "slice",data:= .fields #[vl,vu, .none]}}:=I3.kept (t':=s3.toks) λb ob q=>Heap.get?_push_of_some _ q;obtain ⟨T,id,hT,ht,hg⟩:=hr ε {s3 with heap:=s3.heap.push {cls:= .type "slice",data:= .fields #[vl,vu, .none]}} σ H3 x v vl vu l u s3.heap.objs.size Q I4 r1 (Heap.IsSliceOf.new ..) pl pu q3;show wpAny (model X.prog X.w) X.A (subscriptTail e (.Slice lo hi none p2) v (.ref s3.heap.objs.size)) (EP X ε σ Q) X.xe {s3 with heap:=s3.heap.push {cls:= .type "slice",data:= .fields #[vl,vu, .none]}};exact tail_any (ops:=[.ref s3.heap.objs.size,v]) ht hT hg (by with_unfolding_all rfl)
def sk(xs:List V)(lo hi:Option Int):List V:=(xs.drop (HT.yt xs.length 0 lo)).take (HT.yt xs.length xs.length hi - HT.yt xs.length 0 lo)
theorem xD(xs:List V)(lo hi:Option Int):(sk xs lo hi).length<=xs.length:=by unfold sk;rw [abV,abu];omega
def LX(K:PySem.W.Frag):R2:=λx y H Q=>∃a b xs ys,x= .ref a/\y= .ref b/\oi K H a xs/\oi K H b ys/\xs≠[]/\xs.length+ys.length<=sizeLine/\
 (ys=[]->Q (.ref a) H)/\(ys≠[]->∀p,H p=none->Q (.ref p) (upd H p (.tup (xs++ys))))
theorem ao.uB{xs:List V}{us:List Value}(r:ao xs us):us=[]↔xs=[]:=by
 cases r with
 | nil=>simp
 | cons _ _=>simp
theorem KQ:jq X (binaryOp .Add) (LX X.K):=by intro ε s σ H x y v u Q I rx ry h;obtain ⟨a,b,xs,ys,rfl,rfl,ha,hb,hx,hz,q1,q2⟩:=h;cases rx;cases ry;obtain ⟨its,r1,p1,_⟩:=I.tuple ha;obtain ⟨GQ,r2,p2,_⟩:=I.tuple hb;refine HT.Jl p1 p2 (λz=>hx (r1.uB.mp z)) (λz=>⟨.ref a,H,I,rfl,q1 (r2.uB.mp z)⟩) (λz=> ?_) (by rw [<-r1.length,<-r2.length];exact hz);refine ⟨.ref s.heap.objs.size,_,I.laid (t':=s.toks) (o:= .tup (xs++ys)) (λb ob q=>Heap.get?_push_of_some _ q) (aaj _) ?_,rfl,q2 (λw=>z (r2.uB.mpr w)) _ (I.aG.fresh (aaj _))⟩;exact ⟨by rw [aai];exact hz,_,r1.append r2,IsTup.new _ _⟩
end
def Ii(n:Nat)(i:Int):Option Nat:=if 0<=i then (if i < n then some i.toNat else none) else if -(n:Int)<=i then some (i+n).toNat else none
def lY{α:Type}(xs:List α)(i:Int):Option α:=(Ii xs.length i).bind λj=>xs[j]?
theorem BQ{n:Nat}{i:Int}{j:Nat}(h:Ii n i=some j):seqIndex? i n=some j/\j < n/\ -(n:Int)<=i/\i < n:=by
 unfold Ii at h;by_cases h0:0<=i
 ·rw [if_pos h0] at h;by_cases h1:i < n
  ·rw [if_pos h1] at h;have e:i.toNat=j:=aar h;exact ⟨by rw [seqIndex_of h0 h1,e],by omega,by omega,h1⟩
  ·rw [if_neg h1] at h;cases h
 ·rw [if_neg h0] at h;by_cases h1: -(n:Int)<=i
  ·rw [if_pos h1] at h;have e:(i+n).toNat=j:=aar h;exact ⟨by rw [seqIndex_neg (by omega) h1,e],by omega,h1,by omega⟩
  ·rw [if_neg h1] at h;cases h
theorem uJ{α:Type}{xs:List α}{i:Int}{v:α}(h:lY xs i=some v):∃j,seqIndex? i xs.length=some j/\xs[j]? =some v/\j < xs.length/\ -(xs.length:Int)<=i/\i < xs.length:=by
 unfold lY at h;cases e:Ii xs.length i with
 | none=>rw [e] at h;cases h
 | some j=>
  rw [e] at h;obtain ⟨h1,h2,h3,h4⟩:=BQ e;exact ⟨j,h1,h,h2,h3,h4⟩
theorem Η{α:Type}{xs:List α}{j:Nat}{v:α}(h:xs[j]? =some v):lY xs (j:Int)=some v:=by
 have hj:j < xs.length:=(aag.mp h).1;have e:Ii xs.length (j:Int)=some j:=by unfold Ii;rw [if_pos (by omega),if_pos (by omega)];simp
 unfold lY;rw [e];exact h
def vh(b:Expr):Prop:=∀o i,subscripted b false o i=operate [o,i] (getItem o i)
def I_(X:Cx)(r:R2):Prop:=
 ∀(value slice:Expr) (ε:List (Addr×Obj)) (s:Shared) (σ:St) (H:Hp) (x y:V) (v u:Value) (Q:VK),Inv X ε σ H s->au x v->au y u->r x y H Q->
  subscripted slice false v u=operate [v,u] (getItem v u)->wpAny (model X.prog X.w) X.A (subscriptTail value slice v u) (EP X ε σ Q) X.xe s
def Xq(X:Cx)(id:String)(r:V->List V->Hp->VK->Prop):Prop:=
 ∀(ε:List (Addr×Obj)) (s:Shared) (σ:St) (H:Hp) (x:V) (xs:List V) (v:Value) (us:List Value) (Q:VK),Inv X ε σ H s->au x v->ao xs us->r x xs H Q->
  wpAny (model X.prog X.w) X.A (call (.builtin id) (v::us)) (EP X ε σ Q) X.xe s
section
variable{X:Cx}{a b:Expr}{ta tb:TE}{pos:Pos}
theorem I_.or{r r':R2}(h:I_ X r)(h':I_ X r'):I_ X (λx y H Q=>r x y H Q\/r' x y H Q):=by
 intro value slice ε s σ H x y v u Q I rx ry q hs;rcases q with q | q
 ·exact h value slice ε s σ H x y v u Q I rx ry q hs
 ·exact h' value slice ε s σ H x y v u Q I rx ry q hs
theorem Qg{r:R2}(hr:I_ X r)(ha:PE X a ta)(hb:PE X b tb)(hs:vh b):PE X (.Subscript a b pos) (PH r ta tb):=by intro ε s σ H Q I h;exact Subscript_ (Oh ha hb I h λv u s2 x y H2 I2 rx ry q=>hr a b ε s2 σ H2 x y v u Q I2 rx ry q (hs _ _))
def QO(K:PySem.W.Frag):R2:=λx y H Q=>∃p xs i v,x= .ref p/\y= .int i/\gQ K H p xs/\lY xs i=some v/\Q v H
def R8(K:PySem.W.Frag):R2:=λx y H Q=>∃p xs i v,x= .ref p/\y= .int i/\oi K H p xs/\lY xs i=some v/\Q v H
def Qf:R2:=λx y H Q=>∃z i c,x= .str z/\y= .int i/\z.length<=sizeLine/\lY z.cps.toList i=some c/\Q (.str ⟨#[c]⟩) H
theorem KO:I_ X (QO X.K):=by
 intro value slice ε s σ H x y v u Q I rx ry h hs;obtain ⟨p,xs,i,z,rfl,rfl,hq,he,q⟩:=h;cases rx;obtain ⟨t,rfl⟩:=ry;obtain ⟨its,r,pl,hz⟩:=I.list hq;obtain ⟨j,h1,h2,h3,h4,h5⟩:=uJ he;obtain ⟨w,ew,Er⟩:=r.get h2;have hl:=r.length;have hn:=nC;have fin:EP X ε σ Q w s:=⟨z,H,I,Er,q⟩;by_cases h0:0<=i
 ·have hj:i.toNat=j:=by rw [seqIndex_of h0 h5] at h1;exact aar h1
  exact item_listR pl.isList h0 (by omega) (by rw [hj];simpa using ew) fin hs
 ·have hj:(i+(its.toArray.size:Int)).toNat=j:=by rw [seqIndex_neg (by omega) h4] at h1;rw [aa0,<-hl];exact aar h1
  exact subscriptTail_builtinR (x:=w) pl.isList.typeIs slot_list_getitem.lookup
   (wpAny_getItem_list_neg (Q:=λr s'=>r=w/\EP X ε σ Q r s') pl.isList (by omega) (by rw [List.size_toArray] <;> omega) (by omega) (by rw [hj];simpa using ew) ⟨rfl,fin⟩) hs
theorem MU:I_ X (R8 X.K):=by
 intro value slice ε s σ H x y v u Q I rx ry h hs;obtain ⟨p,xs,i,z,rfl,rfl,hq,he,q⟩:=h;cases rx;obtain ⟨t,rfl⟩:=ry;obtain ⟨its,r,pl,hz⟩:=I.tuple hq;obtain ⟨j,h1,h2,h3,h4,h5⟩:=uJ he;obtain ⟨w,ew,Er⟩:=r.get h2;have hl:=r.length;have hn:=nC;have fin:EP X ε σ Q w s:=⟨z,H,I,Er,q⟩
 exact subscriptTail_builtinR (x:=w) pl.typeIs slot_tuple_getitem.lookup
  (getItem_tuple (j:=j) (Q:=λr s'=>r=w/\EP X ε σ Q r s') pl (by omega) (by omega) (by rw [List.size_toArray,<-hl];exact h1) (by simpa using ew) ⟨rfl,fin⟩) hs
theorem MV:I_ X Qf:=by
 intro value slice ε s σ H x y v u Q I rx ry h hs;obtain ⟨z,i,c,rfl,rfl,hz,he,q⟩:=h;obtain ⟨t,rfl⟩:=rx;obtain ⟨t',rfl⟩:=ry;obtain ⟨j,h1,h2,h3,h4,h5⟩:=uJ he;have hl:z.cps.toList.length=z.length:=by simp [Str.length]
 rw [hl] at h1 h4 h5;have hn:=nC
 exact tail_any (typeIs_str s z t) slot_str_getitem.lookup (getItem_str (c:=c) (by
  have e1:decide (i < -(2 ^ 63:Int))=false:=decide_eq_false (by omega);have e2:decide (i ≥ 2 ^ 63)=false:=decide_eq_false (by omega)
  rw [e1,e2,Bool.or_false]) (by rw [h1];simpa using h2) ⟨.str ⟨#[c]⟩,H,I.tok _,⟨_,rfl⟩,q⟩) hs
def Ye(K:PySem.W.Frag):R2:=λx y H Q=>QO K x y H Q\/R8 K x y H Q\/Qf x y H Q
theorem Ol:I_ X (Ye X.K):=KO.or (MU.or MV)
theorem A4(its:List Value)(n j:Nat)(u:Value):Obj.mapSeq (·.setIfInBounds j u) {cls:= .type "list",data:= .seq its.toArray n}={cls:= .type "list",data:= .seq (its.set j u).toArray n}:=by simp [Obj.mapSeq]
theorem Inv.lst{ε:List (Addr×Obj)}{σ:St}{H:Hp}{s:Shared}{p:Addr}{xs:List V}(I:Inv X ε σ H s)(h:H p=some (.lst xs)):
  ∃(its:List Value) (n:Nat),ao xs its/\s.heap.get? p=some {cls:= .type "list",data:= .seq its.toArray n}/\xs.length<=sizeLine:=by
 obtain ⟨z,its,n,r,e⟩:=I.aG p _ h;exact ⟨its,n,r,e,z⟩
theorem Inv.OE{ε:List (Addr×Obj)}{σ:St}{H:Hp}{s:Shared}{p:Addr}{xs ys:List V}{its its':List Value}{n n':Nat}{f:Obj->Obj}(I:Inv X ε σ H s)(h:H p=some (.lst xs))
  (ho:s.heap.get? p=some {cls:= .type "list",data:= .seq its.toArray n}) (hf:f {cls:= .type "list",data:= .seq its.toArray n}={cls:= .type "list",data:= .seq its'.toArray n'}) (r:ao ys its') (hz:ys.length<=sizeLine) (t:Nat):
  Inv X ε σ (upd H p (.lst ys)) {s with heap:=s.heap.update p f,toks:=t}:=by
 have e:(s.heap.update p f).get? p=some {cls:= .type "list",data:= .seq its'.toArray n'}:=by rw [Heap.get?_update_self f ho (by rw [hf] <;> rfl),hf]
 refine I.write (x:=p) (e:=p) (by rw [h];trivial) (.inl rfl) (λb u hb q=>(Heap.get?_update_other _ _ (Ne.symm hb)).trans q) ⟨_,e⟩ ?_;exact ⟨hz,its',n',r,e⟩
def LO:V->V->V->Hp->(Hp->Prop)->Prop:=λo i v H Q=>∃p xs k j,o= .ref p/\i= .int k/\H p=some (.lst xs)/\Ii xs.length k=some j/\Q (upd H p (.lst (xs.set j v)))
theorem IW:Q7 X LO:=by
 intro ε s σ H o i v ov iv u Q I ro ri rv h;obtain ⟨p,xs,k,j,rfl,rfl,hp,hj,q⟩:=h;cases ro;obtain ⟨t,rfl⟩:=ri;obtain ⟨its,n,r,ho,hz⟩:=I.lst hp;obtain ⟨h1,h2,h3,h4⟩:=BQ hj;have hl:=r.length;have hn:=nC
 have I':Inv X ε σ (upd H p (.lst (xs.set j v))) {s with heap:=s.heap.update p (Obj.mapSeq (·.setIfInBounds j u))}:=
  I.OE hp ho (A4 its n j u) (r.set rv j) (by rw [aa6];exact hz) s.toks
 by_cases h0:0<=k
 ·have hk:k.toNat=j:=by rw [seqIndex_of h0 h4] at h1;exact aar h1
  exact PySem.W.ki_setAt ho h0 (by omega) (by rw [aa0,<-hl];exact h4) (by rw [hk];exact ⟨_,I',q⟩)
 ·have hk:(k+(its.toArray.size:Int)).toNat=j:=by rw [seqIndex_neg (by omega) h3] at h1;rw [aa0,<-hl];exact aar h1
  exact PySem.W.ki_setBack ho (by omega) (by rw [aa0,<-hl];exact h3) (by omega) (by rw [hk];exact ⟨_,I',q⟩)
theorem wk(lo hi:Option Int)(n:Nat):(sliceBounds lo hi none n).1=((HT.yt n 0 lo:Nat):Int)/\(sliceBounds lo hi none n).2.1=((HT.yt n n hi:Nat):Int)/\(sliceBounds lo hi none n).2.2=1:=by
 refine ⟨?_, ?_,rfl⟩
 ·cases lo with
  | none=>simp [sliceBounds,HT.yt]
  | some i=>
   simp only [sliceBounds,HT.yt,Option.getD_none,show (1:Int) > 0 by decide,if_true];by_cases h:i < 0
   ·simp only [h,if_true] <;> omega
   ·simp only [h,if_false] <;> omega
 ·cases hi with
  | none=>simp [sliceBounds,HT.yt]
  | some i=>
   simp only [sliceBounds,HT.yt,Option.getD_none,show (1:Int) > 0 by decide,if_true];by_cases h:i < 0
   ·simp only [h,if_true] <;> omega
   ·simp only [h,if_false] <;> omega
theorem sH(its:List Value)(lo hi:Option Int):slicePick its.toArray lo hi none=((its.drop (HT.yt its.length 0 lo)).take (HT.yt its.length its.length hi - HT.yt its.length 0 lo)).toArray:=by obtain ⟨h1,h2,h3⟩:=wk lo hi its.toArray.size;unfold slicePick;rw [h1,h2,h3];simp only [sliceRange_one,pick_run,List.size_toArray] <;> rfl
def Us(K:PySem.W.Frag):V->Option Int->Option Int->Hp->VK->Prop:=λx lo hi H Q=>∃a xs,x= .ref a/\gQ K H a xs/\∀p,H p=none->Q (.ref p) (upd H p (.lst (sk xs lo hi)))
theorem vQ:W9 X (Us X.K):=by intro ε s σ H x v vl vu lo hi sl Q I rx hs pl pu h;obtain ⟨a,xs,rfl,hx,q⟩:=h;cases rx;obtain ⟨its,r,ht,hz⟩:=I.list hx;have hlen:=r.length;refine ⟨"list",_,slot_list_getitem.lookup,ht.isList.typeIs, ?_⟩;refine wpAny_getItem_list_slice ht.isList hs pl pu .none (by simp) ?_ (by rw [List.size_toArray] <;> omega);rw [sH,<-hlen];refine ⟨.ref s.heap.objs.size,_,I.laid (t':=s.toks) (o:= .lst (sk xs lo hi)) (λb ob q=>Heap.get?_push_of_some _ q) (aaj _) ?_,rfl,q _ (I.aG.fresh (aaj _))⟩;exact ⟨aaw (xD xs lo hi) hz,_,0,(r.drop (HT.yt xs.length 0 lo)).take (HT.yt xs.length xs.length hi - HT.yt xs.length 0 lo),Heap.get?_push_size _ rfl⟩
def fi:V->Bool
 | .br=>true
 | .bl _=>true
 | .int _=>true
 | .str _=>true
 | _=>false
def zc:V->V->Bool
 | .br, .br=>true
 | .bl a, .bl b=>a==b
 | .bl a, .int b=>(if a then 1 else 0)==b
 | .int a, .bl b=>a==(if b then 1 else 0)
 | .int a, .int b=>a==b
 | .str a, .str b=>a==b
 | _,_=>false
theorem Al{A:Around}{s:Shared}{y x:V}{u v:Value}(ry:au y u)(rx:au x v)(fy:fi y=true)(fx:fi x=true):SeqAt.EqAt A s u v (zc y x):=by
 cases y with
 | br=>
  cases ry;cases x with
  | br=>cases rx;exact SeqAt.EqAt.same _
  | bl b=>cases rx;exact SeqAt.EqAt.none_bool b
  | int b=>obtain ⟨t,rfl⟩:=rx;exact SeqAt.EqAt.none_int b t
  | str b=>obtain ⟨t,rfl⟩:=rx;exact SeqAt.EqAt.none_str b t
  | _=>exact absurd (show false=true from fx) aax
 | bl a=>
  cases ry;cases x with
  | br=>cases rx;exact SeqAt.EqAt.bool_none a
  | bl b=>cases rx;exact SeqAt.EqAt.bool_bool a b
  | int b=>obtain ⟨t,rfl⟩:=rx;exact SeqAt.EqAt.bool_int a b t
  | str b=>obtain ⟨t,rfl⟩:=rx;exact SeqAt.EqAt.bool_str a b t
  | _=>exact absurd (show false=true from fx) aax
 | int a=>
  obtain ⟨t',rfl⟩:=ry;cases x with
  | br=>cases rx;exact SeqAt.EqAt.int_none a t'
  | bl b=>cases rx;exact SeqAt.EqAt.int_bool a t' b
  | int b=>obtain ⟨t,rfl⟩:=rx;exact SeqAt.EqAt.int_int a t' b t
  | str b=>obtain ⟨t,rfl⟩:=rx;exact SeqAt.EqAt.int_str a t' b t
  | _=>exact absurd (show false=true from fx) aax
 | str a=>
  obtain ⟨t',rfl⟩:=ry;cases x with
  | br=>cases rx;exact SeqAt.EqAt.str_none a t'
  | bl b=>cases rx;exact SeqAt.EqAt.str_bool a t' b
  | int b=>obtain ⟨t,rfl⟩:=rx;exact SeqAt.EqAt.str_int a t' b t
  | str b=>obtain ⟨t,rfl⟩:=rx;exact SeqAt.EqAt.str_str a t' b t
  | _=>exact absurd (show false=true from fx) aax
 | _=>exact absurd (show false=true from fy) aax
def zq(x:V)(u:Value):Bool:=match u with
 | .none=>zc .br x
 | .bool b=>zc (.bl b) x
 | .int i _=>zc (.int i) x
 | .str z _=>zc (.str z) x
 | _=>false
theorem Ik{x y:V}{u:Value}(r:au y u)(f:fi y=true):zq x u=zc y x:=by
 cases y with
 | br=>cases r;rfl
 | bl b=>cases r;rfl
 | int i=>obtain ⟨t,rfl⟩:=r;rfl
 | str z=>obtain ⟨t,rfl⟩:=r;rfl
 | _=>exact absurd (show false=true from f) aax
theorem mm{x:V}:∀{xs:List V} {us:List Value},ao xs us->xs.all fi=true->us.any (zq x)=xs.any λy=>zc y x
 | _,_, .nil,_=>rfl
 | y::xs,u::us, .cons r t,f=>by rw [abM,aas] at f;rw [abN,abN,Ik r f.1,mm t f.2]
theorem jA{A:Around}{s:Shared}{x:V}{v:Value}(rx:au x v)(fx:fi x=true):∀{xs:List V} {us:List Value},ao xs us->xs.all fi=true->∀u∈us,SeqAt.EqAt A s u v (zq x u)
 | _,_, .nil,_=>λu hu=>by cases hu
 | y::xs,u::us, .cons r t,f=>λu' hu=>by
  rw [abM,aas] at f;rcases aay.mp hu with rfl | hu
  ·rw [Ik r f.1];exact Al r rx f.1 fx
  ·exact jA rx fx t f.2 u' hu
def Nd(x:V)(xs:List V):Bool:=xs.any λy=>zc y x
def S3(K:PySem.W.Frag)(neg:Bool):R2:=λx y H Q=>∃p xs,y= .ref p/\(gQ K H p xs\/oi K H p xs)/\fi x=true/\xs.all fi=true/\Q (.bl (if neg then !Nd x xs else Nd x xs)) H
theorem Dw:jq X (compareOp .In) (S3 X.K false):=by
 intro ε s σ H x y v u Q I rx ry h;obtain ⟨p,xs,rfl,hq,fx,fs,q⟩:=h;cases ry;rcases hq with hq | hq
 ·obtain ⟨its,r,pl,hz⟩:=I.list hq;refine SeqAt.in_listAt (zq x) pl.isList (λw hw=>jA rx fx r fs w (by simpa using hw)) ⟨.bl _,H,I,rfl, ?_⟩;rw [show its.toArray.any (zq x)=its.any (zq x) by simp,mm r fs];exact q
 ·obtain ⟨its,r,pl,hz⟩:=I.tuple hq;refine SeqAt.in_tupleAt (zq x) pl (λw hw=>jA rx fx r fs w (by simpa using hw)) ⟨.bl _,H,I,rfl, ?_⟩;rw [show its.toArray.any (zq x)=its.any (zq x) by simp,mm r fs];exact q
theorem vJ:jq X (compareOp .NotIn) (S3 X.K true):=by
 intro ε s σ H x y v u Q I rx ry h;obtain ⟨p,xs,rfl,hq,fx,fs,q⟩:=h;cases ry;rcases hq with hq | hq
 ·obtain ⟨its,r,pl,hz⟩:=I.list hq;refine SeqAt.notIn_listAt (zq x) pl.isList (λw hw=>jA rx fx r fs w (by simpa using hw)) ⟨.bl _,H,I,rfl, ?_⟩;rw [show its.toArray.any (zq x)=its.any (zq x) by simp,mm r fs];exact q
 ·obtain ⟨its,r,pl,hz⟩:=I.tuple hq;refine SeqAt.notIn_tupleAt (zq x) pl (λw hw=>jA rx fx r fs w (by simpa using hw)) ⟨.bl _,H,I,rfl, ?_⟩;rw [show its.toArray.any (zq x)=its.any (zq x) by simp,mm r fs];exact q
theorem uZ:cM X (.builtin "len") (λxs H Q=>∃p ys,xs=[.ref p]/\(gQ X.K H p ys\/oi X.K H p ys)/\Q (.int ys.length) H):=by
 intro ε s σ H xs us Q I r h;obtain ⟨p,ys,rfl,hq,q⟩:=h;obtain ⟨u,rfl,rx⟩:=j5 r;cases rx;have hn:=nC;rcases hq with hq | hq
 ·obtain ⟨its,r',pl,hz⟩:=I.list hq;have hlen:=r'.length;exact Calls.call_len_list pl.isList (by simp only [List.size_toArray] <;> omega) ⟨.int ys.length,H,I.tok _,⟨s.toks+1,by rw [List.size_toArray,hlen]⟩,q⟩
 ·obtain ⟨its,r',pl,hz⟩:=I.tuple hq;have hlen:=r'.length;exact len_tuple pl (by simp only [List.size_toArray] <;> omega) ⟨.int ys.length,H,I.tok _,⟨s.toks+1,by rw [List.size_toArray,hlen]⟩,q⟩
theorem vk:cM X (.builtin "len") (λxs H Q=>∃z,xs=[.str z]/\z.length<=sizeLine/\Q (.int z.length) H):=by intro ε s σ H xs us Q I r h;obtain ⟨z,rfl,hz,q⟩:=h;obtain ⟨u,rfl,t,rfl⟩:=j5 r;have hn:=nC;exact len_str (by omega) ⟨.int z.length,H,I.tok _,⟨_,rfl⟩,q⟩
theorem cM.or{f:Value}{r r':List V->Hp->VK->Prop}(h:cM X f r)(h':cM X f r'):cM X f (λxs H Q=>r xs H Q\/r' xs H Q):=by
 intro ε s σ H xs us Q I rs q;rcases q with q | q
 ·exact h ε s σ H xs us Q I rs q
 ·exact h' ε s σ H xs us Q I rs q
theorem wF:cM X (.type "list") (λxs H Q=>∃p ys,xs=[.ref p]/\(gQ X.K H p ys\/oi X.K H p ys)/\∀l,H l=none->Q (.ref l) (upd H l (.lst ys))):=by
 intro ε s σ H xs us Q I r h;obtain ⟨p,ys,rfl,hq,q⟩:=h;obtain ⟨u,rfl,rx⟩:=j5 r;cases rx
 have fin:∀(its:List Value),ao ys its->ys.length<=sizeLine->∀(h':Heap) (c':Nat),(∀b o',s.heap.get? b=some o'->h'.get? b=some o')->
   h'.get? s.heap.objs.size=some {cls:= .type "list",dict:=none,data:= .seq its.toArray c',slots:= #[]}->EP X ε σ Q (.ref s.heap.objs.size) {s with heap:=h'}:=λits r' hz h' c' kp e=>
  ⟨.ref s.heap.objs.size,_,I.laid (t':=s.toks) kp (aaj _) (show bD X.prog X.w _ h' _ (.lst ys) from ⟨hz,its,c',r',e⟩),rfl,q _ (I.aG.fresh (aaj _))⟩
 rcases hq with hq | hq
 ·obtain ⟨its,r',pl,hz⟩:=I.list hq;have hlen:=r'.length;obtain ⟨o,ho,hc,n,hd⟩:=pl.isList;exact call_list_seq p (.inl rfl) ho hc hd (λh' c' kp e=>fin its r' hz h' c' kp e) (by simp only [List.size_toArray] <;> omega)
 ·obtain ⟨its,r',pl,hz⟩:=I.tuple hq;have hlen:=r'.length;obtain ⟨o,ho,hc,n,hd⟩:=pl;exact call_list_seq p (.inr rfl) ho hc hd (λh' c' kp e=>fin its r' hz h' c' kp e) (by simp only [List.size_toArray] <;> omega)
def Xh(K:PySem.W.Frag)(T:String)(x:V)(H:Hp):Prop:=match x with
 | .str _=>T="str"
 | .int _=>T="int"
 | .ref p=>(T="list"/\∃xs,gQ K H p xs)\/(T="tuple"/\∃o,K.lookup p=some o/\o.cls= .type "tuple"/\o.dict=none)\/
   (T="dict"/\((∃Λ,H p=some (.dK Λ))\/∃Λ,H p=some (.dT Λ)))\/(T="set"/\∃S n,H p=some (.set S n))
 | _=>False
theorem Me{ε:List (Addr×Obj)}{σ:St}{H:Hp}{s:Shared}{T:String}{x:V}{v:Value}(I:Inv X ε σ H s)(r:au x v)(ty:Xh X.K T x H):
  s.TypeIs v T/\∀a,v= .ref a->∃ob,s.heap.get? a=some ob/\ob.dict=none:=by
 cases x with
 | str z=>
  obtain ⟨t,rfl⟩:=r;cases (show T="str" from ty);exact ⟨typeIs_str s z t,λ_ e=>nomatch e⟩
 | int i=>
  obtain ⟨t,rfl⟩:=r;cases (show T="int" from ty);exact ⟨typeIs_int s i t,λ_ e=>nomatch e⟩
 | ref p=>
  cases r;rcases ty with ⟨rfl,xs,hq⟩ | ⟨rfl,o,hk,hc,hd⟩ | ⟨rfl,hk⟩ | ⟨rfl,S,n,hk⟩
  ·obtain ⟨its,_,pl,_⟩:=I.list hq;refine ⟨pl.isList.typeIs,λa e=> ?_⟩;cases e;obtain ⟨o,n,e,c,hd,_⟩:=pl;exact ⟨o,e,hd⟩
  ·refine ⟨⟨o,I.oy p o hk,hc⟩,λa e=> ?_⟩;cases e;exact ⟨o,I.oy _ o hk,hd⟩
  ·have z:∃o,s.heap.get? p=some o/\o.ExactDict:=by
    rcases hk with ⟨Λ,hk⟩ | ⟨Λ,hk⟩
    ·obtain ⟨_,_,_,_,o,_,_,e,ex,_⟩:=I.aG p _ hk;exact ⟨o,e,ex⟩
    ·obtain ⟨_,_,_,_,o,_,_,e,ex,_⟩:=I.aG p _ hk;exact ⟨o,e,ex⟩
   obtain ⟨o,e,ex⟩:=z;refine ⟨⟨o,e,ex.1⟩,λa e2=> ?_⟩;cases e2;exact ⟨o,e,ex.2.1⟩
  ·obtain ⟨o,_,_,_,e,ex,_⟩:=I.aG p _ hk;refine ⟨⟨o,e,ex.1⟩,λa e2=> ?_⟩;cases e2;exact ⟨o,e,ex.2.1⟩
 | _=>exact False.elim ty
def tBM(K:PySem.W.Frag)(T:String)(r:V->List V->Hp->VK->Prop)(to:TE)(t:TA):TE:=λσ H Q=>to σ H λx H1=>Xh K T x H1/\t σ H1 λxs H2=>r x xs H2 Q
variable{o e:Expr}{es:List Expr}{to:TE}{t:TA}{name:Str}{apos ck:Pos}{T id:String}{r:V->List V->Hp->VK->Prop}
theorem PJ(pa:PlainAttrs T)(slot:Slot T name id)(hty:typeOf (.builtin id)=pure (.type "method_descriptor"))(hm:Xq X id r)(ho:PE X o to)(ha:PA X (e::es) t)
  (GN:attributeBase o name X.env (eval o X.env)=eval o X.env:=by rfl)
  (MI:((backTo ck (starEach (e::es) X.env)).all (λx=> !x.1)&&(backToKw ck (keywordEach [] X.env)).all (λx=>x.1.isSome)
   &&decide ((e::es).length+([]:List Keyword).length+(if ([]:List Keyword).isEmpty then 0 else 1) < 30))=true:=by rfl)
  (GF:(apos.endLine==ck.line)=true:=by rfl) (hs:starEach (e::es) X.env=(false,eval e X.env)::starEach es X.env:=by rfl) (A6:(backTo ck (starEach es X.env)).any (·.1)=false:=by rfl):
  PE X (.Call (.Attribute o name apos) (e::es) [] ck) (tBM X.K T r to t):=by
 intro ε s σ H Q I h;refine wpAny_Call_method_late GN MI GF rfl (aS (ho ε s σ H _ I h) λv s1 ⟨x,H1,I1,r1,ty,q1⟩=> ?_);obtain ⟨h1,h2⟩:=Me I1 r1 ty;refine ⟨T,id,pa,slot,hty,h1,h2, ?_⟩;have hA:=ha ck ε s1 σ H1 _ I1 q1;rw [hs] at hA⊢;refine Calls.callWith_builtin (by show (false || (backTo ck (starEach es X.env)).any (·.1))=false;rw [A6] <;> rfl) (Calls.evalArgs_plain ?_);exact aS hA λus s2 ⟨vs,H2,I2,r2,q2⟩=>hm ε s2 σ H2 x vs v us Q I2 r1 r2 q2
end
def Y6(X:Cx)(id:String)(r:V->List V->Hp->VK->Prop):Prop:=
 ∀(ε:List (Addr×Obj)) (s:Shared) (σ:St) (H:Hp) (x:V) (xs:List V) (v:Value) (us:List Value) (Q:VK),Inv X ε σ H s->au x v->ao xs us->r x xs H Q->
  wpAny (model X.prog X.w) X.A (call (.builtin id) (v::us)) (EP X ε σ Q) X.xe s
theorem ao.one:∀{x:V} {us:List Value},ao [x] us->∃u,us=[u]/\au x u
 | _,_, .cons r .nil=>⟨_,rfl,r⟩
theorem ao.rep{xs:List V}{us:List Value}(h:ao xs us):∀k:Nat,ao (List.replicate k xs).flatten (List.replicate k us).flatten
 | 0=> .nil
 | k+1=>by rw [aa7,aa7,abm,abm];exact ao.append h (ao.rep h k)
theorem ud(its:List Value):∀(k:Nat) (Ε:List Value),
  List.foldl (λx1 x2=>x1++x2) Ε.toArray (List.replicate k its.toArray)=(Ε++(List.replicate k its).flatten).toArray
 | 0,Ε=>by simp
 | k+1,Ε=>by
  have e:Ε.toArray++its.toArray=(Ε++its).toArray:=by simp
  have e2:(Ε++its)++(List.replicate k its).flatten=Ε++(List.replicate (k+1) its).flatten:=by rw [aa7,abm,abf]
  rw [<-e2,<-ud its k (Ε++its),<-e,aa7,abp]
section
variable{X:Cx}{ε:List (Addr×Obj)}{σ:St}{H:Hp}{s:Shared}{l b:Addr}{xs ys zs:List V}
theorem Inv.TC{its its':List Value}{n:Nat}{f:Array Value->Array Value}{t':Nat}(I:Inv X ε σ H s)(hH:H l=some (.lst xs))
  (e:s.heap.get? l=some {cls:= .type "list",data:= .seq its.toArray n}) (hf:f its.toArray=its'.toArray) (hv:ao ys its') (hz:ys.length<=sizeLine):
  Inv X ε σ (upd H l (.lst ys)) {s with heap:=s.heap.update l (Obj.mapSeq f),toks:=t'}:=by
 have q:=PySem.IsL.update e f;rw [hf] at q;refine I.write (x:=l) (e:=l) (by rw [hH];exact trivial) (.inl rfl) (λb' u hb hu=>(Heap.get?_update_other s.heap (Obj.mapSeq f) (Ne.symm hb)).trans hu) ⟨_,q⟩ ?_;exact ⟨hz,its',_,hv,q⟩
theorem Inv.Fv{its:List Value}{t':Nat}(I:Inv X ε σ H s)(hv:ao ys its)(hz:ys.length<=sizeLine):
  Inv X ε σ (upd H s.heap.objs.size (.lst ys)) {s with heap:=s.heap.push {cls:= .type "list",data:= .seq its.toArray},toks:=t'}:=
 I.laid (λ_ _ q=>Heap.get?_push_of_some _ q) (aaj _) ⟨hz,its,0,hv,Heap.get?_push_size _ rfl⟩
theorem Inv.fresh(I:Inv X ε σ H s):H s.heap.objs.size=none:=I.aG.fresh (aaj _)
theorem Inv.K1(I:Inv X ε σ H s)(hH:H l=some (.lst xs)):xs.length<=sizeLine/\∃(its:List Value) (n:Nat),ao xs its/\xs.length=its.length/\s.heap.get? l=some {cls:= .type "list",data:= .seq its.toArray n}:=by obtain ⟨z,its,n,r,e⟩:=I.aG l _ hH;exact ⟨z,its,n,r,r.length,e⟩
theorem Fp{n:Nat}(h:n<=sizeLine):Builtin.List.listTooLong n=false:=by unfold Builtin.List.listTooLong;exact decide_eq_false (by omega)
end
section
variable{X:Cx}
def BM:V->List V->Hp->VK->Prop:=λx vs H Q=>∃l xs y,x= .ref l/\vs=[y]/\H l=some (.lst xs)/\xs.length < sizeLine/\Q .br (upd H l (.lst (xs++[y])))
theorem j_:Y6 X "list.append" BM:=by intro ε s σ H x vs v us Q I rx rv h;obtain ⟨l,xs,y,rfl,rfl,hH,hz,q⟩:=h;cases rx;obtain ⟨u,rfl,ru⟩:=rv.one;obtain ⟨z,its,n,r,hl,e⟩:=I.K1 hH;refine call_meets F.slot_list_append ⟨_,e,rfl⟩ F.entry_list_append (F.args_list_append_2 _ _) (PySem.list_append l its.toArray n u (by rw [aa0];omega)) ⟨e, ?_⟩;refine ⟨.br,_,I.TC (its':=its++[u]) hH e (by simp) (r.append (.cons ru .nil)) ?_,rfl,q⟩;rw [aai,List.length_singleton];omega
def Nx:R2:=λx y H Q=>∃l b xs zs,x= .ref l/\y= .ref b/\H l=some (.lst xs)/\H b=some (.lst zs)/\xs.length+zs.length<=sizeLine/\∀p,H p=none->Q (.ref p) (upd H p (.lst (xs++zs)))
theorem GL:jq X (binaryOp .Add) Nx:=by
 intro ε s σ H x y v u Q I rx ry h;obtain ⟨l,b,xs,zs,rfl,rfl,hH,hB,hz,q⟩:=h;cases rx;cases ry;obtain ⟨z,its,n,r,hl,e⟩:=I.K1 hH;obtain ⟨z2,GQ,n2,r2,Dc,e2⟩:=I.K1 hB;refine PySem.P.add_list e e2 ?_ (by rw [aa0,aa0];omega);have ea:its.toArray++GQ.toArray=(its++GQ).toArray:=by simp
 rw [ea];exact ⟨.ref _,_,I.Fv (t':=s.toks) (r.append r2) (by rw [aai];omega),rfl,q _ I.fresh⟩
def Nh:R2:=λx y H Q=>∃l k xs,x= .ref l/\y= .int k/\H l=some (.lst xs)/\ -(2 ^ 63)<=k/\k < 2 ^ 63/\xs.length * k.toNat<=sizeLine/\
 ∀p,H p=none->Q (.ref p) (upd H p (.lst (List.replicate k.toNat xs).flatten))
theorem Le{α:Type}(xs:List α)(k:Nat):(List.replicate k xs).flatten.length=k * xs.length:=by
 induction k with
 | zero=>simp
 | succ k ih=>rw [aa7,abm,aai,ih,Nat.succ_mul,Nat.add_comm]
theorem FR:jq X (binaryOp .Mult) Nh:=by
 intro ε s σ H x y v u Q I rx ry h;obtain ⟨l,k,xs,rfl,rfl,hH,h1,h2,hz,q⟩:=h;cases rx;obtain ⟨t,rfl⟩:=ry;obtain ⟨z,its,n,r,hl,e⟩:=I.K1 hH;have hlen:its.toArray.size * k.toNat<=sizeLine:=by rw [aa0,<-hl];exact hz
 have WC:¬its.toArray.size * k.toNat > (2 ^ 63 - 1) / 8:=by
  have:(sizeLine:Nat)<=(2 ^ 63 - 1) / 8:=by decide
  omega
 have JY:¬(!Builtin.List.listFitsIndex k)=true:=by rw [fitsIndex_both h1 h2];exact aax
 have RY:¬Builtin.List.listTooLong (its.toArray.size * k.toNat)=true:=by rw [Fp hlen];exact aax
 have TR:List.foldl (λx1 x2=>x1++x2) #[] (List.replicate (if its.toArray.isEmpty=true then 0 else k.toNat) its.toArray)=(List.replicate k.toNat its).flatten.toArray:=by
  have f0:∀m:Nat,List.foldl (λx1 x2=>x1++x2) #[] (List.replicate m its.toArray)=(List.replicate m its).flatten.toArray:=λm=>by have:=ud its m [];rw [aaM] at this;exact this
  rw [f0];cases its with
  | nil=>simp
  | cons a r'=>rw [if_neg (by simp)]
 refine wpAny_binaryOp_repeat_ref (T:="list") (U:="int") (by decide) ⟨_,e,rfl⟩ (λs'=>typeIs_int s' k t) noFill_list_mul F.fills_int_mul F.slot_int_rmul repeat_list F.slot_int_index.lookup
  (call_meets F.slot_int_rmul (typeIs_int s k t) F.entry_int_rmul (F.args_int_rmul_2 _ _) (int___rmul___int_list k t l its.toArray n)
   ⟨e,rfl,⟨_,e,rfl⟩,call_meets F.slot_list_mul ⟨_,e,rfl⟩ F.entry_list_mul (F.args_list_mul_2 _ _) (AutoListH.list___mul___list_int_3 l its.toArray n k t JY WC RY) ⟨e, ?_⟩⟩)
 rw [TR];exact ⟨.ref _,_,I.Fv (t':=s.toks) (r.rep k.toNat) (by rw [Le,Nat.mul_comm];exact hz),rfl,q _ I.fresh⟩
end
end L2
namespace Att
open PySem PySem.W PySem.Calls PyProof.Rows
theorem oK{P:Params}{h:Heap}:∀(ns:List Int) (vs:List Value),WellAll P h vs (ns.map WData.int)->IntsAre vs ns:=by
 intro ns
 induction ns with
 | nil=>
  intro vs w;rw [List.map_nil] at w;cases w;exact .nil
 | cons n ns ih=>
  intro vs w;rw [aaF] at w;cases w with
  | cons a b=>
   cases a;exact .cons _ _ (ih _ b)
theorem C4{l:OpenLaw}{n:Nat}(hn:l.most=some n){P:Params}{h:Heap}{args:List WData}{vals:List Value}
  (Jr:l.row.toRowW.claim.pre args=true) (Ww:WellAll P h vals args):
  ∃a vs ns,vals=[Value.ref a]/\args=[WData.list (ns.map WData.int)]/\h.get? a=some {cls:= .type "list",data:= .seq vs.toArray}/\IntsAre vs ns/\ns.length<=n:=by
 have hsh:WShape.hasAll [] args [.list .int]=true:=(pre_splitW Jr).1;have hc:l.pre.holds [] {args:=args}=true:=(pre_splitW Jr).2;obtain ⟨d,r,rfl,h1,h2⟩:=hasAllW_cons hsh;obtain rfl:=hasAllW_nil h2;obtain ⟨xs,rfl,h3⟩:=hasW_list h1;obtain ⟨ns,rfl⟩:=items_int h3;have hlen:ns.length<=n:=by
  unfold OpenLaw.pre at hc;have h4:(WTm.not (.lt (.lit (.int (n:Int))) (.len (.arg 0)))).holds [] {args:=[.list (ns.map .int)]}=true:=by have h4:=(holds_andW hc).1;rw [hn] at h4;exact h4
  have h5:=condW_of h4 (w_not (w_lt w_lit (w_len_list (w_arg rfl))));rw [aae] at h5;refine Nat.le_of_not_lt λq=> ?_;have q':(n:Int) < ((ns.length:Nat):Int):=by omega
  first
   | (rw [decide_eq_true q'] at h5;exact absurd h5 (by decide))
   | (simp at h5;omega)
 cases Ww with
 | cons w1 w2=>
  cases w2;cases w1 with
  | list ho NB=>exact ⟨_,_,ns,rfl,rfl,ho,oK ns _ NB,hlen⟩
theorem DP(l:OpenLaw)(args:List WData):l.row.toRowW.claim.post args (.bool true) args=true:=
 postW_of (r:=l.row.toRowW) (X:=(true==true))
  (show WShape.has [] (.bool true) .bool=true by first | rfl | decide | simp [WShape.has,WShape.arms,WShape.armsAll])
  (show (WTm.eq .res (.lit (.bool true))).value [] {args:=args,res:=some (.bool true),after:=args}=some (.bool (true==true)) from w_eq_bool (w_res rfl) w_lit) rfl
theorem wW{l:OpenLaw}{n:Nat}{q:Program}{loose:List Str}{XP:(Str->Option Value)->Heap->Prop}{YP:World->Heap->Prop}{d:DefRec}
  (hn:l.most=some n) (QH:d.params.defaults=[])
  (call:∀(w:World) (s₀ s₁:Shared) (mg mb:Str->Option Value) (fa:Addr) (o:Obj) (pm cd doc:Value) (a:Addr) (vs:List Value) (ns:List Int),
   Ground q loose [] XP w s₀ mg mb s₁.heap->YP w s₁.heap->
   s₁.heap.get? fa=some o->o.data= .func (docDef d.name d.params d.body d.scope pm cd doc)->s₁.heap.CodeRec cd d.name->mg d.name=some (.ref fa)->
   s₁.heap.get? a=some {cls:= .type "list",data:= .seq vs.toArray}->IntsAre vs ns->ns.length<=n->s₁.gens= #[]->
   codeAny (model l.prog w) callerA (.call (.ref fa) ⟨[.ref a],[]⟩) (λr s'=>r= .ok (.ret (.bool true))/\OldK s₁.heap s'.heap/\s'.os=s₁.os/\AllBare s'.gens) s₁):
  WalkO q loose XP YP l.row.toRowW d [] (λf vs=>PySem.call f vs):=by
 intro w s₀ s₁ mg mb G Y fa o pm cd doc dV kV ho hd Fc hD K7 hg args vals as Jr Z1 hrd Ww hlo;obtain rfl:dV= .none:=Dflts.none hD QH;obtain rfl:kV= .none:=Dflts.noKw hD;obtain ⟨a,vs,ns,rfl,rfl,Ox,hints,hlen⟩:=C4 hn Jr Ww;refine enter_call (codeAny_mono (call w s₀ s₁ mg mb fa o pm cd doc a vs ns G Y ho (fd_plain hd) Fc K7 Ox hints hlen hg) λr s' hq=> ?_);obtain ⟨rfl,h2,h3,h4⟩:=hq;exact ⟨.inl ⟨.bool true, .bool true,[],rfl,λ_=>rfl, .bool true,DP l _,λ_=>⟨List.Pairwise.nil,λ_ hm=>(nomatch hm)⟩⟩,h2,h3,h4⟩
end Att
namespace L2
open PySem PySem.Spec PyProof.Rows
theorem tN:∀{vs:List Value} {ns:List Int},IntsAre vs ns->ao (ns.map V.int) vs
 | _,_, .nil=> .nil
 | _,_, .cons n t h=> .cons ⟨t,rfl⟩ (tN h)
def NG(H:Hp):Prop:=∀b,H b=none\/∃o xs,H b=some (.wM o (.lst xs))
theorem IJ{P:Program}{w:World}{K:PySem.W.Frag}{mg mb:Str->Option Value}{CX:ze}{k:Nat}{fa a:Addr}{fd:FuncData}{x:Str}{sp:Sp}{s₁:Shared}{vs:List Value}{ns:List Int}
  (KX:K.In s₁.heap) (X':s₁.heap.Ns mainGlobals mg) (hb:s₁.heap.Ns builtinsNs mb) (Z6:∀x:Str,x≠"__name__"->mb x=bootBuiltins x) (UY:s₁.heap.NoLimit) (hg:s₁.gens= #[])
  (ha:s₁.heap.get? a=some {cls:= .type "list",data:= .seq vs.toArray}) (hi:IntsAre vs ns) (hl:ns.length<=sizeLine) (hr:bO k callerA)
  (F:∀base:Heap,K.In base->base.Ns mainGlobals mg->af P w K mg base CX k fa fd [x] sp) (PL:∀(s:Shared) (u:Value),BindsTo s fd ⟨[u],[]⟩ [(x,u)])
  (LN:∀H:Hp,NG H->gQ K H a (ns.map V.int)->sp [.ref a] H (λv _=>v= .bl true) λ_ _ _=>False)
  (UG:∀H e s',CX [] H s₁ (λ_ _ _=>False) e s'->False):
  codeAny (model P w) callerA (.call (.ref fa) ⟨[.ref a],[]⟩) (λr s'=>r= .ok (.ret (.bool true))/\OldK s₁.heap s'.heap/\s'.os=s₁.os/\AllBare s'.gens) s₁:=by
 have rv:=tN hi;have U':=hi.length
 have core:∀H:Hp,NG H->gQ K H a (ns.map V.int)->ky P w H s₁.heap->(∀b,H b≠none->b=a)->(H a≠none->K.lookup a=none)->
   codeAny (model P w) callerA (.call (.ref fa) ⟨[.ref a],[]⟩) (λr s'=>r= .ok (.ret (.bool true))/\OldK s₁.heap s'.heap/\s'.os=s₁.os/\AllBare s'.gens) s₁:=by
  intro H hO hS aG hA hK;have B5:∀{b:Addr} {o:Obj},s₁.heap.get? b=some o->H b=none->(vN s₁.heap H).get? b=some o:=λe n=>IG e n;have Qy:∀{b:Addr} {o:Obj} {es:Array DictEntry} {ep:Nat},s₁.heap.get? b=some o->o.data= .dict es ep->H b=none:=λ{b o es ep} e d=>by
   cases q:H b with
   | none=>rfl
   | some u=>
    have e':b=a:=hA b (by rw [q];simp);subst e';rw [ha] at e;cases e;have d':Data.seq vs.toArray _=Data.dict es ep:=d;cases d'
  have S7:∀{b:Addr} {m:Str->Option Value},s₁.heap.Ns b m->(vN s₁.heap H).Ns b m:=λ{b m} ⟨o,es,ep,e,d,r⟩=>⟨o,es,ep,B5 e (Qy e d),d,r⟩
  have W_:K.In (vN s₁.heap H):=λb o e=>B5 (KX b o e) (by
   cases q:H b with
   | none=>rfl
   | some u=>
    have e':b=a:=hA b (by rw [q];simp);subst e'
    rw [hK (by rw [q];simp)] at e;cases e)
  have hM:Mod K mg (vN s₁.heap H):=⟨W_,S7 X',⟨mb,S7 hb,Z6⟩,let ⟨mc,h1,h2⟩:=UY;⟨mc,S7 h1,h2⟩⟩;have e0:Ag P w K mg (vN s₁.heap H) callerA [] s₁ H:=⟨rfl,hM,λb o e=>J2 e,Nat.le_of_eq (DC _ _),trivial,λb hb=>absurd (show b∈([]:List Addr) from hb) (by simp),aG, .of_eq hg⟩;refine codeAny_mono ((F _ W_ (S7 X')).run callerA [] s₁ H ⟨[.ref a],[]⟩ [.ref a] [.ref a] _ _ hr e0 (PL s₁ (.ref a)) (.cons rfl .nil) (LN H hO hS)) λr s' h=> ?_;cases r with
  | error e=>exact (UG H e s' h).elim
  | ok fl=>
   cases fl with
   | next=>exact False.elim h
   | brk=>exact False.elim h
   | cont=>exact False.elim h
   | ret u=>
    obtain ⟨v,H',os,bare,un,Vu,r',q⟩:=h;have q':v= .bl true:=q;subst q';obtain rfl:u=Value.bool true:=r';refine ⟨rfl,OldK.of_keep λb o e=> ?_,os,bare⟩;cases q:H b with
    | none=>exact un.keep b o e q (by intro z;exact absurd (show b∈([]:List Addr) from z) (by simp)) (by simp)
    | some u=>
     rcases hO b with z | ⟨ob,xs,z⟩
     ·rw [q] at z;cases z
     ·have z2:=un.nW b ob _ z;obtain ⟨e1,_⟩:=aG b _ z;obtain ⟨e2,_⟩:=Vu b _ z2;rw [e] at e1;cases e1;exact e2
 cases hk:K.lookup a with
 | some o=>
  have e:=KX a o hk;rw [ha] at e;cases e;refine core (λ_=>none) (λ_=> .inl rfl) (.inr ⟨_,vs.toArray,_,hk,rfl,rfl,rfl,by rw [List.size_toArray,U'];exact hl,by simpa using rv⟩) (λb u z=>by have z':(none:Option HO)=some u:=z;cases z') (λb z=>absurd rfl z) λz=>absurd rfl z
 | none=>
  refine core (λb=>if b=a then some (.wM {cls:= .type "list",data:= .seq vs.toArray} (.lst (ns.map V.int))) else none) (λb=> ?_) (.inl (.inr ⟨{cls:= .type "list",data:= .seq vs.toArray},if_pos rfl⟩)) (λb u z=> ?_) (λb z=> ?_) λ_=>hk
  ·by_cases hb:b=a
   ·exact .inr ⟨_,_,if_pos hb⟩
   ·exact .inl (if_neg hb)
  ·by_cases hb:b=a
   ·have z':=(if_pos hb).symm.trans z;cases z';subst hb;exact ⟨ha,by rw [aae];exact hl,vs,_,rv,ha⟩
   ·have z':=(if_neg hb).symm.trans z;cases z'
  ·by_cases hb:b=a
   ·exact hb
   ·exact absurd (if_neg hb) z
theorem wG{l:PySem.W.OpenLaw}{n k:Nat}{q:Program}{loose:List Str}{XP:(Str->Option Value)->Heap->Prop}{YP:World->Heap->Prop}{d:DefRec}{K:Params->PySem.W.Frag}{CX:World->ze}{sp:World->Sp}{x:Str}
  (hn:l.most=some n) (SQ:n<=sizeLine) (QH:d.params.defaults=[]) (hr:bO k callerA)
  (hY:∀(w:World) (h:Heap),YP w h->(K w.params).In h)
  (F:∀(w:World) (mg:Str->Option Value) (fa:Addr) (h:Heap),(K w.params).In h->h.Ns mainGlobals mg->mg d.name=some (.ref fa)->
   ∃fd:FuncData,(∀(s:Shared) (u:Value),BindsTo s fd ⟨[u],[]⟩ [(x,u)])/\
    ∀base:Heap,(K w.params).In base->base.Ns mainGlobals mg->af l.prog w (K w.params) mg base (CX w) k fa fd [x] (sp w))
  (LN:∀(w:World) (H:Hp) (a:Addr) (ns:List Int),ns.length<=n->NG H->gQ (K w.params) H a (ns.map V.int)->sp w [.ref a] H (λv _=>v= .bl true) λ_ _ _=>False)
  (UG:∀(w:World) (H:Hp) (s:Shared) (e:Value) (s':Shared),CX w [] H s (λ_ _ _=>False) e s'->False):
  PySem.W.WalkO q loose XP YP l.row.toRowW d [] (λf vs=>PySem.call f vs):=by
 refine Att.wW hn QH λw s₀ s₁ mg mb fa o pm cd doc a vs ns G Y ho hd Fc K7 Ox hints hlen hg=> ?_;have KX:=hY w _ Y;obtain ⟨fd,hb,hF⟩:=F w mg fa _ KX G.T.g K7;exact IJ KX G.T.g G.T.b G.T.builtins G.T.nolimit hg Ox hints (aaw hlen SQ) hr hF hb (λH hO hS=>LN w H a ns hlen hO hS) λH e s'=>UG w H s₁ e s'
end L2
/- THE TF JO (shape;LID,My.* are Rn):
  My.ZN:a structure of K6 addresses Vy VQ PZ names (classes,DZ);My.Txt K t:a structure (Prop) of K6 equations oZ K;
  My.zW:{K} {implicit addresses ..} (e1:nsIn K mainGlobals "law"=some (some (.ref f))) (e2:K.lookup f=some ⟨oc,od, .func (fnOf "law" "law" params body scope dV kV doc pm an aV ct),sl⟩) (e3:codeIn K aV "law"=true) .. :∃t,My.Txt K t
set_option maxRecDepth 100000 in
set_option maxHeartbeats 0 in
theorem PySem.Challenge.cw_LID_holds : PySem.Challenge.rw_LID.Holds := by
 w_on;o_law;k_head;(case hw=>w_witness2)
 k_fill
 refine L2.wG (l:=PySem.Challenge.rw_LID) (n:=63) (k:=40) (x:="script") (CX:=fun w=> ..) (sp:=fun _=>My.OM) rfl (by decide) rfl ⟨rfl,by decide,by decide⟩ (fun w h Y=>PySem.W.kIn_of Y) ?F ?S ?C
 case F=>
  intro w mg fa h KX G K7;have T:∃t,My.Txt (L2.Wt KX) t:=by
   dsimp only [L2.Wt]
   refine' My.zW ?e1 ?e2 ?e3 ..
   (case e1=>PySem.W.k_is)
   (case e2=>PySem.W.k_is)
   ..
  obtain ⟨t,T⟩:=T;have e0:=K7.symm.trans (PySem.W.mg_of KX G T.law);cases e0;exact ⟨_,λs u=> .of_eq rfl,λbase kb nb=>My.zu T kb nb⟩
 case S=>exact λw H a ns hl hO hS=> ..
 case C=>exact ..
(K6 tactic k_is has no namespace:write k_is) -/
namespace L2
open PySem PySem.Spec PyProof.Rows
def j9(s:Stmt):Arguments:=match s with
 | .FunctionDef _ a _ _ _ _ _ _ _ _=>a
 | _=>{posonlyargs:=[],args:=[],vararg:=none,kwonlyargs:=[],kw_defaults:=[],kwarg:=none,defaults:=[]}
def gO(s:Stmt):List Stmt:=match s with
 | .FunctionDef _ _ b _ _ _ _ _ _ _=>b
 | _=>[]
def θ(s:Stmt):Scope:=match s with
 | .FunctionDef _ _ _ _ _ _ sc _ _ _=>sc
 | _=>{kind:= .function,names:=[],isGenerator:=false,isCoroutine:=false}
abbrev SM:ze:=λ_ _ _ _ _ _=>False
abbrev E0:XK:=λ_ _ _=>False
structure cH(K:PySem.W.Frag)(x qual:Str)(st:Stmt)(f:Addr)(fd:FuncData):Prop where
 ex:∃(oc:Value) (od:Option Addr) (kV doc pm:Value) (an:Option Addr) (aV ct:Value) (Hf:Array (Option Value)),
  fd=PySem.W.fnOf x qual (j9 st) (gO st) (θ st) .none kV doc pm an aV ct/\K.lookup f=some ⟨oc,od, .func fd,Hf⟩/\PySem.W.codeIn K aV qual=true
 kp:PySem.W.keepIn K (.ref f)=true
section
variable{P:Program}{w:World}{K:PySem.W.Frag}{mg:Str->Option Value}{base:Heap}
theorem cH.binds{x qual:Str}{st:Stmt}{f:Addr}{fd:FuncData}{ps:List Str}(F:cH K x qual st f fd)
  (h:∀(kV doc pm:Value) (an:Option Addr) (aV ct:Value) (us:List Value),us.length=ps.length->bindArgs (PySem.W.fnOf x qual (j9 st) (gO st) (θ st) .none kV doc pm an aV ct) ⟨us,[]⟩=pure (ps.zip us)):jh K fd ps []:=by
 obtain ⟨oc,od,kV,doc,pm,an,aV,ct,Hf,rfl,lk,Fc⟩:=F.ex;exact .all (h kV doc pm an aV ct)
theorem Gz{x qual:Str}{st:Stmt}{f:Addr}{oc:Value}{od an:Option Addr}{Hf:Array (Option Value)}{kV doc pm aV ct:Value}(l:K.lookup f=some ⟨oc,od, .func (PySem.W.fnOf x qual (j9 st) (gO st) (θ st) .none kV doc pm an aV ct),Hf⟩)
  (c:PySem.W.codeIn K aV qual=true) (k:PySem.W.keepIn K (.ref f)=true):cH K x qual st f (PySem.W.fnOf x qual (j9 st) (gO st) (θ st) .none kV doc pm an aV ct):=⟨⟨oc,od,kV,doc,pm,an,aV,ct,Hf,rfl,l,c⟩,k⟩
end
theorem B_{A:Around}{k:Nat}(hr:bO k A):A.units+1 < cLine:=aaR (Nat.add_le_add_left (by decide:1<=64) _) hr.units
theorem Hv{A B:Prop}(h:B):if false=true then A else B:=by rw [if_neg aax];exact h
theorem E5{A B:Prop}(h:A):if true=true then A else B:=by rw [if_pos rfl];exact h
def df(H H':Hp):Prop:=∀b o,H b=some o->H' b=some o
theorem df.refl(H:Hp):df H H:=λ_ _ h=>h
theorem df.trans{H H1 H2:Hp}(a:df H H1)(b:df H1 H2):df H H2:=λc o h=>b c o (a c o h)
theorem df.free{H H':Hp}(e:df H H'){l:Addr}(h:H' l=Option.none):H l=Option.none:=by
 cases q:H l with
 | none=>rfl
 | some o=>
  rw [e l o q] at h;cases h
theorem df.seq{K:PySem.W.Frag}{H H':Hp}{a:Addr}{xs:List V}(e:df H H')(h:gQ K H a xs):gQ K H' a xs:=by
 rcases h with (h | ⟨o,h⟩) | h
 ·exact .inl (.inl (e _ _ h))
 ·exact .inl (.inr ⟨o,e _ _ h⟩)
 ·exact .inr h
section
variable{P:Program}{w:World}
def J'(B:Heap)(l:List Env)(x:Addr)(o:Obj)(fl:Value)(h:Heap):Prop:=
 B.StaysIn h/\B.get? x=none/\h.FunFrames B l/\∃(vs:Array Value) (T:Addr) (oT:Obj) (ts:Array Value),h.get? x=some {o with data:= .fields vs}/\vs[2]? =some .none/\vs[1]? =some (.ref T)/\
  B.get? T=none/\T≠x/\h.get? T=some oT/\oT.data= .fields ts/\ts[3]? =some fl
section
variable{M:Model}{A:Around}{E:Value->Shared->Prop}{s:Shared}{B:Heap}{env:Env}{outer l:List Env}{L x:Addr}{o:Obj}{vs:Array Value}{Q:Unit->Shared->Prop}
theorem p9{h h':Heap}{T:Addr}{oT:Obj}{ts:Array Value}(hT:h.get? T=some oT)(hd:oT.data= .fields ts)(k:∀b,b≠T->h'.get? b=h.get? b):h.UpToSlots h':=λb ob e hn=>
 ⟨ob.slots,(k b λz=>by rw [z,hT] at e;cases e;exact hn _ hd).trans e⟩
theorem tI{h h':Heap}(hl:h.FunFrames B l)(u:h.UpToSlots h'):h'.FunFrames B l:=hl.of_keeps λb ob e hn=>by obtain ⟨sl,q⟩:=u b ob e hn;exact ⟨_,q,rfl⟩
theorem Gs{head:Value}{SU:Bool}(UA:A.frames=some (env::outer))(hf:env.frame=some L)(hB:B.StaysIn s.heap)(hn:B.get? x=none)(hl:s.heap.FunFrames B (env::outer))(hx:s.heap.get? x=some {o with data:= .fields vs})(h1:1 < vs.size)(h2:vs[2]? =some .none)
  (h:∀h',J' B (env::outer) x o (rawInt L) h'->s.heap.UpToSlots h'->Q () {s with heap:=h'}):
  wpAny M A (do let a<-frameOf env;let pl<-entryPlaceOf L SU;let n<-EntryCells.newEntry head a .none (rawInt L) .none pl;setField (.ref x) 1 n) Q E s:=by
 refine wpAny_bind (wpAny_frameOf_fun UA hl hf λg1 S1=>wpAny_bind (wpAny_entryPlaceOf λpl fF=> ?_));have nx:x∉(env::outer).filterMap (·.frame):=λz=>by obtain ⟨_,ob,e,d⟩:=hl.mem z;rw [hx] at e;cases e;exact d _ rfl
 have Ym:g1.get? x=some {o with data:= .fields vs}:=(S1.2.1 x nx).trans hx;unfold EntryCells.newEntry newFields;refine wpAny_bind (wpAny_newObj_type ?_ (fF.sizeOk5 _ _ _ _ _));have XF:=Heap.get?_push_of_some (h:=g1) {cls:= .type "traceback",dict:=none,data:= .fields ([head, .ref L, .none,rawInt L, .none]++(if pl.isEmpty then List.replicate 6 Value.none else pl)).toArray} Ym;refine wpAny_setField XF rfl h1 (h _ ?_ ?_)
 ·have up1:∀b ob,b≠x->g1.get? b=some ob->((g1.push {cls:= .type "traceback",dict:=none,data:= .fields ([head, .ref L, .none,rawInt L, .none]++(if pl.isEmpty then List.replicate 6 Value.none else pl)).toArray}).update x (Obj.mapFields (·.setIfInBounds 1 (Value.ref g1.objs.size)))).get? b=some ob:=λb ob nb e=>
   (Heap.get?_update_other _ _ (Ne.symm nb)).trans (Heap.get?_push_of_some _ e)
  have neT:g1.objs.size≠x:=abO (Heap.lt_size Ym)
  refine ⟨λb ob e=>up1 b ob (λz=>by rw [z,hn] at e;cases e) ((S1.2.1 b λz=>by rw [(hl.mem z).1] at e;cases e).trans (hB b ob e)),hn,hl.of_keeps λb ob e d=> ?_,vs.setIfInBounds 1 (.ref g1.objs.size),g1.objs.size,_,_,Heap.get?_update_self _ XF rfl,by rw [Array.getElem?_setIfInBounds_ne (by decide)];exact h2,by simp [h1], ?_,neT,
   (Heap.get?_update_other _ _ (Ne.symm neT)).trans (Heap.get?_push_size g1 rfl),rfl, ?_⟩
  ·obtain ⟨sl,q⟩:=S1.2.2 b ob e;exact ⟨_,up1 b _ (λz=>by rw [z,hx] at e;cases e;exact d _ rfl) q,rfl⟩
  ·cases q:B.get? g1.objs.size with
   | none=>rfl
   | some ob=>
    have:=Heap.lt_size (hB _ _ q);rw [<-S1.1] at this;exact absurd this (aaY _)
  ·first
    | (simp;done)
    | (rcases fF with rfl | ⟨_,_,_,_,_,_,_,rfl⟩ <;> simp)
 ·intro b ob e d;obtain ⟨sl,q⟩:=S1.2.2 b ob e;refine ⟨sl, ?_⟩;rw [Heap.get?_update_other _ _ (λz:x=b=>by rw [<-z,hx] at e;cases e;exact d _ rfl)];exact Heap.get?_push_of_some _ q
theorem QF(UA:A.frames=some (env::outer))(hf:env.frame=some L)(R:J' B (env::outer) x o .none s.heap)
  (h:∀h',J' B (env::outer) x o (rawInt L) h'->s.heap.UpToSlots h'->Q () {s with heap:=h'}):wpAny M A (noteFrame (.ref x) env) Q E s:=by
 obtain ⟨hB,hn,hl,vs,T,oT,ts,hx,h2,h1,nT,SO,hT,dT,h3⟩:=R;unfold noteFrame;simp only [hf];refine wpAny_bind (wpAny_field hx rfl h1 ?_);rw [if_pos (show (Value.ref T != Value.none)=true by simp)];refine wpAny_bind (wpAny_field hT dT h3 ?_);rw [if_neg (show¬((Value.none==rawInt L)=true) by simp [rawInt])];refine wpAny_bind (wpAny_setField hT dT (abQ.mp h3).1 ?_);have Jg:∀b,b≠T->(s.heap.update T (Obj.mapFields (·.setIfInBounds 3 Value.none))).get? b=s.heap.get? b:=λb nb=>Heap.get?_update_other _ _ (Ne.symm nb);have u:=p9 hT dT Jg;exact Gs UA hf (λb ob e=>(Jg b λz=>by rw [z,nT] at e;cases e).trans (hB b ob e)) hn (tI hl u) ((Jg x (Ne.symm SO)).trans hx) (abQ.mp h1).1 h2 λh' F' u'=>h h' F' (u.trans u')
theorem Kl{fl:Value}(R:J' B l x o fl s.heap)(h:∀h',J' B l x o .none h'->s.heap.UpToSlots h'->Q () {s with heap:=h'}):wpAny M A (setFlight (.ref x) none) Q E s:=by obtain ⟨hB,hn,hl,vs,T,oT,ts,hx,h2,h1,nT,SO,hT,dT,h3⟩:=R;unfold setFlight;refine wpAny_bind (wpAny_field hx rfl h1 ?_);rw [if_pos (show (Value.ref T != Value.none)=true by simp)];have z3:=(abQ.mp h3).1;have Jg:∀b,b≠T->(s.heap.update T (Obj.mapFields (·.setIfInBounds 3 ((none:Option Addr).elim Value.none λf=>rawInt f)))).get? b=s.heap.get? b:=λb nb=>Heap.get?_update_other _ _ (Ne.symm nb);have u:=p9 hT dT Jg;refine wpAny_setField hT dT z3 (h _ ⟨λb ob e=>(Jg b λz=>by rw [z,nT] at e;cases e).trans (hB b ob e),hn,tI hl u,vs,T,_,_,(Jg x (Ne.symm SO)).trans hx,h2,h1,nT,SO,Heap.get?_update_self _ hT (Obj.isFreed_of_fields (Obj.data_mapFields dT _)),Obj.data_mapFields dT _,by simp [z3]⟩ u)
theorem Mm{fl:Value}{h:Heap}(R:J' B (env::outer) x o fl h):J' B outer x o fl h:=by obtain ⟨hB,hn,⟨_,_,hl⟩,r⟩:=R;exact ⟨hB,hn,hl,r⟩
end
structure SK(P:Program)(w:World)(l:List Env)(H H':Hp)(h h' B:Heap)(x:Addr)(o:Obj):Prop where
 un:Un (oV l) [] H H' h h'
 ok:ky P w H' B
 QP:J' B l x o .none h'
 zd:∀b u,h.get? b=some u->H b=none->b∉oV l->B.get? b=some u
 QE:∀b u,h.get? b=some u->b∉oV l->∃u',B.get? b=some u'
variable{l:List Env}{H H':Hp}{h h' Tb B:Heap}{x:Addr}{o:Obj}
end
def bX(P:Program)(w:World):ze:=λouter H s E e s'=>
 ∃x o H' B,e= .ref x/\s'.os=s.os/\AllBare s'.gens/\SK P w outer H H' s.heap s'.heap B x o/\E o.cls o.dict H'
section
variable{X:Cx}{ε:List (Addr×Obj)}{σ:St}{H H':Hp}{s:Shared}{Tb B:Heap}{x:Addr}{ox:Obj}
theorem SK.leave(I:Inv X ε σ H s)(hex:X.ex=[])(M6:∀b∈oV X.outer,b∈oV X.stack)(ok:ky X.prog X.w H' B)(f:J' B X.outer x ox .none Tb)(nx0:X.s₀.heap.get? x=none)
  (zd:∀b o,b≠x->s.heap.get? b=some o->H b=none->b∉oV X.stack->B.get? b=some o)
  (QE:∀b o,b≠x->s.heap.get? b=some o->b∉oV X.stack->∃o',B.get? b=some o')
  (sl:∀b o,s.heap.get? b=some o->b∈oV X.stack->∃sl,Tb.get? b=some {o with slots:=sl})
  (free:∀b o,s.heap.get? b=some o->H b=none->H' b=none)
  (oW:∀b xs,H b=some (.tup xs)->H' b=some (.tup xs)) (nW:∀b o u,H b=some (.wM o u)->H' b=some (.wM o u))
  (oR:∀b ps,H b=some (.Kx ps)->∃more,H' b=some (.Kx (ps++more))):SK X.prog X.w X.outer X.H₀ H' X.s₀.heap Tb B x ox:=by
 have nX:∀b o,X.s₀.heap.get? b=some o->b≠x:=λb o e z=>by rw [z,nx0] at e;cases e
 have mQ:∀b:Addr,b∉X.ex:=λb z=>by rw [hex] at z;cases z
 have nS:∀b o,X.s₀.heap.get? b=some o->b∉oV X.outer->b∉oV X.stack:=λb o e hb z=>
  (aay.mp (I.m_ b z)).elim (λq=>aaz (aap (Heap.lt_size e) I.ok.above) q) hb
 refine ⟨⟨λb o e n hb _=> ?_,λb o e n hb _=> ?_,λb o e n _=> ?_,λb o e _=> ?_,λb xs e=>oW b xs (I.base.oW b xs e),λb o u e=>nW b o u (I.base.nW b o u e),λb ps e=> ?_⟩,ok,f,λb o e n hb=> ?_,λb o e hb=> ?_⟩
 ·exact f.1 b o (zd b o (nX b o e) (I.base.keep b o e n hb (mQ b)) (I.base.free b o e n (mQ b)) (nS b o e hb))
 ·obtain ⟨s1,e1⟩:=I.base.slot b o e n hb (mQ b);obtain ⟨s2,e2⟩:=sl b _ e1 (M6 b hb);exact ⟨s2,e2⟩
 ·obtain ⟨o',e1⟩:=I.base.there b o e (mQ b);exact free b o' e1 (I.base.free b o e n (mQ b))
 ·obtain ⟨o',e1⟩:=I.base.there b o e (mQ b);by_cases hb:b∈oV X.stack
  ·obtain ⟨s2,e2⟩:=sl b _ e1 hb;exact ⟨_,e2⟩
  ·obtain ⟨o2,q⟩:=QE b o' (nX b o e) e1 hb;exact ⟨o2,f.1 _ _ q⟩
 ·obtain ⟨m1,e1⟩:=I.base.oR b ps e;obtain ⟨m2,e2⟩:=oR b _ e1;exact ⟨m1++m2,by rw [e2,Array.append_assoc]⟩
 ·exact zd b o (nX b o e) (I.base.keep b o e n hb (mQ b)) (I.base.free b o e n (mQ b)) (nS b o e hb)
 ·obtain ⟨o',e1⟩:=I.base.there b o e (mQ b);exact QE b o' (nX b o e) e1 (nS b o e hb)
end
def cX(CX:ze)(X:Cx)(R:St->XK):Prop:=∀(ε:List (Addr×Obj)) (σ:St) (H:Hp) (s:Shared) (e:Value) (s':Shared),Inv X ε σ H s->CX X.stack H s (R σ) e s'->X.xe e s'
section
variable{P:Program}{w:World}{K:PySem.W.Frag}{mg:Str->Option Value}{base:Heap}{N:List Str}{qual:Str}{scope:Scope}{f:Addr}{cd:Value}{A:Around}{outer:List Env}{s₀:Shared}{H₀:Hp}{E:XK}
theorem K4{env:Env}{outer:List Env}:∀b∈oV outer,b∈oV (env::outer):=λb hb=>by obtain ⟨en,he,hf⟩:=ab3.mp hb;exact ab3.mpr ⟨en,aad _ he,hf⟩
theorem ν:cX (bX P w) (uM (bX P w) P w K mg base N qual scope f cd A outer s₀ H₀ E) (λ_=>E):=by
 intro ε σ H s e s' I hx;obtain ⟨x,o,H',B,rfl,os,bare,F,hE⟩:=hx;show wpAny _ _ (do noteFrame (.ref x) _;setFlight (.ref x) none) _ _ s';refine wpAny_bind (QF (B:=B) I.ok.frames rfl F.QP λh4 f4 u4=>Kl f4 λh5 f5 u5=> ?_);refine ⟨x,o,H',B,rfl,os.trans I.os,bare,SK.leave I rfl K4 F.ok (Mm f5) ?_ (λb o _=>F.zd b o) (λb o _=>F.QE b o) (λb o q hb=> ?_) (λb o q n=>F.un.free b o q n (by simp)) F.un.oW F.un.nW F.un.oR,hE⟩
 ·show s₀.heap.get? x=none;cases q:s₀.heap.get? x with
  | none=>rfl
  | some u=>
   obtain ⟨u',e1⟩:=I.base.there x u q (λz=>nomatch z);by_cases hb:x∈oV (uM (bX P w) P w K mg base N qual scope f cd A outer s₀ H₀ E).stack
   ·obtain ⟨vs,_,_,_,hxx,_⟩:=F.QP.2.2.2;obtain ⟨_,o',C1,hd⟩:=F.QP.2.2.1.mem hb;rw [hxx] at C1;cases C1;exact absurd rfl (hd _)
   ·obtain ⟨u2,e2⟩:=F.QE x u' e1 hb;rw [F.QP.2.1] at e2;cases e2
 ·obtain ⟨sl,e1⟩:=F.un.slot b o q (I.l7 b hb) hb (by simp);obtain ⟨_,o',C1,hd⟩:=F.QP.2.2.1.mem hb;rw [e1] at C1;cases C1;obtain ⟨S6,e2⟩:=(u4.trans u5) b _ e1 hd;exact ⟨S6,e2⟩
end
def MW(sp:Sp)(pF:List V)(R:St->XK)(t:TA):TE:=λσ H Q=>t σ H λvs H1=>sp (vs++pF) H1 Q (R σ)
section
variable{X:Cx}{CX:ze}{k:Nat}{f:Addr}{fd:FuncData}{ps:List Str}{sp:Sp}{pF:List V}{ds:List Value}{R:St->XK}{x:Str}{p pos:Pos}{e:Expr}{es:List Expr}{t:TA}
theorem uw{ε:List (Addr×Obj)}{σ:St}{H:Hp}{s:Shared}{Q:VK}{us:List Value}{vs:List V}(F:af X.prog X.w X.K X.mg X.base CX k f fd ps sp)(hr:bO k X.A)(hb:jh X.K fd ps ds)(hd:ao pF ds)(hx:cX CX X R)
  (I:Inv X ε σ H s) (r:ao vs us) (h:sp (vs++pF) H Q (R σ)):wpAny (model X.prog X.w) X.A (call (.ref f) us) (EP X ε σ Q) X.xe s:=by
 have r2:ao (vs++pF) (us++ds):=r.append hd;have hl:(us++ds).length=ps.length:=by rw [<-r2.length];exact F.len _ _ _ _ h
 refine wpAny_call (codeAny_mono (F.run X.A X.stack s H ⟨us,[]⟩ (us++ds) (vs++pF) Q (R σ) hr I.Sr (hb s us I.oy hl) r2 h) λr s' hq=> ?_);cases r with
 | error e=>exact hx ε σ H s e s' I hq
 | ok fl=>
  cases fl with
  | ret u=>exact I.after hq
  | next=>exact False.elim hq
  | brk=>exact False.elim hq
  | cont=>exact False.elim hq
theorem HH(F:af X.prog X.w X.K X.mg X.base CX k f fd ps sp)(hr:bO k X.A)(hg:Gl X x)(hm:X.mg x=some (.ref f))(hk:PySem.W.keepIn X.K (.ref f)=true)(hb:jh X.K fd ps ds)(hd:ao pF ds)(hx:cX CX X R)
  (ha:PA X (e::es) t) (wq:(x==("__debug__":Str))=false:=by decide) (he:starEach (e::es) X.env=(false,eval e X.env)::starEach es X.env:=by rfl) (fF:(backTo pos (starEach es X.env)).any (·.1)=false:=by rfl):
  PE X (.Call (.Name x p) (e::es) [] pos) (MW sp pF R t):=by
 intro ε s σ H Q I h;refine wpAny_Call_Name_kw (pA I hg hm ?_ wq);refine PySem.W.callWith_K (h₀:=X.base) I.ok.mod.QZ hk (aS (ha pos ε s σ H _ I h) λus s1 ⟨vs,H1,I1,r,q⟩=>⟨I1.oy, ?_⟩) he fF;exact uw F hr hb hd hx I1 r q
end
def gZ(env:Env):List (Str×NameKind)->List (Str×Addr)->List (Str×Addr)
 | [],Ε=>Ε
 | p::r,Ε=>gZ env r (if p.2== .free then (p.1,(env.cells.lookup p.1).getD 0)::Ε else Ε)
theorem iP{scope:Scope}{env:Env}(h:∀p∈scope.names,p.2= .free->(env.cells.lookup p.1).isSome=true):closureFor scope env=pure (gZ env scope.names []):=by
 have key:∀(l:List (Str×NameKind)) (Ε:List (Str×Addr)),(∀p∈l,p.2= .free->(env.cells.lookup p.1).isSome=true)->
   (forIn l Ε (λ(p:Str×NameKind) (r:List (Str×Addr))=>(if p.2== .free then (do let c<-cellOf env p.1;pure (ForInStep.yield ((p.1,c)::r))) else pure (ForInStep.yield r):Sem (ForInStep (List (Str×Addr))))))=(pure (gZ env l Ε):Sem (List (Str×Addr))):=by
  intro l
  induction l with
  | nil=>intro Ε _;rfl
  | cons p r ih=>
   intro Ε hp;rw [List.forIn_cons];have Yr:=λa=>ih a λq hq=>hp q (aad _ hq);obtain ⟨n,k⟩:=p;by_cases hk:k= .free
   ·subst hk;have hs:=hp (n, .free) aaf rfl;cases hl:env.cells.lookup n with
    | none=>rw [show env.cells.lookup (n,NameKind.free).1=none from hl] at hs;cases hs
    | some c=>
     have e1:gZ env ((n, .free)::r) Ε=gZ env r ((n,c)::Ε):=by show gZ env r (if (NameKind.free==NameKind.free)=true then (n,(env.cells.lookup n).getD 0)::Ε else Ε)=_;rw [if_pos (by decide),hl];rfl
     have e2:cellOf env n=pure c:=by unfold cellOf;rw [hl]
     rw [e1];have e3:(NameKind.free==NameKind.free)=true:=by decide
     simp only [e3,if_true,e2,pure_bind];exact Yr _
   ·have hb:(k==NameKind.free)=false:=by simpa using hk
    have e1:gZ env ((n,k)::r) Ε=gZ env r Ε:=by show gZ env r (if (k==NameKind.free)=true then (n,(env.cells.lookup n).getD 0)::Ε else Ε)=_;rw [hb,if_neg (by decide)]
    rw [e1];simp only [hb,Bool.false_eq_true,if_false,pure_bind];exact Yr _
 have:=key scope.names [] h;unfold closureFor
 first
  | exact this
  | (simp only [bind_pure];exact this)
  | (rw [bind_pure];exact this)
theorem ko{env:Env}{y:Str}{c:Addr}:∀(l:List (Str×NameKind)) (Ε:List (Str×Addr)),(∀p∈l,p.2= .free->(env.cells.lookup p.1).isSome=true)->
  (Ε.lookup y=some c->env.cells.lookup y=some c)->(gZ env l Ε).lookup y=some c->env.cells.lookup y=some c
 | [],Ε,_,ha,h=>ha h
 | (n,k)::r,Ε,hp,ha,h=>by
  refine ko r _ (λq hq=>hp q (aad _ hq)) (λe=> ?_) h;split at e
  ·rename_i hk;rw [abd] at e;cases q:(y==n) with
   | true=>
    rw [q] at e;have e':(env.cells.lookup n).getD 0=c:=aar e;have hn:y=n:=by simpa using q
    subst hn;have hs:=hp (y,k) List.mem_cons_self (by simpa using hk);cases z:env.cells.lookup y with
    | none=>rw [show env.cells.lookup (y,k).1=none from z] at hs;cases hs
    | some d=>rw [z] at e';rw [<-e'];rfl
   | false=>rw [q] at e;exact ha e
  ·exact ha e
theorem gA{env:Env}{y:Str}:∀(l:List (Str×NameKind)) (Ε:List (Str×Addr)),((y,NameKind.free)∈l\/(Ε.lookup y).isSome=true)->((gZ env l Ε).lookup y).isSome=true
 | [],Ε,h=>by
  rcases h with h | h
  ·cases h
  ·exact h
 | (n,k)::r,Ε,h=>by
  refine gA r _ ?_;by_cases hy:y=n
  ·subst hy;by_cases hk:k= .free
   ·subst hk;right;show (List.lookup y (if (NameKind.free==NameKind.free)=true then (y,(env.cells.lookup y).getD 0)::Ε else Ε)).isSome=true;rw [if_pos (by decide),abd,beq_self_eq_true];rfl
   ·rcases h with h | h
    ·rcases aay.mp h with z | z
     ·exact absurd (Prod.mk.inj z).2.symm hk
     ·exact .inl z
    ·right;rw [if_neg (by simpa using hk)];exact h
  ·rcases h with h | h
   ·rcases aay.mp h with z | z
    ·exact absurd (Prod.mk.inj z).1 hy
    ·exact .inl z
   ·right;split
    ·rw [List.lookup_cons,show (y==n)=false by simpa using hy];exact h
    ·exact h
def Cx.comp(X:Cx)(Nc:List Str)(scope:Scope)(C:Addr)(s:Shared)(H:Hp)(fp:List Addr):Cx:={X with
 N:=Nc
 s₀:=s
 H₀:=H
 env:=compEnvC scope (gZ X.env scope.names []) C X.env
 outer:=X.stack
 ex:=fp
 fn:=λ_=>false
 pn:=[]
 xe:=λ_ _=>False}
structure dE(X:Cx)(scope:Scope)(x:Str)(ys:List Str)(caps:List Nat):Prop where
 kind:scope.kind= .function
 lx:∀p∈scope.names,p.2≠ .cell
 names:∀p∈scope.names,p.2= .local->scope.names.lookup p.1=some .local
 own:scope.names.lookup x=some .local
 free:∀p∈scope.names,p.2= .free->X.env.scope.names.lookup p.1=some .cell
 nd:(x::ys).Nodup
 S4:∀q∈ys.zip caps,X.N[q.2]? =some q.1/\X.env.scope.names.lookup q.1=some .cell/\scope.names.lookup q.1=some .free
 len:ys.length=caps.length
theorem vc{env:Env}{y:Str}:∀{l:List (Str×NameKind)},(∀p∈l,p.2≠ .cell)->
  ((l.map λ(n,k)=>if (k==NameKind.free&&env.scope.kind== .function&&env.kindOf n==some .cell) then (n,NameKind.cell) else (n,k)).lookup y=some .cell\/
   (l.map λ(n,k)=>if (k==NameKind.free&&env.scope.kind== .function&&env.kindOf n==some .cell) then (n,NameKind.cell) else (n,k)).lookup y=some .free)->(y,NameKind.free)∈l
 | [],_,h=>by rcases h with h | h <;> cases h
 | (n,k)::r,hc,h=>by
  have ih:= @vc env y r (λp hp=>hc p (aad _ hp));rw [aaF] at h;by_cases q:(k==NameKind.free&&env.scope.kind== .function&&env.kindOf n==some .cell)=true
  ·have hk:k= .free:=by rw [aas,aas] at q;simpa using q.1.1
   subst hk;by_cases hy:y=n
   ·subst hy;exact aaf
   ·refine aad _ (ih ?_);have hb:(y==n)=false:=by simpa using hy
    simp only [q,if_true,List.lookup_cons,hb] at h;exact h
  ·by_cases hy:y=n
   ·subst hy;have hb:(y==y)=true:=by simp
    simp only [q,Bool.false_eq_true,if_false,List.lookup_cons,hb] at h;rcases h with h | h
    ·exact absurd (aar h) (hc (y,k) aaf)
    ·rw [<-aar h];exact aaf
   ·refine aad _ (ih ?_);have hb:(y==n)=false:=by simpa using hy
    simp only [q,Bool.false_eq_true,if_false,List.lookup_cons,hb] at h;exact h
theorem mL{env:Env}{y:Str}(hk:env.scope.kind= .function)(hy:env.kindOf y=some .cell):∀{l:List (Str×NameKind)},l.lookup y=some .free->
  (l.map λ(n,k)=>if (k==NameKind.free&&env.scope.kind== .function&&env.kindOf n==some .cell) then (n,NameKind.cell) else (n,k)).lookup y=some .cell
 | [],h=>by cases h
 | (n,k)::r,h=>by
  have ih:= @mL env y hk hy r;rw [aaF];rw [abd] at h;by_cases e:y=n
  ·subst e;have hb:(y==y)=true:=by simp
   rw [hb] at h;have:k= .free:=aar h;subst this;have q:(NameKind.free==NameKind.free&&env.scope.kind== .function&&env.kindOf y==some .cell)=true:=by rw [hk,hy];rfl
   simp only [q,if_true,List.lookup_cons,hb]
  ·have hb:(y==n)=false:=by simpa using e
   rw [hb] at h;by_cases q:(k==NameKind.free&&env.scope.kind== .function&&env.kindOf n==some .cell)=true
   ·simp only [q,if_true,List.lookup_cons,hb];exact ih h
   ·simp only [q,Bool.false_eq_true,if_false,List.lookup_cons,hb];exact ih h
theorem dE.has{X:Cx}{scope:Scope}{x:Str}{ys:List Str}{caps:List Nat}(S:dE X scope x ys caps)(ok:X.Ok):∀p∈scope.names,p.2= .free->(X.env.cells.lookup p.1).isSome=true:=λp hp hf=>by obtain ⟨c,e⟩:=ok.has p.1 (.inl (S.free p hp hf));rw [e];rfl
theorem vt{α β:Type}:∀{xs:List α} {ys:List β} {j:Nat} {x:α} {y:β},xs[j]? =some x->ys[j]? =some y->(x,y)∈xs.zip ys
 | x::xs,y::ys,0,_,_,h1,h2=>by cases h1;cases h2;exact aaf
 | x::xs,y::ys,j+1,_,_,h1,h2=>aad _ (vt (xs:=xs) (ys:=ys) (j:=j) h1 h2)
 | [],_,_,_,_,h1,_=>by simp at h1
 | _::_,[],_,_,_,_,h2=>by simp at h2
def cc(caps:List Nat)(σ:St):St:=caps.map λi=>(σ[i]?).join
def Cz(J:It)(te:TE)(cs:St)(Q:VK)(H1:Hp)(D:Addr):Prop:=
 ∃W:Nat->Nat->List V->Hp->Prop,(∃m,W 0 m [] (upd H1 D (.lst [])))/\∀i m ys H2,W i m ys H2->H2 D=some (.lst ys)/\
  ((J.stop i H2/\Q (.ref D) H2)\/(J.go i H2/\∀x H3,J.Nn i H2 x H3->te (some x::cs) H3 λy H4=>H4 D=some (.lst ys)/\ys.length < sizeLine/\∃m',m' < m/\W (i+1) m' (ys++[y]) (upd H4 D (.lst (ys++[y])))))
def Lm(wi:TI)(te:TE)(caps:List Nat):TE:=λσ H Q=>wi σ H λJ H1=>∀D,H1 D=none->Cz J te (cc caps σ) Q H1 D
section
variable{X:Cx}{elt iter:Expr}{x:Str}{px:Pos}{scope:Scope}{pos:Pos}{wi:TI}{te:TE}{ys:List Str}{caps:List Nat}
theorem wN(S:dE X scope x ys caps)(hc:X.calm=true)(he:∀C s H fp,PE (Cx.comp X (x::ys) scope C s H fp) elt te)
  {ε:List (Addr×Obj)} {σ:St} {H2:Hp} {s2:Shared} {it:Addr} {fp:List Addr} {tn:Nat->Heap->Prop} {J:It} {Q:V->Hp->Prop} {PQ:Value->Addr->Result->Shared->Prop} (I:Inv X ε σ H2 s2) (T:Turn X.prog X.w X.K (.Name x px) J fp it tn) (t0:tn 0 s2.heap) (f2:∀b∈fp,lQ X ε H2 b)
  (h:∀D,H2 D=none->Cz J te (cc caps σ) Q H2 D)
  (Pr:∀D C s' H',Inv X ε σ H' s'->Q (.ref D) H'->(∃m,s'.heap.Ns C m)->H' C=none->X.s₀.heap.objs.size<=C->C≠X.env.locals->(∀z c,X.env.cells.lookup z=some c->c≠C)->(∀p∈X.pn++ε,p.1≠C)->PQ (.ref D) C (.ok .next) s'):
  wpAny (model X.prog X.w) X.A (newList []) (λΕ s3=>wpAny (model X.prog X.w) X.A (newFunctionEnv scope X.env.globals (gZ X.env scope.names []) [] X.env.qual none .none (some X.env)) (λxQ s4=>
   codeAny (model X.prog X.w) X.A (.compStart (.ListComp elt [⟨.Name x px,iter,[],0⟩] scope pos) 0 (.ref it) Ε {xQ with scope:=relabel scope X.env}) (PQ Ε xQ.locals) s4) X.xe s3) X.xe s2:=by
 have hD:H2 s2.heap.objs.size=none:=I.fresh;obtain ⟨W,⟨m0,w0⟩,step⟩:=h _ hD;refine wpAny_newObj_type ?_;have I3:Inv X ε σ (upd H2 s2.heap.objs.size (.lst [])) {s2 with heap:=s2.heap.push {cls:= .type "list",data:= .seq ([]:List Value).toArray}}:=Inv.Fv (t':=s2.toks) I (ys:=[]) (its:=[]) .nil (abE _);generalize Su:upd H2 s2.heap.objs.size (.lst [])=H3 at I3 w0;generalize Rt:({s2 with heap:=s2.heap.push {cls:= .type "list",data:= .seq ([]:List Value).toArray}}:Shared)=s3 at I3;have Gh:∀b∈fp,H3 b=none:=λb hb=>by obtain ⟨o,e,_⟩:=T.obj _ _ t0 b hb;rw [<-Su,ψ (aaz (Heap.lt_size e))];exact (f2 b hb).1
 have t3:tn 0 s3.heap:=T.keep _ _ _ t0 λb hb o e=>by rw [<-Rt];exact Heap.get?_push_of_some _ e
 refine wpAny_newFunctionEnv S.lx (λy hy=>nomatch hy) (λh4 Qj RI=> ?_) S.kind;have hC:H3 s3.heap.objs.size=none:=I3.fresh
 have kp:∀b o,s3.heap.get? b=some o->h4.get? b=some o:=λb o e=>
  (RI.2 b (aaz (Heap.lt_size e))).trans (Heap.get?_push_of_some _ e)
 generalize II:({s3 with heap:=h4,toks:=s3.toks+([]:List (Str×Value)).length}:Shared)=s4;have e4:s4.heap=h4:=by rw [<-II]
 have D5:∀z c,X.env.cells.lookup z=some c->c≠s3.heap.objs.size:=λz c e q=>by obtain ⟨v,w⟩:=I3.cell z c e;exact aaY _ (q▸w.lt)
 have dw:∀z c,(gZ X.env scope.names []).lookup z=some c->X.env.cells.lookup z=some c:=λz c e=>ko scope.names [] (S.has I.ok) (λq=>nomatch q) e;have P4:s3.heap.objs.size≠X.env.locals:=abO I3.lt;have ok:(Cx.comp X (x::ys) scope s3.heap.objs.size s3 H3 fp).Ok:=by
  refine ⟨I3.ok.mod,S.kind,I3.ok.glob,I3.ok.blt,aaj _,λz z' c e1 e2=>I3.ok.inj z z' c (dw z c e1) (dw z' c e2),λz hz=> ?_,λz c hz=>(by cases hz),I3.ok.hd,I3.ok.frames, .inl rfl,λb hb=>⟨?_,λz c e=> ?_⟩,I3.bs, ?_,λb o e hb=> ?_,λb hb hf=> ?_,I3.stack,I3.l7⟩
  ·have:=gA (env:=X.env) scope.names [] (.inl (vc S.lx hz));exact aaT.mp this
  ·obtain ⟨o,e,_⟩:=T.obj _ _ t3 b hb;exact aaz (Heap.lt_size e)
  ·exact (f2 b hb).2.2.2.2.1 z c (dw z c e)
  ·exact aaw I3.ok.sW I3.sz
  ·obtain ⟨_,_,_,hy,_⟩:=f2 b hb;have e0:=(I3.ok.bs b o e).1;rcases hy with hy | hy
   ·exact I3.ok.Fo b o e hy
   ·exact absurd (aap (Heap.lt_size e0) hy) (aaY _)
  ·obtain ⟨_,hl,Pj,_⟩:=f2 b hb;exact (aay.mp (I3.m_ b hf)).elim hl Pj
 have hlen:((none:Option V)::cc caps σ).length=(x::ys).length:=by rw [aau,aau,S.len];unfold cc;rw [aae]
 have I4:Inv X ε σ H3 s4:=by rw [<-II];exact I3.kept kp
 have Ic:Inv (Cx.comp X (x::ys) scope s3.heap.objs.size s3 H3 fp) [] ((none:Option V)::cc caps σ) H3 s4:=by
  refine ⟨ok,by rw [<-II];rfl,I4.bare,Un.kept (by rw [e4];exact kp),⟨_,by rw [e4];exact Qj,λi z v e1 e2 e3=> ?_⟩,λz c e=>I4.cell z c (dw z c e),hC,λz c e=>I4.kJ z c (dw z c e),(λp hp=>nomatch hp),I4.aG,hlen⟩;cases i with
  | zero=>cases e2
  | succ j=>
   have e1:ys[j]? =some z:=e1;have e2:(cc caps σ)[j]? =some (some v):=e2;unfold cc at e2;rw [aao] at e2;cases hi:caps[j]? with
   | none=>rw [hi] at e2;cases e2
   | some i=>
    rw [hi] at e2;have e2:(σ[i]?).join=some v:=aar e2;have e2:σ[i]? =some (some v):=by
     cases q:σ[i]? with
     | none=>rw [q] at e2;cases e2
     | some o=>rw [q] at e2;exact congrArg some e2
    obtain ⟨c1,c2,c3⟩:=S.S4 (z,i) (vt e1 hi);have c4:=mL (env:=X.env) I.ok.kind c2 c3;have c3:(z,NameKind.free)∈scope.names:=PySem.mem_of_lookup c3;obtain ⟨m,hn,hl⟩:=I4.loc;obtain ⟨u,r,lk⟩:=hl i z v c1 e2 (.inr (.inl c2));refine ⟨u,r, .inr ⟨.inl c4, ?_⟩⟩;rcases lk with ⟨k,_⟩ | ⟨_,c,uX,z'⟩
    ·exact absurd ((show X.env.scope.names.lookup z=some .local from k).symm.trans c2) (by decide)
    ·obtain ⟨d,hd⟩:=aaT.mp (gA (env:=X.env) scope.names [] (.inl c3));have:=dw z d hd;rw [uX] at this;cases this;exact ⟨c,hd,z'⟩
 have loop:codeAny (model X.prog X.w) X.A (.compLoop (.ListComp elt [⟨.Name x px,iter,[],0⟩] scope pos) 0 (.ref it) (.ref s2.heap.objs.size) (compEnvC scope (gZ X.env scope.names []) s3.heap.objs.size X.env)) (PQ (.ref s2.heap.objs.size) s3.heap.objs.size) s4:=by
  have GU:∀{H':Hp},(∀b∈fp,H' b=none)->∀b∈fp,lQ (Cx.comp X (x::ys) scope s3.heap.objs.size s3 H3 fp) [] H' b:=λhn b hb=>
   ⟨hn b hb,(ok.Pd b hb).1,ok.G9 b hb, .inl hb,(ok.Pd b hb).2,(λp hp=>nomatch hp)⟩
  refine codeAny_loop rfl (λn s'=>∃i zs v H',Inv (Cx.comp X (x::ys) scope s3.heap.objs.size s3 H3 fp) [] (v::cc caps σ) H' s'/\tn i s'.heap/\(∀b∈fp,H' b=none)/\W i n zs H') (λn s5 z=> ?_) m0 ⟨0,[],none,H3,Ic,T.keep _ _ _ t3 (λb hb o e=>by rw [e4];exact kp b o e),Gh,w0⟩;obtain ⟨i,zs,v,H5,I5,t5,Jh,w5⟩:=z;show wpAny _ _ ((compTurn _ 0 (.ref it) _ _).onRaise _) _ _ s5;refine wpAny_noted ?_;rw [compTurn_list1];refine wpAny_bind (wpAny_standAt (wpAny_bind ?_));obtain ⟨gI,stop | go⟩:=step i n zs H5 w5
  ·obtain ⟨stop,q⟩:=stop;refine aS (T.done (Cx.comp X (x::ys) scope s3.heap.objs.size s3 H3 fp) rfl rfl rfl hc i [] s5 _ H5 _ I5 (GU Jh) t5 stop) λr s6 ⟨hr,I6⟩=> ?_;subst hr;refine wpAny_pure (Pr _ _ s6 H5 ?_ q ?_ I6.free ?_ P4 D5 λp hp z=> ?_)
   ·refine I3.GO I6.os I6.base I6.aG I6.bare λb hb=> ?_;obtain ⟨_,g1,_,g3,g4,g5⟩:=f2 b hb;exact ⟨g3,g1,g4,g5⟩
   ·obtain ⟨m,hn,_⟩:=I6.loc;exact ⟨m,hn⟩
   ·exact I3.sz
   ·exact aaz (Heap.lt_size (I3.pin p hp).1) z
  ·obtain ⟨go,turn⟩:=go;refine aS (T.item (Cx.comp X (x::ys) scope s3.heap.objs.size s3 H3 fp) rfl rfl rfl hc i [] s5 _ H5 _ I5 (GU Jh) t5 go) λr s6 ⟨u,hr,h6⟩=> ?_;subst hr;refine wpAny_bind (aS h6 λ_ s7 ⟨y,H7,I7,r7,y7,t7,Rr⟩=> ?_);have R0:=I7.pinned (GU Rr) (T.obj _ _ t7);have hg:PG (Cx.comp X (x::ys) scope s3.heap.objs.size s3 H3 fp) (.Name x px) (gM 0):=ag S.nd rfl (.inl (lookup_relabel_local S.own)) (.inr (lookup_relabel_local S.own));refine wpAny_bind (wpAny_mono (hg _ s7 _ H7 y u (λσ' H'=>σ'=some y::cc caps σ/\H'=H7) R0 r7 ⟨rfl,rfl⟩) (λ_ s8 z8=> ?_) λ_ _ f=>f.elim);obtain ⟨σ8,H8,I8,e8,Yy⟩:=z8;subst e8 Yy;refine wpAny_bind (wpAny_bind (wpAny_mono (he _ _ _ _ _ s8 _ _ _ I8 (turn y _ y7)) (λu9 s9 z9=> ?_) λ_ _ f=>f.elim));obtain ⟨v9,H9,I9,r9,a9,l9,m9,Tr,w9⟩:=z9;refine wpAny_bind (wpAny_mono (j_ (X:=Cx.comp X (x::ys) scope s3.heap.objs.size s3 H3 fp) _ s9 _ H9 (.ref s2.heap.objs.size) [v9] _ [u9] (λ_ H'=>H'=upd H9 s2.heap.objs.size (.lst (zs++[v9]))) I9 rfl (.cons r9 .nil) ⟨_,zs,v9,rfl,rfl,a9,l9,rfl⟩) (λ_ SD Ro=> ?_) λ_ _ f=>f.elim);obtain ⟨_,Pe,Mj,_,Y_⟩:=Ro;subst Y_;refine wpAny_pure (wpAny_pure ⟨rfl,m9,Tr,i+1,zs++[v9],some y,_,Mj.fW,T.keep _ _ _ t7 λb hb o e=>(Mj.pin (b,o) (aan _ (aan _ (bz hb e)))).1,λb hb=> ?_,w9⟩);obtain ⟨o,e,_⟩:=T.obj _ _ t7 b hb;exact (Mj.pin (b,o) (aan _ (aan _ (bz hb e)))).2.1
 exact codeAny_compStart_list loop (T.self X.A 0 _ _ _ (T.keep _ _ _ t3 (λb hb o e=>by rw [e4];exact kp b o e)) loop)
theorem Ci(S:dE X scope x ys caps)(hc:X.calm=true)(hi:PI X (.Name x px) iter wi)(he:∀C s H fp,PE (Cx.comp X (x::ys) scope C s H fp) elt te)(hs:∀x,foldedSetIterable iter X.env x=pure x:=by intro _;rfl):
  PE X (.ListComp elt [⟨.Name x px,iter,[],0⟩] scope pos) (Lm wi te caps):=by
 intro ε s σ H Q I h;rw [eval_ListComp];refine wpAny_comprehension_free (use:=none) rfl hs (iP (S.has I.ok)) S.kind S.names (aS (hi ε s σ H _ I h) λv s1 h1=>aS h1 λO5 s2 h2=> ?_);obtain ⟨it,fp,tn,J,H2,rfl,I2,T,t0,f2,q⟩:=h2;refine wN S hc he (Q:=Q) I2 T t0 f2 q λD C s' H' I' q' n' hC hz hL Gn hp=> ?_;obtain ⟨m,n'⟩:=n';exact ⟨m,n',λh' sb=>⟨.ref D,H',I'.turned (it:=C) (t':=s'.toks) (λb o hb e=>(sb.2 b hb).trans e) hC hL (.inr hz) Gn hp,rfl,q'⟩⟩
def GJ(i:Nat)(wi:TI)(te:TE)(caps:List Nat):TS:=λD σ H=>Lm wi te caps σ H λv H1=>D.nx (σ.set i (some v)) H1
theorem Ax{i:Nat}{y:Str}{py HX:Pos}(hN:X.N.Nodup)(VB:X.N[i]? =some y)(hy:Loc X.env.scope y)(S:dE X scope x ys caps)(hc:X.calm=true)(hi:PI X (.Name x px) iter wi)(he:∀C s H fp,PE (Cx.comp X (x::ys) scope C s H fp) elt te)
  (Vr:swapsWith (.ListComp elt [⟨.Name x px,iter,[],0⟩] scope pos) (some (.Name y py)) HX.line X.env=pure true:=by rfl) (hs:∀x,foldedSetIterable iter X.env x=pure x:=by intro _;rfl)
  (hf:X.fn y=true\/X.env.scope.names.lookup y=some .local:=by first | exact .inl rfl | exact .inr rfl | assumption):
  PS X (.Assign [.Name y py] (.ListComp elt [⟨.Name x px,iter,[],0⟩] scope pos) HX) (GJ i wi te caps):=by
 intro ε s σ H D I h;rw [exec_Assign_Name_used _ _ _ _ Vr];refine wpAny_bind (wpAny_standAt (wpAny_bind ?_));show wpAny _ _ (do let _<-comprehension (.ListComp elt [⟨.Name x px,iter,[],0⟩] scope pos) scope X.env _ (newList []) false (eval iter X.env) (some (assign (.Name y py) X.env))) _ _ s;refine wpAny_bind (wpAny_mono (wpAny_comprehension_free (use:=some (assign (.Name y py) X.env)) (Q:=λ_ s'=>SP X ε D .next s') rfl hs (iP (S.has I.ok)) S.kind S.names (aS (hi ε s σ H _ I h) λv s1 h1=>aS h1 λO5 s2 h2=> ?_)) (λ_ s' hq=>wpAny_pure (wpAny_pure hq)) λ_ _ e=>e);obtain ⟨it,fp,tn,J,H2,rfl,I2,T,t0,f2,q⟩:=h2;refine wN S hc he (Q:=λv H1=>D.nx (σ.set i (some v)) H1) I2 T t0 f2 q λDl C s' H' I' q' n' hC hz hL Gn hp=> ?_;obtain ⟨m,n'⟩:=n';show wpAny _ _ (assign (.Name y py) X.env (.ref Dl)) _ _ s';refine wpAny_assign_Name (sN I' hN VB hy (v:= .ref Dl) rfl (λs3 I3 V5=> ?_) hf);obtain ⟨a,V5,ha⟩:=V5;have ZY:C≠a:=by
  rcases ha with rfl | ha
  ·exact hL
  ·exact (Gn _ _ ha).symm
 exact ⟨m,n'.sameBut V5 ZY,λh' sb=>⟨_,H',I3.turned (it:=C) (t':=s3.toks) (λb o hb e=>(sb.2 b hb).trans e) hC hL (.inr hz) Gn hp,q'⟩⟩
end
section
variable{P:Program}{w:World}{K:PySem.W.Frag}{mg:Str->Option Value}{base:Heap}
theorem cH.okX{x qual:Str}{st:Stmt}{f:Addr}{fd:FuncData}{N ps:List Str}{k:Nat}{sp:Sp}(F:cH K x qual st f fd)(S:Γ N ps (θ st))(len:∀vs H Q E,sp vs H Q E->vs.length=ps.length)
  (xr:∀(aV:Value) (A:Around) (outer:List Env) (s:Shared) (H:Hp) (vs:List V) (Q:VK) (E:XK),bO k (A.deeper (envOfC qual (θ st) s.heap.objs.size f aV))->sp vs H Q E->
   ∃t,EV (uM (bX P w) P w K mg base N qual (θ st) f aV A outer s H E) (gO st) t/\t {nx:=λ_ H'=>Q .br H',rt:=Q} (start N vs) H):af P w K mg base (bX P w) (k+1) f fd ps sp:=by
 obtain ⟨oc,od,kV,doc,pm,an,aV,ct,Hf,rfl,lk,Fc⟩:=F.ex;exact RT lk Fc S len λA outer s H vs Q E hr LN=>xr aV A outer s H vs Q E hr LN
end
theorem i6{X:Cx}{P:Program}{w:World}:cX (bX P w) X (λ_=>E0):=by intro ε σ H s e s' _ hx;obtain ⟨_,_,_,_,_,_,_,_,hE⟩:=hx;exact hE.elim
theorem log2_lt{n:Nat}{k:Nat}(h:n < 2 ^ k)(hk:0 < k):n.log2 < k:=by
 by_cases h0:n=0
 ·rw [h0,show Nat.log2 0=0 from rfl];exact hk
 ·exact (Nat.log2_lt h0).mpr h
def gJ(i:Int):Prop:=i.natAbs < 2 ^ 8000
theorem Dm{i j:Int}(hi:gJ i)(hj:gJ j):IntMulOk i j:=by
 have b:∀{i:Int},gJ i->Builtin.Int.intBits i<=8000:=λ{i} h=>by
  unfold Builtin.Int.intBits;split
  ·exact abE _
  ·have:=log2_lt (k:=8000) h (by decide);omega
 have b1:=b hi;have b2:=b hj;have h3:Builtin.Int.intTooBig (Builtin.Int.intBits i+Builtin.Int.intBits j)=false:=by
  unfold Builtin.Int.intTooBig;refine decide_eq_false ?_;have:(bitsLine:Int)=134217728:=by decide
  omega
 unfold IntMulOk;rw [h3,Bool.and_false];exact aax
section
variable{X:Cx}
theorem J8:jq X (binaryOp .Mult) (rI (λi j=>gJ i/\gJ j) λi j=> .int (i * j)):=SR λ_ _ _ _ _ _ _ hc q=>mul_int q (Dm hc.1 hc.2)
theorem yU:jq X (binaryOp .FloorDiv) (rI (λ_ j=>j≠0/\gJ j) λi j=> .int (i.fdiv j)):=SR λ_ _ _ _ _ _ _ hc q=>
 floordiv_int hc.1 q (.inl (PyProof.noPylong_of_log2 (aap (log2_lt (k:=8000) hc.2 (by decide)) (by decide))))
end
def Kh:V->Option Value
 | .ty T=>some (.type T)
 | .ref C=>some (.ref C)
 | _=>none
theorem Jw{c:V}{u t:Value}(r:au c u)(h:Kh c=some t):u=t:=by
 cases c with
 | ty T=>cases r;exact aar h
 | ref C=>cases r;exact aar h
 | _=>cases h
section
variable{X:Cx}
theorem xM:cM X (.builtin "isinstance") (λxs H Q=>∃x c t t' b,xs=[x,c]/\kD X.K H x t/\Kh c=some t'/\PySem.W.kitOne X.K t t'=some b/\Q (.bl b) H):=by intro ε s σ H xs us Q I r h;obtain ⟨x,c,t,t',b,rfl,ty,hc,hk,q⟩:=h;obtain ⟨u,u',rfl,r1,r2⟩:=IV r;cases Jw r2 hc;exact Ey I r1 ty hk λtk=>⟨.bl b,H,I.tok tk,rfl,q⟩
end
def me:List V->List V->Bool
 | [],[]=>true
 | x::xs,y::ys=>zc x y&&me xs ys
 | _,_=>false
theorem lP:∀(xs ys:List V) (e:Nat->Bool),(∀j x y,xs[j]? =some x->ys[j]? =some y->e j=zc x y)->((List.range (min xs.length ys.length)).all e&&xs.length==ys.length)=me xs ys
 | [],[],e,_=>rfl
 | [],_::_,e,_=>by simp [me]
 | _::_,[],e,_=>by simp [me]
 | x::xs,y::ys,e,h=>by
  have ih:=lP xs ys (λj=>e (j+1)) λj x y h1 h2=>h (j+1) x y h1 h2;have h0:e 0=zc x y:=h 0 x y rfl rfl;show _=(zc x y&&me xs ys);rw [<-ih,<-h0];have e1:min (x::xs).length (y::ys).length=min xs.length ys.length+1:=by simp only [List.length_cons];omega
  rw [e1,abz,abM,List.all_map];have e2:((x::xs).length==(y::ys).length)=(xs.length==ys.length):=by simp only [List.length_cons];rw [Bool.eq_iff_iff];simp
  rw [e2,Bool.and_assoc];rfl
def RJ(K:PySem.W.Frag):R2:=λx y H Q=>∃a b xs ys,x= .ref a/\y= .ref b/\oi K H a xs/\oi K H b ys/\xs.all fi=true/\ys.all fi=true/\Q (.bl (me xs ys)) H
def QJ(K:PySem.W.Frag):R2:=λx y H Q=>∃a b xs ys,x= .ref a/\y= .ref b/\oi K H a xs/\oi K H b ys/\xs.all fi=true/\ys.all fi=true/\Q (.bl (!me xs ys)) H
theorem ma:∀{xs:List V} {j:Nat} {x:V},xs.all fi=true->xs[j]? =some x->fi x=true
 | _::_,0,_,h,e=>by rw [abM,aas] at h;cases e;exact h.1
 | _::_,j+1,_,h,e=>by rw [abM,aas] at h;exact ma h.2 e
section
variable{X:Cx}
theorem Np(hu:X.A.units < cLine):jq X (compareOp .NotEq) (QJ X.K):=by
 intro ε s σ H x y v u Q I rx ry h;obtain ⟨a,b,xs,ys,rfl,rfl,h1,h2,f1,f2,q⟩:=h;cases rx;cases ry;obtain ⟨i1,v1,t1,_⟩:=I.tuple h1;obtain ⟨i2,v2,t2,_⟩:=I.tuple h2;have l1:=v1.length;have l2:=v2.length;refine SeqAt.RcNeAt.tuples (e:=λj=>match xs[j]?,ys[j]? with | some x,some y=>zc x y | _,_=>true) (show s.heap.IsTuple a i1.toArray from t1) (show s.heap.IsTuple b i2.toArray from t2) hu (λj h1 h2=> ?_) _ _ _ _ ?_
 ·have b1:j < i1.length:=by simpa using h1
  have b2:j < i2.length:=by simpa using h2
  have e1:xs[j]? =some (xs[j]'(by omega)):=aaa _;have e2:ys[j]? =some (ys[j]'(by omega)):=aaa _;obtain ⟨u1,g1,r1⟩:=v1.get e1;obtain ⟨u2,g2,r2⟩:=v2.get e2;rw [aaa b1] at g1;rw [aaa b2] at g2;have w1:i1.toArray[j]=u1:=by simpa using Option.some.inj g1
  have w2:i2.toArray[j]=u2:=by simpa using Option.some.inj g2
  rw [w1,w2];simp only [e1,e2];exact Al r1 r2 (ma f1 e1) (ma f2 e2)
 ·rw [List.size_toArray,List.size_toArray,<-l1,<-l2,lP xs ys _ (λj x y h1 h2=>by simp only [h1,h2])];exact ⟨.bl (!me xs ys),H,I,rfl,q⟩
theorem Ge(hu:X.A.units < cLine):jq X (compareOp .Eq) (RJ X.K):=by
 intro ε s σ H x y v u Q I rx ry h;obtain ⟨a,b,xs,ys,rfl,rfl,h1,h2,f1,f2,q⟩:=h;cases rx;cases ry;obtain ⟨i1,v1,t1,_⟩:=I.tuple h1;obtain ⟨i2,v2,t2,_⟩:=I.tuple h2;have l1:=v1.length;have l2:=v2.length;refine SeqAt.eq_tupleAt (e:=λj=>match xs[j]?,ys[j]? with | some x,some y=>zc x y | _,_=>true) (show s.heap.IsTuple a i1.toArray from t1) (show s.heap.IsTuple b i2.toArray from t2) hu (λj h1 h2=> ?_) ?_
 ·have b1:j < i1.length:=by simpa using h1
  have b2:j < i2.length:=by simpa using h2
  have e1:xs[j]? =some (xs[j]'(by omega)):=aaa _;have e2:ys[j]? =some (ys[j]'(by omega)):=aaa _;obtain ⟨u1,g1,r1⟩:=v1.get e1;obtain ⟨u2,g2,r2⟩:=v2.get e2;rw [aaa b1] at g1;rw [aaa b2] at g2;have w1:i1.toArray[j]=u1:=by simpa using Option.some.inj g1
  have w2:i2.toArray[j]=u2:=by simpa using Option.some.inj g2
  rw [w1,w2];simp only [e1,e2];exact Al r1 r2 (ma f1 e1) (ma f2 e2)
 ·rw [List.size_toArray,List.size_toArray,<-l1,<-l2,lP xs ys _ (λj x y h1 h2=>by simp only [h1,h2])];exact ⟨.bl (me xs ys),H,I,rfl,q⟩
end
theorem EL(bs:List Bool):(List.range bs.length).any (λi=>bs.getD i false)=bs.any id:=by
 induction bs with
 | nil=>rfl
 | cons b bs ih=>
  rw [aau,abz,abN,List.any_map,abN,<-ih];rfl
theorem uO:∀{bs:List Bool} {us:List Value},ao (bs.map V.bl) us->us=bs.map Value.bool
 | [],_,r=>by cases r;rfl
 | b::bs,_,r=>by
  cases r with
  | cons h t=>
   cases h;rw [uO t];rfl
theorem x4{prog:Program}{w:World}{A:Around}{bs:List Bool}:TruthOf prog w A (λi v=>(bs.map Value.bool).toArray[i]? =some v) (λi=>bs.getD i false):=by
 intro i v s Q E h q;have h':(bs.map Value.bool)[i]? =some v:=by simpa using h
 rw [aao] at h';cases e:bs[i]? with
 | none=>rw [e] at h';cases h'
 | some b=>
  rw [e] at h';cases h';have q':Q b s:=by
   have eb:bs.getD i false=b:=by rw [aab,e];rfl
   exact eb▸q
  exact wpAny_truthy_bool q'
def Qu(K:PySem.W.Frag):List V->Hp->VK->Prop:=λxs H Q=>∃(p:Addr) (bs:List Bool),xs=[.ref p]/\gQ K H p (bs.map V.bl)/\Q (.bl (bs.any id)) H
section
variable{X:Cx}
theorem Gq (hc : X.calm = true) : cM X (.builtin "any") (Qu X.K) := by
  intro ε s σ H xs us Q I r h;obtain ⟨p, bs, rfl, hq, q⟩ := h;obtain ⟨u, rfl, r1⟩ := j5 r;cases r1;obtain ⟨its, rv, pl, hz⟩ := I.list hq;have N6 := uO rv;subst N6;refine call_any_walk (wpAny_pyIter_list pl.isList ?_);have lp : p < s.heap.objs.size := by obtain ⟨o, e, _⟩ := pl.isList; exact Heap.lt_size e
  refine ⟨s.heap.objs.size, _, _, _, _, _, λi => bs.getD i false, rfl, Walks.list (show X.A.in1.handled = none from I.ok.hd hc) s.heap.objs.size p (aaz lp) (bs.map Value.bool).toArray, ⟨⟨_, Heap.get?_push_size _ rfl, rfl, rfl⟩, pl.isList.at λo e => Heap.get?_push_of_some _ e⟩, x4, λh' tk hk => ?_⟩
  refine ⟨.bl (bs.any id), H, I.kept fun b o e => hk b o (fun z => by have : b = s.heap.objs.size := by simpa using z
                                                                      exact aaY _ (this ▸ Heap.lt_size e)) (Heap.get?_push_of_some _ e), ?_, q⟩
  rw [aa0, aae, EL];rfl
end
end L2
namespace PySem
open Sem (wp)
end PySem
namespace PySem.W
open PySem PySem.Builtin PySem.Builtin.ObjectAttr
end PySem.W
namespace PySem
open Sem (wp)
end PySem
namespace L2
open PySem PySem.Spec PyProof.Rows
def xO(a C:Addr)(od:Option Addr):HO:= .ext λh=>∃ob vs,h.get? a=some ob/\ob.cls= .ref C/\ob.dict=od/\ob.data= .fields vs
inductive Dt where
 | br
 | bl (b:Bool)
 | int (i:Int)
 | str (x:Str)
 | tup (xs:List Dt)
 | lst (xs:List Dt)
 | obj (C:Addr) (ns:List Str) (xs:List Dt)
 | loc (k:Nat)
 | ref (a:Addr)
 | ty (n:String)
 | iV (ns:List Int)
 | kt (xs:List Dt)
 | exc (C:Addr) (ns:List Str) (xs:List Dt)
 | PK (x C:Addr) (od:Option Addr) (ns:List Str) (xs:List Dt)
inductive MO where
 | lst (xs:List Dt)
 | ins (C:Addr) (ns:List Str) (xs:List Dt)
 | cW (ks:List Key) (xs:List Dt)
 | raw (u:Addr->HO)
abbrev Ms:=List MO
abbrev En:=List (Option Dt)
mutual
def Den(K:PySem.W.Frag)(G:Hp)(L:List Addr):Dt->V->Prop
 | .br,v=>v= .br
 | .bl b,v=>v= .bl b
 | .int i,v=>v= .int i
 | .str x,v=>v= .str x
 | .tup ds,v=>∃a vs,v= .ref a/\G a=some (.tup vs)/\Ρ K G L ds vs
 | .lst ds,v=>∃a vs,v= .ref a/\G a=some (.lst vs)/\Ρ K G L ds vs
 | .obj C ns ds,v=>∃a dx vs,v= .ref a/\G a=some (.ins C dx (ns.zip vs))/\ns.length=ds.length/\Ρ K G L ds vs
 | .loc k,v=>∃a,v= .ref a/\L[k]? =some a
 | .ref a,v=>v= .ref a
 | .ty n,v=>v= .ty n
 | .iV ns,v=>∃a,v= .ref a/\gQ K G a (ns.map V.int)
 | .kt ds,v=>∃a vs,v= .ref a/\oi K G a vs/\Ρ K G L ds vs
 | .exc C ns ds,v=>∃a od vs,v= .ref a/\G a=some (xO a C od)/\((ns=[]/\od=none)\/∃dx,od=some dx/\G dx=some (.xd (ns.zip vs)))/\ns.length=ds.length/\Ρ K G L ds vs
 | .PK x _ od ns ds,v=>∃vs,v= .ref x/\((ns=[]/\od=none)\/∃dx,od=some dx/\G dx=some (.xd (ns.zip vs)))/\ns.length=ds.length/\Ρ K G L ds vs
def Ρ(K:PySem.W.Frag)(G:Hp)(L:List Addr):List Dt->List V->Prop
 | [],vs=>vs=[]
 | d::ds,vs=>∃v r,vs=v::r/\Den K G L d v/\Ρ K G L ds r
end
def Pre(L L':List Addr):Prop:=∃t,L'=L++t
theorem Pre.refl(L:List Addr):Pre L L:=⟨[],by simp⟩
theorem Pre.trans{a b c:List Addr}(h:Pre a b)(h':Pre b c):Pre a c:=by obtain ⟨t,rfl⟩:=h;obtain ⟨u,rfl⟩:=h';exact ⟨t++u,by simp⟩
theorem Pre.get{a b:List Addr}(h:Pre a b){k:Nat}{x:Addr}(e:a[k]? =some x):b[k]? =some x:=by obtain ⟨t,rfl⟩:=h;have hk:k < a.length:=(aag.mp e).1;rw [aat hk];exact e
theorem df.rd{H H':Hp}{a:Addr}{u:HO}(e:df H H')(h:Rd H a u):Rd H' a u:=by
 rcases h with h | ⟨o,h⟩
 ·exact .inl (e _ _ h)
 ·exact .inr ⟨o,e _ _ h⟩
theorem df.RN{K:PySem.W.Frag}{H H':Hp}{a:Addr}{xs:List V}(e:df H H')(h:oi K H a xs):oi K H' a xs:=by
 rcases h with h | h
 ·exact .inl (e.rd h)
 ·exact .inr h
section
variable{K:PySem.W.Frag}{G G':Hp}{L L':List Addr}
mutual
theorem Den.mono(g:df G G')(l:Pre L L'):∀(d:Dt) (v:V),Den K G L d v->Den K G' L' d v
 | .br,_,h=>h
 | .bl _,_,h=>h
 | .int _,_,h=>h
 | .str _,_,h=>h
 | .tup ds,_,⟨a,vs,e,h1,h2⟩=>⟨a,vs,e,g _ _ h1,Ρ.mono g l ds vs h2⟩
 | .lst ds,_,⟨a,vs,e,h1,h2⟩=>⟨a,vs,e,g _ _ h1,Ρ.mono g l ds vs h2⟩
 | .obj C ns ds,_,⟨a,dx,vs,e,h1,hn,h2⟩=>⟨a,dx,vs,e,g _ _ h1,hn,Ρ.mono g l ds vs h2⟩
 | .loc k,_,⟨a,e,h1⟩=>⟨a,e,l.get h1⟩
 | .ref _,_,h=>h
 | .ty _,_,h=>h
 | .iV _,_,⟨a,e,h1⟩=>⟨a,e,g.seq h1⟩
 | .kt ds,_,⟨a,vs,e,h1,h2⟩=>⟨a,vs,e,g.RN h1,Ρ.mono g l ds vs h2⟩
 | .exc _ _ ds,_,⟨a,od,vs,e,h1,h2,h3,h4⟩=>⟨a,od,vs,e,g _ _ h1,h2.imp (λz=>z) (λ⟨dx,z1,z2⟩=>⟨dx,z1,g _ _ z2⟩),h3,Ρ.mono g l ds vs h4⟩
 | .PK _ _ _ _ ds,_,⟨vs,e,h2,h3,h4⟩=>⟨vs,e,h2.imp (λz=>z) (λ⟨dx,z1,z2⟩=>⟨dx,z1,g _ _ z2⟩),h3,Ρ.mono g l ds vs h4⟩
theorem Ρ.mono(g:df G G')(l:Pre L L'):∀(ds:List Dt) (vs:List V),Ρ K G L ds vs->Ρ K G' L' ds vs
 | [],_,h=>h
 | d::ds,_,⟨v,r,e,h1,h2⟩=>⟨v,r,e,Den.mono g l d v h1,Ρ.mono g l ds r h2⟩
end
theorem Ρ.pair:∀{ds:List Dt} {vs:List V},Ρ K G L ds vs->Paired (Den K G L) ds vs
 | [],_,h=>by have h:_=_:=h;subst h;exact .nil
 | d::ds,_,⟨v,r,e,h1,h2⟩=>by subst e;exact .cons h1 (Ρ.pair h2)
theorem Ρ.of:∀{ds:List Dt} {vs:List V},Paired (Den K G L) ds vs->Ρ K G L ds vs
 | _,_, .nil=>rfl
 | _,_, .cons h t=>⟨_,_,rfl,h,Ρ.of t⟩
end
section
variable{α β:Type}{F:α->β->Prop}
theorem BY:∀{xs:List α} {us:List β} {i:Nat} {x:α},Paired F xs us->xs[i]? =some x->∃u,us[i]? =some u/\F x u
 | _,_,_,_, .nil,e=>by simp at e
 | _,_,0,_, .cons r _,e=>by simp at e;subst e;exact ⟨_,rfl,r⟩
 | _,_,i+1,x, .cons _ t,e=>by obtain ⟨u,h1,h2⟩:=BY (i:=i) (x:=x) t (by simpa using e);exact ⟨u,by simpa using h1,h2⟩
theorem BB{x:α}{u:β}(r:F x u):∀{xs:List α} {us:List β} (i:Nat),Paired F xs us->Paired F (xs.set i x) (us.set i u)
 | _,_,_, .nil=> .nil
 | _,_,0, .cons _ t=> .cons r t
 | _,_,i+1, .cons q t=> .cons q (BB r i t)
theorem vA:∀{xs ys:List α} {us ws:List β},Paired F xs us->Paired F ys ws->Paired F (xs++ys) (us++ws)
 | _,_,_,_, .nil,s=>s
 | _,_,_,_, .cons r t,s=> .cons r (vA t s)
theorem qL:∀{xs:List α} {us:List β} (n:Nat),Paired F xs us->Paired F (xs.take n) (us.take n)
 | _,_,0,_=> .nil
 | _,_,_+1, .nil=> .nil
 | _,_,n+1, .cons r t=> .cons r (qL n t)
theorem rJ:∀{xs:List α} {us:List β} (n:Nat),Paired F xs us->Paired F (xs.drop n) (us.drop n)
 | _,_,0,r=>r
 | _,_,_+1, .nil=> .nil
 | _,_,n+1, .cons _ t=>rJ n t
theorem uh{xs:List α}{us:List β}(h:Paired F xs us):∀k:Nat,Paired F (List.replicate k xs).flatten (List.replicate k us).flatten
 | 0=> .nil
 | k+1=>by rw [aa7,aa7,abm,abm];exact vA h (uh h k)
end
section
variable{K:PySem.W.Frag}{G:Hp}{L:List Addr}
theorem Ρ.length{ds:List Dt}{vs:List V}(h:Ρ K G L ds vs):ds.length=vs.length:=Paired.length h.pair
theorem Ρ.get{ds:List Dt}{vs:List V}{i:Nat}{d:Dt}(h:Ρ K G L ds vs)(e:ds[i]? =some d):∃v,vs[i]? =some v/\Den K G L d v:=BY h.pair e
theorem Ρ.app{ds es:List Dt}{vs us:List V}(h:Ρ K G L ds vs)(h':Ρ K G L es us):Ρ K G L (ds++es) (vs++us):= .of (vA h.pair h'.pair)
theorem iE:∀{ns:List Int},Ρ K G L (ns.map Dt.int) (ns.map V.int)
 | []=>rfl
 | n::ns=>⟨_,_,rfl,rfl,iE⟩
theorem aT{d:Dt}{vs:List V}(h:Ρ K G L [d] vs):∃v,vs=[v]/\Den K G L d v:=by obtain ⟨v,r,rfl,h1,h2⟩:=h;have h2:r=[]:=h2;subst h2;exact ⟨v,rfl,h1⟩
theorem e7{d e:Dt}{vs:List V}(h:Ρ K G L [d,e] vs):∃v u,vs=[v,u]/\Den K G L d v/\Den K G L e u:=by obtain ⟨v,r,rfl,h1,h2⟩:=h;obtain ⟨u,rfl,h3⟩:=aT h2;exact ⟨v,u,rfl,h1,h3⟩
end
def ET(K:PySem.W.Frag)(G:Hp)(L:List Addr)(H:Hp)(a:Addr):MO->Prop
 | .lst ds=>∃vs,H a=some (.lst vs)/\Ρ K G L ds vs
 | .ins C ns ds=>∃dx vs,H a=some (.ins C dx (ns.zip vs))/\ns.length=ds.length/\Ρ K G L ds vs
 | .cW ks ds=>∃vs,H a=some (.dK (ks.zip vs))/\ks.length=ds.length/\Ρ K G L ds vs
 | .raw u=>H a=some (u a)
structure Rl(K:PySem.W.Frag)(G:Hp)(L:List Addr)(M:Ms)(H:Hp):Prop where
 sub:df G H
 len:L.length=M.length
 nd:L.Nodup
 d9:∀(k:Nat) (a:Addr) (m:MO),L[k]? =some a->M[k]? =some m->G a=none/\ET K G L H a m
structure Ex(G:Hp)(L:List Addr)(H:Hp)(G':Hp)(L':List Addr)(H':Hp):Prop where
 g:df G G'
 l:Pre L L'
 fr:∀b,G b=none->H b≠none->G' b=none
 out:∀b o,H b=some o->b∉L->H' b=some o
 new:∀b∈L',b∈L\/H b=none
 xW:∀b,H b≠none->H' b≠none
theorem Ex.refl(G:Hp)(L:List Addr)(H:Hp):Ex G L H G L H:=⟨.refl _, .refl _,λ_ h _=>h,λ_ _ h _=>h,λ_ h=> .inl h,λ_ h=>h⟩
theorem Ex.trans{G:Hp}{L:List Addr}{H G1:Hp}{L1:List Addr}{H1 G2:Hp}{L2:List Addr}{H2:Hp}(a:Ex G L H G1 L1 H1)(b:Ex G1 L1 H1 G2 L2 H2):Ex G L H G2 L2 H2 where
 g:=a.g.trans b.g
 l:=a.l.trans b.l
 fr:=λx h1 h2=>b.fr x (a.fr x h1 h2) (a.xW x h2)
 out:=λx o h1 h2=>b.out x o (a.out x o h1 h2) λz=>(a.new x z).elim h2 λq=>by rw [h1] at q;cases q
 new:=λx h=>by
  rcases b.new x h with z | z
  ·exact a.new x z
  ·right;cases q:H x with
   | none=>rfl
   | some o=>exact absurd z (a.xW x (by rw [q];simp))
 xW:=λx h=>b.xW x (a.xW x h)
theorem ET.there{K:PySem.W.Frag}{G:Hp}{L:List Addr}{H:Hp}{a:Addr}{m:MO}(h:ET K G L H a m):H a≠none:=by
 cases m with
 | lst ds=>obtain ⟨vs,e,_⟩:=h;rw [e];simp
 | ins C ns ds=>obtain ⟨dx,vs,e,_⟩:=h;rw [e];simp
 | cW ks ds=>obtain ⟨vs,e,_⟩:=h;rw [e];simp
 | raw u=>have h:H a=some (u a):=h;rw [h];simp
theorem ET.mono{K:PySem.W.Frag}{G G':Hp}{L L':List Addr}{H H':Hp}{a:Addr}{m:MO}(g:df G G')(l:Pre L L')(e:H' a=H a)(h:ET K G L H a m):ET K G' L' H' a m:=by
 cases m with
 | lst ds=>obtain ⟨vs,e1,h⟩:=h;exact ⟨vs,e.trans e1,Ρ.mono g l _ _ h⟩
 | ins C ns ds=>obtain ⟨dx,vs,e1,h0,h⟩:=h;exact ⟨dx,vs,e.trans e1,h0,Ρ.mono g l _ _ h⟩
 | cW ks ds=>obtain ⟨vs,e1,h0,h⟩:=h;exact ⟨vs,e.trans e1,h0,Ρ.mono g l _ _ h⟩
 | raw u=>exact e.trans h
section
variable{K:PySem.W.Frag}{G:Hp}{L:List Addr}{M:Ms}{H:Hp}{p:Addr}{o:HO}
theorem Rl.uF(r:Rl K G L M H){a:Addr}(h:a∈L):∃(k:Nat) (m:MO),L[k]? =some a/\M[k]? =some m/\G a=none/\ET K G L H a m:=by
 obtain ⟨k,hk,e⟩:=aa2 h;have e1:L[k]? =some a:=by rw [aaa hk,e]
 have e2:M[k]? =some (M[k]'(by rw [<-r.len];exact hk)):=aaa _;exact ⟨k,_,e1,e2,r.d9 k a _ e1 e2⟩
theorem Rl.zw(r:Rl K G L M H)(hp:H p=none):p∉L:=λz=>by obtain ⟨k,m,_,_,_,h⟩:=r.uF z;exact h.there hp
theorem Rl.KA(r:Rl K G L M H)(hp:H p=none):Rl K (upd G p o) L M (upd H p o) where
 sub:=λb u e=>by
  by_cases hb:b=p
  ·subst hb;rw [Κ] at e⊢;exact e
  ·rw [ψ hb] at e⊢;exact r.sub b u e
 len:=r.len
 nd:=r.nd
 d9:=λk a m h1 h2=>by obtain ⟨q1,q2⟩:=r.d9 k a m h1 h2;have hb:a≠p:=λz=>q2.there (by rw [z];exact hp);exact ⟨by rw [ψ hb];exact q1,q2.mono (λb u e=>by rw [ψ (λz=>by rw [z,r.sub.free hp] at e;cases e)];exact e) (.refl _) (ψ hb)⟩
theorem Rl.Pb(r:Rl K G L M H)(hp:H p=none):Ex G L H (upd G p o) L (upd H p o) where
 g:=λb u e=>by rw [ψ (λz=>by rw [z,r.sub.free hp] at e;cases e)];exact e
 l:= .refl _
 fr:=λb h1 h2=>by rw [ψ (λz=>h2 (by rw [z];exact hp))];exact h1
 out:=λb u h1 _=>by rw [ψ (λz=>by rw [z,hp] at h1;cases h1)];exact h1
 new:=λb h=> .inl h
 xW:=λb h=>by rw [ψ (λz=>h (by rw [z];exact hp))];exact h
theorem Rl.KP{m:MO}(r:Rl K G L M H)(hp:H p=none)(hm:ET K G (L++[p]) (upd H p o) p m):Rl K G (L++[p]) (M++[m]) (upd H p o) where
 sub:=λb u e=>by rw [ψ (λz=>by rw [z,r.sub.free hp] at e;cases e)];exact r.sub b u e
 len:=by rw [aai,aai,r.len];rfl
 nd:=List.nodup_append.mpr ⟨r.nd,by simp,λa ha b hb=>by
  have e:b=p:=by simpa using hb
  rw [e];exact λz=>r.zw hp (z▸ha)⟩
 d9:=λk a m' h1 h2=>by
  by_cases hk:k < L.length
  ·rw [aat hk] at h1;rw [aat (by rw [<-r.len];exact hk)] at h2;obtain ⟨q1,q2⟩:=r.d9 k a m' h1 h2;exact ⟨q1,q2.mono (.refl _) ⟨[p],rfl⟩ (ψ λz=>q2.there (by rw [z];exact hp))⟩
  ·have e:k=L.length:=by have:=(aag.mp h1).1;rw [aai] at this;simp at this;omega
   rw [e,aaq (aaj _)] at h1;rw [e,r.len,aaq (aaj _)] at h2;simp at h1 h2;subst h1 h2;exact ⟨r.sub.free hp,hm⟩
theorem Rl.SH(r:Rl K G L M H)(hp:H p=none):Ex G L H G (L++[p]) (upd H p o) where
 g:= .refl _
 l:=⟨[p],rfl⟩
 fr:=λb h1 _=>h1
 out:=λb u h1 _=>by rw [ψ (λz=>by rw [z,hp] at h1;cases h1)];exact h1
 new:=λb h=>by
  rcases aaN.mp h with z | z
  ·exact .inl z
  ·have e:b=p:=by simpa using z
   right;rw [e];exact hp
 xW:=λb h=>by rw [ψ (λz=>h (by rw [z];exact hp))];exact h
theorem Rl.setM{k:Nat}{a:Addr}{m:MO}(r:Rl K G L M H)(hk:L[k]? =some a)(hm:ET K G L (upd H a o) a m):Rl K G L (M.set k m) (upd H a o) where
 sub:=λb u e=>by obtain ⟨k',m',e1,e2,q1,_⟩:=r.uF (aal hk);rw [ψ (λz=>by rw [z,q1] at e;cases e)];exact r.sub b u e
 len:=by rw [aa6];exact r.len
 nd:=r.nd
 d9:=λk' a' m' h1 h2=>by
  by_cases e:k'=k
  ·subst e;rw [hk] at h1;cases h1;have hl:k' < M.length:=by rw [<-r.len];exact (aag.mp hk).1
   rw [aa5 hl] at h2;cases h2;obtain ⟨_,_,_,_,q1,_⟩:=r.uF (aal hk);exact ⟨q1,hm⟩
  ·rw [abv (λz=>e z.symm)] at h2;obtain ⟨q1,q2⟩:=r.d9 k' a' m' h1 h2;have ne:a'≠a:=λz=>by subst z;exact e ((List.getElem?_inj (aag.mp h1).1 r.nd).mp (h1.trans hk.symm))
   exact ⟨q1,q2.mono (.refl _) (.refl _) (ψ ne)⟩
theorem Rl.Ij{k:Nat}{a:Addr}(r:Rl K G L M H)(hk:L[k]? =some a):Ex G L H G L (upd H a o) where
 g:= .refl _
 l:= .refl _
 fr:=λb h1 _=>h1
 out:=λb u h1 h2=>by rw [ψ (λz=>h2 (by rw [z];exact aal hk))];exact h1
 new:=λb h=> .inl h
 xW:=λb h=>by
  by_cases e:b=a
  ·rw [e,Κ];simp
  ·rw [ψ e];exact h
end
structure ji(K:PySem.W.Frag)(G:Hp)(L:List Addr)(ρ:En)(σ:St):Prop where
 len:ρ.length=σ.length
 d9:∀(i:Nat) (d:Dt),ρ[i]? =some (some d)->∃v,σ[i]? =some (some v)/\Den K G L d v
section
variable{K:PySem.W.Frag}{G G':Hp}{L L':List Addr}{H H':Hp}{ρ:En}{σ:St}
theorem ji.mono(h:ji K G L ρ σ)(e:Ex G L H G' L' H'):ji K G' L' ρ σ:=⟨h.len,λi d q=>let ⟨v,a,b⟩:=h.d9 i d q;⟨v,a,Den.mono e.g e.l d v b⟩⟩
theorem ji.set(h:ji K G L ρ σ)(i:Nat){d:Dt}{v:V}(q:Den K G L d v):ji K G L (ρ.set i (some d)) (σ.set i (some v)):=by
 refine ⟨by rw [aa6,aa6];exact h.len,λj d' e=> ?_⟩;by_cases hj:i=j
 ·subst hj;have hl:i < ρ.length:=by have:=(aag.mp e).1;rwa [aa6] at this
  rw [aa5 hl] at e;cases e;exact ⟨v,aa5 (by rw [<-h.len];exact hl),q⟩
 ·rw [abv hj] at e;obtain ⟨u,a,b⟩:=h.d9 j d' e;exact ⟨u,by rw [abv hj];exact a,b⟩
end
abbrev DQ:=Dt->Ms->Prop
abbrev DX:=En->Addr->List (Str×Dt)->Ms->Prop
def Sx(K:PySem.W.Frag)(G:Hp)(L:List Addr)(H:Hp)(fs:List (Str×Dt))(od:Option Addr):Prop:=
 (fs=[]/\od=none)\/fs≠[]/\∃dx vs,od=some dx/\G dx=some (.xd ((fs.map (·.1)).zip vs))/\Ρ K G L (fs.map (·.2)) vs
def sv(K:PySem.W.Frag)(G:Hp)(L:List Addr)(H:Hp)(R:St->XK)(x:DX):Prop:=
 ∀σ ρ C fs M' G' L' H' od,x ρ C fs M'->Ex G L H G' L' H'->Rl K G' L' M' H'->ji K G' L' ρ σ->Sx K G' L' H' fs od->R σ (.ref C) od H'
theorem sv.on{K:PySem.W.Frag}{G:Hp}{L:List Addr}{H G1:Hp}{L1:List Addr}{H1:Hp}{R:St->XK}{x:DX}(h:sv K G L H R x)(e:Ex G L H G1 L1 H1):sv K G1 L1 H1 R x:=
 λσ ρ C fs M' G' L' H' od q e' r n y=>h σ ρ C fs M' G' L' H' od q (e.trans e') r n y
def mQ:DX:=λ_ _ _ _=>False
theorem qH{K:PySem.W.Frag}{G:Hp}{L:List Addr}{H:Hp}{R:St->XK}:sv K G L H R mQ:=λ_ _ _ _ _ _ _ _ _ q=>q.elim
abbrev DE:=En->Ms->DQ->DX->Prop
abbrev DT:=En->Ms->(Bool->Ms->Prop)->DX->Prop
abbrev DA:=En->Ms->(List Dt->Ms->Prop)->DX->Prop
structure kG where
 nx:En->Ms->Prop
 rt:DQ
 bk:En->Ms->Prop:=λ_ _=>False
 ct:En->Ms->Prop:=λ_ _=>False
 x:DX:=mQ
abbrev DS:=kG->En->Ms->Prop
inductive Fin(K:PySem.W.Frag)(G0:Hp)(L0:List Addr)(H0:Hp)(q:DQ)(v:V)(H:Hp):Prop
 | mk (d:Dt) (G:Hp) (L:List Addr) (M:Ms) (e:Ex G0 L0 H0 G L H) (r:Rl K G L M H) (n:Den K G L d v) (h:q d M)
inductive u7(K:PySem.W.Frag)(G0:Hp)(L0:List Addr)(H0:Hp)(q:Bool->Ms->Prop)(b:Bool)(H:Hp):Prop
 | mk (G:Hp) (L:List Addr) (M:Ms) (e:Ex G0 L0 H0 G L H) (r:Rl K G L M H) (h:q b M)
inductive Lg(K:PySem.W.Frag)(G0:Hp)(L0:List Addr)(H0:Hp)(q:List Dt->Ms->Prop)(vs:List V)(H:Hp):Prop
 | mk (ds:List Dt) (G:Hp) (L:List Addr) (M:Ms) (e:Ex G0 L0 H0 G L H) (r:Rl K G L M H) (n:Ρ K G L ds vs) (h:q ds M)
inductive dY(K:PySem.W.Frag)(G0:Hp)(L0:List Addr)(H0:Hp)(q:En->Ms->Prop)(σ:St)(H:Hp):Prop
 | mk (ρ:En) (G:Hp) (L:List Addr) (M:Ms) (e:Ex G0 L0 H0 G L H) (r:Rl K G L M H) (n:ji K G L ρ σ) (h:q ρ M)
def sx(K:PySem.W.Frag)(G0:Hp)(L0:List Addr)(H0:Hp)(Dn:kG):wI:=⟨dY K G0 L0 H0 Dn.nx,Fin K G0 L0 H0 Dn.rt,dY K G0 L0 H0 Dn.bk,dY K G0 L0 H0 Dn.ct⟩
inductive lq(K:PySem.W.Frag)(R:St->XK)(t:DE)(σ:St)(H:Hp)(Q:VK):Prop
 | mk (G:Hp) (L:List Addr) (ρ:En) (M:Ms) (q:DQ) (x:DX) (r:Rl K G L M H) (n:ji K G L ρ σ) (h:t ρ M q x) (hx:sv K G L H R x) (hQ:∀v H1,Fin K G L H q v H1->Q v H1)
inductive G_(K:PySem.W.Frag)(R:St->XK)(t:DT)(σ:St)(H:Hp)(Q:Bool->Hp->Prop):Prop
 | mk (G:Hp) (L:List Addr) (ρ:En) (M:Ms) (q:Bool->Ms->Prop) (x:DX) (r:Rl K G L M H) (n:ji K G L ρ σ) (h:t ρ M q x) (hx:sv K G L H R x) (hQ:∀b H1,u7 K G L H q b H1->Q b H1)
inductive Qv(K:PySem.W.Frag)(R:St->XK)(t:DA)(σ:St)(H:Hp)(Q:List V->Hp->Prop):Prop
 | mk (G:Hp) (L:List Addr) (ρ:En) (M:Ms) (q:List Dt->Ms->Prop) (x:DX) (r:Rl K G L M H) (n:ji K G L ρ σ) (h:t ρ M q x) (hx:sv K G L H R x) (hQ:∀vs H1,Lg K G L H q vs H1->Q vs H1)
structure NS(A B:wI):Prop where
 nx:∀σ H,A.nx σ H->B.nx σ H
 rt:∀v H,A.rt v H->B.rt v H
 bk:∀σ H,A.bk σ H->B.bk σ H
 ct:∀σ H,A.ct σ H->B.ct σ H
inductive PN(K:PySem.W.Frag)(R:St->XK)(t:DS)(De:wI)(σ:St)(H:Hp):Prop
 | mk (G:Hp) (L:List Addr) (ρ:En) (M:Ms) (Dn:kG) (r:Rl K G L M H) (n:ji K G L ρ σ) (h:t Dn ρ M) (hx:sv K G L H R Dn.x) (hQ:NS (sx K G L H Dn) De)
def JE(X:Cx)(R:St->XK)(e:Expr)(t:DE):Prop:=PE X e (lq X.K R t)
def JT(X:Cx)(R:St->XK)(e:Expr)(t:DT):Prop:=PT X e (G_ X.K R t)
def JW(X:Cx)(R:St->XK)(e:Expr)(t:DT):Prop:=PW X e (G_ X.K R t)
def JA(X:Cx)(R:St->XK)(es:List Expr)(t:DA):Prop:=PA X es (Qv X.K R t)
def JS(X:Cx)(R:St->XK)(st:Stmt)(t:DS):Prop:=PS X st (PN X.K R t)
def BH(X:Cx)(R:St->XK)(st:List Stmt)(t:DS):Prop:=EV X st (PN X.K R t)
section
variable{K:PySem.W.Frag}{G0:Hp}{L0:List Addr}{H0 G1:Hp}{L1:List Addr}{H1:Hp}
theorem Fin.back{q:DQ}(e:Ex G0 L0 H0 G1 L1 H1){v:V}{H:Hp}(h:Fin K G1 L1 H1 q v H):Fin K G0 L0 H0 q v H:=let ⟨d,G,L,M,a,b,c,f⟩:=h;⟨d,G,L,M,e.trans a,b,c,f⟩
theorem dY.back{q:En->Ms->Prop}(e:Ex G0 L0 H0 G1 L1 H1){v:St}{H:Hp}(h:dY K G1 L1 H1 q v H):dY K G0 L0 H0 q v H:=let ⟨d,G,L,M,a,b,c,f⟩:=h;⟨d,G,L,M,e.trans a,b,c,f⟩
theorem u7.back{q:Bool->Ms->Prop}(e:Ex G0 L0 H0 G1 L1 H1){v:Bool}{H:Hp}(h:u7 K G1 L1 H1 q v H):u7 K G0 L0 H0 q v H:=let ⟨G,L,M,a,b,f⟩:=h;⟨G,L,M,e.trans a,b,f⟩
theorem sx.back{Dn:kG}(e:Ex G0 L0 H0 G1 L1 H1):NS (sx K G1 L1 H1 Dn) (sx K G0 L0 H0 Dn):=⟨λ_ _ h=>dY.back e h,λ_ _ h=>Fin.back e h,λ_ _ h=>dY.back e h,λ_ _ h=>dY.back e h⟩
theorem SP.imp{X:Cx}{ε:List (Addr×Obj)}{A B:wI}(e:NS A B){f:Flow}{s:Shared}(h:SP X ε A f s):SP X ε B f s:=by
 cases f with
 | next=>obtain ⟨a,b,I,q⟩:=h;exact ⟨a,b,I,e.nx _ _ q⟩
 | brk=>obtain ⟨a,b,I,q⟩:=h;exact ⟨a,b,I,e.bk _ _ q⟩
 | cont=>obtain ⟨a,b,I,q⟩:=h;exact ⟨a,b,I,e.ct _ _ q⟩
 | ret u=>obtain ⟨v,a,b,I,r,q⟩:=h;exact ⟨v,a,b,I,r,e.rt _ _ q⟩
end
section
variable{X:Cx}{R:St->XK}{e:Expr}
theorem JE.of{te:TE}{t:DE}(h:PE X e te)(hw:∀σ H G L ρ M q x,Rl X.K G L M H->ji X.K G L ρ σ->t ρ M q x->sv X.K G L H R x->te σ H (Fin X.K G L H q)):JE X R e t:=by intro ε s σ H Q I ⟨G,L,ρ,M,q,x,r,n,ht,hx,hQ⟩;refine aS (h ε s σ H _ I (hw σ H G L ρ M q x r n ht hx)) λu s1 ⟨v,H1,I1,rv,f⟩=>⟨v,H1,I1,rv,hQ v H1 f⟩
theorem JT.of{te:TT}{t:DT}(h:PT X e te)(hw:∀σ H G L ρ M q x,Rl X.K G L M H->ji X.K G L ρ σ->t ρ M q x->sv X.K G L H R x->te σ H (u7 X.K G L H q)):JT X R e t:=by intro ε s σ H Q I ⟨G,L,ρ,M,q,x,r,n,ht,hx,hQ⟩;refine aS (h ε s σ H _ I (hw σ H G L ρ M q x r n ht hx)) λu s1 ⟨H1,I1,f⟩=>⟨H1,I1,hQ u H1 f⟩
theorem JW.of{te:TT}{t:DT}(h:PW X e te)(hw:∀σ H G L ρ M q x,Rl X.K G L M H->ji X.K G L ρ σ->t ρ M q x->sv X.K G L H R x->te σ H (u7 X.K G L H q)):JW X R e t:=by intro wh ε s σ H Q I ⟨G,L,ρ,M,q,x,r,n,ht,hx,hQ⟩;refine aS (h wh ε s σ H _ I (hw σ H G L ρ M q x r n ht hx)) λu s1 ⟨H1,I1,f⟩=>⟨H1,I1,hQ u H1 f⟩
theorem JA.of{es:List Expr}{te:TA}{t:DA}(h:PA X es te)(hw:∀σ H G L ρ M q x,Rl X.K G L M H->ji X.K G L ρ σ->t ρ M q x->sv X.K G L H R x->te σ H (Lg X.K G L H q)):JA X R es t:=by intro pos ε s σ H Q I ⟨G,L,ρ,M,q,x,r,n,ht,hx,hQ⟩;refine aS (h pos ε s σ H _ I (hw σ H G L ρ M q x r n ht hx)) λu s1 ⟨v,H1,I1,rv,f⟩=>⟨v,H1,I1,rv,hQ v H1 f⟩
theorem JS.of{st:Stmt}{te:TS}{t:DS}(h:PS X st te)(hw:∀σ H G L ρ M Dn,Rl X.K G L M H->ji X.K G L ρ σ->t Dn ρ M->sv X.K G L H R Dn.x->te (sx X.K G L H Dn) σ H):JS X R st t:=by intro ε s σ H De I ⟨G,L,ρ,M,Dn,r,n,ht,hx,hQ⟩;exact aS (h ε s σ H _ I (hw σ H G L ρ M Dn r n ht hx)) λu s1 f=>SP.imp hQ f
theorem BH.of{st:List Stmt}{te:TS}{t:DS}(h:EV X st te)(hw:∀σ H G L ρ M Dn,Rl X.K G L M H->ji X.K G L ρ σ->t Dn ρ M->sv X.K G L H R Dn.x->te (sx X.K G L H Dn) σ H):BH X R st t:=by intro ε s σ H De I ⟨G,L,ρ,M,Dn,r,n,ht,hx,hQ⟩;exact aS (h ε s σ H _ I (hw σ H G L ρ M Dn r n ht hx)) λu s1 f=>SP.imp hQ f
end
def zy(i:Nat):DE:=λρ M q _=>match ρ[i]? with
 | some (some d)=>q d M
 | _=>False
def dC(d:Dt):DE:=λ_ M q _=>q d M
def kI(f:Dt->Dt->Ms->DQ->Prop)(a b:DE):DE:=λρ M q x=>a ρ M (λd1 M1=>b ρ M1 (λd2 M2=>f d1 d2 M2 q) x) x
def Td(f:Dt->Ms->DQ->Prop)(a:DE):DE:=λρ M q x=>a ρ M (λd1 M1=>f d1 M1 q) x
def Od:DA:=λ_ M q _=>q [] M
def LM(a:DE)(r:DA):DA:=λρ M q x=>a ρ M (λd M1=>r ρ M1 (λds M2=>q (d::ds) M2) x) x
def zf(f:List Dt->Ms->DQ->Prop)(a:DA):DE:=λρ M q x=>a ρ M (λds M1=>f ds M1 q) x
def ou(K:PySem.W.Frag)(r:R2)(f:Dt->Dt->Ms->DQ->Prop):Prop:=
 ∀G0 L0 H0 G L M H v1 v2 d1 d2 q,Ex G0 L0 H0 G L H->Rl K G L M H->Den K G L d1 v1->Den K G L d2 v2->f d1 d2 M q->r v1 v2 H (Fin K G0 L0 H0 q)
def V9(K:PySem.W.Frag)(r:V->Hp->VK->Prop)(f:Dt->Ms->DQ->Prop):Prop:=
 ∀G0 L0 H0 G L M H v1 d1 q,Ex G0 L0 H0 G L H->Rl K G L M H->Den K G L d1 v1->f d1 M q->r v1 H (Fin K G0 L0 H0 q)
def AI(K:PySem.W.Frag)(r:List V->Hp->VK->Prop)(f:List Dt->Ms->DQ->Prop):Prop:=
 ∀G0 L0 H0 G L M H vs ds q,Ex G0 L0 H0 G L H->Rl K G L M H->Ρ K G L ds vs->f ds M q->r vs H (Fin K G0 L0 H0 q)
section
variable{K:PySem.W.Frag}{R:St->XK}{ta tb:DE}{tc:DA}{σ:St}{H G:Hp}{L:List Addr}{ρ:En}{M:Ms}{q:DQ}{x:DX}
theorem Av{r:R2}{f:Dt->Dt->Ms->DQ->Prop}(od:ou K r f)(rl:Rl K G L M H)(n:ji K G L ρ σ)(h:kI f ta tb ρ M q x)(hx:sv K G L H R x):PH r (lq K R ta) (lq K R tb) σ H (Fin K G L H q):=by refine ⟨G,L,ρ,M,_,x,rl,n,h,hx,λv H1 ⟨d1,G1,L1,M1,e1,r1,n1,h1⟩=> ?_⟩;refine ⟨G1,L1,ρ,M1,_,x,r1,n.mono e1,h1,hx.on e1,λv2 H2 ⟨d2,G2,L2,M2,e2,r2,n2,h2⟩=> ?_⟩;exact od G L H G2 L2 M2 H2 v v2 d1 d2 q (e1.trans e2) r2 (Den.mono e2.g e2.l _ _ n1) n2 h2
theorem Po{r:V->Hp->VK->Prop}{f:Dt->Ms->DQ->Prop}(od:V9 K r f)(rl:Rl K G L M H)(n:ji K G L ρ σ)(h:Td f ta ρ M q x)(hx:sv K G L H R x):Xd r (lq K R ta) σ H (Fin K G L H q):=by refine ⟨G,L,ρ,M,_,x,rl,n,h,hx,λv H1 ⟨d1,G1,L1,M1,e1,r1,n1,h1⟩=> ?_⟩;exact od G L H G1 L1 M1 H1 v d1 q e1 r1 n1 h1
theorem LG{r:List V->Hp->VK->Prop}{f:List Dt->Ms->DQ->Prop}(od:AI K r f)(rl:Rl K G L M H)(n:ji K G L ρ σ)(h:zf f tc ρ M q x)(hx:sv K G L H R x):Uj r (Qv K R tc) σ H (Fin K G L H q):=by refine ⟨G,L,ρ,M,_,x,rl,n,h,hx,λv H1 ⟨d1,G1,L1,M1,e1,r1,n1,h1⟩=> ?_⟩;exact od G L H G1 L1 M1 H1 v d1 q e1 r1 n1 h1
end
section
variable{X:Cx}{R:St->XK}{a b c:Expr}{ta tb:DE}{pos:Pos}
theorem jv(i:Nat){x:Str}{pos:Pos}(hN:X.N[i]? =some x:=by rfl)(hv:UT X.env.scope x:=by first | exact Or.inl rfl | exact Or.inr (Or.inl rfl) | exact Or.inr (Or.inr rfl))(hd:(x==("__debug__":Str))=false:=by decide)
  (Fc:(x==("__classdict__":Str))=false:=by decide):JE X R (.Name x pos) (zy i):= .of (Nf hN hv hd Fc) λσ H G L ρ M q x r n h hx=>by
 unfold zy at h;split at h
 ·rename_i d e;obtain ⟨v,e1,h1⟩:=n.d9 i d e;exact ⟨v,e1,d,G,L,M, .refl _ _ _,r,h1,h⟩
 ·exact h.elim
theorem NL{d:Dt}{v:V}{e:Expr}(h:PE X e (tC v))(hd:∀G L,Den X.K G L d v):JE X R e (dC d):= .of h λσ H G L ρ M q x r n h hx=>⟨d,G,L,M, .refl _ _ _,r,hd G L,h⟩
theorem υ{i j pos}:JE X R (.Constant (.int i) j pos) (dC (.int i)):=NL OG λ_ _=>rfl
theorem CZ{b j pos}:JE X R (.Constant (.bool b) j pos) (dC (.bl b)):=NL RZ λ_ _=>rfl
theorem Mq{j pos}:JE X R (.Constant .none j pos) (dC .br):=NL Oc λ_ _=>rfl
theorem jo{x j pos}:JE X R (.Constant (.str x) j pos) (dC (.str x)):=NL IA λ_ _=>rfl
theorem v7{op:Operator}{r:R2}{f:Dt->Dt->Ms->DQ->Prop}(ho:jq X (binaryOp op) r)(od:ou X.K r f)(ja:JE X R a ta)(jb:JE X R b tb):JE X R (.BinOp a op b pos) (kI f ta tb):=
 .of (Rx ho ja jb) λσ H G L ρ M q x r n h hx=>Av od r n h hx
theorem T8{op:UnaryOp}{r:V->Hp->VK->Prop}{f:Dt->Ms->DQ->Prop}(ho:Tc X (unaryOp op) r)(od:V9 X.K r f)(ja:JE X R a ta):JE X R (.UnaryOp op a pos) (Td f ta):=
 .of (RD ho ja) λσ H G L ρ M q x r n h hx=>Po od r n h hx
theorem yN{op:CmpOp}{r:R2}{f:Dt->Dt->Ms->DQ->Prop}(ho:jq X (compareOp op) r)(od:ou X.K r f)(ja:JE X R a ta)(jb:JE X R b tb)(hm:behindInMarks op b=false):JE X R (.Compare a [op] [b] pos) (kI f ta tb):=
 .of (JJ ho ja jb hm) λσ H G L ρ M q x r n h hx=>Av od r n h hx
theorem Qx{r:R2}{f:Dt->Dt->Ms->DQ->Prop}(hr:I_ X r)(od:ou X.K r f)(ja:JE X R a ta)(jb:JE X R b tb)(hs:vh b):JE X R (.Subscript a b pos) (kI f ta tb):=
 .of (Qg hr ja jb hs) λσ H G L ρ M q x r n h hx=>Av od r n h hx
theorem dR{env:Env}{es:List Expr}{c j p}:starEach (.Constant c j p::es) env=(false,eval (.Constant c j p) env)::starEach es env:=rfl
theorem μ{env:Env}{es:List Expr}{c p}:starEach (.Name c p::es) env=(false,eval (.Name c p) env)::starEach es env:=rfl
theorem bC{env:Env}{es:List Expr}{a o b p}:starEach (.BinOp a o b p::es) env=(false,eval (.BinOp a o b p) env)::starEach es env:=rfl
theorem aA{env:Env}{es:List Expr}{a b c p}:starEach (.Call a b c p::es) env=(false,eval (.Call a b c p) env)::starEach es env:=rfl
theorem aU{env:Env}{es:List Expr}{a b p}:starEach (.Subscript a b p::es) env=(false,eval (.Subscript a b p) env)::starEach es env:=rfl
theorem Ib{env:Env}{es:List Expr}{a b p}:starEach (.Tuple a b p::es) env=(false,eval (.Tuple a b p) env)::starEach es env:=rfl
theorem BU{env:Env}{es:List Expr}{a o b p}:starEach (.Compare a o b p::es) env=(false,eval (.Compare a o b p) env)::starEach es env:=rfl
theorem η:JA X R [] Od:= .of OJ λσ H G L ρ M q x r n h hx=>⟨[],G,L,M, .refl _ _ _,r,rfl,h⟩
theorem γ{e:Expr}{es:List Expr}{te:DE}{t:DA}(ha:JE X R e te)(hr:JA X R es t)(hs:starEach (e::es) X.env=(false,eval e X.env)::starEach es X.env:=by first | exact dR | exact μ | exact bC | exact aA | exact aU | exact Ib | exact BU | exact Xg | rfl):JA X R (e::es) (LM te t):=
 .of (JH ha hr hs) λσ H G L ρ M q x rl n h hx=>by refine ⟨G,L,ρ,M,_,x,rl,n,h,hx,λv H1 ⟨d1,G1,L1,M1,e1,r1,n1,h1⟩=> ?_⟩;refine ⟨G1,L1,ρ,M1,_,x,r1,n.mono e1,h1,hx.on e1,λv2 H2 ⟨d2,G2,L2,M2,e2,r2,n2,h2⟩=> ?_⟩;exact ⟨d1::d2,G2,L2,M2,e1.trans e2,r2,⟨_,_,rfl,Den.mono e2.g e2.l _ _ n1,n2⟩,h2⟩
def QL(t:DA):DE:=λρ M q x=>t ρ M (λds M1=>ds.length<=sizeLine/\q (.tup ds) M1) x
def Qr(t:DA):DE:=λρ M q x=>t ρ M (λds M1=>ds.length<=sizeLine/\q (.lst ds) M1) x
def QB(t:DA):DE:=λρ M q x=>t ρ M (λds M1=>ds.length<=sizeLine/\q (.loc M1.length) (M1++[.lst ds])) x
theorem kf{K:PySem.W.Frag}{G0:Hp}{L0:List Addr}{H0 G:Hp}{L:List Addr}{M:Ms}{H:Hp}{p:Addr}{o:HO}{d:Dt}{q:DQ}(e:Ex G0 L0 H0 G L H)(r:Rl K G L M H)(hp:H p=none)(hd:Den K (upd G p o) L d (.ref p))(h:q d M):Fin K G0 L0 H0 q (.ref p) (upd H p o):=
 ⟨d,upd G p o,L,M,e.trans (r.Pb hp),r.KA hp,hd,h⟩
theorem pk{K:PySem.W.Frag}{G:Hp}{L:List Addr}{M:Ms}{H:Hp}{p:Addr}{ds:List Dt}{vs:List V}(r:Rl K G L M H)(hp:H p=none)(h:Ρ K G L ds vs):Den K (upd G p (.tup vs)) L (.tup ds) (.ref p):=
 ⟨p,vs,rfl,Κ,Ρ.mono (r.Pb hp).g (.refl _) _ _ h⟩
theorem pd{K:PySem.W.Frag}{G:Hp}{L:List Addr}{M:Ms}{H:Hp}{p:Addr}{ds:List Dt}{vs:List V}(r:Rl K G L M H)(hp:H p=none)(h:Ρ K G L ds vs):Den K (upd G p (.lst vs)) L (.lst ds) (.ref p):=
 ⟨p,vs,rfl,Κ,Ρ.mono (r.Pb hp).g (.refl _) _ _ h⟩
theorem i9{K:PySem.W.Frag}{G0:Hp}{L0:List Addr}{H0 G:Hp}{L:List Addr}{M:Ms}{H:Hp}{p:Addr}{q:DQ}{ds:List Dt}{vs:List V}(e:Ex G0 L0 H0 G L H)(r:Rl K G L M H)(hp:H p=none)(hd:Ρ K G L ds vs)(h:q (.loc M.length) (M++[.lst ds])):Fin K G0 L0 H0 q (.ref p) (upd H p (.lst vs)):=
 ⟨.loc M.length,G,L++[p],M++[.lst ds],e.trans (r.SH hp),r.KP (m:= .lst ds) hp ⟨vs,Κ,Ρ.mono (.refl _) ⟨[p],rfl⟩ _ _ hd⟩,⟨p,rfl,by rw [<-r.len,List.getElem?_append_right (Nat.le_refl _)];simp⟩,h⟩
variable{es:List Expr}{t:DA}
theorem gh{x1}(h:JA X R es t):JE X R (.Tuple es x1 pos) (QL t):= .of (OL h) λσ H G L ρ M q x rl n h hx=>by refine ⟨G,L,ρ,M,_,x,rl,n,h,hx,λv H1 ⟨d1,G1,L1,M1,e1,r1,n1,h1⟩=>⟨by rw [<-n1.length];exact h1.1,λp hp=> ?_⟩⟩;exact kf e1 r1 hp (pk r1 hp n1) h1.2
theorem kH(h:JA X R es t):JE X R (.List es pos) (Qr t):= .of (GR h) λσ H G L ρ M q x rl n h hx=>by refine ⟨G,L,ρ,M,_,x,rl,n,h,hx,λv H1 ⟨d1,G1,L1,M1,e1,r1,n1,h1⟩=>⟨by rw [<-n1.length];exact h1.1,λp hp=> ?_⟩⟩;exact kf e1 r1 hp (pd r1 hp n1) h1.2
theorem lh(h:JA X R es t):JE X R (.List es pos) (QB t):= .of (GR h) λσ H G L ρ M q x rl n h hx=>by refine ⟨G,L,ρ,M,_,x,rl,n,h,hx,λv H1 ⟨d1,G1,L1,M1,e1,r1,n1,h1⟩=>⟨by rw [<-n1.length];exact h1.1,λp hp=> ?_⟩⟩;exact i9 e1 r1 hp n1 h1.2
def oQ(t:DE):DT:=λρ M q x=>t ρ M (λd M1=>match d with
 | .bl b=>q b M1
 | _=>False) x
def XO(t u:DT):DT:=λρ M q x=>t ρ M (λc M1=>(c=true->q true M1)/\(c=false->u ρ M1 q x)) x
def Rg(t:DT):DT:=λρ M q x=>t ρ M (λc M1=>q (!c) M1) x
theorem N9{K:PySem.W.Frag}{t:DE}{σ:St}{H G:Hp}{L:List Addr}{ρ:En}{M:Ms}{q:Bool->Ms->Prop}{x:DX}(rl:Rl K G L M H)(n:ji K G L ρ σ)(h:oQ t ρ M q x)(hx:sv K G L H R x):tB (lq K R t) σ H (u7 K G L H q):=by
 refine ⟨G,L,ρ,M,_,x,rl,n,h,hx,λv H1 ⟨d1,G1,L1,M1,e1,r1,n1,h1⟩=> ?_⟩
 (try dsimp only at h1)
 split at h1
 ·rename_i b;exact ⟨b,n1,G1,L1,M1,e1,r1,h1⟩
 ·exact h1.elim
theorem bW{e:Expr}{t:DE}(h:JE X R e t)(he:∀whole,isTrue e X.env whole=(do let v<-whole;standAt e.pos;holding [v] (truthy v)):=by intro _;rfl):JT X R e (oQ t):=
 .of (ND h he) λσ H G L ρ M q x rl n h hx=>N9 rl n h hx
theorem jW{op:CmpOp}{r:R2}{f:Dt->Dt->Ms->DQ->Prop}(ho:jq X (compareOp op) r)(od:ou X.K r f)(ja:JE X R a ta)(jb:JE X R b tb)(hm:behindInMarks op b=false):JT X R (.Compare a [op] [b] pos) (oQ (kI f ta tb)):=
 .of (Kp ho ja jb hm) λσ H G L ρ M q x rl n h hx=>by
  have h:kI f ta tb ρ M (λd M1=>match d with | .bl b=>q b M1 | _=>False) x:=h;refine ⟨G,L,ρ,M,_,x,rl,n,h,hx,λv H1 ⟨d1,G1,L1,M1,e1,r1,n1,h1⟩=> ?_⟩;refine ⟨G1,L1,ρ,M1,_,x,r1,n.mono e1,h1,hx.on e1,λv2 H2 ⟨d2,G2,L2,M2,e2,r2,n2,h2⟩=> ?_⟩;have:=od G L H G2 L2 M2 H2 v v2 d1 d2 _ (e1.trans e2) r2 (Den.mono e2.g e2.l _ _ n1) n2 h2;have e:(λx H'=>∃k,x=V.bl k/\u7 X.K G L H q k H')=Fin X.K G L H (λd M1=>match d with | .bl b=>q b M1 | _=>False):=by
   funext y H'
   apply propext;constructor
   ·rintro ⟨k,rfl,G3,L3,M3,e3,r3,h3⟩;exact ⟨.bl k,G3,L3,M3,e3,r3,rfl,h3⟩
   ·rintro ⟨d,G3,L3,M3,e3,r3,n3,h3⟩;split at h3
    ·rename_i k;exact ⟨k,n3,G3,L3,M3,e3,r3,h3⟩
    ·exact h3.elim
  rw [e];exact this
theorem JW.jt{e:Expr}{t:DT}(h:JW X R e t):JT X R e t:=h _
variable{t1 t2:DT}{rest:List Expr}
theorem mZ(ha:JT X R a t1):JW X R (.BoolOp .Or [a] pos) t1:=pw_or1 ha
theorem ot(ha:JT X R a t1)(hb:JW X R (.BoolOp .Or (b::rest) pos) t2):JW X R (.BoolOp .Or (a::b::rest) pos) (XO t1 t2):= .of (pw_or ha hb) λσ H G L ρ M q x rl n h hx=>by
 refine ⟨G,L,ρ,M,_,x,rl,n,h,hx,λc H1 ⟨G1,L1,M1,e1,r1,h1⟩=> ?_⟩;cases c with
 | true=>exact E5 ⟨G1,L1,M1,e1,r1,h1.1 rfl⟩
 | false=>exact Hv ⟨G1,L1,ρ,M1,_,x,r1,n.mono e1,h1.2 rfl,hx.on e1,λb H2 f=>u7.back e1 f⟩
theorem f_(ha:JT X R a t1):JT X R (.UnaryOp .Not a pos) (Rg t1):= .of (Mh ha) λσ H G L ρ M q x rl n h hx=>
 ⟨G,L,ρ,M,_,x,rl,n,h,hx,λ_ _ ⟨G,L,M,e,r,h⟩=>⟨G,L,M,e,r,h⟩⟩
def R4(t u:DE):DE:=λρ M q x=>t ρ M (λd M1=>match d with
 | .bl c=>(c=true->u ρ M1 q x)/\(c=false->q (.bl false) M1)
 | _=>False) x
def Ru(t:DE):DE:=λρ M q x=>t ρ M (λd M1=>match d with
 | .bl c=>q (.bl (!c)) M1
 | _=>False) x
def Xx(t:DT)(u v:DE):DE:=λρ M q x=>t ρ M (λc M1=>(c=true->u ρ M1 q x)/\(c=false->v ρ M1 q x)) x
theorem k8{op}{t:DE}(h:JE X R a t):JE X R (.BoolOp op [a] pos) t:=NK h
theorem g7(ha:JE X R a ta)(hb:JE X R (.BoolOp .And (b::rest) pos) tb):JE X R (.BoolOp .And (a::b::rest) pos) (R4 ta tb):= .of (NZ ha hb) λσ H G L ρ M q x rl n h hx=>by
 refine ⟨G,L,ρ,M,_,x,rl,n,h,hx,λv H1 ⟨d1,G1,L1,M1,e1,r1,n1,h1⟩=> ?_⟩
 (try dsimp only at h1)
 split at h1
 ·rename_i c;refine ⟨c,n1, ?_⟩;cases c with
  | true=>exact E5 ⟨G1,L1,ρ,M1,_,x,r1,n.mono e1,h1.1 rfl,hx.on e1,λb H2 f=>Fin.back e1 f⟩
  | false=>exact Hv ⟨.bl false,G1,L1,M1,e1,r1,rfl,h1.2 rfl⟩
 ·exact h1.elim
theorem MN(ha:JE X R a ta):JE X R (.UnaryOp .Not a pos) (Ru ta):= .of (MM ha) λσ H G L ρ M q x rl n h hx=>by
 refine ⟨G,L,ρ,M,_,x,rl,n,h,hx,λv H1 ⟨d1,G1,L1,M1,e1,r1,n1,h1⟩=> ?_⟩
 (try dsimp only at h1)
 split at h1
 ·rename_i c;exact ⟨c,n1, .bl (!c),G1,L1,M1,e1,r1,rfl,h1⟩
 ·exact h1.elim
theorem tL{c:Expr}(hc:JT X R c t1)(ha:JE X R a ta)(hb:JE X R b tb):JE X R (.IfExp c a b pos) (Xx t1 ta tb):= .of (Ia hc ha hb) λσ H G L ρ M q x rl n h hx=>by
 refine ⟨G,L,ρ,M,_,x,rl,n,h,hx,λc H1 ⟨G1,L1,M1,e1,r1,h1⟩=> ?_⟩;cases c with
 | true=>exact E5 ⟨G1,L1,ρ,M1,_,x,r1,n.mono e1,h1.1 rfl,hx.on e1,λb H2 f=>Fin.back e1 f⟩
 | false=>exact Hv ⟨G1,L1,ρ,M1,_,x,r1,n.mono e1,h1.2 rfl,hx.on e1,λb H2 f=>Fin.back e1 f⟩
end
def LR:DS:=λDn ρ M=>Dn.nx ρ M
def Se(t u:DS):DS:=λDn ρ M=>t {Dn with nx:=u Dn} ρ M
def Yh(c:DT)(t u:DS):DS:=λDn ρ M=>c ρ M (λb M1=>(b=true->t Dn ρ M1)/\(b=false->u Dn ρ M1)) Dn.x
def RU(t:DE):DS:=λDn ρ M=>t ρ M Dn.rt Dn.x
def OC(i:Nat)(t:DE):DS:=λDn ρ M=>t ρ M (λd M1=>Dn.nx (ρ.set i (some d)) M1) Dn.x
def Gf(t:DE):DS:=λDn ρ M=>t ρ M (λ_ M1=>Dn.nx ρ M1) Dn.x
def V7(t:DS):DS:=λDn ρ M=>∃J:En->Ms->Prop,t {Dn with nx:=J} ρ M/\∀ρ' M',J ρ' M'->Dn.nx ρ' M'
section
variable{X:Cx}{R:St->XK}{st:Stmt}{rest:List Stmt}{t u:DS}{e:Expr}{te:DE}{pos:Pos}
theorem Τ:BH X R [] LR:= .of K3 λσ H G L ρ M Dn rl n h hx=>⟨ρ,G,L,M, .refl _ _ _,rl,n,h⟩
theorem ι(h1:JS X R st t):BH X R [st] t:=JR h1
theorem ζ(h1:JS X R st t)(h2:BH X R rest u):BH X R (st::rest) (Se t u):= .of (Fu h1 h2) λσ H G L ρ M Dn rl n h hx=>by refine ⟨G,L,ρ,M,_,rl,n,h,hx,⟨λσ1 H1 ⟨ρ1,G1,L1,M1,e1,r1,n1,h1⟩=> ?_,λ_ _ f=>f,λ_ _ f=>f,λ_ _ f=>f⟩⟩;exact ⟨G1,L1,ρ1,M1,Dn,r1,n1,h1,hx.on e1,sx.back e1⟩
theorem oz:JS X R (.Continue pos) (λDn ρ M=>Dn.ct ρ M):= .of xC λσ H G L ρ M Dn rl n h hx=>⟨ρ,G,L,M, .refl _ _ _,rl,n,h⟩
theorem Β(he:JE X R e te):JS X R (.Return (some e) pos) (RU te):= .of (NC he) λσ H G L ρ M Dn rl n h hx=>⟨G,L,ρ,M,_,_,rl,n,h,hx,λ_ _ f=>f⟩
theorem fB(he:JE X R e te)(hs:swapsWith e none pos.line X.env=pure false:=by rfl):JS X R (.Expr e pos) (Gf te):= .of (JF he hs) λσ H G L ρ M Dn rl n h hx=>by refine ⟨G,L,ρ,M,_,_,rl,n,h,hx,λv H1 ⟨d1,G1,L1,M1,e1,r1,n1,h1⟩=>⟨ρ,G1,L1,M1,e1,r1,n.mono e1,h1⟩⟩
theorem aB{c:Expr}{a b:List Stmt}{tc:DT}(hc:JT X R c tc)(ha:BH X R a t)(hb:BH X R b u):JS X R (.If c a b pos) (Yh tc t u):= .of (Qz hc ha hb) λσ H G L ρ M Dn rl n h hx=>by
 refine ⟨G,L,ρ,M,_,_,rl,n,h,hx,λc H1 ⟨G1,L1,M1,e1,r1,h1⟩=> ?_⟩;cases c with
 | true=>exact E5 ⟨G1,L1,ρ,M1,Dn,r1,n.mono e1,h1.1 rfl,hx.on e1,sx.back e1⟩
 | false=>exact Hv ⟨G1,L1,ρ,M1,Dn,r1,n.mono e1,h1.2 rfl,hx.on e1,sx.back e1⟩
theorem ω{i:Nat}{x:Str}{pos':Pos}(hN:X.N.Nodup)(hi:X.N[i]? =some x)(hx:Loc X.env.scope x)(he:JE X R e te)(hs:swapsWith e (some (.Name x pos')) pos.line X.env=pure false:=by rfl)(hf:X.fn x=true\/X.env.scope.names.lookup x=some .local:=by first | exact .inl rfl | exact .inr rfl | assumption):
  JS X R (.Assign [.Name x pos'] e pos) (OC i te):= .of (NR hN hi hx he hs hf) λσ H G L ρ M Dn rl n h hx=>by
 refine ⟨G,L,ρ,M,_,_,rl,n,h,hx,λv H1 ⟨d1,G1,L1,M1,e1,r1,n1,h1⟩=>⟨_,G1,L1,M1,e1,r1,(n.mono e1).set i n1,h1⟩⟩
theorem iZ(h:JS X R st t):JS X R st (V7 t):= .of h λσ H G L ρ M Dn rl n h hx=>by obtain ⟨J,h1,h2⟩:=h;refine ⟨G,L,ρ,M,_,rl,n,h1,hx,⟨λσ1 H1 ⟨ρ1,G1,L1,M1,e1,r1,n1,h1⟩=>⟨ρ1,G1,L1,M1,e1,r1,n1,h2 _ _ h1⟩,λ_ _ f=>f,λ_ _ f=>f,λ_ _ f=>f⟩⟩
end
abbrev X3:=Addr->List (Str×Dt)->Ms->Prop
abbrev DF:=List Dt->Ms->DQ->X3->Prop
inductive cn(K:PySem.W.Frag)(T:DF)(vs:List V)(H:Hp)(Q:VK)(E:XK):Prop
 | mk (G:Hp) (L:List Addr) (ds:List Dt) (M:Ms) (q:DQ) (x:X3) (r:Rl K G L M H) (n:Ρ K G L ds vs) (h:T ds M q x) (hQ:∀v H1,Fin K G L H q v H1->Q v H1) (hE:∀C fs M1 G1 L1 H1 od,x C fs M1->Ex G L H G1 L1 H1->Rl K G1 L1 M1 H1->Sx K G1 L1 H1 fs od->E (.ref C) od H1)
def nR(N:List Str)(ds:List Dt):En:=ds.map some++List.replicate (N.length - ds.length) none
theorem Iu{K:PySem.W.Frag}{G:Hp}{L:List Addr}{N:List Str}{ds:List Dt}{vs:List V}(h:Ρ K G L ds vs):ji K G L (nR N ds) (start N vs):=by
 have hl:=h.length;refine ⟨by unfold nR start;simp [hl],λi d e=> ?_⟩;unfold nR at e;unfold start;by_cases hi:i < ds.length
 ·rw [List.getElem?_append_left (by simpa using hi),List.getElem?_map] at e;rw [List.getElem?_append_left (by simpa [<-hl] using hi),List.getElem?_map];cases q:ds[i]? with
  | none=>rw [q] at e;cases e
  | some d'=>
   rw [q] at e;cases e;obtain ⟨v,e1,h1⟩:=h.get q;exact ⟨v,by rw [e1];rfl,h1⟩
 ·rw [List.getElem?_append_right (by simpa using Nat.le_of_not_lt hi),List.getElem?_replicate] at e;split at e <;> cases e
section
variable{P:Program}{w:World}{K:PySem.W.Frag}{mg:Str->Option Value}{base:Heap}
theorem cH.dF{x qual:Str}{st:Stmt}{f:Addr}{fd:FuncData}{N ps:List Str}{k:Nat}{T:DF}(F:cH K x qual st f fd)(S:Γ N ps (θ st))(len:∀ds M q x,T ds M q x->ds.length=ps.length)
  (xr:∀(aV:Value) (A:Around) (outer:List Env) (s:Shared) (H:Hp) (E:XK),bO k (A.deeper (envOfC qual (θ st) s.heap.objs.size f aV))->
   ∃t,BH (uM (bX P w) P w K mg base N qual (θ st) f aV A outer s H E) (λ_=>E) (gO st) t/\∀ds M q x,T ds M q x->t {nx:=λ_ M'=>q .br M',rt:=q,x:=λ_=>x} (nR N ds) M):
  af P w K mg base (bX P w) (k+1) f fd ps (cn K T):=by
 refine F.okX S (λvs H Q E h=> ?_) (λaV A outer s H vs Q E hr h=> ?_)
 ·obtain ⟨G,L,ds,M,q,x,rl,n,hT,_⟩:=h;rw [<-n.length];exact len _ _ _ _ hT
 ·obtain ⟨t,j,ht⟩:=xr aV A outer s H E hr;obtain ⟨G,L,ds,M,q,x,rl,n,hT,hQ,hE⟩:=h;refine ⟨_,j,G,L,nR N ds,M,_,rl,Iu n,ht ds M q x hT,λσ ρ C fs M' G' L' H' od hx e r _ y=>hE C fs M' G' L' H' od hx e r y,⟨λσ' H' ⟨ρ',G',L',M',e,r,_,h⟩=>hQ _ _ ⟨.br,G',L',M',e,r,rfl,h⟩,λv H' f=>hQ v H' f,λ_ _ ⟨_,_,_,_,_,_,_,h⟩=>h.elim,λ_ _ ⟨_,_,_,_,_,_,_,h⟩=>h.elim⟩⟩
structure aj(P:Program)(w:World)(K:PySem.W.Frag)(mg:Str->Option Value)(base:Heap)(k:Nat)(x:Str)(ps:List Str)(T:DF)(f:Addr)(fd:FuncData):Prop where
 ok:af P w K mg base (bX P w) k f fd ps (cn K T)
 b:jh K fd ps []
 m:mg x=some (.ref f)
 kp:PySem.W.keepIn K (.ref f)=true
end
def LJ(T:DF)(t:DA):DE:=λρ M q x=>t ρ M (λds M1=>T ds M1 q (λC fs M'=>x ρ C fs M')) x
section
variable{X:Cx}{R:St->XK}{T:DF}{k k':Nat}{f:Addr}{fd:FuncData}{ps:List Str}{x:Str}{p pos:Pos}{e:Expr}{es:List Expr}{t:DA}
theorem aa(C:aj X.prog X.w X.K X.mg X.base k x ps T f fd)(hr:bO k' X.A)(hx:cX (bX X.prog X.w) X R)(ha:JA X R (e::es) t)(hk:k<=k':=by decide)(hg:Gl X x:=by rfl)(wq:(x==("__debug__":Str))=false:=by decide)
  (he:starEach (e::es) X.env=(false,eval e X.env)::starEach es X.env:=by rfl) (fF:(backTo pos (starEach es X.env)).any (·.1)=false:=by rfl):JE X R (.Call (.Name x p) (e::es) [] pos) (LJ T t):=
 .of (HH C.ok (hr.mono hk) hg C.m C.kp C.b .nil hx ha wq he fF) λσ H G L ρ M q x rl n h hx=>by refine ⟨G,L,ρ,M,_,x,rl,n,h,hx,λvs H1 ⟨ds,G1,L1,M1,e1,r1,n1,h1⟩=> ?_⟩;show cn X.K T (vs++[]) H1 _ _;rw [aaZ];exact ⟨G1,L1,ds,M1,q,_,r1,n1,h1,λv H' f=>Fin.back e1 f,λC fs M' G' L' H' od hq e' r' y=>hx σ ρ C fs M' G' L' H' od hq (e1.trans e') r' (n.mono (e1.trans e')) y⟩
end
structure Yl(K:PySem.W.Frag)(J:It)(xs:List Dt)(G0:Hp)(L0:List Addr):Prop where
 go:∀(i:Nat) G L M H (d:Dt),df G0 G->Pre L0 L->Rl K G L M H->xs[i]? =some d->J.go i H/\∀v H',J.Nn i H v H'->∃G',Ex G L H G' L H'/\Rl K G' L M H'/\Den K G' L d v
 stop:∀(i:Nat) G L M H,df G0 G->Pre L0 L->Rl K G L M H->xs.length<=i->J.stop i H
inductive Pp(K:PySem.W.Frag)(G0:Hp)(L0:List Addr)(H0:Hp)(q:List Dt->Ms->Prop)(J:It)(H:Hp):Prop
 | mk (xs:List Dt) (G:Hp) (L:List Addr) (M:Ms) (e:Ex G0 L0 H0 G L H) (r:Rl K G L M H) (y:Yl K J xs G L) (h:q xs M)
inductive Ql(K:PySem.W.Frag)(R:St->XK)(t:DA)(σ:St)(H:Hp)(Q:It->Hp->Prop):Prop
 | mk (G:Hp) (L:List Addr) (ρ:En) (M:Ms) (q:List Dt->Ms->Prop) (x:DX) (r:Rl K G L M H) (n:ji K G L ρ σ) (h:t ρ M q x) (hx:sv K G L H R x) (hQ:∀J H1,Pp K G L H q J H1->Q J H1)
def JI(X:Cx)(R:St->XK)(tg iter:Expr)(t:DA):Prop:=PI X tg iter (Ql X.K R t)
theorem Jk.imp{X:Cx}{ε:List (Addr×Obj)}{σ:St}{tg:Expr}{R R':It->Hp->Prop}(hR:∀J H,R J H->R' J H){v:Value}{s:Shared}(h:Jk X ε σ tg R v s):Jk X ε σ tg R' v s:=by obtain ⟨it,fp,tn,J,H',a,b,c,d,e,f⟩:=h;exact ⟨it,fp,tn,J,H',a,b,c,d,e,hR J H' f⟩
theorem B2{K:PySem.W.Frag}{G:Hp}{L:List Addr}{a:Addr}{ds:List Dt}{vs:List V}(h:∀G':Hp,df G G'->gQ K G' a vs)(n:Ρ K G L ds vs):Yl K (S5 K a) ds G L where
 go:=λi G1 L1 M1 H1 d g l r e=>by
  obtain ⟨v,e1,n1⟩:=n.get e;have hs:=h H1 (g.trans r.sub)
  exact ⟨⟨vs,v,hs,e1⟩,λv' H' ⟨eH,y⟩=>by
   subst eH;have e2:=y vs hs;rw [e1] at e2;cases e2
   exact ⟨G1, .refl _ _ _,r,Den.mono g l _ _ n1⟩⟩
 stop:=λi G1 L1 M1 H1 g l r e=>⟨vs,h H1 (g.trans r.sub),by rw [<-n.length];exact e⟩
theorem FK{K:PySem.W.Frag}{G:Hp}{L:List Addr}{a:Addr}{ds:List Dt}{vs:List V}(h:∀G':Hp,df G G'->oi K G' a vs)(n:Ρ K G L ds vs):Yl K (US K a) ds G L where
 go:=λi G1 L1 M1 H1 d g l r e=>by
  obtain ⟨v,e1,n1⟩:=n.get e;have hs:=h H1 (g.trans r.sub)
  exact ⟨⟨vs,v,hs,e1⟩,λv' H' ⟨eH,y⟩=>by
   subst eH;have e2:=y vs hs;rw [e1] at e2;cases e2
   exact ⟨G1, .refl _ _ _,r,Den.mono g l _ _ n1⟩⟩
 stop:=λi G1 L1 M1 H1 g l r e=>⟨vs,h H1 (g.trans r.sub),by rw [<-n.length];exact e⟩
def dc(lo:Int)(n:Nat):List Dt:=(List.range n).map λk:Nat=>Dt.int (lo+(k:Int))
theorem Gp{K:PySem.W.Frag}{G:Hp}{L:List Addr}{lo:Int}{n:Nat}:Yl K (Pk lo n) (dc lo n) G L where
 go :=λi G1 L1 M1 H1 d g l r e=>by
  unfold dc at e;rw [aao] at e;have hi:i < n:=by
   cases q:(List.range n)[i]? with
   | none=>rw [q] at e;cases e
   | some j=>
    have:=(aag.mp q).1;rwa [aaU] at this
  rw [aaI hi] at e;cases e;exact ⟨hi,λv' H' ⟨eH,y⟩=>by subst eH y;exact ⟨G1, .refl _ _ _,r,rfl⟩⟩
 stop:=λi G1 L1 M1 H1 g l r e=>by show n<=i;unfold dc at e;simpa using e
section
variable{X:Cx}{R:St->XK}{tg iter:Expr}
theorem JI.of{wi:TI}{t:DA}(h:PI X tg iter wi)(hw:∀σ H G L ρ M q x,Rl X.K G L M H->ji X.K G L ρ σ->t ρ M q x->sv X.K G L H R x->wi σ H (Pp X.K G L H q)):JI X R tg iter t:=by intro ε s σ H Q I ⟨G,L,ρ,M,q,x,r,n,ht,hx,hQ⟩;exact aS (h ε s σ H _ I (hw σ H G L ρ M q x r n ht hx)) λu s1 f=>aS f λu2 s2 f2=>Jk.imp hQ f2
def Ra(t:DA):DA:=λρ M q x=>t ρ M (λds M1=>match ds with
 | [.int j]=>(-(2 ^ 62)<=j/\j < 2 ^ 62)/\q (dc 0 j.toNat) M1
 | _=>False) x
theorem cv{a:Expr}{t:DA}{p pos:Pos}(hm:X.mg "range"=none)(ha:JA X R [a] t)(hg:Gl X "range":=by rfl)(hs:starEach [a] X.env=[(false,eval a X.env)]:=by rfl):JI X R tg (.Call (.Name "range" p) [a] [] pos) (Ra t):=
 .of (DW hg hm ha hs) λσ H G L ρ M q x rl n h hx=>by
  refine ⟨G,L,ρ,M,_,x,rl,n,h,hx,λvs H1 ⟨ds,G1,L1,M1,e1,r1,n1,h1⟩=> ?_⟩
  (try dsimp only at h1)
  split at h1
  ·rename_i j;obtain ⟨v,rfl,n2⟩:=aT n1;have n2:v= .int j:=n2;subst n2;exact ⟨j,rfl,h1.1.1,h1.1.2,_,G1,L1,M1,e1,r1,Gp,h1.2⟩
  ·exact h1.elim
def zP(t:DA):DA:=λρ M q x=>t ρ M (λds M1=>match ds with
 | [.int i, .int j]=>(-(2 ^ 62)<=i/\i < 2 ^ 62/\ -(2 ^ 62)<=j/\j < 2 ^ 62)/\q (dc i (j - i).toNat) M1
 | _=>False) x
theorem sX{a b:Expr}{t:DA}{p pos:Pos}(hm:X.mg "range"=none)(ha:JA X R [a,b] t)(hg:Gl X "range":=by rfl)(hs:starEach [a,b] X.env=[(false,eval a X.env),(false,eval b X.env)]:=by rfl)(Mt:starEach [b] X.env=[(false,eval b X.env)]:=by rfl):
  JI X R tg (.Call (.Name "range" p) [a,b] [] pos) (zP t):=
 .of (DM hg hm ha hs Mt) λσ H G L ρ M q x rl n h hx=>by
  refine ⟨G,L,ρ,M,_,x,rl,n,h,hx,λvs H1 ⟨ds,G1,L1,M1,e1,r1,n1,h1⟩=> ?_⟩
  (try dsimp only at h1)
  split at h1
  ·rename_i i j;obtain ⟨v,u,rfl,n3,n2⟩:=e7 n1;have n3:v= .int i:=n3;have n2:u= .int j:=n2;subst n3 n2;exact ⟨i,j,rfl,h1.1,_,G1,L1,M1,e1,r1,Gp,h1.2⟩
  ·exact h1.elim
end
def GD(K:PySem.W.Frag)(gg:TG)(g:Dt->En->(En->Prop)->Prop):Prop:=
 ∀G L M H d v ρ σ (k:En->Prop) (Q:St->Hp->Prop),Rl K G L M H->Den K G L d v->ji K G L ρ σ->g d ρ k->(∀ρ' σ',ji K G L ρ' σ'->k ρ'->Q σ' H)->gg v σ H Q
def gN(i:Nat):Dt->En->(En->Prop)->Prop:=λd ρ k=>k (ρ.set i (some d))
theorem aP{K:PySem.W.Frag}{i:Nat}:GD K (gM i) (gN i):=λG L M H d v ρ σ k Q rl n en h hQ=>hQ _ _ (en.set i n) h
def g2(i j:Nat):Dt->En->(En->Prop)->Prop:=λd ρ k=>match d with
 | .tup [a,b]=>k ((ρ.set i (some a)).set j (some b))
 | _=>False
theorem nu{K:PySem.W.Frag}{i j:Nat}:GD K (F_ K 2 (mR (gM i) (mR (gM j) Il))) (g2 i j):=λG L M H d v ρ σ k Q rl n en h hQ=>by
 unfold g2 at h;split at h
 ·rename_i a b;obtain ⟨p,vs,rfl,e,n⟩:=n;obtain ⟨v1,v2,rfl,n1,n2⟩:=e7 n;exact ⟨p,_,rfl, .inl (.inl (rl.sub _ _ e)),rfl,v1,_,rfl,v2,_,rfl,rfl,hQ _ _ ((en.set i n1).set j n2) h⟩
 ·exact h.elim
def v_(g:Dt->En->(En->Prop)->Prop)(tb:DS)(Dn:kG):List Dt->En->Ms->Prop
 | [],ρ,M=>Dn.nx ρ M
 | x::xs,ρ,M=>g x ρ λρ'=>tb {Dn with nx:=v_ g tb Dn xs,ct:=v_ g tb Dn xs,bk:=Dn.nx} ρ' M
def RW(ti:DA)(g:Dt->En->(En->Prop)->Prop)(tb:DS):DS:=λDn ρ M=>ti ρ M (λxs M1=>v_ g tb Dn xs ρ M1) Dn.x
section
variable{X:Cx}{R:St->XK}{tg iter:Expr}{body:List Stmt}{ti:DA}{gg:TG}{g:Dt->En->(En->Prop)->Prop}{tb:DS}{pos:Pos}
theorem hG(hi:JI X R tg iter ti)(hg:PG X tg gg)(gd:GD X.K gg g)(hb:BH X R body tb)(hp:PassesOwn (model X.prog X.w) X.A X.env X.xe:=by first | exact PassesOwn.never | exact PassesOwn.leaving)(hc:X.calm=true:=by rfl)(hs:∀x,foldedSetIterable iter X.env x=pure x:=by intro _;rfl):
  JS X R (.For tg iter body [] pos) (RW ti g tb):= .of (AY hp hc hi hg hb hs) λσ H G L ρ M Dn rl n h hx=>by
 refine ⟨G,L,ρ,M,_,_,rl,n,h,hx,λJ H1 ⟨xs,G1,L1,M1,e1,r1,y,h1⟩=> ?_⟩;refine ⟨λi m σ' H'=>m+i=xs.length/\dY X.K G1 L1 H1 (λρ' M'=>v_ g tb Dn (xs.drop i) ρ' M') σ' H',⟨xs.length,rfl,ρ,G1,L1,M1, .refl _ _ _,r1,n.mono e1,by rw [abF];exact h1⟩, ?_⟩;rintro i m σ' H' ⟨hm,ρ',G',L',M',e',r',n',h'⟩;by_cases hi:i < xs.length
 ·right;have hd:xs[i]? =some xs[i]:=aaa hi;obtain ⟨go,yl⟩:=y.go i G' L' M' H' _ e'.g e'.l r' hd;rw [aaP hi] at h';refine ⟨go,dY X.K G1 L1 H1 (λρ' M'=>v_ g tb Dn (xs.drop (i+1)) ρ' M'),λσ2 H2 f=>⟨m - 1,by omega,by omega,f⟩,λv H2 hy=> ?_⟩;obtain ⟨G2,e2,r2,n2⟩:=yl v H2 hy;refine gd G2 L' M' H2 _ v ρ' σ' _ _ r2 n2 (n'.mono e2) h' λρ3 σ3 n3 h3=> ?_;refine ⟨G2,L',ρ3,M',_,r2,n3,h3,hx.on (e1.trans (e'.trans e2)),⟨λ_ _ f=>dY.back (e'.trans e2) f,λ_ _ f=>Fin.back (e1.trans (e'.trans e2)) f,λ_ _ f=>dY.back (e1.trans (e'.trans e2)) f,λ_ _ f=>dY.back (e'.trans e2) f⟩⟩
 ·left;refine ⟨y.stop i G' L' M' H' e'.g e'.l r' (by omega),ρ',G',L',M',e1.trans e',r',n', ?_⟩;rw [abb (by omega)] at h';exact h'
end
def ie(caps:List Nat)(ρ:En):En:=caps.map λi=>(ρ[i]?).join
theorem Hi{K:PySem.W.Frag}{G:Hp}{L:List Addr}{ρ:En}{σ:St}(h:ji K G L ρ σ)(caps:List Nat){d:Dt}{v:V}(n:Den K G L d v):ji K G L (some d::ie caps ρ) (some v::cc caps σ):=by
 refine ⟨by unfold ie cc;simp,λi d' e=> ?_⟩;cases i with
 | zero=>cases e;exact ⟨v,rfl,n⟩
 | succ j=>
  have e:(ie caps ρ)[j]? =some (some d'):=e;show∃v',(cc caps σ)[j]? =some (some v')/\_;unfold ie at e;unfold cc;rw [aao] at e⊢;cases q:caps[j]? with
  | none=>rw [q] at e;cases e
  | some i=>
   rw [q] at e;have e:(ρ[i]?).join=some d':=aar e;have e:ρ[i]? =some (some d'):=by
    cases q2:ρ[i]? with
    | none=>rw [q2] at e;cases e
    | some o=>rw [q2] at e;exact congrArg some e
   obtain ⟨v',e1,n1⟩:=h.d9 i d' e;exact ⟨v',by show some ((σ[i]?).join)=_;rw [e1];rfl,n1⟩
def yY(te:DE)(cs:En):List Dt->List Dt->Ms->(List Dt->Ms->Prop)->Prop
 | [],Ε,M,k=>k Ε M
 | x::xs,Ε,M,k=>te (some x::cs) M (λd M1=>yY te cs xs (Ε++[d]) M1 k) mQ
def Lq(ti:DA)(te:DE)(caps:List Nat):DE:=λρ M q x=>ti ρ M (λxs M1=>xs.length<=sizeLine/\yY te (ie caps ρ) xs [] M1 (λys M2=>q (.lst ys) M2)) x
theorem Kz{K:PySem.W.Frag}{J:It}{te:DE}{caps:List Nat}{ρ:En}{σ:St}{G1:Hp}{L1:List Addr}{M1:Ms}{H1:Hp}{xs:List Dt}{Dl:Addr}{Q:VK}{k:List Dt->Ms->Prop}(r1:Rl K G1 L1 M1 H1)(n:ji K G1 L1 ρ σ)(y:Yl K J xs G1 L1)(hD:H1 Dl=none)(hz:xs.length<=sizeLine)
  (h:yY te (ie caps ρ) xs [] M1 k)
  (fin:∀G2 L2 M2 H2 ds vs,Ex G1 L1 H1 G2 L2 H2->Rl K G2 L2 M2 H2->G2 Dl=none->Dl∉L2->H2 Dl=some (.lst vs)->Ρ K G2 L2 ds vs->k ds M2->Q (.ref Dl) H2):
  Cz J (lq K (λ_=>E0) te) (cc caps σ) Q H1 Dl:=by
 refine ⟨λi m ys H2=>m+i=xs.length/\H2 Dl=some (.lst ys)/\∃Ε G2 L2 M2,Ex G1 L1 H1 G2 L2 H2/\Rl K G2 L2 M2 H2/\G2 Dl=none/\Dl∉L2/\Ρ K G2 L2 Ε ys/\Ε.length=i/\yY te (ie caps ρ) (xs.drop i) Ε M2 k,⟨xs.length,rfl,Κ,[],G1,L1,M1, ?_⟩, ?_⟩
 ·have gn:G1 Dl=none:=r1.sub.free hD;refine ⟨⟨.refl _, .refl _,λ_ h _=>h,λb u h1 _=>by rw [ψ (λz=>by rw [z,hD] at h1;cases h1)];exact h1,λ_ h=> .inl h,λb h=>by rw [ψ (λz=>h (by rw [z];exact hD))];exact h⟩,⟨λb u e=>by rw [ψ (λz=>by rw [z,gn] at e;cases e)];exact r1.sub b u e,r1.len,r1.nd,λi a m h1 h2=> ?_⟩,gn,r1.zw hD,rfl,rfl,by rw [abF];exact h⟩;obtain ⟨q1,q2⟩:=r1.d9 i a m h1 h2;exact ⟨q1,q2.mono (.refl _) (.refl _) (ψ λz=>q2.there (by rw [z];exact hD))⟩
 ·rintro i m ys H2 ⟨hm,gI,Ε,G2,L2,M2,e2,r2,g2,l2,n2,la,h2⟩;refine ⟨gI, ?_⟩;by_cases hi:i < xs.length
  ·right;have hd:xs[i]? =some xs[i]:=aaa hi;obtain ⟨go,yl⟩:=y.go i G2 L2 M2 H2 _ e2.g e2.l r2 hd;rw [aaP hi] at h2;refine ⟨go,λv H3 hy=> ?_⟩;obtain ⟨G3,e3,r3,n3⟩:=yl v H3 hy;refine ⟨G3,L2,_,M2,_,mQ,r3,Hi ((n.mono e2).mono e3) caps n3,h2,qH,λv4 H4 ⟨d4,G4,L4,M4,e4,r4,n4,h4⟩=> ?_⟩;have l3:Dl∉L2:=l2;have h3:H3 Dl=some (.lst ys):=e3.out _ _ gI l2;have g3:G3 Dl=none:=e3.fr _ g2 (by rw [gI];simp);have LQ:H4 Dl=some (.lst ys):=e4.out _ _ h3 l2;have g4:G4 Dl=none:=e4.fr _ g3 (by rw [h3];simp);have l4:Dl∉L4:=λz=>(e4.new _ z).elim l2 λq=>by rw [h3] at q;cases q
   have OO:=e3.trans e4;have Hs:ys.length=i:=by rw [<-n2.length];exact la
   have ne1:∀{b:Addr} {u:HO},H1 b=some u->b≠Dl:=λe z=>by rw [z,hD] at e;cases e
   refine ⟨LQ,by omega,m - 1,by omega,by omega,Κ,Ε++[d4],G4,L4,M4, ?_, ?_,g4,l4,(Ρ.mono OO.g OO.l _ _ n2).app ⟨_,_,rfl,n4,rfl⟩,by rw [aai,la];rfl,h4⟩
   ·have CN:=e2.trans OO
    exact ⟨CN.g,CN.l,CN.fr,λb u h1 h2=>by rw [ψ (ne1 h1)];exact CN.out b u h1 h2,CN.new,λb h=>by
     by_cases hb:b=Dl
     ·rw [hb,Κ];simp
     ·rw [ψ hb];exact CN.xW b h⟩
   ·refine ⟨λb u e=>by rw [ψ (λz=>by rw [z,g4] at e;cases e)];exact r4.sub b u e,r4.len,r4.nd,λi a m h1 h2=> ?_⟩;obtain ⟨q1,q2⟩:=r4.d9 i a m h1 h2;exact ⟨q1,q2.mono (.refl _) (.refl _) (ψ λz=>l4 (by rw [<-z];exact aal h1))⟩
  ·left;rw [abb (by omega)] at h2;exact ⟨y.stop i G2 L2 M2 H2 e2.g e2.l r2 (by omega),fin G2 L2 M2 H2 Ε ys e2 r2 g2 l2 gI n2 h2⟩
section
variable{K:PySem.W.Frag}{G1:Hp}{L1:List Addr}{H1 G:Hp}{L:List Addr}{M:Ms}{H:Hp}{p:Addr}{ds:List Dt}{vs:List V}{q:DQ}
theorem kj(e:Ex G1 L1 H1 G L H)(r:Rl K G L M H)(Oi:H1 p=none)(hg:G p=none)(hl:p∉L)(h:H p=some (.lst vs))(n:Ρ K G L ds vs)(k:q (.lst ds) M):Fin K G1 L1 H1 q (.ref p) H:=by
 have g1:df G (upd G p (.lst vs)):=λb u e=>by rw [ψ (λz=>by rw [z,hg] at e;cases e)];exact e
 refine ⟨.lst ds,upd G p (.lst vs),L,M,⟨e.g.trans g1,e.l,λb h1 h2=> ?_,e.out,e.new,e.xW⟩,⟨λb u e=> ?_,r.len,r.nd,λk a m h1 h2=> ?_⟩,⟨p,vs,rfl,Κ,Ρ.mono g1 (.refl _) _ _ n⟩,k⟩
 ·rw [ψ (λz=>h2 (by rw [z];exact Oi))];exact e.fr b h1 h2
 ·by_cases hb:b=p
  ·rw [hb,Κ] at e;rw [hb];cases e;exact h
  ·rw [ψ hb] at e;exact r.sub b u e
 ·obtain ⟨q1,q2⟩:=r.d9 k a m h1 h2;have hb:a≠p:=λz=>hl (by rw [<-z];exact aal h1);exact ⟨by rw [ψ hb];exact q1,q2.mono g1 (.refl _) rfl⟩
end
section
variable{X:Cx}{R:St->XK}{elt iter:Expr}{x:Str}{px:Pos}{scope:Scope}{pos:Pos}{ti:DA}{te:DE}{ys:List Str}{caps:List Nat}
theorem IM(S:dE X scope x ys caps)(hi:JI X R (.Name x px) iter ti)(he:∀C s H fp,JE (Cx.comp X (x::ys) scope C s H fp) (λ_=>E0) elt te)(hc:X.calm=true:=by rfl)(hs:∀x,foldedSetIterable iter X.env x=pure x:=by intro _;rfl):
  JE X R (.ListComp elt [⟨.Name x px,iter,[],0⟩] scope pos) (Lq ti te caps):= .of (Ci (wi:=Ql X.K R ti) (te:=lq X.K (λ_=>E0) te) S hc hi he hs) λσ H G L ρ M q x rl n h hx=>by
 refine ⟨G,L,ρ,M,_,x,rl,n,h,hx,λJ H1 ⟨xs,G1,L1,M1,e1,r1,y,hz,h1⟩ D hD=> ?_⟩;exact Kz r1 (n.mono e1) y hD hz h1 λG2 L2 M2 H2 ds vs e2 r2 g2 l2 h2 n2 k=>Fin.back e1 (kj e2 r2 hD g2 l2 h2 n2 k)
end
theorem fin_same{K:PySem.W.Frag}{G0:Hp}{L0:List Addr}{H0 G:Hp}{L:List Addr}{M:Ms}{H:Hp}{d:Dt}{v:V}{q:DQ}(e:Ex G0 L0 H0 G L H)(r:Rl K G L M H)(n:Den K G L d v)(h:q d M):Fin K G0 L0 H0 q v H:=⟨d,G,L,M,e,r,n,h⟩
theorem bc{K:PySem.W.Frag}{G0:Hp}{L0:List Addr}{H0 G:Hp}{L:List Addr}{M:Ms}{H:Hp}{d:Dt}{v:V}{q:DQ}(e:Ex G0 L0 H0 G L H)(r:Rl K G L M H)(h:q d M)(n:Den K G L d v:=by rfl):Fin K G0 L0 H0 q v H:=⟨d,G,L,M,e,r,n,h⟩
def xo:Dt->Dt->Ms->DQ->Prop
 | .int i, .int j,M,q=>q (.int (i+j)) M
 | .str a, .str b,M,q=>a.length+b.length<=sizeLine/\q (.str (a++b)) M
 | .lst a, .lst b,M,q=>a.length+b.length<=sizeLine/\q (.lst (a++b)) M
 | .tup a, .tup b,M,q=>(a≠[]/\a.length+b.length<=sizeLine)/\q (.tup (a++b)) M
 | _,_,_,_=>False
def vm:Dt->Dt->Ms->DQ->Prop
 | .int i, .int j,M,q=>q (.int (i - j)) M
 | _,_,_,_=>False
def IU:Dt->Dt->Ms->DQ->Prop
 | .int i, .int j,M,q=>(gJ i/\gJ j)/\q (.int (i * j)) M
 | .lst a, .int k,M,q=>(-(2 ^ 63)<=k/\k < 2 ^ 63/\a.length * k.toNat<=sizeLine)/\q (.lst (List.replicate k.toNat a).flatten) M
 | _,_,_,_=>False
def M7:Dt->Dt->Ms->DQ->Prop
 | .int i, .int j,M,q=>(0 < j/\gJ j)/\q (.int (i / j)) M
 | _,_,_,_=>False
def Bq:Dt->Dt->Ms->DQ->Prop
 | .int i, .int j,M,q=>(j≠0/\gJ j)/\q (.int (i.fdiv j)) M
 | _,_,_,_=>False
def JD:Dt->Dt->Ms->DQ->Prop
 | .int i, .int j,M,q=>0 < j/\q (.int (i % j)) M
 | _,_,_,_=>False
def OY:Dt->Dt->Ms->DQ->Prop
 | .int i, .int j,M,q=>yv i j/\q (.int (i ^ j.toNat)) M
 | _,_,_,_=>False
def ML:Dt->Ms->DQ->Prop
 | .int i,M,q=>q (.int (-i)) M
 | _,_,_=>False
section
variable{K:PySem.W.Frag}
theorem V':ou K (λx y H Q=>(∃i j,x=V.int i/\y= .int j/\Q (.int (i+j)) H)\/(∃i j,x=V.str i/\y= .str j/\i.length+j.length<=sizeLine/\Q (.str (i++j)) H)\/Nx x y H Q\/LX K x y H Q) xo:=by
 intro G0 L0 H0 G L M H v1 v2 d1 d2 q e r n1 n2 h;unfold xo at h;split at h
 ·rename_i i j;exact .inl ⟨i,j,n1,n2,bc e r h⟩
 ·rename_i a b;exact .inr (.inl ⟨a,b,n1,n2,h.1,bc e r h.2⟩)
 ·rename_i a b;obtain ⟨p1,w1,rfl,e1,m1⟩:=n1;obtain ⟨p2,w2,rfl,e2,m2⟩:=n2;refine .inr (.inr (.inl ⟨p1,p2,w1,w2,rfl,rfl,r.sub _ _ e1,r.sub _ _ e2,by rw [<-m1.length,<-m2.length];exact h.1,λp hp=> ?_⟩));exact kf e r hp (pd r hp (m1.app m2)) h.2
 ·rename_i a b;obtain ⟨p1,w1,rfl,e1,m1⟩:=n1;obtain ⟨p2,w2,rfl,e2,m2⟩:=n2;have ne:w1≠[]:=λz=>h.1.1 (by have:=m1.length;rw [z] at this;exact List.eq_nil_of_length_eq_zero this);refine .inr (.inr (.inr ⟨p1,p2,w1,w2,rfl,rfl, .inl (.inl (r.sub _ _ e1)), .inl (.inl (r.sub _ _ e2)),ne,by rw [<-m1.length,<-m2.length];exact h.1.2,λz=> ?_,λ_ p hp=> ?_⟩))
  ·have hb:b=[]:=by have:=m2.length;rw [z] at this;exact List.eq_nil_of_length_eq_zero this
   subst hb;rw [aaZ] at h;exact fin_same (d:= .tup a) e r ⟨p1,w1,rfl,e1,m1⟩ h.2
  ·exact kf e r hp (pk r hp (m1.app m2)) h.2
 ·exact h.elim
theorem W2:ou K (DV λi j=> .int (i - j)) vm:=by
 intro G0 L0 H0 G L M H v1 v2 d1 d2 q e r n1 n2 h;unfold vm at h;split at h
 ·exact ⟨_,_,n1,n2,bc e r h⟩
 ·exact h.elim
theorem Vp:ou K (λx y H Q=>(rI (λi j=>gJ i/\gJ j) λi j=> .int (i * j)) x y H Q\/Nh x y H Q) IU:=by
 intro G0 L0 H0 G L M H v1 v2 d1 d2 q e r n1 n2 h;unfold IU at h;split at h
 ·exact .inl ⟨_,_,n1,n2,h.1,bc e r h.2⟩
 ·rename_i a k;obtain ⟨p1,w1,rfl,e1,m1⟩:=n1;refine .inr ⟨p1,k,w1,rfl,n2,r.sub _ _ e1,h.1.1,h.1.2.1,by rw [<-m1.length];exact h.1.2.2,λp hp=> ?_⟩;exact kf e r hp (pd r hp (.of (uh m1.pair k.toNat))) h.2
 ·exact h.elim
theorem Vn:ou K (rI (λ_ j=>j≠0/\gJ j) λi j=> .int (i.fdiv j)) M7:=by
 intro G0 L0 H0 G L M H v1 v2 d1 d2 q e r n1 n2 h;unfold M7 at h;split at h
 ·rename_i i j;have h0:=h.1.1;refine ⟨_,_,n1,n2,⟨by omega,h.1.2⟩,fin_same (d:= .int (i.fdiv j)) e r rfl ?_⟩;rw [abR i (aah h0)];exact h.2
 ·exact h.elim
theorem Rq:ou K (rI (λ_ j=>j≠0/\gJ j) λi j=> .int (i.fdiv j)) Bq:=by
 intro G0 L0 H0 G L M H v1 v2 d1 d2 q e r n1 n2 h;unfold Bq at h;split at h
 ·exact ⟨_,_,n1,n2,h.1,bc e r h.2⟩
 ·exact h.elim
theorem WX:ou K (rI (λ_ j=>0 < j) λi j=> .int (i % j)) JD:=by
 intro G0 L0 H0 G L M H v1 v2 d1 d2 q e r n1 n2 h;unfold JD at h;split at h
 ·exact ⟨_,_,n1,n2,h.1,bc e r h.2⟩
 ·exact h.elim
theorem Uo:ou K (rI yv λi j=> .int (i ^ j.toNat)) OY:=by
 intro G0 L0 H0 G L M H v1 v2 d1 d2 q e r n1 n2 h;unfold OY at h;split at h
 ·exact ⟨_,_,n1,n2,h.1,bc e r h.2⟩
 ·exact h.elim
theorem WR:V9 K (rU λi=> .int (-i)) ML:=by
 intro G0 L0 H0 G L M H v1 d1 q e r n1 h;unfold ML at h;split at h
 ·exact ⟨_,n1,bc e r h⟩
 ·exact h.elim
end
section
variable{X:Cx}{R:St->XK}{a b c:Expr}{ta tb:DE}{pos:Pos}
theorem cf(ja:JE X R a ta)(jb:JE X R b tb):JE X R (.BinOp a .Add b pos) (kI xo ta tb):=v7 (Ou.or (AX.or (GL.or KQ))) V' ja jb
theorem qe(ja:JE X R a ta)(jb:JE X R b tb):JE X R (.BinOp a .Sub b pos) (kI vm ta tb):=v7 NV W2 ja jb
theorem aw(ja:JE X R a ta)(jb:JE X R b tb):JE X R (.BinOp a .Mult b pos) (kI IU ta tb):=v7 (J8.or FR) Vp ja jb
theorem je(ja:JE X R a ta)(jb:JE X R b tb):JE X R (.BinOp a .FloorDiv b pos) (kI M7 ta tb):=v7 yU Vn ja jb
theorem zx(ja:JE X R a ta)(jb:JE X R b tb):JE X R (.BinOp a .FloorDiv b pos) (kI Bq ta tb):=v7 yU Rq ja jb
theorem bB(ja:JE X R a ta)(jb:JE X R b tb):JE X R (.BinOp a .Mod b pos) (kI JD ta tb):=v7 OU WX ja jb
theorem ig(ja:JE X R a ta)(jb:JE X R b tb):JE X R (.BinOp a .Pow b pos) (kI OY ta tb):=v7 Mv Uo ja jb
theorem R6(ja:JE X R a ta):JE X R (.UnaryOp .USub a pos) (Td ML ta):=T8 N0 WR ja
end
def SE:Dt->Dt->Ms->DQ->Prop
 | .int i, .int j,M,q=>q (.bl (decide (i < j))) M
 | _,_,_,_=>False
def Vs:Dt->Dt->Ms->DQ->Prop
 | .int i, .int j,M,q=>q (.bl (decide (i<=j))) M
 | _,_,_,_=>False
def Um:Dt->Dt->Ms->DQ->Prop
 | .int i, .int j,M,q=>q (.bl (decide (j < i))) M
 | _,_,_,_=>False
def Vz:Dt->Dt->Ms->DQ->Prop
 | .int i, .int j,M,q=>q (.bl (decide (j<=i))) M
 | _,_,_,_=>False
def Bu:Dt->Option V
 | .br=>some .br
 | .bl b=>some (.bl b)
 | .int i=>some (.int i)
 | .str x=>some (.str x)
 | _=>none
def gD:List Dt->Option (List V)
 | []=>some []
 | d::ds=>match Bu d,gD ds with
  | some v,some vs=>some (v::vs)
  | _,_=>none
section
variable{K:PySem.W.Frag}{G:Hp}{L:List Addr}
theorem qB{d:Dt}{v u:V}(h:Bu d=some u)(n:Den K G L d v):v=u/\fi u=true:=by cases d <;> first | (cases h;exact ⟨n,rfl⟩) | cases h
theorem eE:∀{ds:List Dt} {vs us:List V},gD ds=some us->Ρ K G L ds vs->vs=us/\us.all fi=true
 | [],vs,us,h,n=>by cases h;exact ⟨n,rfl⟩
 | d::ds,_,us,h,⟨v,r,e,n1,n2⟩=>by
  subst e;unfold gD at h;split at h
  ·rename_i u1 u2 h1 h2;cases h;obtain ⟨a1,a2⟩:=qB h1 n1;obtain ⟨b1,b2⟩:=eE h2 n2;subst a1 b1;exact ⟨rfl,by rw [abM,a2,b2];rfl⟩
  ·cases h
end
def Aj:Dt->Dt->Ms->DQ->Prop
 | .int i, .int j,M,q=>q (.bl (decide (i=j))) M
 | .str i, .str j,M,q=>q (.bl (decide (i=j))) M
 | .bl i, .bl j,M,q=>q (.bl (decide (i=j))) M
 | .tup a, .tup b,M,q=>match gD a,gD b with
  | some us,some vs=>q (.bl (me us vs)) M
  | _,_=>False
 | _,_,_,_=>False
def K9:Dt->Dt->Ms->DQ->Prop
 | .int i, .int j,M,q=>q (.bl (!decide (i=j))) M
 | .str i, .str j,M,q=>q (.bl (!decide (i=j))) M
 | .bl i, .bl j,M,q=>q (.bl (!decide (i=j))) M
 | .tup a, .tup b,M,q=>match gD a,gD b with
  | some us,some vs=>q (.bl (!me us vs)) M
  | _,_=>False
 | _,_,_,_=>False
def N2:Dt->Dt->Ms->DQ->Prop
 | .br, .br,M,q=>q (.bl true) M
 | .bl _, .br,M,q=>q (.bl false) M
 | .int _, .br,M,q=>q (.bl false) M
 | .str _, .br,M,q=>q (.bl false) M
 | .tup _, .br,M,q=>q (.bl false) M
 | .lst _, .br,M,q=>q (.bl false) M
 | _,_,_,_=>False
section
variable{K:PySem.W.Frag}
theorem Yc:ou K (DV λi j=> .bl (decide (i < j))) SE:=by
 intro G0 L0 H0 G L M H v1 v2 d1 d2 q e r n1 n2 h;unfold SE at h;split at h
 ·exact ⟨_,_,n1,n2,bc e r h⟩
 ·exact h.elim
theorem Y3:ou K (DV λi j=> .bl (decide (i<=j))) Vs:=by
 intro G0 L0 H0 G L M H v1 v2 d1 d2 q e r n1 n2 h;unfold Vs at h;split at h
 ·exact ⟨_,_,n1,n2,bc e r h⟩
 ·exact h.elim
theorem gtD:ou K (DV λi j=> .bl (decide (j < i))) Um:=by
 intro G0 L0 H0 G L M H v1 v2 d1 d2 q e r n1 n2 h;unfold Um at h;split at h
 ·exact ⟨_,_,n1,n2,bc e r h⟩
 ·exact h.elim
theorem geD:ou K (DV λi j=> .bl (decide (j<=i))) Vz:=by
 intro G0 L0 H0 G L M H v1 v2 d1 d2 q e r n1 n2 h;unfold Vz at h;split at h
 ·exact ⟨_,_,n1,n2,bc e r h⟩
 ·exact h.elim
theorem kn{p q:Prop} [Decidable p] [Decidable q](h:p↔q):decide p=decide q:=decide_eq_decide.mpr h
theorem QN:ou K (λx y H Q=>Xi x y H Q\/RJ K x y H Q) Aj:=by
 intro G0 L0 H0 G L M H v1 v2 d1 d2 q e r n1 n2 h;unfold Aj at h;split at h
 ·rename_i i j;cases n1;cases n2;exact .inl ⟨rfl,fin_same (d:= .bl _) e r (by show V.bl _=V.bl _;rw [kn (p:=V.int i=V.int j) (q:=i=j) ⟨λz=>V.int.inj z,λz=>by rw [z]⟩]) h⟩
 ·rename_i i j;cases n1;cases n2;exact .inl ⟨rfl,fin_same (d:= .bl _) e r (by show V.bl _=V.bl _;rw [kn (p:=V.str i=V.str j) (q:=i=j) ⟨λz=>V.str.inj z,λz=>by rw [z]⟩]) h⟩
 ·rename_i i j;cases n1;cases n2;exact .inl ⟨rfl,fin_same (d:= .bl _) e r (by show V.bl _=V.bl _;rw [kn (p:=V.bl i=V.bl j) (q:=i=j) ⟨λz=>V.bl.inj z,λz=>by rw [z]⟩]) h⟩
 ·rename_i a b;obtain ⟨p1,w1,rfl,e1,m1⟩:=n1;obtain ⟨p2,w2,rfl,e2,m2⟩:=n2;split at h
  ·rename_i us vs h1 h2;obtain ⟨rfl,a2⟩:=eE h1 m1;obtain ⟨rfl,b2⟩:=eE h2 m2;exact .inr ⟨p1,p2,_,_,rfl,rfl, .inl (.inl (r.sub _ _ e1)), .inl (.inl (r.sub _ _ e2)),a2,b2,bc e r h⟩
  ·exact h.elim
 ·exact h.elim
theorem T9:ou K (λx y H Q=>X1 x y H Q\/QJ K x y H Q) K9:=by
 intro G0 L0 H0 G L M H v1 v2 d1 d2 q e r n1 n2 h;unfold K9 at h;split at h
 ·rename_i i j;cases n1;cases n2;exact .inl ⟨rfl,fin_same (d:= .bl _) e r (by show V.bl _=V.bl _;rw [kn (p:=V.int i=V.int j) (q:=i=j) ⟨λz=>V.int.inj z,λz=>by rw [z]⟩]) h⟩
 ·rename_i i j;cases n1;cases n2;exact .inl ⟨rfl,fin_same (d:= .bl _) e r (by show V.bl _=V.bl _;rw [kn (p:=V.str i=V.str j) (q:=i=j) ⟨λz=>V.str.inj z,λz=>by rw [z]⟩]) h⟩
 ·rename_i i j;cases n1;cases n2;exact .inl ⟨rfl,fin_same (d:= .bl _) e r (by show V.bl _=V.bl _;rw [kn (p:=V.bl i=V.bl j) (q:=i=j) ⟨λz=>V.bl.inj z,λz=>by rw [z]⟩]) h⟩
 ·rename_i a b;obtain ⟨p1,w1,rfl,e1,m1⟩:=n1;obtain ⟨p2,w2,rfl,e2,m2⟩:=n2;split at h
  ·rename_i us vs h1 h2;obtain ⟨rfl,a2⟩:=eE h1 m1;obtain ⟨rfl,b2⟩:=eE h2 m2;exact .inr ⟨p1,p2,_,_,rfl,rfl, .inl (.inl (r.sub _ _ e1)), .inl (.inl (r.sub _ _ e2)),a2,b2,bc e r h⟩
  ·exact h.elim
 ·exact h.elim
theorem Uy:ou K (λx y H Q=>y= .br/\Q (.bl (decide (x= .br))) H) N2:=by
 intro G0 L0 H0 G L M H v1 v2 d1 d2 q e r n1 n2 h;unfold N2 at h;split at h
 ·cases n1;exact ⟨n2,fin_same (d:= .bl true) e r (by show V.bl _=V.bl _;rw [decide_eq_true rfl]) h⟩
 ·cases n1;exact ⟨n2,fin_same (d:= .bl false) e r (by show V.bl _=V.bl _;rw [decide_eq_false (λz=>nomatch z)]) h⟩
 ·cases n1;exact ⟨n2,fin_same (d:= .bl false) e r (by show V.bl _=V.bl _;rw [decide_eq_false (λz=>nomatch z)]) h⟩
 ·cases n1;exact ⟨n2,fin_same (d:= .bl false) e r (by show V.bl _=V.bl _;rw [decide_eq_false (λz=>nomatch z)]) h⟩
 ·obtain ⟨p1,w1,rfl,_⟩:=n1;exact ⟨n2,fin_same (d:= .bl false) e r (by show V.bl _=V.bl _;rw [decide_eq_false (λz=>nomatch z)]) h⟩
 ·obtain ⟨p1,w1,rfl,_⟩:=n1;exact ⟨n2,fin_same (d:= .bl false) e r (by show V.bl _=V.bl _;rw [decide_eq_false (λz=>nomatch z)]) h⟩
 ·exact h.elim
end
section
variable{X:Cx}{R:St->XK}{a b c:Expr}{ta tb:DE}{pos:Pos}
theorem KC(ja:JE X R a ta)(jb:JE X R b tb):JE X R (.Compare a [.Lt] [b] pos) (kI SE ta tb):=yN Mb Yc ja jb (iM _)
theorem yj(ja:JE X R a ta)(jb:JE X R b tb):JE X R (.Compare a [.LtE] [b] pos) (kI Vs ta tb):=yN Sw Y3 ja jb (iM _)
theorem UJ(ja:JE X R a ta)(jb:JE X R b tb):JE X R (.Compare a [.GtE] [b] pos) (kI Vz ta tb):=yN R_ geD ja jb (iM _)
theorem Jz{k:Nat}(hr:bO k X.A)(ja:JE X R a ta)(jb:JE X R b tb):JE X R (.Compare a [.Eq] [b] pos) (kI Aj ta tb):=yN (LZ.or (Ge hr.zN)) QN ja jb (iM _)
theorem qY(ja:JE X R a ta)(jb:JE X R b tb):JT X R (.Compare a [.Lt] [b] pos) (oQ (kI SE ta tb)):=jW Mb Yc ja jb (iM _)
theorem BC(ja:JE X R a ta)(jb:JE X R b tb):JT X R (.Compare a [.Gt] [b] pos) (oQ (kI Um ta tb)):=jW RB gtD ja jb (iM _)
theorem d_{k:Nat}(hr:bO k X.A)(ja:JE X R a ta)(jb:JE X R b tb):JT X R (.Compare a [.Eq] [b] pos) (oQ (kI Aj ta tb)):=jW (LZ.or (Ge hr.zN)) QN ja jb (iM _)
theorem rC{k:Nat}(hr:bO k X.A)(ja:JE X R a ta)(jb:JE X R b tb):JT X R (.Compare a [.NotEq] [b] pos) (oQ (kI K9 ta tb)):=jW (R5.or (Np hr.zN)) T9 ja jb (iM _)
theorem MP(ja:JE X R a ta)(jb:JE X R b tb):JT X R (.Compare a [.Is] [b] pos) (oQ (kI N2 ta tb)):=jW OH Uy ja jb (iM _)
end
def kC(M:Ms):Dt->Option (List Dt)
 | .lst xs=>some xs
 | .tup xs=>some xs
 | .iV ns=>some (ns.map .int)
 | .kt xs=>some xs
 | .loc k=>match M[k]? with
  | some (.lst xs)=>some xs
  | _=>none
 | _=>none
theorem l'{K:PySem.W.Frag}{G:Hp}{L:List Addr}{M:Ms}{H:Hp}{d:Dt}{v:V}{xs:List Dt}(r:Rl K G L M H)(n:Den K G L d v)(h:kC M d=some xs):∃a vs,v= .ref a/\(gQ K H a vs\/oi K H a vs)/\Ρ K G L xs vs:=by
 cases d with
 | lst ds=>cases h;obtain ⟨a,vs,rfl,e,m⟩:=n;exact ⟨a,vs,rfl, .inl (.of (r.sub _ _ e)),m⟩
 | tup ds=>cases h;obtain ⟨a,vs,rfl,e,m⟩:=n;exact ⟨a,vs,rfl, .inr (.of (r.sub _ _ e)),m⟩
 | kt ds=>cases h;obtain ⟨a,vs,rfl,e,m⟩:=n;exact ⟨a,vs,rfl, .inr (r.sub.RN e),m⟩
 | iV ns=>cases h;obtain ⟨a,rfl,e⟩:=n;exact ⟨a,_,rfl, .inl (r.sub.seq e),iE⟩
 | loc k=>
  obtain ⟨a,rfl,e⟩:=n;have h:(match M[k]? with | some (.lst xs)=>some xs | _=>none)=some xs:=h;split at h
  ·rename_i ys hm;cases h;obtain ⟨_,vs,e1,m1⟩:=r.d9 k a _ e hm;exact ⟨a,vs,rfl, .inl (.of e1),m1⟩
  ·cases h
 | _=>cases h
theorem Jx{K:PySem.W.Frag}{G:Hp}{L:List Addr}{ds:List Dt}{vs:List V}{i:Int}{d:Dt}(n:Ρ K G L ds vs)(h:lY ds i=some d):∃v,lY vs i=some v/\Den K G L d v:=by
 unfold lY at h⊢;rw [<-n.length];cases q:Ii ds.length i with
 | none=>rw [q] at h;cases h
 | some j=>
  rw [q] at h;obtain ⟨v,e,m⟩:=n.get h;exact ⟨v,e,m⟩
def d7:Dt->Dt->Ms->DQ->Prop
 | .str z, .int i,M,q=>z.length<=sizeLine/\match lY z.cps.toList i with
  | some c=>q (.str ⟨#[c]⟩) M
  | none=>False
 | d, .int i,M,q=>match kC M d with
  | some xs=>(match lY xs i with
   | some y=>q y M
   | none=>False)
  | none=>False
 | _,_,_,_=>False
def fb:List Dt->Ms->DQ->Prop
 | [.str z],M,q=>z.length<=sizeLine/\q (.int z.length) M
 | [d],M,q=>match kC M d with
  | some xs=>q (.int xs.length) M
  | none=>False
 | _,_,_=>False
section
variable{K:PySem.W.Frag}
theorem Yx:ou K (Ye K) d7:=by
 intro G0 L0 H0 G L M H v1 v2 d1 d2 q e r n1 n2 h;unfold d7 at h;split at h
 ·rename_i z i;split at h
  ·rename_i c hc;exact .inr (.inr ⟨z,i,c,n1,n2,h.1,hc,bc e r h.2⟩)
  ·exact h.2.elim
 ·rename_i d i _;split at h
  ·rename_i xs hx;split at h
   ·rename_i y hy;obtain ⟨a,vs,rfl,hs,m⟩:=l' r n1 hx;obtain ⟨v,e1,m1⟩:=Jx m hy;rcases hs with hs | hs
    ·exact .inl ⟨a,vs,i,v,rfl,n2,hs,e1,fin_same e r m1 h⟩
    ·exact .inr (.inl ⟨a,vs,i,v,rfl,n2,hs,e1,fin_same e r m1 h⟩)
   ·exact h.elim
  ·exact h.elim
 ·exact h.elim
theorem UB:AI K (λxs H Q=>(∃z,xs=[V.str z]/\z.length<=sizeLine/\Q (.int z.length) H)\/(∃p ys,xs=[V.ref p]/\(gQ K H p ys\/oi K H p ys)/\Q (.int ys.length) H)) fb:=by
 intro G0 L0 H0 G L M H vs ds q e r n h;unfold fb at h;split at h
 ·rename_i z;obtain ⟨v,rfl,n1⟩:=aT n;cases n1;exact .inl ⟨z,rfl,h.1,bc e r h.2⟩
 ·rename_i d _;obtain ⟨v,rfl,n1⟩:=aT n;split at h
  ·rename_i xs hx;obtain ⟨a,ws,rfl,hs,m⟩:=l' r n1 hx;exact .inr ⟨a,ws,rfl,hs,fin_same (d:= .int xs.length) e r (by show V.int _=V.int _;rw [m.length]) h⟩
  ·exact h.elim
 ·exact h.elim
end
section
variable{X:Cx}{R:St->XK}{a b c:Expr}{ta tb:DE}{pos:Pos}
theorem Ι(ja:JE X R a ta)(jb:JE X R b tb)(hs:vh b:=by exact λ_ _=>rfl):JE X R (.Subscript a b pos) (kI d7 ta tb):=Qx Ol Yx ja jb hs
variable{x:Str}{p:Pos}{e:Expr}{es:List Expr}{t:DA}{id T:String}{r:List V->Hp->VK->Prop}{f:List Dt->Ms->DQ->Prop}
theorem fD(hc:cM X (.builtin id) r)(cd:AI X.K r f)(hm:X.mg x=none)(hv:bootBuiltins x=some (.builtin id))(ha:JA X R (e::es) t)(hg:Gl X x:=by rfl)(hn:x≠"__name__":=by decide)(wq:(x==("__debug__":Str))=false:=by decide)
  (he:starEach (e::es) X.env=(false,eval e X.env)::starEach es X.env:=by rfl) (fF:(backTo pos (starEach es X.env)).any (·.1)=false:=by rfl):JE X R (.Call (.Name x p) (e::es) [] pos) (zf f t):=
 .of (IH hc hg hm hv ha hn wq he fF) λσ H G L ρ M q x r n h hx=>LG cd r n h hx
theorem rG(hc:cM X (.type T) r)(cd:AI X.K r f)(hm:X.mg x=none)(hv:bootBuiltins x=some (.type T))(ha:JA X R (e::es) t)(hg:Gl X x:=by rfl)(hn:x≠"__name__":=by decide)(wq:(x==("__debug__":Str))=false:=by decide)
  (he:starEach (e::es) X.env=(false,eval e X.env)::starEach es X.env:=by rfl) (fF:(backTo pos (starEach es X.env)).any (·.1)=false:=by rfl):JE X R (.Call (.Name x p) (e::es) [] pos) (zf f t):=
 .of (DJ hc hg hm hv ha hn wq he fF) λσ H G L ρ M q x r n h hx=>LG cd r n h hx
theorem bK(hm:X.mg "len"=none)(ha:JA X R [e] t)(he:starEach [e] X.env=(false,eval e X.env)::starEach [] X.env:=by rfl)(fF:(backTo pos (starEach [] X.env)).any (·.1)=false:=by rfl)(hg:Gl X "len":=by rfl):JE X R (.Call (.Name "len" p) [e] [] pos) (zf fb t):=
 fD (vk.or uZ) UB hm PySem.boot_len ha hg (by decide) (by decide) he fF
end
section
variable{X:Cx}
theorem uU:cM X (.type "int") (λxs H Q=>∃x n,xs=[.str x]/\PySem.intText? x=some n/\x.length<=640/\Q (.int n) H):=by intro ε s σ H xs us Q I rs h;obtain ⟨x,n,rfl,hn,hl,q⟩:=h;obtain ⟨w,rfl,u,rfl⟩:=j5 rs;exact PySem.W.KIN.call_text hn hl ⟨.int n,H,I.tok _,⟨_,rfl⟩,q⟩
end
def wO:List Dt->Ms->DQ->Prop
 | [.int i],M,q=>q (.int i) M
 | [.bl b],M,q=>q (.int (if b then 1 else 0)) M
 | [.str x],M,q=>x.length<=640/\match PySem.intText? x with
  | some n=>q (.int n) M
  | none=>False
 | _,_,_=>False
def Nj:List Dt->Ms->DQ->Prop
 | [.int i],M,q=>q (.int (if i < 0 then -i else i)) M
 | _,_,_=>False
def KW:List Dt->Ms->DQ->Prop
 | [.int i, .int j],M,q=>q (.int (if j > i then j else i)) M
 | _,_,_=>False
def C2:List Dt->Ms->DQ->Prop
 | [.int i, .int j],M,q=>q (.int (if j < i then j else i)) M
 | _,_,_=>False
def Mw:List Dt->Ms->DQ->Prop
 | [d],M,q=>∃bs:List Bool,kC M d=some (bs.map Dt.bl)/\(∀k,d≠ .kt k)/\(∀k,d≠ .tup k)/\q (.bl (bs.any id)) M
 | _,_,_=>False
def Ln:Dt->Option Value
 | .br=>some (.type "NoneType")
 | .bl _=>some (.type "bool")
 | .int _=>some (.type "int")
 | .str _=>some (.type "str")
 | .lst _=>some (.type "list")
 | .tup _=>some (.type "tuple")
 | _=>none
def Si:Dt->Option Value
 | .ty T=>some (.type T)
 | .ref C=>some (.ref C)
 | _=>none
section
variable{K:PySem.W.Frag}
theorem tJ{G:Hp}{L:List Addr}:∀{l:List Str},Ρ K G L (l.map Dt.str) (l.map V.str)
 | []=>rfl
 | _::_=>⟨_,_,rfl,rfl,tJ⟩
theorem mJ{G:Hp}{L:List Addr}:∀{bs:List Bool} {vs:List V},Ρ K G L (bs.map Dt.bl) vs->vs=bs.map V.bl
 | [],_,h=>h
 | b::bs,_,⟨v,r,e,h1,h2⟩=>by subst e;rw [mJ h2,show v=V.bl b from h1];rfl
theorem W6:AI K (λxs H Q=>((∃i,xs=[V.int i]/\Q (.int i) H)\/∃k,xs=[V.bl k]/\Q (.int (if k then 1 else 0)) H)\/∃x n,xs=[V.str x]/\PySem.intText? x=some n/\x.length<=640/\Q (.int n) H) wO:=by
 intro G0 L0 H0 G L M H vs ds q e r n h;unfold wO at h;split at h
 ·rename_i i;obtain ⟨v,rfl,n1⟩:=aT n;cases n1;exact .inl (.inl ⟨i,rfl,bc e r h⟩)
 ·rename_i i;obtain ⟨v,rfl,n1⟩:=aT n;cases n1;exact .inl (.inr ⟨i,rfl,bc e r h⟩)
 ·rename_i x;obtain ⟨v,rfl,n1⟩:=aT n;cases n1;split at h
  ·rename_i m hm;exact .inr ⟨x,m,rfl,hm,h.1,bc e r h.2⟩
  ·exact h.2.elim
 ·exact h.elim
theorem WM:AI K (λxs H Q=>∃i,xs=[V.int i]/\Q (.int (if i < 0 then -i else i)) H) Nj:=by
 intro G0 L0 H0 G L M H vs ds q e r n h;unfold Nj at h;split at h
 ·rename_i i;obtain ⟨v,rfl,n1⟩:=aT n;cases n1;exact ⟨i,rfl,bc e r h⟩
 ·exact h.elim
theorem W7:AI K (λxs H Q=>∃i j,xs=[V.int i, .int j]/\Q (.int (if j > i then j else i)) H) KW:=by
 intro G0 L0 H0 G L M H vs ds q e r n h;unfold KW at h;split at h
 ·rename_i i j;obtain ⟨v,u,rfl,n1,n2⟩:=e7 n;cases n1;cases n2;exact ⟨i,j,rfl,bc e r h⟩
 ·exact h.elim
theorem W8:AI K (λxs H Q=>∃i j,xs=[V.int i, .int j]/\Q (.int (if j < i then j else i)) H) C2:=by
 intro G0 L0 H0 G L M H vs ds q e r n h;unfold C2 at h;split at h
 ·rename_i i j;obtain ⟨v,u,rfl,n1,n2⟩:=e7 n;cases n1;cases n2;exact ⟨i,j,rfl,bc e r h⟩
 ·exact h.elim
theorem UN:AI K (Qu K) Mw:=by
 intro G0 L0 H0 G L M H vs ds q e r n h;unfold Mw at h;split at h
 ·rename_i d;obtain ⟨bs,hs,nk,nt,h⟩:=h;obtain ⟨v,rfl,n1⟩:=aT n;cases d with
  | lst xs=>
   cases hs;obtain ⟨a,ws,rfl,e1,m⟩:=n1;exact ⟨a,bs,rfl,by rw [<-mJ m];exact .of (r.sub _ _ e1),bc e r h⟩
  | loc k=>
   obtain ⟨a,rfl,e1⟩:=n1;have hs:(match M[k]? with | some (.lst xs)=>some xs | _=>none)=some (bs.map Dt.bl):=hs;split at hs
   ·rename_i ys hm;cases hs;obtain ⟨_,ws,e2,m⟩:=r.d9 k a _ e1 hm;exact ⟨a,bs,rfl,by rw [<-mJ m];exact .of e2,bc e r h⟩
   ·cases hs
  | tup xs=>exact absurd rfl (nt xs)
  | kt xs=>exact absurd rfl (nk xs)
  | iV ns=>
   have e0:ns.map Dt.int=bs.map Dt.bl:=aar hs;cases ns with
   | nil=>
    cases bs with
    | nil=>obtain ⟨a,rfl,e1⟩:=n1;exact ⟨a,[],rfl,r.sub.seq e1,bc e r h⟩
    | cons _ _=>cases e0
   | cons _ _=>
    cases bs with
    | nil=>cases e0
    | cons _ _=>cases e0
  | _=>cases hs
 ·exact h.elim
theorem Eo{G:Hp}{L:List Addr}{M:Ms}{H:Hp}{d:Dt}{v:V}{t:Value}(r:Rl K G L M H)(n:Den K G L d v)(h:Ln d=some t):kD K H v t:=by
 cases d with
 | br=>cases h;cases n;exact .br
 | bl b=>cases h;cases n;exact .bl _
 | int i=>cases h;cases n;exact .int _
 | str x=>cases h;cases n;exact .str _
 | lst xs=>cases h;obtain ⟨a,ws,rfl,e,_⟩:=n;exact .lst (r.sub _ _ e)
 | tup xs=>cases h;obtain ⟨a,ws,rfl,e,_⟩:=n;exact .tup (r.sub _ _ e)
 | _=>cases h
theorem JN{G:Hp}{L:List Addr}{d:Dt}{v:V}{t:Value}(n:Den K G L d v)(h:Si d=some t):Kh v=some t:=by
 cases d with
 | ty T=>cases n;exact h
 | ref C=>cases n;exact h
 | _=>cases h
end
section
variable{X:Cx}{R:St->XK}{o a e e1 e2:Expr}{es:List Expr}{to ta te:DE}{t:DA}{name:Str}{apos ck pos p p2:Pos}{T id:String}
theorem tH:bootBuiltins "int"=some (.type "int"):=by decide+kernel
theorem EH:bootBuiltins "abs"=some (.builtin "abs"):=by decide+kernel
theorem Dx:bootBuiltins "any"=some (.builtin "any"):=by decide+kernel
theorem C3:bootBuiltins "max"=some (.builtin "max"):=by decide+kernel
theorem DL:bootBuiltins "min"=some (.builtin "min"):=by decide+kernel
theorem mY:bootBuiltins "isinstance"=some (.builtin "isinstance"):=by decide+kernel
theorem A':bootBuiltins "bool"=some (.type "bool"):=by decide+kernel
theorem xT:bootBuiltins "tuple"=some (.type "tuple"):=by decide+kernel
theorem rf:bootBuiltins "list"=some (.type "list"):=by decide+kernel
theorem K2{x:Str}{T:String}(hm:X.mg x=none)(hv:bootBuiltins x=some (.type T))(hg:Gl X x:=by rfl)(hn:x≠"__name__":=by decide)(hd:(x==("__debug__":Str))=false:=by decide):JE X R (.Name x p) (dC (.ty T)):=NL (KI (v:= .ty T) hg hm hv rfl hn hd) λ_ _=>rfl
theorem rE{x:Str}{z:Int}(hm:∃tk,X.mg x=some (.int z tk))(hg:Gl X x:=by rfl)(hd:(x==("__debug__":Str))=false:=by decide):JE X R (.Name x p) (dC (.int z)):=let ⟨tk,hm⟩:=hm;NL (BX (v:= .int z) hg hm ⟨tk,rfl⟩ hd) λ_ _=>rfl
end
def Tf(x:Str):It:=⟨λi _=>i < x.cps.size,λi H v H'=>H'=H/\∃c,x.cps[i]? =some c/\v= .str ⟨#[c]⟩,λi _=>x.cps.size<=i⟩
theorem Dq{P:Program}{w:World}{K:PySem.W.Frag}{tg:Expr}(x:Str)(t:Tok)(it:Addr):Turn P w K tg (Tf x) [it] it (λi h=>h.IsStrIter it "str_ascii_iterator" x t i) where
 mem:=by simp
 obj:=λi h st b hb=>by
  have e:b=it:=by simpa using hb
  subst e;obtain ⟨o,e,c,d⟩:=st;exact ⟨o,e,λv z=>by rw [d] at z;cases z⟩
 keep:=λi h h' st k=>let ⟨o,ho,r⟩:=st;⟨o,k it (by simp) o ho,r⟩
 item:=by intro X hP hw hK hc i ε s σ H E I hf st hg;subst hP hw hK;obtain ⟨f0,f1,f2,f3,f4,f5⟩:=hf it (by simp);have hg:i < x.cps.size:=hg;refine wpAny_pyNext_ascii_item st (c:=x.cps[i]) (by simp [hg]) λh' uI sb=> ?_;have I1:Inv X ε σ H {s with heap:=h',toks:=s.toks+1}:=I.turned (λb o hb e=>(sb.2 b hb).trans e) f0 f1 f3 f4 f5;obtain ⟨o,e,c,d⟩:=id uI;exact ⟨_,rfl,tT (s:={s with heap:=h',toks:=s.toks+1}) e c d (by decide) ⟨.str ⟨#[x.cps[i]]⟩,H,I1,⟨_,rfl⟩,⟨rfl,_,by simp [hg],rfl⟩,uI,λb hb=>(hf b hb).1⟩⟩
 done:=by intro X hP hw hK hc i ε s σ H E I hf st hg;subst hP hw hK;obtain ⟨f0,f1,f2,f3,f4,f5⟩:=hf it (by simp);have hg:x.cps.size<=i:=hg;exact wpAny_pyNext_ascii_end (I.ok.hd hc) st (by simp;omega) λh' eb=>⟨rfl,I.turned (t':=s.toks) (λb o hb e=>eb b o hb e) f0 f1 f3 f4 f5⟩
 self:=λ_ _ _ _ _ st h=>wpAny_pyIter_striter_ascii st h
theorem EF{P:Program}{w:World}{K:PySem.W.Frag}{tg:Expr}(x:Str)(t:Tok)(it:Addr):Turn P w K tg (Tf x) [it] it (λi h=>h.IsStrIter it "str_iterator" x t i) where
 mem:=by simp
 obj:=λi h st b hb=>by
  have e:b=it:=by simpa using hb
  subst e;obtain ⟨o,e,c,d⟩:=st;exact ⟨o,e,λv z=>by rw [d] at z;cases z⟩
 keep:=λi h h' st k=>let ⟨o,ho,r⟩:=st;⟨o,k it (by simp) o ho,r⟩
 item:=by intro X hP hw hK hc i ε s σ H E I hf st hg;subst hP hw hK;obtain ⟨f0,f1,f2,f3,f4,f5⟩:=hf it (by simp);have hg:i < x.cps.size:=hg;refine wpAny_pyNext_wide_item st (c:=x.cps[i]) (by simp [hg]) λh' uI sb=> ?_;have I1:Inv X ε σ H {s with heap:=h',toks:=s.toks+1}:=I.turned (λb o hb e=>(sb.2 b hb).trans e) f0 f1 f3 f4 f5;obtain ⟨o,e,c,d⟩:=id uI;exact ⟨_,rfl,tT (s:={s with heap:=h',toks:=s.toks+1}) e c d (by decide) ⟨.str ⟨#[x.cps[i]]⟩,H,I1,⟨_,rfl⟩,⟨rfl,_,by simp [hg],rfl⟩,uI,λb hb=>(hf b hb).1⟩⟩
 done:=by intro X hP hw hK hc i ε s σ H E I hf st hg;subst hP hw hK;obtain ⟨f0,f1,f2,f3,f4,f5⟩:=hf it (by simp);have hg:x.cps.size<=i:=hg;exact wpAny_pyNext_wide_end (I.ok.hd hc) st (by simp;omega) λh' eb=>⟨rfl,I.turned (t':=s.toks) (λb o hb e=>eb b o hb e) f0 f1 f3 f4 f5⟩
 self:=λ_ _ _ _ _ st h=>wpAny_pyIter_striter_wide st h
def uD(z:Str):List Dt:=z.cps.toList.map λc=>Dt.str ⟨#[c]⟩
theorem Mp{K:PySem.W.Frag}{G:Hp}{L:List Addr}{z:Str}:Yl K (Tf z) (uD z) G L where
 go :=λi G1 L1 M1 H1 d g l r e=>by
  unfold uD at e;rw [aao] at e;cases q:z.cps.toList[i]? with
  | none=>rw [q] at e;cases e
  | some c=>
   rw [q] at e;cases e;have hi:i < z.cps.size:=by have:=(aag.mp q).1;simpa using this
   refine ⟨hi,λv' H' ⟨eH,c',e',y⟩=> ?_⟩;subst eH y;have:c'=c:=by rw [<-Array.getElem?_toList,q] at e';exact (aar e').symm
   subst this;exact ⟨G1, .refl _ _ _,r,rfl⟩
 stop:=λi G1 L1 M1 H1 g l r e=>by unfold uD at e;show z.cps.size<=i;simpa using e
def Sa(M:Ms):Dt->Option (List Dt)
 | .lst xs=>some xs
 | .tup xs=>some xs
 | .iV ns=>some (ns.map .int)
 | .kt xs=>some xs
 | .str z=>some (uD z)
 | _=>none
section
variable{X:Cx}{R:St->XK}{tg e:Expr}{te:DE}
theorem vH{ε:List (Addr×Obj)}{σ:St}{H:Hp}{s:Shared}{a:Addr}{vs:List V}{Q:It->Hp->Prop}{E:Value->Shared->Prop}(I:Inv X ε σ H s)(hq:gQ X.K H a vs)(q:Q (S5 X.K a) H):wpAny (model X.prog X.w) X.A (pyIter (.ref a)) (Jk X ε σ tg Q) E s:=by
 obtain ⟨its,rv,p,hz⟩:=I.list hq;refine wpAny_pyIter_list p.isList ?_;refine ⟨s.heap.objs.size,[s.heap.objs.size],_,_,H,rfl,I.kept (t':=s.toks) λb o e=>Heap.get?_push_of_some _ e,Dj a _,⟨_,Heap.get?_push_size _ rfl,rfl,rfl⟩,λb hb=> ?_,q⟩;have e:b=s.heap.objs.size:=by simpa using hb
 subst e;exact I.z_ (aaj _) (I.aG.fresh (aaj _))
theorem Gi{ε:List (Addr×Obj)}{σ:St}{H:Hp}{s:Shared}{a:Addr}{vs:List V}{Q:It->Hp->Prop}{E:Value->Shared->Prop}(I:Inv X ε σ H s)(hq:oi X.K H a vs)(q:Q (US X.K a) H):wpAny (model X.prog X.w) X.A (pyIter (.ref a)) (Jk X ε σ tg Q) E s:=by
 obtain ⟨its,rv,p,hz⟩:=I.tuple hq;refine wpAny_pyIter_tuple (show s.heap.IsTuple a its.toArray from p) ?_;refine ⟨s.heap.objs.size,[s.heap.objs.size],_,_,H,rfl,I.kept (t':=s.toks) λb o e=>Heap.get?_push_of_some _ e,zU a _,⟨_,Heap.get?_push_size _ rfl,rfl,rfl⟩,λb hb=> ?_,q⟩;have e:b=s.heap.objs.size:=by simpa using hb
 subst e;exact I.z_ (aaj _) (I.aG.fresh (aaj _))
theorem NF{ε:List (Addr×Obj)}{σ:St}{H:Hp}{s:Shared}{z:Str}{t:Tok}{Q:It->Hp->Prop}{E:Value->Shared->Prop}(I:Inv X ε σ H s)(q:Q (Tf z) H):wpAny (model X.prog X.w) X.A (pyIter (.str z t)) (Jk X ε σ tg Q) E s:=by
 have fp:∀b∈[s.heap.objs.size],lQ X ε H b:=λb hb=>by
  have e:b=s.heap.objs.size:=by simpa using hb
  subst e;exact I.z_ (aaj _) (I.aG.fresh (aaj _))
 cases ha:z.cps.all (· < 128)
 ·exact wpAny_pyIter_wide ha ⟨s.heap.objs.size,[s.heap.objs.size],_,_,H,rfl,I.kept (t':=s.toks) λb o e=>Heap.get?_push_of_some _ e,EF z t _,⟨_,Heap.get?_push_size _ rfl,rfl,rfl⟩,fp,q⟩
 ·exact wpAny_pyIter_ascii ha ⟨s.heap.objs.size,[s.heap.objs.size],_,_,H,rfl,I.kept (t':=s.toks) λb o e=>Heap.get?_push_of_some _ e,Dq z t _,⟨_,Heap.get?_push_size _ rfl,rfl,rfl⟩,fp,q⟩
end
def MY:DF:=λds _ q _=>∃ns:List Int,ds=[.iV ns]/\ns.length<=63/\∀M',q (.bl true) M'
def xt(K:PySem.W.Frag):Sp:=λvs H Q _=>∃(a:Addr) (ns:List Int),vs=[.ref a]/\gQ K H a (ns.map V.int)/\ns.length<=63/\∀H',Q (.bl true) H'
theorem Mc{P:Program}{w:World}{K:PySem.W.Frag}{mg:Str->Option Value}{base:Heap}{k:Nat}{f:Addr}{fd:FuncData}{x:Str}(F:af P w K mg base (bX P w) k f fd [x] (cn K MY)):af P w K mg base SM k f fd [x] (xt K):=by
 have sp:∀vs H Q E,xt K vs H Q E->cn K MY vs H Q E0:=by rintro vs H Q E ⟨a,ns,rfl,hS,hl,hQ⟩;refine ⟨H,[],[.iV ns],[],λd _=>d= .bl true,λ_ _ _=>False,⟨.refl _,rfl,List.nodup_nil,λk a m h=>by simp at h⟩,⟨_,_,rfl,⟨a,rfl,hS⟩,rfl⟩,⟨ns,rfl,hl,λ_=>rfl⟩,λv H' ⟨d,G',L',M',_,_,n,e⟩=> ?_,λ_ _ _ _ _ _ _ h=>h.elim⟩;subst e;rw [show v=V.bl true from n];exact hQ H'
 refine ⟨λvs H Q E h=>F.len vs H Q E0 (sp vs H Q E h),λA outer s H args us vs Q E hr he hb hv h=>codeAny_mono (F.run A outer s H args us vs Q E0 hr he hb hv (sp vs H Q E h)) λr s' hq=> ?_⟩;cases r with
 | error e=>
  obtain ⟨_,_,_,_,_,_,_,_,hE⟩:=hq;exact hE.elim
 | ok fl=>cases fl <;> exact hq
def Nq(c:DT)(tb:DS):DS:=λDn ρ M=>∃W:Nat->En->Ms->Prop,(∃m,W m ρ M)/\∀m ρ M,W m ρ M->
 c ρ M (λb M1=>(b=true->∃N:En->Ms->Prop,(∀ρ' M',N ρ' M'->∃m',m' < m/\W m' ρ' M')/\tb {Dn with nx:=N,ct:=N,bk:=Dn.nx} ρ M1)/\(b=false->Dn.nx ρ M1)) Dn.x
def WU(i j:Nat)(t:DA):DS:=λDn ρ M=>t ρ M (λds M1=>match ds with
 | [a,b]=>Dn.nx ((ρ.set i (some a)).set j (some b)) M1
 | _=>False) Dn.x
section
variable{X:Cx}{R:St->XK}{c a b:Expr}{body:List Stmt}{tc:DT}{tb:DS}{pos:Pos}
theorem qM(hc:JT X R c tc)(hb:BH X R body tb)(hp:PassesOwn (model X.prog X.w) X.A X.env X.xe:=by first | exact PassesOwn.never | exact PassesOwn.leaving):JS X R (.While c body [] pos) (Nq tc tb):= .of (Ih hp hc hb) λσ H G L ρ M Dn rl n h hx=>by
 obtain ⟨W,⟨m0,w0⟩,turn⟩:=h;refine ⟨λm σ' H'=>dY X.K G L H (W m) σ' H',⟨m0,ρ,G,L,M, .refl _ _ _,rl,n,w0⟩,λm σ' H' ⟨ρ',G',L',M',e',r',n',w'⟩=> ?_⟩;refine ⟨G',L',ρ',M',_,_,r',n',turn m ρ' M' w',hx.on e',λv H1 ⟨G1,L1,M1,e1,r1,h1⟩=> ?_⟩;cases v with
 | true=>
  obtain ⟨N,hN,hb⟩:=h1.1 rfl;refine E5 ⟨dY X.K G L H N,λσ2 H2 ⟨ρ2,G2,L2,M2,e2,r2,n2,h2⟩=> ?_, ?_⟩
  ·obtain ⟨m',hm,w2⟩:=hN ρ2 M2 h2;exact ⟨m',hm,ρ2,G2,L2,M2,e2,r2,n2,w2⟩
  ·have P7:=e'.trans e1;exact ⟨G1,L1,ρ',M1,_,r1,n'.mono e1,hb,hx.on P7,⟨λ_ _ f=>dY.back P7 f,λ_ _ f=>Fin.back P7 f,λ_ _ f=>dY.back P7 f,λ_ _ f=>dY.back P7 f⟩⟩
 | false=>exact Hv ⟨ρ',G1,L1,M1,e'.trans e1,r1,n'.mono e1,h1.2 rfl⟩
theorem E8{i j:Nat}{x y:Str}{t:DA}{px py pt:Pos}{kt k2 NN}(hN:X.N.Nodup)(hi:X.N[i]? =some x)(hj:X.N[j]? =some y)(ha:JA X R [a,b] t)(Ug:i≠j:=by decide)
  (hx:X.env.scope.names.lookup x=some .local:=by rfl) (hy:X.env.scope.names.lookup y=some .local:=by rfl)
  (hw:swappedStores [.Tuple [.Name x px, .Name y py] kt pt] (.Tuple [a,b] k2 NN) X.env=pure (some [x,y]):=by rfl) (hc:X.calm=true:=by rfl)
  (hs:swapsWithSole [.Tuple [.Name x px, .Name y py] kt pt] (.Tuple [a,b] k2 NN) pos.line X.env=pure false:=by rfl):
  JS X R (.Assign [.Tuple [.Name x px, .Name y py] kt pt] (.Tuple [a,b] k2 NN) pos) (WU i j t):= .of (MH hc hN hi hj Ug hx hy ha hw hs) λσ H G L ρ M Dn rl n h hx=>by
 refine ⟨G,L,ρ,M,_,_,rl,n,h,hx,λvs H1 ⟨ds,G1,L1,M1,e1,r1,n1,h1⟩=> ?_⟩
 (try dsimp only at h1)
 split at h1
 ·obtain ⟨v,u,rfl,m1,m2⟩:=e7 n1;exact ⟨v,u,rfl,_,G1,L1,M1,e1,r1,((n.mono e1).set i m1).set j m2,h1⟩
 ·exact h1.elim
end
section
variable{X:Cx}{R:St->XK}{e e2 o:Expr}{es:List Expr}{t:DA}{to ta tb:DE}{a b:Expr}{p pos apos ck:Pos}
theorem Cg(hm:X.mg "abs"=none)(ha:JA X R [e] t)(he:starEach [e] X.env=(false,eval e X.env)::starEach [] X.env:=by rfl)(fF:(backTo pos (starEach [] X.env)).any (·.1)=false:=by rfl)(hg:Gl X "abs":=by rfl):JE X R (.Call (.Name "abs" p) [e] [] pos) (zf Nj t):=
 fD Fd WM hm EH ha hg (by decide) (by decide) he fF
theorem PX(hm:X.mg "max"=none)(ha:JA X R [e,e2] t)(hc:X.calm=true:=by rfl)(he:starEach [e,e2] X.env=(false,eval e X.env)::starEach [e2] X.env:=by rfl)(fF:(backTo pos (starEach [e2] X.env)).any (·.1)=false:=by rfl)(hg:Gl X "max":=by rfl):JE X R (.Call (.Name "max" p) [e,e2] [] pos) (zf KW t):=
 fD (C7 hc) W7 hm C3 ha hg (by decide) (by decide) he fF
theorem L7(hm:X.mg "min"=none)(ha:JA X R [e,e2] t)(hc:X.calm=true:=by rfl)(he:starEach [e,e2] X.env=(false,eval e X.env)::starEach [e2] X.env:=by rfl)(fF:(backTo pos (starEach [e2] X.env)).any (·.1)=false:=by rfl)(hg:Gl X "min":=by rfl):JE X R (.Call (.Name "min" p) [e,e2] [] pos) (zf C2 t):=
 fD (C_ hc) W8 hm DL ha hg (by decide) (by decide) he fF
theorem P8(hm:X.mg "any"=none)(ha:JA X R [e] t)(hc:X.calm=true:=by rfl)(he:starEach [e] X.env=(false,eval e X.env)::starEach [] X.env:=by rfl)(fF:(backTo pos (starEach [] X.env)).any (·.1)=false:=by rfl)(hg:Gl X "any":=by rfl):JE X R (.Call (.Name "any" p) [e] [] pos) (zf Mw t):=
 fD (Gq hc) UN hm Dx ha hg (by decide) (by decide) he fF
theorem Lu(hm:X.mg "int"=none)(ha:JA X R [e] t)(he:starEach [e] X.env=(false,eval e X.env)::starEach [] X.env:=by rfl)(fF:(backTo pos (starEach [] X.env)).any (·.1)=false:=by rfl)(hg:Gl X "int":=by rfl):JE X R (.Call (.Name "int" p) [e] [] pos) (zf wO t):=
 rG (Dh.or uU) W6 hm tH ha hg (by decide) (by decide) he fF
end
theorem nV{te:DE}{cs:En}{f:Dt->Dt}{M:Ms}{k:List Dt->Ms->Prop}:∀(xs Ε:List Dt),(∀x∈xs,∀q:DQ,q (f x) M->te (some x::cs) M q mQ)->k (Ε++xs.map f) M->yY te cs xs Ε M k
 | [],Ε,_,h=>by rw [List.map_nil,aaZ] at h;exact h
 | x::xs,Ε,ht,h=>ht x List.mem_cons_self _ (nV xs (Ε++[f x]) (λy hy=>ht y (List.mem_cons_of_mem _ hy)) (by simpa using h))
theorem Ζ{d y:Dt}{xs:List Dt}{i:Int}{M:Ms}{q:DQ}(hs:kC M d=some xs)(h:lY xs i=some y)(k:q y M):d7 d (.int i) M q:=by
 cases d with
 | str z=>cases hs
 | _=>
  unfold d7;simp only [hs,h];exact k
theorem ae{d:Dt}{xs:List Dt}{M:Ms}{q:DQ}(hs:kC M d=some xs)(k:q (.int xs.length) M):fb [d] M q:=by
 cases d with
 | str z=>cases hs
 | _=>
  unfold fb;simp only [hs];exact k
theorem aO{α:Type}{x:α}{xs:List α}:lY (x::xs) 0=some x:=Η (j:=0) rfl
theorem EM(bs:List Bool):(List.range bs.length).all (λi=>bs.getD i false)=bs.all id:=by
 induction bs with
 | nil=>rfl
 | cons b bs ih=>
  rw [aau,abz,abM,List.all_map,abM,<-ih];rfl
def RV(K:PySem.W.Frag):List V->Hp->VK->Prop:=λxs H Q=>∃(p:Addr) (bs:List Bool),xs=[.ref p]/\gQ K H p (bs.map V.bl)/\Q (.bl (bs.all id)) H
section
variable{X:Cx}
theorem IF (hc : X.calm = true) : cM X (.builtin "all") (RV X.K) := by
  intro ε s σ H xs us Q I r h;obtain ⟨p, bs, rfl, hq, q⟩ := h;obtain ⟨u, rfl, r1⟩ := j5 r;cases r1;obtain ⟨its, rv, pl, hz⟩ := I.list hq;have N6 := uO rv;subst N6;refine call_all_walk (wpAny_pyIter_list pl.isList ?_);have lp : p < s.heap.objs.size := by obtain ⟨o, e, _⟩ := pl.isList; exact Heap.lt_size e
  refine ⟨s.heap.objs.size, _, _, _, _, _, λi => bs.getD i false, rfl, Walks.list (show X.A.in1.handled = none from I.ok.hd hc) s.heap.objs.size p (aaz lp) (bs.map Value.bool).toArray, ⟨⟨_, Heap.get?_push_size _ rfl, rfl, rfl⟩, pl.isList.at λo e => Heap.get?_push_of_some _ e⟩, x4, λh' tk hk => ?_⟩
  refine ⟨.bl (bs.all id), H, I.kept fun b o e => hk b o (fun z => by have : b = s.heap.objs.size := by simpa using z
                                                                      exact aaY _ (this ▸ Heap.lt_size e)) (Heap.get?_push_of_some _ e), ?_, q⟩
  rw [aa0, aae, EM];rfl
end
def Of:List Dt->Ms->DQ->Prop
 | [.lst xs],M,q=>∃bs:List Bool,xs=bs.map Dt.bl/\q (.bl (bs.all id)) M
 | _,_,_=>False
theorem T2{K:PySem.W.Frag}:AI K (RV K) Of:=by
 intro G0 L0 H0 G L M H vs ds q e r n h;unfold Of at h;split at h
 ·rename_i xs;obtain ⟨bs,rfl,h⟩:=h;obtain ⟨v,rfl,n1⟩:=aT n;obtain ⟨a,ws,rfl,e1,m⟩:=n1;exact ⟨a,bs,rfl,by rw [<-mJ m];exact .of (r.sub _ _ e1),bc e r h⟩
 ·exact h.elim
def P5(i j:Nat)(t:DE):DS:=λDn ρ M=>t ρ M (λd M1=>match d with
 | .tup [a,b]=>Dn.nx ((ρ.set i (some a)).set j (some b)) M1
 | _=>False) Dn.x
section
variable{X:Cx}{R:St->XK}{e o:Expr}{es:List Expr}{t:DA}{to te:DE}{p pos apos ck:Pos}
theorem Ei:bootBuiltins "all"=some (.builtin "all"):=by decide+kernel
theorem PB(hm:X.mg "all"=none)(ha:JA X R [e] t)(hc:X.calm=true:=by rfl)(he:starEach [e] X.env=(false,eval e X.env)::starEach [] X.env:=by rfl)(fF:(backTo pos (starEach [] X.env)).any (·.1)=false:=by rfl)(hg:Gl X "all":=by rfl):JE X R (.Call (.Name "all" p) [e] [] pos) (zf Of t):=
 fD (IF hc) T2 hm Ei ha hg (by decide) (by decide) he fF
variable{i j k:Nat}{tg:Expr}
theorem Kk(he:JE X R e te)(hg:PG X tg (F_ X.K 2 (mR (gM i) (mR (gM j) Il))))(hs:swapsWithSole [tg] e pos.line X.env=pure false:=by rfl)(hw:swappedStores [tg] e X.env=pure none:=by rfl)
  (h1:(assignEach [tg] X.env).map (·.2)=[assign tg X.env]:=by rfl):JS X R (.Assign [tg] e pos) (P5 i j te):= .of (HA he hg hs hw h1) λσ H G L ρ M Dn rl n h hx=>by
 refine ⟨G,L,ρ,M,_,_,rl,n,h,hx,λv H1 ⟨d1,G1,L1,M1,e1,r1,n1,h1⟩=> ?_⟩
 (try dsimp only at h1)
 split at h1
 ·rename_i a b;obtain ⟨p,vs,rfl,e,m⟩:=n1;obtain ⟨v1,v2,rfl,m1,m2⟩:=e7 m;exact ⟨p,_,rfl, .inl (.inl (r1.sub _ _ e)),rfl,v1,_,rfl,v2,_,rfl,rfl,_,G1,L1,M1,e1,r1,((n.mono e1).set i m1).set j m2,h1⟩
 ·exact h1.elim
end
mutual
def Dt.under(n:Nat):Dt->Prop
 | .br=>True
 | .bl _=>True
 | .int _=>True
 | .str _=>True
 | .tup ds=>Dt.bf n ds
 | .lst ds=>Dt.bf n ds
 | .obj _ _ ds=>Dt.bf n ds
 | .loc k=>k < n
 | .ref _=>True
 | .ty _=>True
 | .iV _=>True
 | .kt ds=>Dt.bf n ds
 | .exc _ _ ds=>Dt.bf n ds
 | .PK _ _ _ _ ds=>Dt.bf n ds
def Dt.bf(n:Nat):List Dt->Prop
 | []=>True
 | d::ds=>Dt.under n d/\Dt.bf n ds
end
def MO.under(n:Nat):MO->Prop
 | .lst ds=>Dt.bf n ds
 | .ins _ _ ds=>Dt.bf n ds
 | .cW _ ds=>Dt.bf n ds
 | .raw _=>True
mutual
inductive ER(n:Nat)(E:Ms):Dt->Dt->Prop
 | old {d:Dt} (h:d.under n):ER n E d d
 | tup {ds es:List Dt} (h:iu n E ds es):ER n E (.tup ds) (.tup es)
 | lst {ds es:List Dt} (h:iu n E ds es):ER n E (.lst ds) (.lst es)
 | obj {C:Addr} {ns:List Str} {ds es:List Dt} (h:iu n E ds es):ER n E (.obj C ns ds) (.obj C ns es)
 | DB {k:Nat} {ds es:List Dt} (hk:n<=k) (e:E[k - n]? =some (.lst ds)) (h:iu n E ds es):ER n E (.loc k) (.lst es)
 | TQ {k:Nat} {C:Addr} {ns:List Str} {ds es:List Dt} (hk:n<=k) (e:E[k - n]? =some (.ins C ns ds)) (h:iu n E ds es):ER n E (.loc k) (.obj C ns es)
inductive iu(n:Nat)(E:Ms):List Dt->List Dt->Prop
 | nil:iu n E [] []
 | cons {d e:Dt} {ds es:List Dt} (h:ER n E d e) (t:iu n E ds es):iu n E (d::ds) (e::es)
end
theorem iu.length{n:Nat}{E:Ms}:∀{ds es:List Dt},iu n E ds es->ds.length=es.length
 | [],es,h=>by cases h;rfl
 | d::ds,es,h=>by
  cases h with
  | cons h t=>rw [aau,aau,iu.length t]
theorem iu.old{n:Nat}{E:Ms}:∀{ds:List Dt},Dt.bf n ds->iu n E ds ds
 | [],_=> .nil
 | _::_,h=> .cons (.old h.1) (iu.old h.2)
section
variable{K:PySem.W.Frag}{G G':Hp}{L0 t:List Addr}{n:Nat}
mutual
theorem sY(hn:L0.length=n)(g:df G G'):∀(d:Dt) (v:V),d.under n->Den K G (L0++t) d v->Den K G' L0 d v
 | .br,_,_,h=>h
 | .bl _,_,_,h=>h
 | .int _,_,_,h=>h
 | .str _,_,_,h=>h
 | .tup ds,_,u,⟨a,vs,e,h1,h2⟩=>⟨a,vs,e,g _ _ h1,bu hn g ds vs u h2⟩
 | .lst ds,_,u,⟨a,vs,e,h1,h2⟩=>⟨a,vs,e,g _ _ h1,bu hn g ds vs u h2⟩
 | .obj C ns ds,_,u,⟨a,dx,vs,e,h1,hl,h2⟩=>⟨a,dx,vs,e,g _ _ h1,hl,bu hn g ds vs u h2⟩
 | .loc k,_,u,⟨a,e,h1⟩=>⟨a,e,by
   have u:k < n:=u
   rwa [aat (by rw [hn];exact u)] at h1⟩
 | .ref _,_,_,h=>h
 | .ty _,_,_,h=>h
 | .iV _,_,_,⟨a,e,h1⟩=>⟨a,e,g.seq h1⟩
 | .kt ds,_,u,⟨a,vs,e,h1,h2⟩=>⟨a,vs,e,g.RN h1,bu hn g ds vs u h2⟩
 | .exc _ _ ds,_,u,⟨a,od,vs,e,h1,h2,h3,h4⟩=>⟨a,od,vs,e,g _ _ h1,h2.imp (λz=>z) (λ⟨dx,z1,z2⟩=>⟨dx,z1,g _ _ z2⟩),h3,bu hn g ds vs u h4⟩
 | .PK _ _ _ _ ds,_,u,⟨vs,e,h2,h3,h4⟩=>⟨vs,e,h2.imp (λz=>z) (λ⟨dx,z1,z2⟩=>⟨dx,z1,g _ _ z2⟩),h3,bu hn g ds vs u h4⟩
theorem bu(hn:L0.length=n)(g:df G G'):∀(ds:List Dt) (vs:List V),Dt.bf n ds->Ρ K G (L0++t) ds vs->Ρ K G' L0 ds vs
 | [],_,_,h=>h
 | d::ds,_,u,⟨v,r,e,h1,h2⟩=>⟨v,r,e,sY hn g d v u.1 h1,bu hn g ds r u.2 h2⟩
end
theorem CS{H:Hp}{a:Addr}(hn:L0.length=n)(g:df G G'){m:MO}(u:m.under n)(h:ET K G (L0++t) H a m):ET K G' L0 H a m:=by
 cases m with
 | lst ds=>obtain ⟨vs,e,h⟩:=h;exact ⟨vs,e,bu hn g _ _ u h⟩
 | ins C ns ds=>obtain ⟨dx,vs,e,hl,h⟩:=h;exact ⟨dx,vs,e,hl,bu hn g _ _ u h⟩
 | cW ks ds=>obtain ⟨vs,e,hl,h⟩:=h;exact ⟨vs,e,hl,bu hn g _ _ u h⟩
 | raw u=>exact h
end
open Classical in
noncomputable def oZ(G H:Hp)(t:List Addr):Hp:=λb=>if b∈t then H b else G b
theorem Br{G H:Hp}{t:List Addr}{b:Addr}(h:b∈t):oZ G H t b=H b:=by unfold oZ;rw [if_pos h]
theorem md{G H:Hp}{t:List Addr}{b:Addr}(h:b∉t):oZ G H t b=G b:=by unfold oZ;rw [if_neg h]
section
variable{K:PySem.W.Frag}{G:Hp}{L0 t:List Addr}{M0 E:Ms}{H:Hp}
theorem ia(r:Rl K G (L0++t) (M0++E) H):df G (oZ G H t):=λb u e=>by
 by_cases hb:b∈t
 ·obtain ⟨_,_,_,_,g,_⟩:=r.uF (a:=b) (aan _ hb);rw [g] at e;cases e
 ·rw [md hb];exact e
theorem HC(r:Rl K G (L0++t) (M0++E) H)(hn:L0.length=M0.length){k:Nat}{a:Addr}{m:MO}(hk:M0.length<=k)(e:(L0++t)[k]? =some a)(em:E[k - M0.length]? =some m):oZ G H t a=H a/\ET K G (L0++t) H a m:=by
 have e2:(M0++E)[k]? =some m:=by rw [aaq hk];exact em
 obtain ⟨_,q⟩:=r.d9 k a m e e2;rw [aaq (by rw [hn];exact hk)] at e;exact ⟨Br (aal e),q⟩
theorem Jv(r:Rl K G (L0++t) (M0++E) H)(hn:L0.length=M0.length){d d':Dt}(f:ER M0.length E d d'):∀v,Den K G (L0++t) d v->Den K (oZ G H t) L0 d' v:=by
 refine ER.rec (motive_1:=λd d' _=>∀v,Den K G (L0++t) d v->Den K (oZ G H t) L0 d' v) (motive_2:=λds es _=>∀vs,Ρ K G (L0++t) ds vs->Ρ K (oZ G H t) L0 es vs) ?_ ?_ ?_ ?_ ?_ ?_ ?_ ?_ f
 ·exact λ{d} u v h=>sY hn (ia r) d v u h
 ·exact λ{ds es} f ih v ⟨a,vs,e,h1,h2⟩=>⟨a,vs,e,ia r _ _ h1,ih vs h2⟩
 ·exact λ{ds es} f ih v ⟨a,vs,e,h1,h2⟩=>⟨a,vs,e,ia r _ _ h1,ih vs h2⟩
 ·exact λ{C ns ds es} f ih v ⟨a,dx,vs,e,h1,hl,h2⟩=>⟨a,dx,vs,e,ia r _ _ h1,hl.trans f.length,ih vs h2⟩
 ·intro k ds es hk em f ih v ⟨a,e,h1⟩;obtain ⟨o,vs,e1,h2⟩:=HC r hn hk h1 em;exact ⟨a,vs,e,o.trans e1,ih vs h2⟩
 ·intro k C ns ds es hk em f ih v ⟨a,e,h1⟩;obtain ⟨o,dx,vs,e1,hl,h2⟩:=HC r hn hk h1 em;exact ⟨a,dx,vs,e,o.trans e1,hl.trans f.length,ih vs h2⟩
 ·exact λvs h=>h
 ·exact λ{d e ds es} f t ih1 Z9 vs ⟨v,r,e,h1,h2⟩=>⟨v,r,e,ih1 v h1,Z9 r h2⟩
end
def W0(n:Nat)(q:DQ):DQ:=λd M=>∃M' E d',M=M'++E/\M'.length=n/\(∀m∈M',MO.under n m)/\ER n E d d'/\q d' M'
theorem Fin.wM{K:PySem.W.Frag}{G0:Hp}{L0:List Addr}{M0:Ms}{H0:Hp}{q:DQ}{v:V}{H:Hp}(r0:Rl K G0 L0 M0 H0)(f:Fin K G0 L0 H0 (W0 M0.length q) v H):Fin K G0 L0 H0 q v H:=by
 obtain ⟨d,G,L,M,ex,r,dn,M',E,d',rfl,hl,hu,fz,hq⟩:=f;obtain ⟨t,rfl⟩:=ex.l;have hn:L0.length=M'.length:=by rw [hl];exact r0.len
 have X9:∀b,b∈L0->b∉t:=λb h1 h2=>(ab7.mp r.nd).2.2 b h1 b h2 rfl;have sm:=ia r;refine ⟨d',oZ G H t,L0,M',⟨ex.g.trans sm, .refl _,λb h1 h2=> ?_,ex.out,λb h=> .inl h,ex.xW⟩,⟨λb u e=> ?_,hn,(ab7.mp r.nd).1,λk a m h1 h2=> ?_⟩,Jv r hn (hl▸fz) v dn,hq⟩
 ·have hb:b∉t:=λz=>(ex.new b (aan _ z)).elim (λy=>X9 b y z) h2;rw [md hb];exact ex.fr b h1 h2
 ·by_cases hb:b∈t
  ·rw [Br hb] at e;exact e
  ·rw [md hb] at e;exact r.sub b u e
 ·have k1:k < L0.length:=(aag.mp h1).1;have e1:(L0++t)[k]? =some a:=by rw [aat k1];exact h1
  have e2:(M'++E)[k]? =some m:=by rw [aat (by rw [<-hn];exact k1)];exact h2
  obtain ⟨g,q⟩:=r.d9 k a m e1 e2;exact ⟨by rw [md (X9 a (aal h1))];exact g,CS (n:=M'.length) hn sm (by rw [hl];exact hu m (aal h2)) q⟩
section
variable{X:Cx}{R:St->XK}{e:Expr}{t:DE}
theorem fU{st:Stmt}:JS X R st (λ_ _ _=>False):=λ_ _ _ _ _ _ ⟨_,_,_,_,_,_,_,h,_,_⟩=>h.elim
end
def FN(C:Addr)(m:Str)(sp:Sp)(pF:List V)(R:St->XK)(ta:TE)(t:TA):TE:=λσ H Q=>ta σ H λx H1=>∃a dx fs,x= .ref a/\H1 a=some (.ins C dx fs)/\fs.lookup m=none/\
 t σ H1 λvs H2=>sp (x::(vs++pF)) H2 Q (R σ)
def NT(C:Addr)(sp:Sp)(pF:List V)(R:St->XK)(t:TA):TE:=λσ H Q=>t σ H λvs H1=>∀x dx,H1 x=none->H1 dx=none->dx≠x->
 sp (.ref x::(vs++pF)) (upd (upd H1 dx (.own x)) x (.ins C dx [])) (λv H2=>v= .br/\Q (.ref x) H2) (R σ)
section
variable{X:Cx}{CX:ze}{k:Nat}{f C:Addr}{fd:FuncData}{ps:List Str}{sp:Sp}{pF:List V}{ds:List Value}{R:St->XK}{x m:Str}{p pos apos:Pos}{e o:Expr}{es:List Expr}{ta:TE}{t:TA}
theorem Gu{pl:Sem Bool}(he:PE X o ta)(c:Cq X.K C)(hm:Ld X.K C m f)(F:af X.prog X.w X.K X.mg X.base CX k f fd ps sp)(hr:bO k X.A)(hb:jh X.K fd ps ds)(hd:ao pF ds)(hx:cX CX X R)(ha:PA X (e::es) t)
  (M6:starEach (e::es) X.env=(false,eval e X.env)::starEach es X.env:=by rfl) (fF:(backTo pos (starEach es X.env)).any (·.1)=false:=by rfl)
  (ht:eval (.Call (.Attribute o m apos) (e::es) [] pos) X.env=(do
   let ov<-eval o X.env
   standAt apos.atName
   let (f,first)<-holding [ov] (getMethod ov m pl)
   callWith pos f first (backTo pos (starEach (e::es) X.env)) (backToKw pos (keywordEach [] X.env))):=by rfl):
  PE X (.Call (.Attribute o m apos) (e::es) [] pos) (FN C m sp pF R ta t):=by
 intro ε s σ H Q I h;refine PySem.W.methodCall_KW (pl:=pl) (aS (he ε s σ H _ I h) λu s1 ⟨x,H1,I1,rx,a,dx,fs,ex,ea,l,q⟩=> ?_) ht;subst ex;obtain rfl:u=Value.ref a:=rx;refine qU I1 ea c hm l ?_;refine PySem.W.callWith_K (first:=[.ref a]) (h₀:=X.base) I.ok.mod.QZ hm.kp (aS (ha pos ε s1 σ H1 _ I1 q) λus s2 ⟨vs,H2,I2,r,q2⟩=>⟨I2.oy, ?_⟩) M6 fF;exact uw (us:= .ref a::us) (vs:= .ref a::vs) F hr hb hd hx I2 (.cons rfl r) q2
theorem EJ{pl:Sem Bool}(he:PE X o ta)(c:Cq X.K C)(hm:Ld X.K C m f)(F:af X.prog X.w X.K X.mg X.base CX k f fd ps sp)(hr:bO k X.A)(hb:jh X.K fd ps ds)(hd:ao pF ds)(hx:cX CX X R)
  (ht:eval (.Call (.Attribute o m apos) [] [] pos) X.env=(do
   let ov<-eval o X.env
   standAt apos.atName
   let (f,first)<-holding [ov] (getMethod ov m pl)
   callWith pos f first (backTo pos (starEach [] X.env)) (backToKw pos (keywordEach [] X.env))):=by rfl):
  PE X (.Call (.Attribute o m apos) [] [] pos) (FN C m sp pF R ta Sf):=by
 intro ε s σ H Q I h;refine PySem.W.methodCall_KW (pl:=pl) (aS (he ε s σ H _ I h) λu s1 ⟨x,H1,I1,rx,a,dx,fs,ex,ea,l,q⟩=> ?_) ht;subst ex;obtain rfl:u=Value.ref a:=rx;refine qU I1 ea c hm l ?_;exact PySem.W.callWith_K0 (first:=[.ref a]) I1.oy hm.kp (uw (us:=[.ref a]) (vs:=[.ref a]) F hr hb hd hx I1 (.cons rfl .nil) q)
theorem D3{ε:List (Addr×Obj)}{σ:St}{H:Hp}{s:Shared}{Q:VK}{us:List Value}{vs:List V}(M:Mk X.K C f)(F:af X.prog X.w X.K X.mg X.base CX k f fd ps sp)(hr:bO (k+1) X.A)(hb:jh X.K fd ps ds)(hd:ao pF ds)
  (hx:cX CX X R) (I:Inv X ε σ H s) (r:ao vs us)
  (h:∀x dx,H x=none->H dx=none->dx≠x->sp (.ref x::(vs++pF)) (upd (upd H dx (.own x)) x (.ins C dx [])) (λv H2=>v= .br/\Q (.ref x) H2) (R σ)):
  wpAny (model X.prog X.w) X.A (call (.ref C) us) (EP X ε σ Q) X.xe s:=by
 have hq:=h (s.heap.objs.size+1) s.heap.objs.size (I.aG.fresh (Nat.le_succ _)) (I.aG.fresh (aaj _)) (aaz (aa8 _));have I2:=Inv.made (C:=C) I;have r2:ao (V.ref (s.heap.objs.size+1)::(vs++pF)) (Value.ref (s.heap.objs.size+1)::(us++ds)):= .cons rfl (r.append hd);have hl:(Value.ref (s.heap.objs.size+1)::us++ds).length=ps.length:=by have e:=r2.length;rw [F.len _ _ _ _ hq] at e;exact e.symm
 refine wpAny_call (HG (f:=f) I.oy M.makes M.init (beq_iff_eq.mp M.fn) (codeAny_mono (F.run _ X.stack _ _ ⟨Value.ref (s.heap.objs.size+1)::us,[]⟩ (Value.ref (s.heap.objs.size+1)::(us++ds)) _ _ (R σ) (hr.make C us [])
  (I2.Sr.make C us []) (hb _ (Value.ref (s.heap.objs.size+1)::us) I2.oy hl) r2 hq) λr s' wK=> ?_))
 cases r with
 | error e=>exact hx ε σ _ _ e s' I2 wK
 | ok fl=>
  cases fl with
  | ret u=>
   obtain ⟨v,H',I3,rv,ev,q3⟩:=I2.after wK;subst ev;exact ⟨rv,⟨V.ref (s.heap.objs.size+1),H',I3,rfl,q3⟩⟩
  | next=>exact False.elim wK
  | brk=>exact False.elim wK
  | cont=>exact False.elim wK
theorem Gw(M:Mk X.K C f)(F:af X.prog X.w X.K X.mg X.base CX k f fd ps sp)(hr:bO (k+1) X.A)(hg:Gl X x)(hm:X.mg x=some (.ref C))(hb:jh X.K fd ps ds)(hd:ao pF ds)(hx:cX CX X R)
  (ha:PA X (e::es) t) (wq:(x==("__debug__":Str))=false:=by decide) (he:starEach (e::es) X.env=(false,eval e X.env)::starEach es X.env:=by rfl) (fF:(backTo pos (starEach es X.env)).any (·.1)=false:=by rfl):
  PE X (.Call (.Name x p) (e::es) [] pos) (NT C sp pF R t):=by
 intro ε s σ H Q I h;refine wpAny_Call_Name_kw (pA I hg hm ?_ wq);refine PySem.W.callWith_K (h₀:=X.base) I.ok.mod.QZ M.kp (aS (ha pos ε s σ H _ I h) λus s1 ⟨vs,H1,I1,r,q⟩=>⟨I1.oy, ?_⟩) he fF;exact D3 M F hr hb hd hx I1 r q
end
def M8(C:Addr)(M:Ms)(d:Dt)(ns:List Str)(ds:List Dt):Prop:=d= .obj C ns ds\/∃k,d= .loc k/\M[k]? =some (.ins C ns ds)
section
variable{K:PySem.W.Frag}{G:Hp}{L:List Addr}{M:Ms}{H:Hp}{C:Addr}{d:Dt}{v:V}{ns:List Str}{ds:List Dt}
theorem GG(r:Rl K G L M H)(n:Den K G L d v)(o:M8 C M d ns ds):∃a dx vs,v= .ref a/\H a=some (.ins C dx (ns.zip vs))/\ns.length=ds.length/\Ρ K G L ds vs:=by
 rcases o with rfl | ⟨k,rfl,hm⟩
 ·obtain ⟨a,dx,vs,e,h1,hl,h2⟩:=n;exact ⟨a,dx,vs,e,r.sub _ _ h1,hl,h2⟩
 ·obtain ⟨a,e,h1⟩:=n;obtain ⟨_,dx,vs,h2,hl,h3⟩:=r.d9 k a _ h1 hm;exact ⟨a,dx,vs,e,h2,hl,h3⟩
theorem yr{f:Str}:∀{ns:List Str} {ds:List Dt} {vs:List V} {d:Dt},Ρ K G L ds vs->(ns.zip ds).lookup f=some d->∃v,(ns.zip vs).lookup f=some v/\Den K G L d v
 | [],_,_,_,_,h=>by simp at h
 | _::_,[],_,_,_,h=>by simp at h
 | g::ns,d::ds,_,d',⟨v,r,rfl,h1,h2⟩,h=>by
  rw [abi,abd] at h;rw [abi,abd];cases q:f==g with
  | true=>rw [q] at h;cases h;exact ⟨v,rfl,h1⟩
  | false=>rw [q] at h;exact yr h2 h
theorem qJ{f:Str}:∀{ns:List Str} {ds:List Dt} {vs:List V},Ρ K G L ds vs->(ns.zip ds).lookup f=none->(ns.zip vs).lookup f=none
 | [],_,_,_,_=>by simp
 | _::_,[],_,h,_=>by have h:_=_:=h;subst h;simp
 | g::ns,d::ds,_,⟨v,r,rfl,h1,h2⟩,h=>by
  rw [abi,abd] at h;rw [abi,abd];cases q:f==g with
  | true=>rw [q] at h;cases h
  | false=>rw [q] at h;exact qJ h2 h
theorem yO{f:Str}{v:V}:∀{ns:List Str} {vs:List V},ns.length=vs.length->f∉ns->jk f v (ns.zip vs)=(ns++[f]).zip (vs++[v])
 | [],[],_,_=>rfl
 | g::ns,x::vs,hl,h=>by have hg:¬g=f:=λz=>h (by rw [z];exact aaf);show (if g=f then (g,v)::ns.zip vs else (g,x)::jk f v (ns.zip vs))=(g,x)::(ns++[f]).zip (vs++[v]);rw [if_neg hg,yO (by simpa using hl) λz=>h (List.mem_cons_of_mem _ z)]
 | [],_::_,hl,_=>by simp at hl
 | _::_,[],hl,_=>by simp at hl
end
def UR(C:Addr)(f:Str)(t:DE):DE:=λρ M q x=>t ρ M (λd M1=>∃ns ds v,M8 C M1 d ns ds/\(ns.zip ds).lookup f=some v/\q v M1) x
def LC(C:Addr)(m:Str)(T:DF)(to:DE)(ta:DA):DE:=λρ M q x=>to ρ M (λd M1=>(∃ns ds,M8 C M1 d ns ds/\(ns.zip ds).lookup m=none)/\ta ρ M1 (λds M2=>T (d::ds) M2 q (λC fs M'=>x ρ C fs M')) x) x
def P_(C:Addr)(T:DF)(ta:DA):DE:=λρ M q x=>ta ρ M (λds M1=>T (.loc M1.length::ds) (M1++[.ins C [] []]) (λd M2=>d= .br/\q (.loc M1.length) M2) (λC fs M'=>x ρ C fs M')) x
def LS(C:Addr)(f:Str)(to tv:DE):DS:=λDn ρ M=>tv ρ M (λy M1=>to ρ M1 (λd M2=>∃k ns ds,d= .loc k/\M2[k]? =some (.ins C ns ds)/\f∉ns/\ns.length < 1000/\Dn.nx ρ (M2.set k (.ins C (ns++[f]) (ds++[y])))) Dn.x) Dn.x
structure cE(P:Program)(w:World)(K:PySem.W.Frag)(mg:Str->Option Value)(base:Heap)(k:Nat)(C:Addr)(m:Str)(ps:List Str)(T:DF)(f:Addr)(fd:FuncData):Prop where
 ok:af P w K mg base (bX P w) k f fd ps (cn K T)
 b:jh K fd ps []
 c:Cq K C
 m:Ld K C m f
structure Mf(P:Program)(w:World)(K:PySem.W.Frag)(mg:Str->Option Value)(base:Heap)(k:Nat)(x:Str)(C:Addr)(ps:List Str)(T:DF)(f:Addr)(fd:FuncData):Prop where
 ok:af P w K mg base (bX P w) k f fd ps (cn K T)
 b:jh K fd ps []
 k:Mk K C f
 m:mg x=some (.ref C)
section
variable{X:Cx}{R:St->XK}{C:Addr}{f m x:Str}{T:DF}{k k':Nat}{a:Addr}{fd:FuncData}{ps:List Str}{e o value:Expr}{es:List Expr}{pos pos' apos p:Pos}{to te tv:DE}{ta:DA}
theorem pO(c:Cq X.K C)(n:gX X.K C f)(he:JE X R e te)(hb:attributeBase e f X.env (eval e X.env)=eval e X.env:=by rfl):JE X R (.Attribute e f pos) (UR C f te):=
 .of (MF he hb) λσ H G L ρ M q x rl en h hx=>by refine ⟨G,L,ρ,M,_,x,rl,en,h,hx,λv H1 ⟨d1,G1,L1,M1,e1,r1,n1,ns,ds,y,ob,hl,h1⟩=> ?_⟩;obtain ⟨p,dx,vs,rfl,hp,_,dn⟩:=GG r1 n1 ob;obtain ⟨u,hu,du⟩:=yr dn hl;exact ⟨p,C,dx,_,u,rfl,hp,c,n,hu,y,G1,L1,M1,e1,r1,du,h1⟩
theorem bt{pl:Sem Bool}(D:cE X.prog X.w X.K X.mg X.base k C m ps T a fd)(hr:bO k' X.A)(hx:cX (bX X.prog X.w) X R)(ho:JE X R o to)(ha:JA X R (e::es) ta)(hk:k<=k':=by decide)
  (M6:starEach (e::es) X.env=(false,eval e X.env)::starEach es X.env:=by rfl) (fF:(backTo pos (starEach es X.env)).any (·.1)=false:=by rfl)
  (ht:eval (.Call (.Attribute o m apos) (e::es) [] pos) X.env=(do
   let ov<-eval o X.env
   standAt apos.atName
   let (f,first)<-holding [ov] (getMethod ov m pl)
   callWith pos f first (backTo pos (starEach (e::es) X.env)) (backToKw pos (keywordEach [] X.env))):=by rfl):
  JE X R (.Call (.Attribute o m apos) (e::es) [] pos) (LC C m T to ta):=
 .of (Gu (pl:=pl) ho D.c D.m D.ok (hr.mono hk) D.b .nil hx ha M6 fF ht) λσ H G L ρ M q x rl en h hx=>by refine ⟨G,L,ρ,M,_,x,rl,en,h,hx,λv H1 ⟨d1,G1,L1,M1,e1,r1,n1,⟨ns,ds,ob,hl⟩,h1⟩=> ?_⟩;obtain ⟨p,dx,vs,rfl,hp,_,dn⟩:=GG r1 n1 ob;refine ⟨p,dx,_,rfl,hp,qJ dn hl,G1,L1,ρ,M1,_,x,r1,en.mono e1,h1,hx.on e1,λus H2 ⟨w8,G2,L2,M2,e2,r2,n2,h2⟩=> ?_⟩;show cn X.K T (V.ref p::(us++[])) H2 _ _;rw [aaZ];have E_:=e1.trans e2;exact ⟨G2,L2,d1::w8,M2,q,_,r2,⟨_,_,rfl,Den.mono e2.g e2.l _ _ n1,n2⟩,h2,λv H' f=>Fin.back E_ f,λC fs M' G' L' H' od hq e' r' y=>hx σ ρ C fs M' G' L' H' od hq (E_.trans e') r' (en.mono (E_.trans e')) y⟩
theorem j7{pl:Sem Bool}(D:cE X.prog X.w X.K X.mg X.base k C m ps T a fd)(hr:bO k' X.A)(hx:cX (bX X.prog X.w) X R)(ho:JE X R o to)(hk:k<=k':=by decide)
  (ht:eval (.Call (.Attribute o m apos) [] [] pos) X.env=(do
   let ov<-eval o X.env
   standAt apos.atName
   let (f,first)<-holding [ov] (getMethod ov m pl)
   callWith pos f first (backTo pos (starEach [] X.env)) (backToKw pos (keywordEach [] X.env))):=by rfl):
  JE X R (.Call (.Attribute o m apos) [] [] pos) (LC C m T to Od):=
 .of (EJ (pl:=pl) ho D.c D.m D.ok (hr.mono hk) D.b .nil hx ht) λσ H G L ρ M q x rl en h hx=>by refine ⟨G,L,ρ,M,_,x,rl,en,h,hx,λv H1 ⟨d1,G1,L1,M1,e1,r1,n1,⟨ns,ds,ob,hl⟩,h1⟩=> ?_⟩;obtain ⟨p,dx,vs,rfl,hp,_,dn⟩:=GG r1 n1 ob;refine ⟨p,dx,_,rfl,hp,qJ dn hl, ?_⟩;show cn X.K T (V.ref p::([]++[])) H1 _ _;exact ⟨G1,L1,[d1],M1,q,_,r1,⟨_,_,rfl,n1,rfl⟩,h1,λv H' f=>Fin.back e1 f,λC fs M' G' L' H' od hq e' r' y=>hx σ ρ C fs M' G' L' H' od hq (e1.trans e') r' (en.mono (e1.trans e')) y⟩
theorem NX(D:Mf X.prog X.w X.K X.mg X.base k x C ps T a fd)(hr:bO k' X.A)(hx:cX (bX X.prog X.w) X R)(ha:JA X R (e::es) ta)(hk:k+1<=k':=by decide)(hg:Gl X x:=by rfl)(wq:(x==("__debug__":Str))=false:=by decide)
  (he:starEach (e::es) X.env=(false,eval e X.env)::starEach es X.env:=by rfl) (fF:(backTo pos (starEach es X.env)).any (·.1)=false:=by rfl):JE X R (.Call (.Name x p) (e::es) [] pos) (P_ C T ta):=
 .of (Gw D.k D.ok (hr.mono hk) hg D.m D.b .nil hx ha wq he fF) λσ H G L ρ M q x rl en h hx=>by
  refine ⟨G,L,ρ,M,_,x,rl,en,h,hx,λvs H1 ⟨ds,G1,L1,M1,e1,r1,n1,h1⟩ y dx hy XJ iT=> ?_⟩;show cn X.K T (V.ref y::(vs++[])) _ _ _;rw [aaZ];have ra:=r1.KA (o:= .own y) XJ;have ea:=r1.Pb (o:= .own y) XJ;have SN:upd H1 dx (HO.own y) y=none:=by rw [ψ (Ne.symm iT)];exact hy
  have rb:=ra.KP (p:=y) (o:= .ins C dx []) (m:= .ins C [] []) SN ⟨dx,[],Κ,rfl,rfl⟩;have eb:=ra.SH (p:=y) (o:= .ins C dx []) SN;have e2:=ea.trans eb;have E_:=e1.trans e2;refine ⟨_,_, .loc M1.length::ds,_,_,_,rb,⟨_,_,rfl,⟨y,rfl, ?_⟩,Ρ.mono e2.g e2.l _ _ n1⟩,h1,λv H' ⟨d,G',L',M',e',r',dn,hd,hq⟩=> ?_,λC fs M' G' L' H' od hq e' r' z=>hx σ ρ C fs M' G' L' H' od hq (E_.trans e') r' (en.mono (E_.trans e')) z⟩
  ·rw [<-r1.len,List.getElem?_append_right (Nat.le_refl _)];simp
  ·subst hd;refine ⟨dn, .loc M1.length,G',L',M',E_.trans e',r',⟨y,rfl,e'.l.get ?_⟩,hq⟩;rw [<-r1.len,List.getElem?_append_right (Nat.le_refl _)];simp
theorem BW(c:Cq X.K C)(n:gX X.K C f)(ho:JE X R o to)(hv:JE X R value tv)(hs:swapsWith value (some (.Attribute o f pos')) pos.line X.env=pure false:=by rfl):JS X R (.Assign [.Attribute o f pos'] value pos) (LS C f to tv):=
 .of (NP ho hv hs) λσ H G L ρ M Dn rl en h hx=>by refine ⟨G,L,ρ,M,_,_,rl,en,h,hx,λy H1 ⟨dy,G1,L1,M1,e1,r1,n1,h1⟩=> ?_⟩;refine ⟨G1,L1,ρ,M1,_,_,r1,en.mono e1,h1,hx.on e1,λu H2 ⟨du,G2,L2,M2,e2,r2,n2,k,ns,ds,ed,hm,hf,hz,h2⟩=> ?_⟩;subst ed;obtain ⟨p,rfl,hp⟩:=n2;obtain ⟨_,dx,vs,hH,hl,dn⟩:=r2.d9 k p _ hp hm;have XE:ns.length=vs.length:=hl.trans dn.length;refine ⟨p,C,dx,_,rfl,hH,c,n,by rw [abj,<-XE,Nat.min_self];exact hz, ?_⟩;rw [yO XE hf];exact ⟨ρ,G2,L2,_,(e1.trans e2).trans (r2.Ij hp),r2.setM (m:= .ins C (ns++[f]) (ds++[dy])) hp ⟨dx,_,Κ,by rw [aai,aai,hl];rfl,dn.app ⟨_,_,rfl,Den.mono e2.g e2.l _ _ n1,rfl⟩⟩,(en.mono (e1.trans e2)).mono (r2.Ij (o:= .own p) hp),h2⟩
end
def BL:List Dt->Ms->DQ->Prop
 | [d],M,q=>match kC M d with
  | some xs=>q (.loc M.length) (M++[.lst xs])
  | none=>False
 | _,_,_=>False
section
variable{K:PySem.W.Frag}
theorem Pt:AI K (λxs H Q=>∃p ys,xs=[V.ref p]/\(gQ K H p ys\/oi K H p ys)/\∀l,H l=none->Q (.ref l) (upd H l (.lst ys))) BL:=by
 intro G0 L0 H0 G L M H vs ds q e r n h;unfold BL at h;split at h
 ·rename_i d;obtain ⟨v,rfl,n1⟩:=aT n;split at h
  ·rename_i xs hs;obtain ⟨a,us,rfl,hq,dn⟩:=l' r n1 hs;exact ⟨a,us,rfl,hq,λl hl=>i9 e r hl dn h⟩
  ·exact h.elim
 ·exact h.elim
end
section
variable{X:Cx}{R:St->XK}{e o i value:Expr}{t:DA}{to ti tv:DE}{p pos apos ck rY:Pos}
theorem zv(hm:X.mg "list"=none)(ha:JA X R [e] t)(hg:Gl X "list":=by rfl)(he:starEach [e] X.env=(false,eval e X.env)::starEach [] X.env:=by rfl)(fF:(backTo pos (starEach [] X.env)).any (·.1)=false:=by rfl):JE X R (.Call (.Name "list" p) [e] [] pos) (zf BL t):=
 rG wF Pt hm rf ha hg (by decide) (by decide) he fF
def Tv(to:DE)(t:DA):DE:=λρ M q x=>to ρ M (λd M1=>(∃k xs,d= .loc k/\M1[k]? =some (.lst xs))/\t ρ M1 (λds M2=>∃k xs y,d= .loc k/\ds=[y]/\M2[k]? =some (.lst xs)/\xs.length < sizeLine/\q .br (M2.set k (.lst (xs++[y])))) x) x
theorem gf(ho:JE X R o to)(ha:JA X R [e] t)(GN:attributeBase o "append" X.env (eval o X.env)=eval o X.env:=by rfl)
  (MI:((backTo ck (starEach [e] X.env)).all (λx=> !x.1)&&(backToKw ck (keywordEach [] X.env)).all (λx=>x.1.isSome)
   &&decide (([e]:List Expr).length+([]:List Keyword).length+(if ([]:List Keyword).isEmpty then 0 else 1) < 30))=true:=by rfl)
  (GF:(apos.endLine==ck.line)=true:=by rfl) (hs:starEach [e] X.env=(false,eval e X.env)::starEach [] X.env:=by rfl) (A6:(backTo ck (starEach [] X.env)).any (·.1)=false:=by rfl):
  JE X R (.Call (.Attribute o "append" apos) [e] [] ck) (Tv to t):=
 .of (PJ PySem.F.plainAttrs_list PySem.F.slot_list_append PySem.F.type_list_append (r:=BM) j_ ho ha GN MI GF hs A6) λσ H G L ρ M q x rl n h hx=>by refine ⟨G,L,ρ,M,_,x,rl,n,h,hx,λv H1 ⟨d1,G1,L1,M1,e1,r1,n1,⟨k,xs,ed,hm⟩,h1⟩=> ?_⟩;subst ed;obtain ⟨a,rfl,hk⟩:=n1;obtain ⟨_,vs,hH,_⟩:=r1.d9 k a _ hk hm;refine ⟨.inl ⟨rfl,vs, .of hH⟩,G1,L1,ρ,M1,_,x,r1,n.mono e1,h1,hx.on e1,λus H2 ⟨ds,G2,L2,M2,e2,r2,n2,k',xs',y,ek,ed,WZ,hz,h2⟩=> ?_⟩;cases ek;subst ed;obtain ⟨u,rfl,n3⟩:=aT n2;have Ko:=e2.l.get hk;obtain ⟨_,Jc,SF,O9⟩:=r2.d9 k a _ Ko WZ;refine ⟨a,Jc,u,rfl,rfl,SF,by rw [<-O9.length];exact hz, .br,G2,L2,_,(e1.trans e2).trans (r2.Ij Ko),r2.setM (m:= .lst (xs'++[y])) Ko ⟨_,Κ,O9.app ⟨_,_,rfl,n3,rfl⟩⟩,rfl,h2⟩
def wy(to ti tv:DE):DS:=λDn ρ M=>tv ρ M (λy M1=>to ρ M1 (λd M2=>ti ρ M2 (λdi M3=>∃k i xs j,d= .loc k/\di= .int i/\M3[k]? =some (.lst xs)/\Ii xs.length i=some j/\Dn.nx ρ (M3.set k (.lst (xs.set j y)))) Dn.x) Dn.x) Dn.x
theorem mh(ho:JE X R o to)(hi:JE X R i ti)(hv:JE X R value tv)(hs:swapsWithSole [.Subscript o i rY] value pos.line X.env=pure false:=by rfl)(hw:swappedStores [.Subscript o i rY] value X.env=pure none:=by rfl)
  (h1:(assignEach [.Subscript o i rY] X.env).map (·.2)=[assign (.Subscript o i rY) X.env]:=by rfl)
  (ha:∀v,assign (.Subscript o i rY) X.env v=(do
   let ov<-holding [v] (eval o X.env)
   let iv<-holding [v,ov] (eval i X.env)
   standAt rY
   holding [v,ov,iv] (setItem ov iv v)
   release [v,ov,iv] []):=by intro _;rfl):JS X R (.Assign [.Subscript o i rY] value pos) (wy to ti tv):=
 .of (HA hv (MA (t:=LO) ho hi IW ha) hs hw h1) λσ H G L ρ M Dn rl n h hx=>by refine ⟨G,L,ρ,M,_,_,rl,n,h,hx,λv H1 ⟨dv,G1,L1,M1,e1,r1,n1,h1⟩=> ?_⟩;refine ⟨G1,L1,ρ,M1,_,_,r1,n.mono e1,h1,hx.on e1,λov H2 ⟨d,G2,L2,M2,e2,r2,n2,h2⟩=> ?_⟩;refine ⟨G2,L2,ρ,M2,_,_,r2,(n.mono e1).mono e2,h2,(hx.on e1).on e2,λiv H3 ⟨di,G3,L3,M3,e3,r3,n3,k,i,xs,j,ed,ei,hm,hj,h3⟩=> ?_⟩;subst ed ei;obtain ⟨a,rfl,hk⟩:=n2;have n3:iv= .int i:=n3;subst n3;have zt:=e3.l.get hk;obtain ⟨_,vs,hH,dn⟩:=r3.d9 k a _ zt hm;have D6:=e2.trans e3;have SY:=Den.mono D6.g D6.l _ _ n1;refine ⟨a,vs,i,j,rfl,rfl,hH,by rw [<-dn.length];exact hj,ρ,G3,L3,_,((e1.trans e2).trans e3).trans (r3.Ij zt),r3.setM (m:= .lst (xs.set j dv)) zt ⟨_,Κ, .of (BB SY j dn.pair)⟩,(((n.mono e1).mono e2).mono e3).mono (r3.Ij (o:= .own a) zt),h3⟩
end
abbrev DK:=En->Ms->(List Dt->(Ms->Prop)->Ms->Prop)->DX->Prop
structure K0(K:PySem.W.Frag)(J:It)(xs:List Dt)(ok:Ms->Prop)(G0:Hp)(L0:List Addr):Prop where
 go:∀(i:Nat) G L M H (d:Dt),df G0 G->Pre L0 L->Rl K G L M H->ok M->xs[i]? =some d->J.go i H/\∀v H',J.Nn i H v H'->∃G',Ex G L H G' L H'/\Rl K G' L M H'/\Den K G' L d v
 stop:∀(i:Nat) G L M H,df G0 G->Pre L0 L->Rl K G L M H->ok M->xs.length<=i->J.stop i H
inductive VR(K:PySem.W.Frag)(G0:Hp)(L0:List Addr)(H0:Hp)(q:List Dt->(Ms->Prop)->Ms->Prop)(J:It)(H:Hp):Prop
 | mk (xs:List Dt) (ok:Ms->Prop) (G:Hp) (L:List Addr) (M:Ms) (e:Ex G0 L0 H0 G L H) (r:Rl K G L M H) (y:K0 K J xs ok G L) (h:q xs ok M)
inductive Dy(K:PySem.W.Frag)(R:St->XK)(t:DK)(σ:St)(H:Hp)(Q:It->Hp->Prop):Prop
 | mk (G:Hp) (L:List Addr) (ρ:En) (M:Ms) (q:List Dt->(Ms->Prop)->Ms->Prop) (x:DX) (r:Rl K G L M H) (n:ji K G L ρ σ) (h:t ρ M q x) (hx:sv K G L H R x) (hQ:∀J H1,VR K G L H q J H1->Q J H1)
def JK(X:Cx)(R:St->XK)(tg iter:Expr)(t:DK):Prop:=PI X tg iter (Dy X.K R t)
def XZ(t:DA):DK:=λρ M q x=>t ρ M (λxs M1=>q xs (λ_=>True) M1) x
theorem Qe{X:Cx}{R:St->XK}{tg iter:Expr}{t:DA}(h:JI X R tg iter t):JK X R tg iter (XZ t):=by intro ε s σ H Q I ⟨G,L,ρ,M,q,x,r,n,ht,hx,hQ⟩;refine h ε s σ H Q I ⟨G,L,ρ,M,_,x,r,n,ht,hx,λJ H1 ⟨xs,G1,L1,M1,e1,r1,y,hq⟩=>hQ J H1 ⟨xs,_,G1,L1,M1,e1,r1,⟨λi G L M H d g l r _ e=>y.go i G L M H d g l r e,λi G L M H g l r _ e=>y.stop i G L M H g l r e⟩,hq⟩⟩
structure Src(K:PySem.W.Frag)(a:Addr)(xs:List Dt)(ok:Ms->Prop)(G0:Hp)(L0:List Addr):Prop where
 at_:∀G L M H,df G0 G->Pre L0 L->Rl K G L M H->ok M->∃vs,gQ K H a vs/\Ρ K G L xs vs
def kF(M:Ms):Dt->Option (List Dt×(Ms->Prop))
 | .lst xs=>some (xs,λ_=>True)
 | .iV ns=>some (ns.map .int,λ_=>True)
 | .loc k=>match M[k]? with
  | some (.lst xs)=>some (xs,λM'=>M'[k]? =some (.lst xs))
  | _=>none
 | _=>none
theorem rz{K:PySem.W.Frag}{G:Hp}{L:List Addr}{M:Ms}{H:Hp}{d:Dt}{v:V}{xs:List Dt}{ok:Ms->Prop}(r:Rl K G L M H)(n:Den K G L d v)(h:kF M d=some (xs,ok)):∃a vs,v= .ref a/\gQ K H a vs/\Src K a xs ok G L/\ok M:=by
 cases d with
 | lst ds=>
  cases h;obtain ⟨a,vs,rfl,e,m⟩:=n;exact ⟨a,vs,rfl, .of (r.sub _ _ e),⟨λG' L' M' H' g l r' _=>⟨vs, .of (r'.sub _ _ (g _ _ e)),Ρ.mono g l _ _ m⟩⟩,trivial⟩
 | iV ns=>
  cases h;obtain ⟨a,rfl,e⟩:=n;exact ⟨a,_,rfl,r.sub.seq e,⟨λG' L' M' H' g l r' _=>⟨_,r'.sub.seq (g.seq e),iE⟩⟩,trivial⟩
 | loc k=>
  obtain ⟨a,rfl,e⟩:=n;have h:(match M[k]? with | some (.lst xs)=>some (xs,λM':Ms=>M'[k]? =some (.lst xs)) | _=>none)=some (xs,ok):=h;split at h
  ·rename_i ys hm;cases h;obtain ⟨_,vs,e1,m1⟩:=r.d9 k a _ e hm;refine ⟨a,vs,rfl, .of e1,⟨λG' L' M' H' g l r' hk=> ?_⟩,hm⟩;obtain ⟨_,Jc,e2,m2⟩:=r'.d9 k a _ (l.get e) hk;exact ⟨Jc, .of e2,m2⟩
  ·cases h
 | _=>cases h
theorem Fi{K:PySem.W.Frag}{G:Hp}{L:List Addr}{a:Addr}{xs:List Dt}{ok:Ms->Prop}(s:Src K a xs ok G L):K0 K (S5 K a) xs ok G L where
 go:=λi G1 L1 M1 H1 d g l r k e=>by
  obtain ⟨vs,hs,n⟩:=s.at_ G1 L1 M1 H1 g l r k;obtain ⟨v,e1,n1⟩:=n.get e
  exact ⟨⟨vs,v,hs,e1⟩,λv' H' ⟨eH,y⟩=>by
   subst eH;have e2:=y vs hs;rw [e1] at e2;cases e2
   exact ⟨G1, .refl _ _ _,r,n1⟩⟩
 stop:=λi G1 L1 M1 H1 g l r k e=>by obtain ⟨vs,hs,n⟩:=s.at_ G1 L1 M1 H1 g l r k;exact ⟨vs,hs,by rw [<-n.length];exact e⟩
def oB(M:Ms):Dt->Option (List Dt×(Ms->Prop))
 | .loc k=>kF M (.loc k)
 | d=>(Sa M d).map λxs=>(xs,λ_=>True)
def gy(t:DE):DK:=λρ M q x=>t ρ M (λd M1=>match oB M1 d with
 | some (xs,ok)=>q xs ok M1
 | none=>False) x
theorem bA{X:Cx}{R:St->XK}{tg e:Expr}{te:DE}(h:JE X R e te):JK X R tg e (gy te):=by
 intro ε s σ H Q I ⟨G,L,ρ,M,q,x,rl,n,ht,hx,hQ⟩;refine aS (h ε s σ H (Fin X.K G L H _) I ⟨G,L,ρ,M,_,x,rl,n,ht,hx,λ_ _ f=>f⟩) λu s1 ⟨v,H1,I1,rv,d,G1,L1,M1,e1,r1,n1,h1⟩=> ?_
 (try dsimp only at h1)
 cases hi:oB M1 d with
 | none=>rw [hi] at h1;exact h1.elim
 | some p=>
  obtain ⟨xs,ok⟩:=p;rw [hi] at h1;have fin:∀J,K0 X.K J xs ok G1 L1->Q J H1:=λJ y=>hQ J H1 ⟨xs,ok,G1,L1,M1,e1,r1,y,h1⟩;have up:∀{J},ok=(λ_=>True)->Yl X.K J xs G1 L1->K0 X.K J xs ok G1 L1:=λeo y=>by subst eo;exact ⟨λi G L M H d g l r _ e=>y.go i G L M H d g l r e,λi G L M H g l r _ e=>y.stop i G L M H g l r e⟩
  cases d with
  | loc k=>
   obtain ⟨a,vs,rfl,hs,sr,_⟩:=rz r1 n1 hi;cases rv;exact vH I1 hs (fin _ (Fi sr))
  | lst ds=>
   cases hi;obtain ⟨a,vs,rfl,e,m⟩:=n1;cases rv;exact vH I1 (vs:=vs) (.of (r1.sub _ _ e)) (fin _ (up rfl (B2 (λG' g=> .of (g _ _ e)) m)))
  | iV ns=>
   cases hi;obtain ⟨a,rfl,e⟩:=n1;cases rv;exact vH I1 (r1.sub.seq e) (fin _ (up rfl (B2 (λG' g=>g.seq e) iE)))
  | tup ds=>
   cases hi;obtain ⟨a,vs,rfl,e,m⟩:=n1;cases rv;exact Gi I1 (vs:=vs) (.of (r1.sub _ _ e)) (fin _ (up rfl (FK (λG' g=> .of (g _ _ e)) m)))
  | kt ds=>
   cases hi;obtain ⟨a,vs,rfl,e,m⟩:=n1;cases rv;exact Gi I1 (r1.sub.RN e) (fin _ (up rfl (FK (λG' g=>g.RN e) m)))
  | str z=>
   cases hi;cases n1;obtain ⟨t,rfl⟩:=rv;exact NF I1 (fin _ (up rfl Mp))
  | _=>cases hi
def va(g:Dt->En->(En->Prop)->Prop)(tb:DS)(Dn:kG)(ok:Ms->Prop):List Dt->En->Ms->Prop
 | [],ρ,M=>ok M/\Dn.nx ρ M
 | x::xs,ρ,M=>ok M/\g x ρ λρ'=>tb {Dn with nx:=va g tb Dn ok xs,ct:=va g tb Dn ok xs,bk:=Dn.nx} ρ' M
def tD(ti:DK)(g:Dt->En->(En->Prop)->Prop)(tb:DS):DS:=λDn ρ M=>ti ρ M (λxs ok M1=>va g tb Dn ok xs ρ M1) Dn.x
section
variable{X:Cx}{R:St->XK}{tg iter:Expr}{body:List Stmt}{ti:DK}{gg:TG}{g:Dt->En->(En->Prop)->Prop}{tb:DS}{pos:Pos}
theorem cT(hi:JK X R tg iter ti)(hg:PG X tg gg)(gd:GD X.K gg g)(hb:BH X R body tb)(hp:PassesOwn (model X.prog X.w) X.A X.env X.xe:=by first | exact PassesOwn.never | exact PassesOwn.leaving)(hc:X.calm=true:=by rfl)(hs:∀x,foldedSetIterable iter X.env x=pure x:=by intro _;rfl):
  JS X R (.For tg iter body [] pos) (tD ti g tb):= .of (AY hp hc hi hg hb hs) λσ H G L ρ M Dn rl n h hx=>by
 refine ⟨G,L,ρ,M,_,_,rl,n,h,hx,λJ H1 ⟨xs,ok,G1,L1,M1,e1,r1,y,h1⟩=> ?_⟩;refine ⟨λi m σ' H'=>m+i=xs.length/\dY X.K G1 L1 H1 (λρ' M'=>va g tb Dn ok (xs.drop i) ρ' M') σ' H',⟨xs.length,rfl,ρ,G1,L1,M1, .refl _ _ _,r1,n.mono e1,by rw [abF];exact h1⟩, ?_⟩;rintro i m σ' H' ⟨hm,ρ',G',L',M',e',r',n',h'⟩;by_cases hi:i < xs.length
 ·right;have hd:xs[i]? =some xs[i]:=aaa hi;rw [aaP hi] at h';obtain ⟨aG,h'⟩:=h';obtain ⟨go,yl⟩:=y.go i G' L' M' H' _ e'.g e'.l r' aG hd;refine ⟨go,dY X.K G1 L1 H1 (λρ' M'=>va g tb Dn ok (xs.drop (i+1)) ρ' M'),λσ2 H2 f=>⟨m - 1,by omega,by omega,f⟩,λv H2 hy=> ?_⟩;obtain ⟨G2,e2,r2,n2⟩:=yl v H2 hy;refine gd G2 L' M' H2 _ v ρ' σ' _ _ r2 n2 (n'.mono e2) h' λρ3 σ3 n3 h3=> ?_;refine ⟨G2,L',ρ3,M',_,r2,n3,h3,hx.on (e1.trans (e'.trans e2)),⟨λ_ _ f=>dY.back (e'.trans e2) f,λ_ _ f=>Fin.back (e1.trans (e'.trans e2)) f,λ_ _ f=>dY.back (e1.trans (e'.trans e2)) f,λ_ _ f=>dY.back (e'.trans e2) f⟩⟩
 ·left;rw [abb (by omega)] at h';exact ⟨y.stop i G' L' M' H' e'.g e'.l r' h'.1 (by omega),ρ',G',L',M',e1.trans e',r',n',h'.2⟩
end
def sO(te:DE)(cs:En)(ok:Ms->Prop):List Dt->List Dt->Ms->(List Dt->Ms->Prop)->Prop
 | [],Ε,M,k=>ok M/\k Ε M
 | x::xs,Ε,M,k=>ok M/\te (some x::cs) M (λd M1=>sO te cs ok xs (Ε++[d]) M1 k) mQ
def wc(ti:DK)(te:DE)(caps:List Nat):DE:=λρ M q x=>ti ρ M (λxs ok M1=>xs.length<=sizeLine/\sO te (ie caps ρ) ok xs [] M1 (λys M2=>q (.lst ys) M2)) x
theorem yo{K:PySem.W.Frag}{J:It}{te:DE}{caps:List Nat}{ρ:En}{σ:St}{G1:Hp}{L1:List Addr}{M1:Ms}{H1:Hp}{xs:List Dt}{ok:Ms->Prop}{Dl:Addr}{Q:VK}{k:List Dt->Ms->Prop}(r1:Rl K G1 L1 M1 H1)(n:ji K G1 L1 ρ σ)(y:K0 K J xs ok G1 L1)(hD:H1 Dl=none)(hz:xs.length<=sizeLine)
  (h:sO te (ie caps ρ) ok xs [] M1 k)
  (fin:∀G2 L2 M2 H2 ds vs,Ex G1 L1 H1 G2 L2 H2->Rl K G2 L2 M2 H2->G2 Dl=none->Dl∉L2->H2 Dl=some (.lst vs)->Ρ K G2 L2 ds vs->k ds M2->Q (.ref Dl) H2):
  Cz J (lq K (λ_=>E0) te) (cc caps σ) Q H1 Dl:=by
 refine ⟨λi m ys H2=>m+i=xs.length/\H2 Dl=some (.lst ys)/\∃Ε G2 L2 M2,Ex G1 L1 H1 G2 L2 H2/\Rl K G2 L2 M2 H2/\G2 Dl=none/\Dl∉L2/\Ρ K G2 L2 Ε ys/\Ε.length=i/\sO te (ie caps ρ) ok (xs.drop i) Ε M2 k,⟨xs.length,rfl,Κ,[],G1,L1,M1, ?_⟩, ?_⟩
 ·have gn:G1 Dl=none:=r1.sub.free hD;refine ⟨⟨.refl _, .refl _,λ_ h _=>h,λb u h1 _=>by rw [ψ (λz=>by rw [z,hD] at h1;cases h1)];exact h1,λ_ h=> .inl h,λb h=>by rw [ψ (λz=>h (by rw [z];exact hD))];exact h⟩,⟨λb u e=>by rw [ψ (λz=>by rw [z,gn] at e;cases e)];exact r1.sub b u e,r1.len,r1.nd,λi a m h1 h2=> ?_⟩,gn,r1.zw hD,rfl,rfl,by rw [abF];exact h⟩;obtain ⟨q1,q2⟩:=r1.d9 i a m h1 h2;exact ⟨q1,q2.mono (.refl _) (.refl _) (ψ λz=>q2.there (by rw [z];exact hD))⟩
 ·rintro i m ys H2 ⟨hm,gI,Ε,G2,L2,M2,e2,r2,g2,l2,n2,la,h2⟩;refine ⟨gI, ?_⟩;by_cases hi:i < xs.length
  ·right;have hd:xs[i]? =some xs[i]:=aaa hi;rw [aaP hi] at h2;obtain ⟨aG,h2⟩:=h2;obtain ⟨go,yl⟩:=y.go i G2 L2 M2 H2 _ e2.g e2.l r2 aG hd;refine ⟨go,λv H3 hy=> ?_⟩;obtain ⟨G3,e3,r3,n3⟩:=yl v H3 hy;refine ⟨G3,L2,_,M2,_,mQ,r3,Hi ((n.mono e2).mono e3) caps n3,h2,qH,λv4 H4 ⟨d4,G4,L4,M4,e4,r4,n4,h4⟩=> ?_⟩;have h3:H3 Dl=some (.lst ys):=e3.out _ _ gI l2;have g3:G3 Dl=none:=e3.fr _ g2 (by rw [gI];simp);have LQ:H4 Dl=some (.lst ys):=e4.out _ _ h3 l2;have g4:G4 Dl=none:=e4.fr _ g3 (by rw [h3];simp);have l4:Dl∉L4:=λz=>(e4.new _ z).elim l2 λq=>by rw [h3] at q;cases q
   have OO:=e3.trans e4;have Hs:ys.length=i:=by rw [<-n2.length];exact la
   have ne1:∀{b:Addr} {u:HO},H1 b=some u->b≠Dl:=λe z=>by rw [z,hD] at e;cases e
   refine ⟨LQ,by omega,m - 1,by omega,by omega,Κ,Ε++[d4],G4,L4,M4, ?_, ?_,g4,l4,(Ρ.mono OO.g OO.l _ _ n2).app ⟨_,_,rfl,n4,rfl⟩,by rw [aai,la];rfl,h4⟩
   ·have CN:=e2.trans OO
    exact ⟨CN.g,CN.l,CN.fr,λb u h1 h2=>by rw [ψ (ne1 h1)];exact CN.out b u h1 h2,CN.new,λb h=>by
     by_cases hb:b=Dl
     ·rw [hb,Κ];simp
     ·rw [ψ hb];exact CN.xW b h⟩
   ·refine ⟨λb u e=>by rw [ψ (λz=>by rw [z,g4] at e;cases e)];exact r4.sub b u e,r4.len,r4.nd,λi a m h1 h2=> ?_⟩;obtain ⟨q1,q2⟩:=r4.d9 i a m h1 h2;exact ⟨q1,q2.mono (.refl _) (.refl _) (ψ λz=>l4 (by rw [<-z];exact aal h1))⟩
  ·left;rw [abb (by omega)] at h2;exact ⟨y.stop i G2 L2 M2 H2 e2.g e2.l r2 h2.1 (by omega),fin G2 L2 M2 H2 Ε ys e2 r2 g2 l2 gI n2 h2.2⟩
section
variable{X:Cx}{R:St->XK}{elt iter:Expr}{x:Str}{px:Pos}{scope:Scope}{pos:Pos}{ti:DK}{te:DE}{ys:List Str}{caps:List Nat}
theorem fo(S:dE X scope x ys caps)(hi:JK X R (.Name x px) iter ti)(he:∀C s H fp,JE (Cx.comp X (x::ys) scope C s H fp) (λ_=>E0) elt te)(hc:X.calm=true:=by rfl)(hs:∀x,foldedSetIterable iter X.env x=pure x:=by intro _;rfl):
  JE X R (.ListComp elt [⟨.Name x px,iter,[],0⟩] scope pos) (wc ti te caps):= .of (Ci (wi:=Dy X.K R ti) (te:=lq X.K (λ_=>E0) te) S hc hi he hs) λσ H G L ρ M q x rl n h hx=>by
 refine ⟨G,L,ρ,M,_,x,rl,n,h,hx,λJ H1 ⟨xs,ok,G1,L1,M1,e1,r1,y,hz,h1⟩ D hD=> ?_⟩;exact yo r1 (n.mono e1) y hD hz h1 λG2 L2 M2 H2 ds vs e2 r2 g2 l2 h2 n2 k=>Fin.back e1 (kj e2 r2 hD g2 l2 h2 n2 k)
theorem jE{i:Nat}{y:Str}{py HX:Pos}(hN:X.N.Nodup)(VB:X.N[i]? =some y)(hy:Loc X.env.scope y)(S:dE X scope x ys caps)(hi:JK X R (.Name x px) iter ti)(he:∀C s H fp,JE (Cx.comp X (x::ys) scope C s H fp) (λ_=>E0) elt te)(hc:X.calm=true:=by rfl)
  (Vr:swapsWith (.ListComp elt [⟨.Name x px,iter,[],0⟩] scope pos) (some (.Name y py)) HX.line X.env=pure true:=by rfl) (hs:∀x,foldedSetIterable iter X.env x=pure x:=by intro _;rfl)
  (hf:X.fn y=true\/X.env.scope.names.lookup y=some .local:=by first | exact .inl rfl | exact .inr rfl | assumption):
  JS X R (.Assign [.Name y py] (.ListComp elt [⟨.Name x px,iter,[],0⟩] scope pos) HX) (OC i (wc ti te caps)):= .of (Ax (wi:=Dy X.K R ti) (te:=lq X.K (λ_=>E0) te) hN VB hy S hc hi he Vr hs hf) λσ H G L ρ M Dn rl n h hx=>by
 refine ⟨G,L,ρ,M,_,_,rl,n,h,hx,λJ H1 ⟨xs,ok,G1,L1,M1,e1,r1,y,hz,h1⟩ D hD=> ?_⟩;refine yo r1 (n.mono e1) y hD hz h1 λG2 L2 M2 H2 ds vs e2 r2 g2 l2 h2 n2 k=> ?_;obtain ⟨d,G3,L3,M3,e3,r3,n3,h3⟩:=kj (q:=λd M=>Dn.nx (ρ.set i (some d)) M) e2 r2 hD g2 l2 h2 n2 k;exact ⟨_,G3,L3,M3,e1.trans e3,r3,((n.mono e1).mono e3).set i n3,h3⟩
end
theorem tZ:∀{ns:List Int} {us:List Value},ao (ns.map V.int) us->∃ts:List (Int×Tok),us=ts.map (λp=>Value.int p.1 p.2)/\ts.map (·.1)=ns
 | [],_,h=>by cases h;exact ⟨[],rfl,rfl⟩
 | n::ns,_,h=>by
  cases h with
  | cons r t=>
   obtain ⟨tk,rfl⟩:=r;obtain ⟨ts,rfl,rfl⟩:=tZ t;exact ⟨(n,tk)::ts,rfl,rfl⟩
def Ri(K:PySem.W.Frag):List V->Hp->VK->Prop:=λxs H Q=>∃(p:Addr) (ns:List Int),xs=[.ref p]/\gQ K H p (ns.map V.int)/\Q (.int ns.sum) H
theorem FV{X:Cx}(hc:X.calm=true):cM X (.builtin "sum") (Ri X.K):=by
 intro ε s σ H xs us Q I r h;obtain ⟨p,ns,rfl,hq,q⟩:=h;obtain ⟨u,rfl,r1⟩:=j5 r;cases r1;obtain ⟨its,rv,pl,hz⟩:=I.list hq;obtain ⟨ts,rfl,rfl⟩:=tZ rv;have e:(ts.map λp=>Value.int p.1 p.2).toArray=intItems ts.toArray:=by simp [intItems]
 have hl:=pl.isList;rw [e] at hl;refine sum_intListG (I.ok.hd hc) hl λh' tk t' hk=> ?_;refine ⟨.int (ts.map (·.1)).sum,H,I.kept hk,⟨t', ?_⟩,q⟩;rw [preSum_eq,List.take_of_length_le (by simp)]
def N7:List Dt->Ms->DQ->Prop
 | [d],M,q=>∃ns:List Int,kC M d=some (ns.map .int)/\(∃xs ok,kF M d=some (xs,ok))/\q (.int ns.sum) M
 | _,_,_=>False
theorem qX{K:PySem.W.Frag}{G:Hp}{L:List Addr}:∀{ns:List Int} {vs:List V},Ρ K G L (ns.map Dt.int) vs->vs=ns.map V.int
 | [],_,h=>h
 | _::_,_,⟨v,r,e,h1,h2⟩=>by have h1:v=_:=h1;rw [e,h1,qX h2];rfl
theorem mO{M:Ms}{d:Dt}{xs:List Dt}{ok:Ms->Prop}(h:kF M d=some (xs,ok)):kC M d=some xs:=by
 cases d with
 | lst ds=>cases h;rfl
 | iV ns=>cases h;rfl
 | loc k=>
  have h:(match M[k]? with | some (.lst xs)=>some (xs,λM':Ms=>M'[k]? =some (.lst xs)) | _=>none)=some (xs,ok):=h;show (match M[k]? with | some (.lst xs)=>some xs | _=>none)=some xs;split at h
  ·rename_i ys hm;cases h;rfl
  ·cases h
 | _=>cases h
theorem T6{K:PySem.W.Frag}:AI K (Ri K) N7:=by
 intro G0 L0 H0 G L M H vs ds q e r n h;unfold N7 at h;split at h
 ·rename_i d;obtain ⟨v,rfl,n1⟩:=aT n;obtain ⟨ns,hs,⟨xs,ok,hl⟩,hq⟩:=h;obtain ⟨a,us,rfl,sq,sr,aG⟩:=rz r n1 hl;rw [mO hl] at hs;cases hs;obtain ⟨ws,Xc,dn⟩:=sr.at_ G L M H (.refl _) (.refl _) r aG;rw [qX dn] at Xc;exact ⟨a,ns,rfl,Xc, .int ns.sum,G,L,M,e,r,rfl,hq⟩
 ·exact h.elim
theorem Dz:bootBuiltins "sum"=some (.builtin "sum"):=by decide+kernel
theorem Ac:bootBuiltins "enumerate"=some (.type "enumerate"):=by decide+kernel
section
variable{X:Cx}{R:St->XK}{e a b:Expr}{t:DA}{ta tb:DE}{p pos:Pos}
theorem LL(hm:X.mg "sum"=none)(ha:JA X R [e] t)(hc:X.calm=true:=by rfl)(hg:Gl X "sum":=by rfl)(he:starEach [e] X.env=(false,eval e X.env)::starEach [] X.env:=by rfl)(fF:(backTo pos (starEach [] X.env)).any (·.1)=false:=by rfl):JE X R (.Call (.Name "sum" p) [e] [] pos) (zf N7 t):=
 fD (FV hc) T6 hm Dz ha hg (by decide) (by decide) he fF
def Qq:Dt->Dt->Ms->DQ->Prop:=λd e M q=>∃u xs us,Bu d=some u/\kC M e=some xs/\gD xs=some us/\q (.bl (Nd u us)) M
def CB:Dt->Dt->Ms->DQ->Prop:=λd e M q=>∃u xs us,Bu d=some u/\kC M e=some xs/\gD xs=some us/\q (.bl (!Nd u us)) M
theorem Uv{K:PySem.W.Frag}:ou K (S3 K false) Qq:=by intro G0 L0 H0 G L M H v1 v2 d1 d2 q e r n1 n2 ⟨u,xs,us,h1,h2,h3,hq⟩;obtain ⟨rfl,fu⟩:=qB h1 n1;obtain ⟨a,vs,rfl,sq,dn⟩:=l' r n2 h2;obtain ⟨rfl,fs⟩:=eE h3 dn;exact ⟨a,vs,rfl,sq,fu,fs, .bl _,G,L,M,e,r,rfl,hq⟩
theorem KU{K:PySem.W.Frag}:ou K (S3 K true) CB:=by intro G0 L0 H0 G L M H v1 v2 d1 d2 q e r n1 n2 ⟨u,xs,us,h1,h2,h3,hq⟩;obtain ⟨rfl,fu⟩:=qB h1 n1;obtain ⟨a,vs,rfl,sq,dn⟩:=l' r n2 h2;obtain ⟨rfl,fs⟩:=eE h3 dn;exact ⟨a,vs,rfl,sq,fu,fs, .bl _,G,L,M,e,r,rfl,hq⟩
theorem IC(ja:JE X R a ta)(jb:JE X R b tb)(hm:behindInMarks .In b=false:=by rfl):JT X R (.Compare a [.In] [b] pos) (oQ (kI Qq ta tb)):=jW Dw Uv ja jb hm
theorem sP(ja:JE X R a ta)(jb:JE X R b tb)(hm:behindInMarks .NotIn b=false:=by rfl):JT X R (.Compare a [.NotIn] [b] pos) (oQ (kI CB ta tb)):=jW vJ KU ja jb hm
end
theorem Inv.sZ{X:Cx}{ε:List (Addr×Obj)}{σ:St}{H:Hp}{s:Shared}{h':Heap}{its:List Addr}{T:Addr}{o:HO}{t':Nat}(I:Inv X ε σ H s)(k:∀b u,b∉its->s.heap.get? b=some u->h'.get? b=some u)(f:∀b∈its,lQ X ε H b)(hT:s.heap.objs.size<=T)(new:bD X.prog X.w (upd H T o) h' T o):
  Inv X ε σ (upd H T o) {s with heap:=h',toks:=t'}:=by
 have hn:=I.aG.fresh hT;have PY:∀b u,H b=some u->b∉its:=λb u e z=>by rw [(f b z).1] at e;cases e
 refine I.call (ch:=its) (g':=s.gens) (d':=s.drawn) (t':=t') ⟨λb u q _ _ hb=>k b u hb q,λb u q _ _ hb=>⟨u.slots,k b u hb q⟩,λb u q n _=> ?_,λb u q hb=>⟨u,k b u hb q⟩,λb xs q=> ?_,λb u xs q=> ?_,λb ps q=>⟨#[], ?_⟩⟩ (λb u e=> ?_) I.bare λb hb=> ?_
 ·rw [ψ (aaz (aap (Heap.lt_size q) hT))];exact n
 ·rw [ψ (bx q hn)];exact q
 ·rw [ψ (bx q hn)];exact q
 ·rw [ψ (bx q hn),q];simp
 ·by_cases hb:b=T
  ·subst hb;rw [Κ] at e;cases e;exact new
  ·rw [ψ hb] at e;refine (I.aG b u e).Ap (λc v hc q=>k c v ?_ q) (λc q=>by rw [ψ (bx q hn)];exact q) λc xs q=>by rw [ψ (bx q hn)];exact q
   rcases hc with z | z
   ·rw [z];exact PY b u e
   ·exact PY c _ z
 ·obtain ⟨f0,f1,f2,f3,f4,f5⟩:=f b hb;exact ⟨f3,f1,f4,f5⟩
def Xk(K:PySem.W.Frag)(l:Addr):It:=
 ⟨λi H=>∃xs x,gQ K H l xs/\xs[i]? =some x,λi H v H'=>∃p x,H p=none/\v= .ref p/\H'=upd H p (.tup [.int i,x])/\∀xs,gQ K H l xs->xs[i]? =some x,λi H=>∃xs,gQ K H l xs/\xs.length<=i⟩
theorem EG{P:Program}{w:World}{K:PySem.W.Frag}{elts:List Expr}{x1:Nat}{tp:Pos}(l it e:Addr)(iT:e≠it):Turn P w K (.Tuple elts x1 tp) (Xk K l) [e,it] e (λi h=>(∃old,IsEnum h e it i old)/\h.IsListIter it l i) where
 mem:=by simp
 obj:=λi h st b hb=>by
  obtain ⟨⟨old,he⟩,hi⟩:=st;rcases aay.mp hb with rfl | hb
  ·exact ⟨_,he,λv z=>by
    have z':Data.fields _=Data.cell v:=z
    cases z'⟩
  ·have e:b=it:=by simpa using hb
   subst e;obtain ⟨o,e,c,d⟩:=hi;exact ⟨o,e,λv z=>by rw [d] at z;cases z⟩
 keep:=λi h h' st k=>by obtain ⟨⟨old,he⟩,hi⟩:=st;exact ⟨⟨old,k e (by simp) _ he⟩,hi.at λo q=>k it (by simp) o q⟩
 item:=by
  intro X hP hw hK hc i ε s σ H E I hf st hg;subst hP hw hK;obtain ⟨⟨old,he⟩,hi⟩:=st;obtain ⟨xs,x,hq,hx⟩:=hg;obtain ⟨its,rv,p,hz⟩:=I.list hq;obtain ⟨u,hu,ru⟩:=rv.get hx;refine wpAny_pyNext_enum_item he hi p.isList (x:=u) (by simpa using hu) iT λh' ho tm hT hsz hk=> ?_;refine ⟨_,rfl,wpAny_letOwnedTupleGo_enum (s:={s with heap:=h',toks:=s.toks+1}) ho λh2 he2 sb=> ?_⟩;have sb:Heap.SameBut e h' h2:=sb;have elt:e < s.heap.objs.size:=Heap.lt_size he;have ilt:it < s.heap.objs.size:=by obtain ⟨o,q,_⟩:=hi;exact Heap.lt_size q
  have neT:s.heap.objs.size≠e:=abO elt;have hT2:h2.get? s.heap.objs.size=some {cls:= .type "tuple",data:= .seq #[.int i s.toks,u]}:=(sb.2 _ neT).trans hT;have I2:Inv X ε σ (upd H s.heap.objs.size (.tup [.int i,x])) {s with heap:=h2,toks:=s.toks+1}:=by
   refine I.sZ (its:=[e,it]) (λb o hb q=> ?_) hf (aaj _) ?_
   ·have h1:b≠e:=λz=>hb (by simp [z]);have h3:b≠it:=λz=>hb (by simp [z]);exact (sb.2 b h1).trans (hk b o h1 h3 q)
   ·refine ⟨by simp [sizeLine_eq],[.int i s.toks,u], .cons ⟨_,rfl⟩ (.cons ru .nil), ?_⟩;exact ⟨_,hT2,rfl,0,rfl⟩
  have iter:h2.IsListIter it l (i+1):=tm.at λo q=>(sb.2 it (Ne.symm iT)).trans q;refine ⟨.ref s.heap.objs.size,_,I2,rfl,⟨s.heap.objs.size,x,I.aG.fresh (Nat.le_refl _),rfl,rfl,λys hy=>by rw [I.mr hy hq];exact hx⟩,⟨⟨u,by simpa using he2⟩,iter⟩,λb hb=> ?_⟩;have nb:b≠s.heap.objs.size:=by
   rcases aay.mp hb with rfl | hb
   ·exact aaz elt
   ·have:b=it:=by simpa using hb
    subst this;exact aaz ilt
  rw [ψ nb];exact (hf b hb).1
 done:=by intro X hP hw hK hc i ε s σ H E I hf st hg;subst hP hw hK;obtain ⟨⟨old,he⟩,hi⟩:=st;obtain ⟨xs,hq,hx⟩:=hg;obtain ⟨its,rv,p,hz⟩:=I.list hq;have hl:=rv.length;obtain ⟨f0,f1,f2,f3,f4,f5⟩:=hf it (by simp);refine wpAny_pyNext_enum_end (I.ok.hd hc) he hi p.isList (by simp;omega) λh' ext=>⟨rfl,I.turned (t':=s.toks) (λb o hb q=>ext b o hb q) f0 f1 f3 f4 f5⟩
 self:=λ_ _ _ _ _ st h=>by obtain ⟨⟨old,he⟩,_⟩:=st;exact wpAny_pyIter_enum he h
def iw:Nat->List Dt->List Dt
 | _,[]=>[]
 | n,x::xs=> .tup [.int n,x]::iw (n+1) xs
theorem iK:∀(n:Nat) (xs:List Dt),(iw n xs).length=xs.length
 | _,[]=>rfl
 | n,_::xs=>by unfold iw;rw [List.length_cons,List.length_cons,iK]
theorem nE:∀{n i:Nat} {xs:List Dt} {d:Dt},(iw n xs)[i]? =some d->∃x,xs[i]? =some x/\d= .tup [.int ((n+i:Nat):Int),x]
 | n,i,[],d,h=>by simp [iw] at h
 | n,0,x::xs,d,h=>by unfold iw at h;simp at h;exact ⟨x,rfl,by rw [<-h];simp⟩
 | n,i+1,x::xs,d,h=>by unfold iw at h;obtain ⟨y,h1,h2⟩:=nE (n:=n+1) (i:=i) (xs:=xs) (d:=d) (by simpa using h);exact ⟨y,by simpa using h1,by rw [h2,show n+1+i=n+(i+1) by omega]⟩
theorem Iz{K:PySem.W.Frag}{G:Hp}{L:List Addr}{a:Addr}{xs:List Dt}{ok:Ms->Prop}(s:Src K a xs ok G L):K0 K (Xk K a) (iw 0 xs) ok G L where
 go:=λi G1 L1 M1 H1 d g l r k e=>by obtain ⟨vs,hs,n⟩:=s.at_ G1 L1 M1 H1 g l r k;obtain ⟨y,ey,rfl⟩:=nE e;obtain ⟨v,e1,n1⟩:=n.get ey;refine ⟨⟨vs,v,hs,e1⟩,λv' H' ⟨p,x,hp,ev,eH,hx⟩=> ?_⟩;subst ev eH;have e2:=hx vs hs;rw [e1] at e2;cases e2;refine ⟨_,r.Pb hp,r.KA hp,pk (ds:=[.int ((0+i:Nat):Int),y]) r hp ⟨_,_,rfl, ?_,_,_,rfl,n1,rfl⟩⟩;show V.int i=V.int _;rw [Nat.zero_add]
 stop:=λi G1 L1 M1 H1 g l r k e=>by obtain ⟨vs,hs,n⟩:=s.at_ G1 L1 M1 H1 g l r k;exact ⟨vs,hs,by rw [<-n.length,<-iK 0];exact e⟩
def PU(t:DA):DK:=λρ M q x=>t ρ M (λds M1=>∃d xs ok,ds=[d]/\kF M1 d=some (xs,ok)/\q (iw 0 xs) ok M1) x
theorem uH{X:Cx}{R:St->XK}{elts:List Expr}{x1:Nat}{tp:Pos}{a:Expr}{t:DA}{p pos:Pos}(hm:X.mg "enumerate"=none)(ha:JA X R [a] t)(hg:Gl X "enumerate":=by rfl)(hs:starEach [a] X.env=[(false,eval a X.env)]:=by rfl):JK X R (.Tuple elts x1 tp) (.Call (.Name "enumerate" p) [a] [] pos) (PU t):=by
 intro ε s σ H Q I ⟨G,L,ρ,M,q,x,rl,n,ht,hx,hQ⟩;refine Call_ (lK I hg hm Ac (PyProof.Rows.callWith_type1 (aS (ha pos ε s σ H (Lg X.K G L H _) I ⟨G,L,ρ,M,_,x,rl,n,ht,hx,λ_ _ f=>f⟩) λus s1 ⟨vs,H1,I1,rv,ds,G1,L1,M1,e1,r1,n1,d,xs,ok,ed,hl,h1⟩=> ?_) hs rfl));subst ed;obtain ⟨v,rfl,n2⟩:=aT n1;obtain ⟨b,ws,rfl,sq,sr,_⟩:=rz r1 n2 hl;obtain ⟨u,rfl,ru⟩:=ao.one rv;cases ru;obtain ⟨its,_,pl,_⟩:=I1.list sq;refine call_enumerate_list pl.isList λh' he hi hz hk=> ?_;have I2:Inv X ε σ H1 {s1 with heap:=h'}:=I1.kept (t':=s1.toks) hk;refine wpAny_pyIter_enum (s:={s1 with heap:=h'}) he ⟨s1.heap.objs.size+1,[s1.heap.objs.size+1,s1.heap.objs.size],_,_,H1,rfl,I2,EG b s1.heap.objs.size (s1.heap.objs.size+1) (abO (aa8 _)),⟨⟨_,he⟩,hi⟩,λc hc=> ?_,hQ _ _ ⟨_,ok,G1,L1,M1,e1,r1,Iz sr,h1⟩⟩;have hc:s1.heap.objs.size<=c:=by
  rcases aay.mp hc with rfl | hc
  ·exact Nat.le_succ _
  ·have:c=s1.heap.objs.size:=by simpa using hc
   rw [this];exact aaj _
 have f:=I1.z_ (H':=H1) hc (I1.aG.fresh hc);exact f
def BF(M:Ms):Dt->Option Value
 | .loc k=>match M[k]? with
  | some (.lst _)=>some (.type "list")
  | _=>none
 | d=>Ln d
def LA(K:PySem.W.Frag):List Dt->Ms->DQ->Prop:=λds M q=>∃d c t t' b,ds=[d,c]/\BF M d=some t/\Si c=some t'/\PySem.W.kitOne K t t'=some b/\q (.bl b) M
section
variable{K:PySem.W.Frag}
theorem A9{G:Hp}{L:List Addr}{M:Ms}{H:Hp}{d:Dt}{v:V}{t:Value}(r:Rl K G L M H)(n:Den K G L d v)(h:BF M d=some t):kD K H v t:=by
 by_cases hd:∃k,d= .loc k
 ·obtain ⟨k,rfl⟩:=hd;obtain ⟨a,rfl,e⟩:=n;have h:(match M[k]? with | some (.lst _)=>some (Value.type "list") | _=>none)=some t:=h;split at h
  ·rename_i xs hm;cases h;obtain ⟨_,vs,e1,_⟩:=r.d9 k a _ e hm;exact .lst e1
  ·cases h
 ·refine Eo r n ?_;cases d with
  | loc k=>exact absurd ⟨k,rfl⟩ hd
  | _=>exact h
theorem Rm:AI K (λxs H Q=>∃x c t t' b,xs=[x,c]/\kD K H x t/\Kh c=some t'/\PySem.W.kitOne K t t'=some b/\Q (.bl b) H) (LA K):=by intro G0 L0 H0 G L M H vs ds q e r n ⟨d,c,t,t',b,ed,h1,h2,hb,h⟩;subst ed;obtain ⟨v,u,rfl,n1,n2⟩:=e7 n;exact ⟨v,u,t,t',b,rfl,A9 r n1 h1,JN n2 h2,hb,bc e r h⟩
end
section
variable{X:Cx}{R:St->XK}{e e2:Expr}{t:DA}{p pos:Pos}
theorem u6(K:PySem.W.Frag)(hm:X.mg "isinstance"=none)(ha:JA X R [e,e2] t)(he:starEach [e,e2] X.env=(false,eval e X.env)::starEach [e2] X.env:=by rfl)(fF:(backTo pos (starEach [e2] X.env)).any (·.1)=false:=by rfl)(hg:Gl X "isinstance":=by rfl)(hK:X.K=K:=by rfl):JE X R (.Call (.Name "isinstance" p) [e,e2] [] pos) (zf (LA K) t):=by subst hK;exact fD xM Rm hm mY ha hg (by decide) (by decide) he fF
theorem sU:∀{zs:List Str} {us:List Value},Paired (λ(z:Str) (u:Value)=>∃tk,u= .str z tk) zs us->ao (zs.map V.str) us
 | _,_, .nil=> .nil
 | _,_, .cons h t=> .cons h (sU t)
theorem Gj{x:Str}{zs:List Str}(hm:∃a o its n,X.mg x=some (.ref a)/\X.K.lookup a=some o/\o.cls= .type "tuple"/\o.data= .seq its n/\its.size<=sizeLine/\Paired (λ(z:Str) (u:Value)=>∃tk,u= .str z tk) zs its.toList)(hg:Gl X x:=by rfl)(hd:(x==("__debug__":Str))=false:=by decide):JE X R (.Name x pos) (dC (.kt (zs.map .str))):=by obtain ⟨a,o,its,n,h1,h2,h3,h4,h5,h6⟩:=hm;exact NL (v:= .ref a) (BX hg h1 rfl hd) λG L=>⟨a,zs.map V.str,rfl, .inr ⟨o,its,n,h2,h3,h4,h5,sU h6⟩,tJ⟩
end
theorem fH{te:DE}{cs:En}{ok:Ms->Prop}{f:Dt->Dt}:∀{xs Ε:List Dt} {M:Ms} {k:List Dt->Ms->Prop},ok M->(∀x∈xs,∀q:DQ,q (f x) M->te (some x::cs) M q mQ)->k (Ε++xs.map f) M->sO te cs ok xs Ε M k
 | [],Ε,M,k,ho,_,h=>⟨ho,by simpa using h⟩
 | x::xs,Ε,M,k,ho,hf,h=>⟨ho,hf x List.mem_cons_self _ (fH ho (λy hy=>hf y (List.mem_cons_of_mem _ hy)) (by simpa using h))⟩
theorem bJ{g:Dt->En->(En->Prop)->Prop}{tb:DS}{Dn:kG}{ok:Ms->Prop}(J:List Dt->En->Ms->Prop)(aG:∀xs ρ M,J xs ρ M->ok M)
  (step:∀x xs ρ M,J (x::xs) ρ M->(∀ρ M,J xs ρ M->va g tb Dn ok xs ρ M)->g x ρ λρ'=>tb {Dn with nx:=va g tb Dn ok xs,ct:=va g tb Dn ok xs,bk:=Dn.nx} ρ' M)
  (fin:∀ρ M,J [] ρ M->Dn.nx ρ M):∀(xs:List Dt) (ρ:En) (M:Ms),J xs ρ M->va g tb Dn ok xs ρ M
 | [],ρ,M,h=>⟨aG _ _ _ h,fin _ _ h⟩
 | x::xs,ρ,M,h=>⟨aG _ _ _ h,step x xs ρ M h λρ' M' h'=>bJ J aG step fin xs ρ' M' h'⟩
section
variable{K:PySem.W.Frag}{G:Hp}{L:List Addr}
mutual
theorem Oz:∀(d:Dt) (v:V),Den K G L d v->d.under L.length
 | .br,_,_=>trivial
 | .bl _,_,_=>trivial
 | .int _,_,_=>trivial
 | .str _,_,_=>trivial
 | .tup ds,_,⟨a,vs,e,h1,h2⟩=>eT ds vs h2
 | .lst ds,_,⟨a,vs,e,h1,h2⟩=>eT ds vs h2
 | .obj C ns ds,_,⟨a,dx,vs,e,h1,hl,h2⟩=>eT ds vs h2
 | .loc k,_,⟨a,e,h1⟩=>(aag.mp h1).1
 | .ref _,_,_=>trivial
 | .ty _,_,_=>trivial
 | .iV _,_,_=>trivial
 | .kt ds,_,⟨a,vs,e,h1,h2⟩=>eT ds vs h2
 | .exc _ _ ds,_,⟨a,od,vs,e,h1,h2,h3,h4⟩=>eT ds vs h4
 | .PK _ _ _ _ ds,_,⟨vs,e,h2,h3,h4⟩=>eT ds vs h4
theorem eT:∀(ds:List Dt) (vs:List V),Ρ K G L ds vs->Dt.bf L.length ds
 | [],_,_=>trivial
 | d::ds,_,⟨v,r,e,h1,h2⟩=>⟨Oz d v h1,eT ds r h2⟩
end
theorem Rl.un{M:Ms}{H:Hp}(r:Rl K G L M H):∀m∈M,MO.under M.length m:=λm hm=>by
 obtain ⟨k,hk,e⟩:=aa2 hm;have em:M[k]? =some m:=by rw [aaa hk,e]
 have el:L[k]? =some (L[k]'(by rw [r.len];exact hk)):=aaa _;obtain ⟨_,q⟩:=r.d9 k _ m el em;rw [<-r.len];cases m with
 | lst ds=>obtain ⟨vs,_,h⟩:=q;exact eT _ _ h
 | ins C ns ds=>obtain ⟨dx,vs,_,_,h⟩:=q;exact eT _ _ h
 | cW ks ds=>obtain ⟨vs,_,_,h⟩:=q;exact eT _ _ h
 | raw u=>trivial
end
def q_(M0:Ms)(q:DQ):DQ:=λd M=>∃E d',M=M0++E/\ER M0.length E d d'/\q d' M0
theorem Fin.q_{K:PySem.W.Frag}{G0:Hp}{L0:List Addr}{M0:Ms}{H0:Hp}{q:DQ}{v:V}{H:Hp}(r0:Rl K G0 L0 M0 H0)(f:Fin K G0 L0 H0 (q_ M0 q) v H):Fin K G0 L0 H0 q v H:=by obtain ⟨d,G,L,M,ex,r,dn,E,d',e,fz,hq⟩:=f;exact Fin.wM r0 ⟨d,G,L,M,ex,r,dn,M0,E,d',e,rfl,r0.un,fz,hq⟩
def Rp(t:DE):DE:=λρ M q x=>t ρ M (q_ M q) x
theorem bL{X:Cx}{R:St->XK}{e:Expr}{t:DE}(h:JE X R e t):JE X R e (Rp t):= .of h λσ H G L ρ M q x rl n ht hx=>⟨G,L,ρ,M,_,x,rl,n,ht,hx,λv H1 f=>Fin.q_ rl f⟩
theorem Ju{M0:Ms}{q:DQ}{d:Dt}(hu:d.under M0.length)(h:q d M0):q_ M0 q d M0:=⟨[],d,by simp, .old hu,h⟩
theorem jS{M0 E:Ms}{q:DQ}{d d':Dt}(f:ER M0.length E d d')(h:q d' M0):q_ M0 q d (M0++E):=⟨E,d',rfl,f,h⟩
def fA(f:Expr->Option Dt):List Expr->Option (List Dt)
 | []=>some []
 | e::es=>match f e,fA f es with
  | some d,some ds=>some (d::ds)
  | _,_=>none
def fV:Nat->Expr->Option Dt
 | 0,e=>match e with
  | .Constant (.int i) _ _=>some (.int i)
  | .Constant (.str x) _ _=>some (.str x)
  | _=>none
 | n+1,e=>match e with
  | .Constant (.int i) _ _=>some (.int i)
  | .Constant (.str x) _ _=>some (.str x)
  | .Tuple es _ _=>if es.length<=100 then (fA (fV n) es).map .tup else none
  | .List es _=>if es.length<=100 then (fA (fV n) es).map .lst else none
  | _=>none
theorem zA{n:Nat}{e:Expr}{d:Dt}{es:List Expr}{env:Env}(h:fV n e=some d):starEach (e::es) env=(false,eval e env)::starEach es env:=by cases n <;> (unfold fV at h;split at h <;> first | rfl | cases h)
theorem jY{f:Expr->Option Dt}:∀{es:List Expr} {ds:List Dt},fA f es=some ds->ds.length=es.length
 | [],ds,h=>by cases h;rfl
 | e::es,ds,h=>by
  unfold fA at h;split at h
  ·rename_i d mH h1 h2;cases h;rw [aau,aau,jY h2]
  ·cases h
section
variable{X:Cx}{R:St->XK}
theorem qw{n:Nat}(ih:∀(e:Expr) (d:Dt),fV n e=some d->JE X R e (dC d)):∀(es:List Expr) (ds:List Dt),fA (fV n) es=some ds->JA X R es (λ_ M q _=>q ds M)
 | [],ds,h=>by cases h;exact η
 | e::es,ds,h=>by
  unfold fA at h;split at h
  ·rename_i d mH h1 h2;cases h;exact γ (ih e d h1) (qw ih es mH h2) (hs:=zA h1)
  ·cases h
theorem Ca{n:Nat}(h:n<=100):n<=sizeLine:=aaw h (by decide)
theorem JE.imp{e:Expr}{t t':DE}(h:JE X R e t)(hi:∀ρ M q x,t' ρ M q x->t ρ M q x):JE X R e t':= .of h λσ H G L ρ M q x rl n ht hx=>⟨G,L,ρ,M,q,x,rl,n,hi _ _ _ _ ht,hx,λ_ _ f=>f⟩
theorem cJ:∀(n:Nat) {e:Expr} {d:Dt},fV n e=some d->JE X R e (dC d)
 | 0,e,d,h=>by
  unfold fV at h;split at h
  ·cases h;exact υ
  ·cases h;exact jo
  ·cases h
 | n +1,e,d,h=>by
  unfold fV at h;split at h
  ·cases h;exact υ
  ·cases h;exact jo
  ·split at h
   ·rename_i es _ _ hl;cases hc:fA (fV n) es with
    | none=>rw [hc] at h;cases h
    | some ds=>
     rw [hc] at h;cases h;exact (gh (qw (λe d=>cJ n) es ds hc)).imp λρ M q x hq=>⟨Ca (by rw [jY hc];exact hl),hq⟩
   ·cases h
  ·split at h
   ·rename_i es _ hl;cases hc:fA (fV n) es with
    | none=>rw [hc] at h;cases h
    | some ds=>
     rw [hc] at h;cases h;exact (kH (qw (λe d=>cJ n) es ds hc)).imp λρ M q x hq=>⟨Ca (by rw [jY hc];exact hl),hq⟩
   ·cases h
  ·cases h
end
theorem DH:bootBuiltins "zip"=some (.type "zip"):=by decide+kernel
theorem Inv.JM{X:Cx}{ε:List (Addr×Obj)}{σ:St}{H:Hp}{s:Shared}{h':Heap}{its:List Addr}{t':Nat}(I:Inv X ε σ H s)(k:∀b u,b∉its->s.heap.get? b=some u->h'.get? b=some u)(f:∀b∈its,lQ X ε H b):
  Inv X ε σ H {s with heap:=h',toks:=t'}:=by
 have PY:∀b u,H b=some u->b∉its:=λb u e z=>by rw [(f b z).1] at e;cases e
 refine I.call (ch:=its) (g':=s.gens) (d':=s.drawn) (t':=t') ⟨λb u q _ _ hb=>k b u hb q,λb u q _ _ hb=>⟨u.slots,k b u hb q⟩,λb u q n _=>n,λb u q hb=>⟨u,k b u hb q⟩,λb xs q=>q,λb u xs q=>q,λb ps q=>⟨#[],by rw [q];simp⟩⟩ (λb u e=> ?_) I.bare λb hb=> ?_
 ·refine (I.aG b u e).Ap (λc v hc q=>k c v ?_ q) (λc q=>q) λc xs q=>q;rcases hc with z | z
  ·rw [z];exact PY b u e
  ·exact PY c _ z
 ·obtain ⟨f0,f1,f2,f3,f4,f5⟩:=f b hb;exact ⟨f3,f1,f4,f5⟩
def Xo(K:PySem.W.Frag)(l1 l2:Addr):It:=
 ⟨λi H=>∃xs ys x y,gQ K H l1 xs/\gQ K H l2 ys/\xs[i]? =some x/\ys[i]? =some y,
  λi H v H'=>∃p x y,H p=none/\v= .ref p/\H'=upd H p (.tup [x,y])/\(∀xs,gQ K H l1 xs->xs[i]? =some x)/\∀ys,gQ K H l2 ys->ys[i]? =some y,
  λi H=>∃xs ys,gQ K H l1 xs/\gQ K H l2 ys/\(xs.length<=i\/ys.length<=i)⟩
theorem GS{P:Program}{w:World}{K:PySem.W.Frag}{elts:List Expr}{x1:Nat}{tp:Pos}{l1 l2 i1 i2 TI TO z:Addr}(D:ZipApart z TI TO i1 i2 l1 l2):Turn P w K (.Tuple elts x1 tp) (Xo K l1 l2) [z,TI,TO,i1,i2] z (λi h=>(∃a b,IsZip h z TI TO .none/\IsPair h TI (.ref i1) (.ref i2)/\IsPair h TO a b)/\h.IsListIter i1 l1 i/\h.IsListIter i2 l2 i) where
 mem:=by simp
 obj:=λi h st b hb=>by
  obtain ⟨⟨a,c,hz,GC,I0⟩,h1,h2⟩:=st;simp only [List.mem_cons,List.not_mem_nil,or_false] at hb;rcases hb with rfl | rfl | rfl | rfl | rfl
  ·exact ⟨_,hz,λv z=>by
    have z':Data.fields _=Data.cell v:=z
    cases z'⟩
  ·exact ⟨_,GC,λv z=>by
    have z':Data.seq _=Data.cell v:=z
    cases z'⟩
  ·exact ⟨_,I0,λv z=>by
    have z':Data.seq _=Data.cell v:=z
    cases z'⟩
  ·obtain ⟨o,e,c,d⟩:=h1;exact ⟨o,e,λv z=>by rw [d] at z;cases z⟩
  ·obtain ⟨o,e,c,d⟩:=h2;exact ⟨o,e,λv z=>by rw [d] at z;cases z⟩
 keep:=λi h h' st k=>by obtain ⟨⟨a,c,hz,GC,I0⟩,h1,h2⟩:=st;exact ⟨⟨a,c,k z (by simp) _ hz,k TI (by simp) _ GC,k TO (by simp) _ I0⟩,h1.at λo q=>k i1 (by simp) o q,h2.at λo q=>k i2 (by simp) o q⟩
 item:=by
  intro X hP hw hK hc i ε s σ H E I hf st hg;subst hP hw hK;obtain ⟨⟨a,c,hz,GC,I0⟩,h1,h2⟩:=st;obtain ⟨xs,ys,x,y,Rj,O3,hx,hy⟩:=hg;obtain ⟨Uh,V8,p1,_⟩:=I.list Rj;obtain ⟨u1,ZT,ru1⟩:=V8.get hx;obtain ⟨GQ,Wy,p2,_⟩:=I.list O3;obtain ⟨u2,hu2,ru2⟩:=Wy.get hy;refine wpAny_pyNext_zip_item D hz GC I0 h1 h2 p1.isList p2.isList (x:=u1) (y:=u2) (by simpa using ZT) (by simpa using hu2) λh' hz' Ub Ud ZQ hT hsz hk=> ?_;refine ⟨_,rfl,wpAny_letOwnedTupleGo_zip (s:={s with heap:=h'}) hz' λh3 Zu sb=> ?_⟩;have sb:Heap.SameBut z h' h3:=sb;have Yi:z < s.heap.objs.size:=Heap.lt_size hz;have neT:s.heap.objs.size≠z:=abO Yi;have Yz:h3.get? s.heap.objs.size=some {cls:= .type "tuple",data:= .seq #[u1,u2]}:=(sb.2 _ neT).trans hT;have lt:∀b∈[z,TI,TO,i1,i2],b < s.heap.objs.size:=λb hb=>by
   simp only [List.mem_cons,List.not_mem_nil,or_false] at hb;rcases hb with rfl | rfl | rfl | rfl | rfl
   ·exact Yi
   ·exact Heap.lt_size GC
   ·exact Heap.lt_size I0
   ·obtain ⟨o,q,_⟩:=h1;exact Heap.lt_size q
   ·obtain ⟨o,q,_⟩:=h2;exact Heap.lt_size q
  have I2:Inv X ε σ (upd H s.heap.objs.size (.tup [x,y])) {s with heap:=h3,toks:=s.toks}:=by
   refine I.sZ (its:=[z,TI,TO,i1,i2]) (λb o hb q=> ?_) hf (aaj _) ?_
   ·simp only [List.mem_cons,List.not_mem_nil,or_false,not_or] at hb;obtain ⟨b1,b2,b3,b4,b5⟩:=hb;exact (sb.2 b b1).trans (hk b o b1 b3 b4 b5 q)
   ·refine ⟨by simp [sizeLine_eq],[u1,u2], .cons ru1 (.cons ru2 .nil), ?_⟩;exact ⟨_,Yz,rfl,0,rfl⟩
  refine ⟨.ref s.heap.objs.size,_,I2,rfl,⟨s.heap.objs.size,x,y,I.aG.fresh (aaj _),rfl,rfl,λzs VX=>by rw [I.mr VX Rj];exact hx,λzs VX=>by rw [I.mr VX O3];exact hy⟩,⟨⟨u1,u2,Zu,(sb.2 _ D.TIz).trans (hk _ _ D.TIz D.TITO D.TIi1 D.TIi2 GC),(sb.2 _ D.TOz).trans Ub⟩,Ud.at λo q=>(sb.2 i1 D.i1z).trans q,ZQ.at λo q=>(sb.2 i2 D.i2z).trans q⟩,λb hb=> ?_⟩;rw [ψ (aaz (lt b hb))];exact (hf b hb).1
 done:=by intro X hP hw hK hc i ε s σ H E I hf st hg;subst hP hw hK;obtain ⟨⟨a,c,hz,GC,I0⟩,h1,h2⟩:=st;obtain ⟨xs,ys,Rj,O3,hx⟩:=hg;obtain ⟨Uh,V8,p1,_⟩:=I.list Rj;obtain ⟨GQ,Wy,p2,_⟩:=I.list O3;have V3:=V8.length;have Dc:=Wy.length;refine wpAny_pyNext_zip_end (I.ok.hd hc) D hz GC I0 h1 h2 p1.isList p2.isList (by rcases hx with hx | hx;(left;simp;omega);(right;simp;omega)) λh' ext=>⟨rfl,I.JM (t':=s.toks) (its:=[z,TI,TO,i1,i2]) (λb o hb q=> ?_) hf⟩;simp only [List.mem_cons,List.not_mem_nil,or_false,not_or] at hb;obtain ⟨b1,b2,b3,b4,b5⟩:=hb;exact ext b o b1 b3 b4 b5 q
 self:=λ_ _ _ _ _ st h=>by obtain ⟨⟨a,c,hz,_,_⟩,_⟩:=st;exact wpAny_pyIter_zip hz h
def oP(xs ys:List Dt):List Dt:=(xs.zip ys).map λp=> .tup [p.1,p.2]
theorem FU{xs ys:List Dt}{i:Nat}{d:Dt}(h:(oP xs ys)[i]? =some d):∃x y,xs[i]? =some x/\ys[i]? =some y/\d= .tup [x,y]:=by
 unfold oP at h;rw [aao] at h;cases e:(xs.zip ys)[i]? with
 | none=>rw [e] at h;cases h
 | some p=>
  rw [e] at h;cases h;obtain ⟨h1,h2⟩:=List.getElem?_zip_eq_some.mp e;exact ⟨p.1,p.2,h1,h2,rfl⟩
theorem ym(xs ys:List Dt):(oP xs ys).length=min xs.length ys.length:=by unfold oP;rw [List.length_map,List.length_zip]
theorem J9{K:PySem.W.Frag}{G:Hp}{L:List Addr}{a b:Addr}{xs ys:List Dt}{ok Jj:Ms->Prop}(s:Src K a xs ok G L)(s':Src K b ys Jj G L):K0 K (Xo K a b) (oP xs ys) (λM=>ok M/\Jj M) G L where
 go:=λi G1 L1 M1 H1 d g l r k e=>by obtain ⟨vs,hs,n⟩:=s.at_ G1 L1 M1 H1 g l r k.1;obtain ⟨SJ,Th,n'⟩:=s'.at_ G1 L1 M1 H1 g l r k.2;obtain ⟨x,y,ex,ey,rfl⟩:=FU e;obtain ⟨v,e1,n1⟩:=n.get ex;obtain ⟨v',X4,n1'⟩:=n'.get ey;refine ⟨⟨vs,SJ,v,v',hs,Th,e1,X4⟩,λw H' ⟨p,x2,y2,hp,ev,eH,hx,hy⟩=> ?_⟩;subst ev eH;have e2:=hx vs hs;rw [e1] at e2;cases e2;have e3:=hy SJ Th;rw [X4] at e3;cases e3;exact ⟨_,r.Pb hp,r.KA hp,pk (ds:=[x,y]) r hp ⟨_,_,rfl,n1,_,_,rfl,n1',rfl⟩⟩
 stop:=λi G1 L1 M1 H1 g l r k e=>by obtain ⟨vs,hs,n⟩:=s.at_ G1 L1 M1 H1 g l r k.1;obtain ⟨SJ,Th,n'⟩:=s'.at_ G1 L1 M1 H1 g l r k.2;refine ⟨vs,SJ,hs,Th, ?_⟩;rw [<-n.length,<-n'.length];rw [ym] at e;omega
def V4(t:DA):DK:=λρ M q x=>t ρ M (λds M1=>∃d d' xs ys ok Jj,ds=[d,d']/\kF M1 d=some (xs,ok)/\kF M1 d'=some (ys,Jj)/\q (oP xs ys) (λM=>ok M/\Jj M) M1) x
theorem zT{X:Cx}{R:St->XK}{elts:List Expr}{x1:Nat}{tp:Pos}{a a':Expr}{t:DA}{p pos:Pos}(hm:X.mg "zip"=none)(ha:JA X R [a,a'] t)(hg:Gl X "zip":=by rfl)(hs:starEach [a,a'] X.env=(false,eval a X.env)::starEach [a'] X.env:=by rfl)(fF:(backTo pos (starEach [a'] X.env)).any (·.1)=false:=by rfl):JK X R (.Tuple elts x1 tp) (.Call (.Name "zip" p) [a,a'] [] pos) (V4 t):=by
 intro ε s σ H Q I ⟨G,L,ρ,M,q,x,rl,n,ht,hx,hQ⟩;refine Call_ (lK I hg hm DH (PyProof.Rows.callWith_type1 (aS (ha pos ε s σ H (Lg X.K G L H _) I ⟨G,L,ρ,M,_,x,rl,n,ht,hx,λ_ _ f=>f⟩) λus s1 ⟨vs,H1,I1,rv,ds,G1,L1,M1,e1,r1,n1,d,d',xs,ys,ok,Jj,ed,hl,T',h1⟩=> ?_) hs fF));subst ed;obtain ⟨v,v',rfl,n2,n2'⟩:=e7 n1;obtain ⟨b,ws,rfl,sq,sr,_⟩:=rz r1 n2 hl;obtain ⟨b',ws',rfl,sq',sr',_⟩:=rz r1 n2' T';cases rv with
 | cons ru rv=>
  cases rv with
  | cons ru' rv=>
   cases rv;cases ru;cases ru';obtain ⟨its,_,pl,_⟩:=I1.list sq;obtain ⟨its',_,wL,_⟩:=I1.list sq';have YV:b < s1.heap.objs.size:=by obtain ⟨o,q,_⟩:=pl.isList;exact Heap.lt_size q
   have Zp:b' < s1.heap.objs.size:=by obtain ⟨o,q,_⟩:=wL.isList;exact Heap.lt_size q
   refine call_zip_2 pl.isList wL.isList λh' hz GC I0 hi tm hsz hk=> ?_;have I2:Inv X ε σ H1 {s1 with heap:=h'}:=I1.kept (t':=s1.toks) hk;have D:ZipApart (s1.heap.objs.size+4) (s1.heap.objs.size+2) (s1.heap.objs.size+3) s1.heap.objs.size (s1.heap.objs.size+1) b b':=by have ne:∀i j:Nat,i≠j->s1.heap.objs.size+i≠s1.heap.objs.size+j:=λi j h z=>h (Nat.add_left_cancel z);have n1:∀i:Nat,b≠s1.heap.objs.size+i:=λi=>aaz (aap YV (abC _ _));have n2:∀i:Nat,b'≠s1.heap.objs.size+i:=λi=>aaz (aap Zp (abC _ _));exact ⟨ne 2 4 (by decide),ne 3 4 (by decide),ne 0 4 (by decide),ne 1 4 (by decide),ne 2 3 (by decide),ne 2 0 (by decide),ne 2 1 (by decide),ne 3 0 (by decide),ne 3 1 (by decide),ne 0 1 (by decide),n1 4,n1 3,n1 0,n1 1,n2 4,n2 3,n2 0,n2 1⟩
   refine wpAny_pyIter_zip (s:={s1 with heap:=h'}) hz ⟨s1.heap.objs.size+4,[s1.heap.objs.size+4,s1.heap.objs.size+2,s1.heap.objs.size+3,s1.heap.objs.size,s1.heap.objs.size+1],_,_,H1,rfl,I2,GS D,⟨⟨_,_,hz,GC,I0⟩,hi,tm⟩,λc hc=> ?_,hQ _ _ ⟨_,_,G1,L1,M1,e1,r1,J9 sr sr',h1⟩⟩;have hc:s1.heap.objs.size<=c:=by
    simp only [List.mem_cons,List.not_mem_nil,or_false] at hc;rcases hc with rfl | rfl | rfl | rfl | rfl
    ·exact abC _ _
    ·exact abC _ _
    ·exact abC _ _
    ·exact aaj _
    ·exact abC _ _
   have f:=I1.z_ (H':=H1) hc (I1.aG.fresh hc);exact f
theorem oN(elt target iter c:Expr)(scope:Scope)(pos:Pos)(it Ε:Value)(env:Env):
  compTurn (.ListComp elt [⟨target,iter,[c],0⟩] scope pos) 0 it Ε env=(standAt iter.pos >>= λ_=>pyNext it >>= λr=>match r with
   | none=>pure (.done .next)
   | some v=>letOwnedTupleGo target it v >>= λ_=>assign target env v >>= λ_=>isTrue c env (eval c env) >>= λok=>
    (if ok=true then (eval elt env >>= λx=>call (.builtin "list.append") [Ε,x] >>= λ_=>pure ()) >>= λ_=>again (.compLoop (.ListComp elt [⟨target,iter,[c],0⟩] scope pos) 0 it Ε env)
     else again (.compLoop (.ListComp elt [⟨target,iter,[c],0⟩] scope pos) 0 it Ε env))):=by
 unfold compTurn;dsimp only [List.getElem?_cons_zero,List.getElem?_cons_succ,List.getElem?_nil];simp only [List.forIn_cons,List.forIn_nil,bind_assoc,pure_bind,if_true];rfl
structure ba(X:Cx)(scope:Scope)(xs ys:List Str)(caps:List Nat):Prop where
 kind:scope.kind= .function
 lx:∀p∈scope.names,p.2≠ .cell
 names:∀p∈scope.names,p.2= .local->scope.names.lookup p.1=some .local
 own:∀x∈xs,scope.names.lookup x=some .local
 free:∀p∈scope.names,p.2= .free->X.env.scope.names.lookup p.1=some .cell
 nd:(xs++ys).Nodup
 S4:∀q∈ys.zip caps,X.N[q.2]? =some q.1/\X.env.scope.names.lookup q.1=some .cell/\scope.names.lookup q.1=some .free
 len:ys.length=caps.length
theorem ba.has{X:Cx}{scope:Scope}{xs ys:List Str}{caps:List Nat}(S:ba X scope xs ys caps)(ok:X.Ok):∀p∈scope.names,p.2= .free->(X.env.cells.lookup p.1).isSome=true:=λp hp hf=>by obtain ⟨c,e⟩:=ok.has p.1 (.inl (S.free p hp hf));rw [e];rfl
def ue(n:Nat)(gg:TG):Prop:=∀v (os cs:St) H (Q:St->Hp->Prop),os.length=n->gg v (os++cs) H Q->gg v (os++cs) H λσ' H'=>(∃Te:St,Te.length=n/\σ'=Te++cs)/\Q σ' H'
theorem zD{n i:Nat}(h:i < n):ue n (gM i):=λv os cs H Q hl hq=>⟨⟨os.set i (some v),by rw [aa6];exact hl,abI _ _ (by omega)⟩,hq⟩
theorem tV{K:PySem.W.Frag}{n i j:Nat}(h:i < n)(h':j < n):ue n (F_ K 2 (mR (gM i) (mR (gM j) Il))):=
 λv os cs H Q hl ⟨a,xs,e,s,l,v1,r,e1,v2,r2,e2,e3,q⟩=>⟨a,xs,e,s,l,v1,r,e1,v2,r2,e2,e3,⟨(os.set i (some v1)).set j (some v2),by simp [hl],by
  rw [abI _ _ (by omega),abI _ _ (by rw [aa6];omega)]⟩,q⟩
def zY(J:It)(n:Nat)(gg:TG)(tc:TT)(te:TE)(cs:St)(Q:VK)(H1:Hp)(D:Addr):Prop:=
 ∃ W:Nat->Nat->List V->Hp->Prop,(∃m,W 0 m [] (upd H1 D (.lst [])))/\∀i m ys H2,W i m ys H2->H2 D=some (.lst ys)/\
  ((J.stop i H2/\Q (.ref D) H2)\/(J.go i H2/\∀x H3,J.Nn i H2 x H3->∀os:St,os.length=n->gg x (os++cs) H3 λσ' Vm=>tc σ' Vm λb H4=>match b with
   | true=>te σ' H4 λy H5=>H5 D=some (.lst ys)/\ys.length < sizeLine/\∃m',m' < m/\W (i+1) m' (ys++[y]) (upd H5 D (.lst (ys++[y])))
   | false=>∃m',m' < m/\W (i+1) m' ys H4))
def ME(wi:TI)(n:Nat)(gg:TG)(tc:TT)(te:TE)(caps:List Nat):TE:=λσ H Q=>wi σ H λJ H1=>∀D,H1 D=none->zY J n gg tc te (cc caps σ) Q H1 D
section
variable{X:Cx}{elt iter tg c:Expr}{xs:List Str}{scope:Scope}{pos:Pos}{wi:TI}{gg:TG}{tc:TT}{te:TE}{ys:List Str}{caps:List Nat}
theorem El(S:ba X scope xs ys caps)(hc:X.calm=true)(hg:∀C s H fp,PG (Cx.comp X (xs++ys) scope C s H fp) tg gg)(hk:ue xs.length gg)(ht:∀C s H fp,PT (Cx.comp X (xs++ys) scope C s H fp) c tc)(he:∀C s H fp,PE (Cx.comp X (xs++ys) scope C s H fp) elt te)
  {ε:List (Addr×Obj)} {σ:St} {H2:Hp} {s2:Shared} {it:Addr} {fp:List Addr} {tn:Nat->Heap->Prop} {J:It} {Q:V->Hp->Prop} {PQ:Value->Addr->Result->Shared->Prop} (I:Inv X ε σ H2 s2) (T:Turn X.prog X.w X.K tg J fp it tn) (t0:tn 0 s2.heap) (f2:∀b∈fp,lQ X ε H2 b)
  (h:∀D,H2 D=none->zY J xs.length gg tc te (cc caps σ) Q H2 D)
  (Pr:∀D C s' H',Inv X ε σ H' s'->Q (.ref D) H'->(∃m,s'.heap.Ns C m)->H' C=none->X.s₀.heap.objs.size<=C->C≠X.env.locals->(∀z c,X.env.cells.lookup z=some c->c≠C)->(∀p∈X.pn++ε,p.1≠C)->PQ (.ref D) C (.ok .next) s'):
  wpAny (model X.prog X.w) X.A (newList []) (λΕ s3=>wpAny (model X.prog X.w) X.A (newFunctionEnv scope X.env.globals (gZ X.env scope.names []) [] X.env.qual none .none (some X.env)) (λxQ s4=>
   codeAny (model X.prog X.w) X.A (.compStart (.ListComp elt [⟨tg,iter,[c],0⟩] scope pos) 0 (.ref it) Ε {xQ with scope:=relabel scope X.env}) (PQ Ε xQ.locals) s4) X.xe s3) X.xe s2:=by
 have hD:H2 s2.heap.objs.size=none:=I.fresh;obtain ⟨W,⟨m0,w0⟩,step⟩:=h _ hD;refine wpAny_newObj_type ?_;have I3:Inv X ε σ (upd H2 s2.heap.objs.size (.lst [])) {s2 with heap:=s2.heap.push {cls:= .type "list",data:= .seq ([]:List Value).toArray}}:=Inv.Fv (t':=s2.toks) I (ys:=[]) (its:=[]) .nil (abE _);generalize Su:upd H2 s2.heap.objs.size (.lst [])=H3 at I3 w0;generalize Rt:({s2 with heap:=s2.heap.push {cls:= .type "list",data:= .seq ([]:List Value).toArray}}:Shared)=s3 at I3;have Gh:∀b∈fp,H3 b=none:=λb hb=>by obtain ⟨o,e,_⟩:=T.obj _ _ t0 b hb;rw [<-Su,ψ (aaz (Heap.lt_size e))];exact (f2 b hb).1
 have t3:tn 0 s3.heap:=T.keep _ _ _ t0 λb hb o e=>by rw [<-Rt];exact Heap.get?_push_of_some _ e
 refine wpAny_newFunctionEnv S.lx (λy hy=>nomatch hy) (λh4 Qj RI=> ?_) S.kind;have hC:H3 s3.heap.objs.size=none:=I3.fresh
 have kp:∀b o,s3.heap.get? b=some o->h4.get? b=some o:=λb o e=>
  (RI.2 b (aaz (Heap.lt_size e))).trans (Heap.get?_push_of_some _ e)
 generalize II:({s3 with heap:=h4,toks:=s3.toks+([]:List (Str×Value)).length}:Shared)=s4;have e4:s4.heap=h4:=by rw [<-II]
 have D5:∀z c,X.env.cells.lookup z=some c->c≠s3.heap.objs.size:=λz c e q=>by obtain ⟨v,w⟩:=I3.cell z c e;exact aaY _ (q▸w.lt)
 have dw:∀z c,(gZ X.env scope.names []).lookup z=some c->X.env.cells.lookup z=some c:=λz c e=>ko scope.names [] (S.has I.ok) (λq=>nomatch q) e;have P4:s3.heap.objs.size≠X.env.locals:=abO I3.lt;have ok:(Cx.comp X (xs++ys) scope s3.heap.objs.size s3 H3 fp).Ok:=by
  refine ⟨I3.ok.mod,S.kind,I3.ok.glob,I3.ok.blt,aaj _,λz z' c e1 e2=>I3.ok.inj z z' c (dw z c e1) (dw z' c e2),λz hz=> ?_,λz c hz=>(by cases hz),I3.ok.hd,I3.ok.frames, .inl rfl,λb hb=>⟨?_,λz c e=> ?_⟩,I3.bs, ?_,λb o e hb=> ?_,λb hb hf=> ?_,I3.stack,I3.l7⟩
  ·have:=gA (env:=X.env) scope.names [] (.inl (vc S.lx hz));exact aaT.mp this
  ·obtain ⟨o,e,_⟩:=T.obj _ _ t3 b hb;exact aaz (Heap.lt_size e)
  ·exact (f2 b hb).2.2.2.2.1 z c (dw z c e)
  ·exact aaw I3.ok.sW I3.sz
  ·obtain ⟨_,_,_,hy,_⟩:=f2 b hb;have e0:=(I3.ok.bs b o e).1;rcases hy with hy | hy
   ·exact I3.ok.Fo b o e hy
   ·exact absurd (aap (Heap.lt_size e0) hy) (aaY _)
  ·obtain ⟨_,hl,Pj,_⟩:=f2 b hb;exact (aay.mp (I3.m_ b hf)).elim hl Pj
 have hlen:((List.replicate xs.length (none:Option V))++cc caps σ).length=(xs++ys).length:=by rw [aai,aai,aaD,S.len];unfold cc;rw [aae]
 have I4:Inv X ε σ H3 s4:=by rw [<-II];exact I3.kept kp
 have Ic:Inv (Cx.comp X (xs++ys) scope s3.heap.objs.size s3 H3 fp) [] ((List.replicate xs.length (none:Option V))++cc caps σ) H3 s4:=by
  refine ⟨ok,by rw [<-II];rfl,I4.bare,Un.kept (by rw [e4];exact kp),⟨_,by rw [e4];exact Qj,λi z v e1 e2 e3=> ?_⟩,λz c e=>I4.cell z c (dw z c e),hC,λz c e=>I4.kJ z c (dw z c e),(λp hp=>nomatch hp),I4.aG,hlen⟩;have e1:(xs++ys)[i]? =some z:=e1;by_cases hi:i < xs.length
  ·rw [aat (by rw [aaD];exact hi),abw,if_pos hi] at e2;cases e2
  ·obtain ⟨j,rfl⟩:∃j,i=xs.length+j:=⟨i - xs.length,by omega⟩;have e1:ys[j]? =some z:=by rw [aaq (by omega),abk] at e1;exact e1
   have e2:(cc caps σ)[j]? =some (some v):=by rw [aaq (by rw [aaD];omega),aaD,abk] at e2;exact e2
   unfold cc at e2;rw [aao] at e2;cases hi:caps[j]? with
   | none=>rw [hi] at e2;cases e2
   | some i=>
    rw [hi] at e2;have e2:(σ[i]?).join=some v:=aar e2;have e2:σ[i]? =some (some v):=by
     cases q:σ[i]? with
     | none=>rw [q] at e2;cases e2
     | some o=>rw [q] at e2;exact congrArg some e2
    obtain ⟨c1,c2,c3⟩:=S.S4 (z,i) (vt e1 hi);have c4:=mL (env:=X.env) I.ok.kind c2 c3;have c3:(z,NameKind.free)∈scope.names:=PySem.mem_of_lookup c3;obtain ⟨m,hn,hl⟩:=I4.loc;obtain ⟨u,r,lk⟩:=hl i z v c1 e2 (.inr (.inl c2));refine ⟨u,r, .inr ⟨.inl c4, ?_⟩⟩;rcases lk with ⟨k,_⟩ | ⟨_,c,uX,z'⟩
    ·exact absurd ((show X.env.scope.names.lookup z=some .local from k).symm.trans c2) (by decide)
    ·obtain ⟨d,hd⟩:=aaT.mp (gA (env:=X.env) scope.names [] (.inl c3));have:=dw z d hd;rw [uX] at this;cases this;exact ⟨c,hd,z'⟩
 have loop:codeAny (model X.prog X.w) X.A (.compLoop (.ListComp elt [⟨tg,iter,[c],0⟩] scope pos) 0 (.ref it) (.ref s2.heap.objs.size) (compEnvC scope (gZ X.env scope.names []) s3.heap.objs.size X.env)) (PQ (.ref s2.heap.objs.size) s3.heap.objs.size) s4:=by
  have GU:∀{H':Hp},(∀b∈fp,H' b=none)->∀b∈fp,lQ (Cx.comp X (xs++ys) scope s3.heap.objs.size s3 H3 fp) [] H' b:=λhn b hb=>
   ⟨hn b hb,(ok.Pd b hb).1,ok.G9 b hb, .inl hb,(ok.Pd b hb).2,(λp hp=>nomatch hp)⟩
  refine codeAny_loop rfl (λn s'=>∃(i:Nat) (zs:List V) (os:St) (H':Hp),os.length=xs.length/\Inv (Cx.comp X (xs++ys) scope s3.heap.objs.size s3 H3 fp) [] (os++cc caps σ) H' s'/\tn i s'.heap/\(∀b∈fp,H' b=none)/\W i n zs H') (λn s5 z=> ?_) m0 ⟨0,[],List.replicate xs.length none,H3,by rw [aaD],Ic,T.keep _ _ _ t3 (λb hb o e=>by rw [e4];exact kp b o e),Gh,w0⟩;obtain ⟨i,zs,os,H5,l5,I5,t5,Jh,w5⟩:=z;show wpAny _ _ ((compTurn _ 0 (.ref it) _ _).onRaise _) _ _ s5;refine wpAny_noted ?_;rw [oN];refine wpAny_bind (wpAny_standAt (wpAny_bind ?_));obtain ⟨gI,stop | go⟩:=step i n zs H5 w5
  ·obtain ⟨stop,q⟩:=stop;refine aS (T.done (Cx.comp X (xs++ys) scope s3.heap.objs.size s3 H3 fp) rfl rfl rfl hc i [] s5 _ H5 _ I5 (GU Jh) t5 stop) λr s6 ⟨hr,I6⟩=> ?_;subst hr;refine wpAny_pure (Pr _ _ s6 H5 ?_ q ?_ I6.free ?_ P4 D5 λp hp z=> ?_)
   ·refine I3.GO I6.os I6.base I6.aG I6.bare λb hb=> ?_;obtain ⟨_,g1,_,g3,g4,g5⟩:=f2 b hb;exact ⟨g3,g1,g4,g5⟩
   ·obtain ⟨m,hn,_⟩:=I6.loc;exact ⟨m,hn⟩
   ·exact I3.sz
   ·exact aaz (Heap.lt_size (I3.pin p hp).1) z
  ·obtain ⟨go,turn⟩:=go;refine aS (T.item (Cx.comp X (xs++ys) scope s3.heap.objs.size s3 H3 fp) rfl rfl rfl hc i [] s5 _ H5 _ I5 (GU Jh) t5 go) λr s6 ⟨u,hr,h6⟩=> ?_;subst hr;refine wpAny_bind (aS h6 λ_ s7 ⟨y,H7,I7,r7,y7,t7,Rr⟩=> ?_);have R0:=I7.pinned (GU Rr) (T.obj _ _ t7);refine wpAny_bind (wpAny_mono (hg _ _ _ _ _ s7 _ H7 y u _ R0 r7 (hk y os _ H7 _ l5 (turn y _ y7 os l5))) (λ_ s8 z8=> ?_) λ_ _ f=>f.elim);obtain ⟨σ8,H8,I8,⟨SS,l8,e8⟩,q8⟩:=z8;subst e8;refine wpAny_bind (wpAny_mono (ht _ _ _ _ _ s8 _ _ _ I8 q8) (λb s9 z9=> ?_) λ_ _ f=>f.elim);obtain ⟨H9,I9,q9⟩:=z9;cases b with
   | false=>
    obtain ⟨m9,Tr,w9⟩:=q9;refine wpAny_pure ⟨rfl,m9,Tr,i+1,zs,SS,_,l8,I9.fW,T.keep _ _ _ t7 λb hb o e=>(I9.pin (b,o) (aan _ (aan _ (bz hb e)))).1,λb hb=> ?_,w9⟩;obtain ⟨o,e,_⟩:=T.obj _ _ t7 b hb;exact (I9.pin (b,o) (aan _ (aan _ (bz hb e)))).2.1
   | true=>
    refine wpAny_bind (wpAny_bind (wpAny_mono (he _ _ _ _ _ s9 _ _ _ I9 q9) (λTo SD Ro=> ?_) λ_ _ f=>f.elim));obtain ⟨v10,Pe,Mj,Wg,QA,UI,Wu,OB,UK⟩:=Ro;refine wpAny_bind (wpAny_mono (j_ (X:=Cx.comp X (xs++ys) scope s3.heap.objs.size s3 H3 fp) _ SD _ Pe (.ref s2.heap.objs.size) [v10] _ [To] (λ_ H'=>H'=upd Pe s2.heap.objs.size (.lst (zs++[v10]))) Mj rfl (.cons Wg .nil) ⟨_,zs,v10,rfl,rfl,QA,UI,rfl⟩) (λ_ s11 WN=> ?_) λ_ _ f=>f.elim);obtain ⟨_,H11,N8,_,TH⟩:=WN;subst TH;refine wpAny_pure (wpAny_pure ⟨rfl,Wu,OB,i+1,zs++[v10],SS,_,l8,N8.fW,T.keep _ _ _ t7 λb hb o e=>(N8.pin (b,o) (aan _ (aan _ (bz hb e)))).1,λb hb=> ?_,UK⟩);obtain ⟨o,e,_⟩:=T.obj _ _ t7 b hb;exact (N8.pin (b,o) (aan _ (aan _ (bz hb e)))).2.1
 exact codeAny_compStart_list loop (T.self X.A 0 _ _ _ (T.keep _ _ _ t3 (λb hb o e=>by rw [e4];exact kp b o e)) loop)
theorem xS(S:ba X scope xs ys caps)(hc:X.calm=true)(hi:PI X tg iter wi)(hg:∀C s H fp,PG (Cx.comp X (xs++ys) scope C s H fp) tg gg)(hk:ue xs.length gg)(ht:∀C s H fp,PT (Cx.comp X (xs++ys) scope C s H fp) c tc)(he:∀C s H fp,PE (Cx.comp X (xs++ys) scope C s H fp) elt te)(hs:∀x,foldedSetIterable iter X.env x=pure x:=by intro _;rfl):
  PE X (.ListComp elt [⟨tg,iter,[c],0⟩] scope pos) (ME wi xs.length gg tc te caps):=by
 intro ε s σ H Q I h;rw [eval_ListComp];refine wpAny_comprehension_free (use:=none) rfl hs (iP (S.has I.ok)) S.kind S.names (aS (hi ε s σ H _ I h) λv s1 h1=>aS h1 λO5 s2 h2=> ?_);obtain ⟨it,fp,tn,J,H2,rfl,I2,T,t0,f2,q⟩:=h2;refine El S hc hg hk ht he (Q:=Q) I2 T t0 f2 q λD C s' H' I' q' n' hC hz hL Gn hp=> ?_;obtain ⟨m,n'⟩:=n';exact ⟨m,n',λh' sb=>⟨.ref D,H',I'.turned (it:=C) (t':=s'.toks) (λb o hb e=>(sb.2 b hb).trans e) hC hL (.inr hz) Gn hp,rfl,q'⟩⟩
theorem pI{i:Nat}{x:Str}{px:Pos}(S:ba X scope xs ys caps)(h:xs[i]? =some x)(C:Addr)(s:Shared)(H:Hp)(fp:List Addr):PG (Cx.comp X (xs++ys) scope C s H fp) (.Name x px) (gM i):=by
 have hm:x∈xs:=aal h;have hi:(xs++ys)[i]? =some x:=by rw [aat (aag.mp h).1];exact h
 exact ag S.nd hi (.inl (lookup_relabel_local (S.own x hm))) (.inr (lookup_relabel_local (S.own x hm)))
theorem B1{x y:Str}{px py:Pos}{k:Nat}(hc:X.calm=true)(S:ba X scope [x,y] ys caps)(C:Addr)(s:Shared)(H:Hp)(fp:List Addr):PG (Cx.comp X ([x,y]++ys) scope C s H fp) (.Tuple [.Name x px, .Name y py] k pos) (F_ X.K 2 (mR (gM 0) (mR (gM 1) Il))):=
 nP (X:=Cx.comp X ([x,y]++ys) scope C s H fp) hc (bY (pI S (i:=0) rfl C s H fp) (bY (pI S (i:=1) rfl C s H fp) kq))
end
def tR(g:Dt->En->(En->Prop)->Prop)(tc:DT)(te:DE)(ρ0:En)(ok:Ms->Prop):List Dt->List Dt->Ms->(List Dt->Ms->Prop)->Prop
 | [],Ε,M,k=>ok M/\k Ε M
 | x::xs,Ε,M,k=>ok M/\g x ρ0 λρ'=>tc ρ' M (λb M1=>match b with
  | true=>te ρ' M1 (λd M2=>tR g tc te ρ0 ok xs (Ε++[d]) M2 k) mQ
  | false=>tR g tc te ρ0 ok xs Ε M1 k) mQ
def Af(n:Nat)(ti:DK)(g:Dt->En->(En->Prop)->Prop)(tc:DT)(te:DE)(caps:List Nat):DE:=λρ M q x=>ti ρ M (λxs ok M1=>xs.length<=sizeLine/\tR g tc te (List.replicate n none++ie caps ρ) ok xs [] M1 (λys M2=>q (.lst ys) M2)) x
theorem BG{K:PySem.W.Frag}{G:Hp}{L:List Addr}{ρ:En}{σ os:St}{n:Nat}(h:ji K G L ρ σ)(caps:List Nat)(hl:os.length=n):ji K G L (List.replicate n none++ie caps ρ) (os++cc caps σ):=by
 have lc:(ie caps ρ).length=(cc caps σ).length:=by unfold ie cc;simp
 refine ⟨by rw [aai,aai,aaD,hl,lc],λi d' e=> ?_⟩;by_cases hi:i < n
 ·rw [aat (by rw [aaD];exact hi),abw,if_pos hi] at e;cases e
 ·rw [aaq (by rw [aaD];omega),aaD] at e;rw [aaq (by omega),hl];unfold ie at e;unfold cc;rw [aao] at e⊢;cases q:caps[i - n]? with
  | none=>rw [q] at e;cases e
  | some j=>
   rw [q] at e;have e:(ρ[j]?).join=some d':=aar e;have e:ρ[j]? =some (some d'):=by
    cases z:ρ[j]? with
    | none=>rw [z] at e;cases e
    | some o=>rw [z] at e;exact congrArg some e
   obtain ⟨v,hv,dn⟩:=h.d9 j d' e;exact ⟨v,by show some ((σ[j]?).join)=_;rw [hv];rfl,dn⟩
theorem wR{K:PySem.W.Frag}{J:It}{gg:TG}{g:Dt->En->(En->Prop)->Prop}{tc:DT}{te:DE}{caps:List Nat}{nn:Nat}{ρ:En}{σ:St}{G1:Hp}{L1:List Addr}{M1:Ms}{H1:Hp}{xs:List Dt}{ok:Ms->Prop}{Dl:Addr}{Q:VK}{k:List Dt->Ms->Prop}(gd:GD K gg g)(r1:Rl K G1 L1 M1 H1)(n:ji K G1 L1 ρ σ)(y:K0 K J xs ok G1 L1)(hD:H1 Dl=none)(hz:xs.length<=sizeLine)
  (h:tR g tc te (List.replicate nn none++ie caps ρ) ok xs [] M1 k)
  (fin:∀G2 L2 M2 H2 ds vs,Ex G1 L1 H1 G2 L2 H2->Rl K G2 L2 M2 H2->G2 Dl=none->Dl∉L2->H2 Dl=some (.lst vs)->Ρ K G2 L2 ds vs->k ds M2->Q (.ref Dl) H2):
  zY J nn gg (G_ K (λ_=>E0) tc) (lq K (λ_=>E0) te) (cc caps σ) Q H1 Dl:=by
 refine ⟨λi m ys H2=>m+i=xs.length/\H2 Dl=some (.lst ys)/\∃Ε G2 L2 M2,Ex G1 L1 H1 G2 L2 H2/\Rl K G2 L2 M2 H2/\G2 Dl=none/\Dl∉L2/\Ρ K G2 L2 Ε ys/\Ε.length<=i/\tR g tc te (List.replicate nn none++ie caps ρ) ok (xs.drop i) Ε M2 k,⟨xs.length,rfl,Κ,[],G1,L1,M1, ?_⟩, ?_⟩
 ·have gn:G1 Dl=none:=r1.sub.free hD;refine ⟨⟨.refl _, .refl _,λ_ h _=>h,λb u h1 _=>by rw [ψ (λz=>by rw [z,hD] at h1;cases h1)];exact h1,λ_ h=> .inl h,λb h=>by rw [ψ (λz=>h (by rw [z];exact hD))];exact h⟩,⟨λb u e=>by rw [ψ (λz=>by rw [z,gn] at e;cases e)];exact r1.sub b u e,r1.len,r1.nd,λi a m h1 h2=> ?_⟩,gn,r1.zw hD,rfl,aaj _,by rw [abF];exact h⟩;obtain ⟨q1,q2⟩:=r1.d9 i a m h1 h2;exact ⟨q1,q2.mono (.refl _) (.refl _) (ψ λz=>q2.there (by rw [z];exact hD))⟩
 ·rintro i m ys H2 ⟨hm,gI,Ε,G2,L2,M2,e2,r2,g2,l2,n2,la,h2⟩;refine ⟨gI, ?_⟩;have ne1:∀{b:Addr} {u:HO},H1 b=some u->b≠Dl:=λe z=>by rw [z,hD] at e;cases e
  by_cases hi:i < xs.length
  ·right;have hd:xs[i]? =some xs[i]:=aaa hi;rw [aaP hi] at h2;obtain ⟨aG,h2⟩:=h2;obtain ⟨go,yl⟩:=y.go i G2 L2 M2 H2 _ e2.g e2.l r2 aG hd;refine ⟨go,λv H3 hy os Wd=> ?_⟩;obtain ⟨G3,e3,r3,n3⟩:=yl v H3 hy;have h3:H3 Dl=some (.lst ys):=e3.out _ _ gI l2;have g3:G3 Dl=none:=e3.fr _ g2 (by rw [gI];simp);refine gd G3 L2 M2 H3 _ v _ _ _ _ r3 n3 (BG ((n.mono e2).mono e3) caps Wd) h2 λρ' σ' n' h'=> ?_;refine ⟨G3,L2,ρ',M2,_,mQ,r3,n',h',qH,λb H4 ⟨G4,L4,M4,e4,r4,h4⟩=> ?_⟩;have LQ:H4 Dl=some (.lst ys):=e4.out _ _ h3 l2;have g4:G4 Dl=none:=e4.fr _ g3 (by rw [h3];simp);have l4:Dl∉L4:=λz=>(e4.new _ z).elim l2 λq=>by rw [h3] at q;cases q
   have MX:=e3.trans e4;cases b with
   | false=>
    exact ⟨m - 1,by omega,by omega,LQ,Ε,G4,L4,M4,e2.trans MX,r4,g4,l4,Ρ.mono MX.g MX.l _ _ n2,by omega,h4⟩
   | true=>
    refine ⟨G4,L4,ρ',M4,_,mQ,r4,n'.mono e4,h4,qH,λv5 H5 ⟨d5,G5,L5,M5,e5,r5,n5,h5⟩=> ?_⟩;have Ux:H5 Dl=some (.lst ys):=e5.out _ _ LQ l4;have g5:G5 Dl=none:=e5.fr _ g4 (by rw [LQ];simp);have l5:Dl∉L5:=λz=>(e5.new _ z).elim l4 λq=>by rw [LQ] at q;cases q
    have NU:=MX.trans e5;have Hs:ys.length=Ε.length:=by rw [<-n2.length]
    refine ⟨Ux,by omega,m - 1,by omega,by omega,Κ,Ε++[d5],G5,L5,M5, ?_, ?_,g5,l5,(Ρ.mono NU.g NU.l _ _ n2).app ⟨_,_,rfl,n5,rfl⟩,by rw [aai];show Ε.length+1<=i+1;omega,h5⟩
    ·have CW:=e2.trans NU
     exact ⟨CW.g,CW.l,CW.fr,λb u h1 h2=>by rw [ψ (ne1 h1)];exact CW.out b u h1 h2,CW.new,λb h=>by
      by_cases hb:b=Dl
      ·rw [hb,Κ];simp
      ·rw [ψ hb];exact CW.xW b h⟩
    ·refine ⟨λb u e=>by rw [ψ (λz=>by rw [z,g5] at e;cases e)];exact r5.sub b u e,r5.len,r5.nd,λi a m h1 h2=> ?_⟩;obtain ⟨q1,q2⟩:=r5.d9 i a m h1 h2;exact ⟨q1,q2.mono (.refl _) (.refl _) (ψ λz=>l5 (by rw [<-z];exact aal h1))⟩
  ·left;rw [abb (by omega)] at h2;exact ⟨y.stop i G2 L2 M2 H2 e2.g e2.l r2 h2.1 (by omega),fin G2 L2 M2 H2 Ε ys e2 r2 g2 l2 gI n2 h2.2⟩
section
variable{X:Cx}{R:St->XK}{elt iter c:Expr}{x y:Str}{px py tp:Pos}{scope:Scope}{pos:Pos}{ti:DK}{tc:DT}{te:DE}{ys:List Str}{caps:List Nat}{kk:Nat}
theorem Gv(S:ba X scope [x] ys caps)(hi:JK X R (.Name x px) iter ti)(ht:∀C s H fp,JT (Cx.comp X (x::ys) scope C s H fp) (λ_=>E0) c tc)(he:∀C s H fp,JE (Cx.comp X (x::ys) scope C s H fp) (λ_=>E0) elt te)(hc:X.calm=true:=by rfl)(hs:∀x,foldedSetIterable iter X.env x=pure x:=by intro _;rfl):
  JE X R (.ListComp elt [⟨.Name x px,iter,[c],0⟩] scope pos) (Af 1 ti (gN 0) tc te caps):= .of (xS (wi:=Dy X.K R ti) (tc:=G_ X.K (λ_=>E0) tc) (te:=lq X.K (λ_=>E0) te) S hc hi (pI S (i:=0) rfl) (zD (Nat.zero_lt_succ 0)) ht he hs) λσ H G L ρ M q x rl n h hx=>by
 refine ⟨G,L,ρ,M,_,x,rl,n,h,hx,λJ H1 ⟨xs,ok,G1,L1,M1,e1,r1,y,hz,h1⟩ D hD=> ?_⟩;exact wR aP r1 (n.mono e1) y hD hz h1 λG2 L2 M2 H2 ds vs e2 r2 g2 l2 h2 n2 k=>Fin.back e1 (kj e2 r2 hD g2 l2 h2 n2 k)
theorem Hg(S:ba X scope [x,y] ys caps)(hi:JK X R (.Tuple [.Name x px, .Name y py] kk tp) iter ti)(ht:∀C s H fp,JT (Cx.comp X (x::y::ys) scope C s H fp) (λ_=>E0) c tc)(he:∀C s H fp,JE (Cx.comp X (x::y::ys) scope C s H fp) (λ_=>E0) elt te)(hc:X.calm=true:=by rfl)(hs:∀x,foldedSetIterable iter X.env x=pure x:=by intro _;rfl):
  JE X R (.ListComp elt [⟨.Tuple [.Name x px, .Name y py] kk tp,iter,[c],0⟩] scope pos) (Af 2 ti (g2 0 1) tc te caps):= .of (xS (wi:=Dy X.K R ti) (tc:=G_ X.K (λ_=>E0) tc) (te:=lq X.K (λ_=>E0) te) S hc hi (B1 hc S) (tV (Nat.zero_lt_succ 1) (aa8 1)) ht he hs) λσ H G L ρ M q x rl n h hx=>by
 refine ⟨G,L,ρ,M,_,x,rl,n,h,hx,λJ H1 ⟨xs,ok,G1,L1,M1,e1,r1,y,hz,h1⟩ D hD=> ?_⟩;exact wR nu r1 (n.mono e1) y hD hz h1 λG2 L2 M2 H2 ds vs e2 r2 g2 l2 h2 n2 k=>Fin.back e1 (kj e2 r2 hD g2 l2 h2 n2 k)
end
theorem fv{g:Dt->En->(En->Prop)->Prop}{tc:DT}{te:DE}{ρ0:En}{ok:Ms->Prop}{M:Ms}{k:List Dt->Ms->Prop}(ho:ok M)(b:Dt->Bool)(f:Dt->Dt):∀(xs Ε:List Dt),(∀x∈xs,∀(q:DQ) (p:Ms->Prop),(b x=true->q (f x) M)->(b x=false->p M)->g x ρ0 λρ'=>tc ρ' M (λb' M1=>match b' with | true=>te ρ' M1 q mQ | false=>p M1) mQ)->
  k (Ε++(xs.filter b).map f) M->tR g tc te ρ0 ok xs Ε M k
 | [],Ε,_,h=>⟨ho,by simpa using h⟩
 | x::xs,Ε,ht,h=>⟨ho,ht x List.mem_cons_self _ _ (λhb=>fv ho b f xs _ (λy hy=>ht y (List.mem_cons_of_mem _ hy)) (by simpa [hb] using h)) λhb=>fv ho b f xs _ (λy hy=>ht y (List.mem_cons_of_mem _ hy)) (by simpa [hb] using h)⟩
theorem DG(xs:List V)(k:Nat):sk xs (some (k:Int)) none=xs.drop k:=by
 unfold sk;rw [HT.pq,HT.y9];by_cases h:k<=xs.length
 ·rw [ab4 h,abA (by rw [abu];omega)]
 ·rw [Nat.min_eq_right (by omega),List.drop_eq_nil_of_le (Nat.le_refl _),List.drop_eq_nil_of_le (by omega)];simp
section
variable{κ:Type} [DecidableEq κ]
def jj(Λ:List (κ×V))(k:κ):Option V:=(Λ.find? λkv=>decide (kv.1=k)).map (·.2)
def h7(Λ:List (κ×V))(k:κ)(v:V):List (κ×V):=
 if (Λ.any λkv=>decide (kv.1=k))=true then Λ.map (λkv=>if kv.1=k then (kv.1,v) else kv) else Λ++[(k,v)]
theorem dW{p:κ×V}{r:List (κ×V)}{k:κ}(e:p.1=k):jj (p::r) k=some p.2:=by simp [jj,List.find?_cons,e]
theorem dN{p:κ×V}{r:List (κ×V)}{k:κ}(e:¬p.1=k):jj (p::r) k=jj r k:=by simp [jj,List.find?_cons,e]
theorem mK(k:κ):∀Λ:List (κ×V),(Λ.any λkv=>decide (kv.1=k))=(jj Λ k).isSome
 | []=>rfl
 | p::r=>by
  rw [abN];by_cases e:p.1=k
  ·simp only [dW e,decide_eq_true e,Bool.true_or,Option.isSome_some]
  ·rw [dN e,decide_eq_false e,Bool.false_or];exact mK k r
theorem tS(k j:κ)(y:V):∀Λ:List (κ×V),jj Λ k=none->jj (Λ++[(k,y)]) j=if j=k then some y else jj Λ j
 | [],_=>by
  by_cases e:k=j
  ·rw [if_pos e.symm];exact dW (p:=(k,y)) e
  ·rw [if_neg (λz=>e z.symm)];exact dN (p:=(k,y)) e
 | p::r,hn=>by
  rw [List.cons_append];have hk:¬p.1=k:=λz=>by rw [dW z] at hn;cases hn
  rw [dN hk] at hn;have ih:=tS k j y r hn;by_cases e:p.1=j
  ·rw [dW e,dW e,if_neg (λz=>hk (e.trans z))]
  ·rw [dN e,dN e,ih]
theorem js(Λ:List (κ×V))(k:κ)(v:V):(h7 Λ k v).length<=Λ.length+1:=by
 unfold h7;split
 ·rw [aae];omega
 ·rw [aai,aau,List.length_nil];omega
theorem GH{Λ:List (κ×V)}{k:κ}(v:V)(h:jj Λ k=none):h7 Λ k v=Λ++[(k,v)]:=by unfold h7;rw [mK,h];exact if_neg (by decide)
theorem jx.iD{o:Option V}{u:Option Value}(r:jx o u):o.isSome=u.isSome:=by
 cases o with
 | none=>cases u with
  | none=>rfl
  | some _=>exact (show False from r).elim
 | some _=>cases u with
  | none=>exact (show False from r).elim
  | some _=>rfl
theorem KV.val{Λ:List (κ×V)}{vs:List (κ×Value)}(r:KV Λ vs)(k:κ):jx (jj Λ k) (valueAt vs k):=by
 unfold KV at r
 induction r with
 | nil=>exact True.intro
 | @cons p q ps qs h t ih=>
  obtain ⟨h1,h2⟩:=h;by_cases e:p.1=k
  ·have e':q.1=k:=h1.symm.trans e;have b:valueAt (q::qs) k=some q.2:=by simp [valueAt,List.find?_cons,e']
   rw [dW e,b];exact h2
  ·have e':¬q.1=k:=λz=>e (h1.trans z);have b:valueAt (q::qs) k=valueAt qs k:=by simp [valueAt,List.find?_cons,e']
   rw [dN e,b];exact ih
theorem KV.any{Λ:List (κ×V)}{vs:List (κ×Value)}(r:KV Λ vs)(k:κ):(Λ.any λkv=>decide (kv.1=k))=vs.any λkv=>decide (kv.1=k):=by
 unfold KV at r
 induction r with
 | nil=>rfl
 | cons h t ih=>rw [abN,abN,ih,h.1]
theorem KV.Mu{Λ:List (κ×V)}{vs:List (κ×Value)}(r:KV Λ vs)(k:κ){y:V}{u:Value}(ry:au y u):
  KV (Λ.map λkv=>if kv.1=k then (kv.1,y) else kv) (vs.map λkv=>if kv.1=k then (kv.1,u) else kv):=by
 unfold KV at r⊢
 induction r with
 | nil=>exact .nil
 | @cons p q ps qs h t ih=>
  rw [aaF,aaF];refine .cons ?_ ih;obtain ⟨h1,h2⟩:=h;by_cases e:p.1=k
  ·rw [if_pos e,if_pos (h1.symm.trans e)];exact ⟨h1,ry⟩
  ·rw [if_neg e,if_neg (λz=>e (h1.trans z))];exact ⟨h1,h2⟩
theorem KV.put{Λ:List (κ×V)}{vs:List (κ×Value)}(r:KV Λ vs)(k:κ){y:V}{u:Value}(ry:au y u):KV (h7 Λ k y) (stored vs k u):=by
 unfold h7 stored;rw [r.any k];by_cases e:(vs.any λkv=>decide (kv.1=k))=true
 ·rw [if_pos e,if_pos e];exact r.Mu k ry
 ·rw [if_neg e,if_neg e];exact Paired.snoc r ⟨rfl,ry⟩
theorem KV.length{Λ:List (κ×V)}{vs:List (κ×Value)}(r:KV Λ vs):Λ.length=vs.length:=Paired.length r
end
theorem qZ{P:Program}{w:World}{k:Key}{u:Value}(r:au (kV k) u):(bb P w).is k u=true:=by
 cases k with
 | inl i=>obtain ⟨t,e⟩:=(show∃t,u=Value.int i t from r);subst e;exact x_ P w i t
 | inr x=>obtain ⟨t,e⟩:=(show∃t,u=Value.str x t from r);subst e;exact yp P w x t
theorem tX{P:Program}{w:World}:∀{ks:List Key} {us:List Value},ao (ks.map kV) us->ItemsAre (bb P w) ks us
 | [],_,r=>by rw [List.map_nil] at r;cases r;exact .nil
 | k::ks,_,r=>by
  rw [aaF] at r;cases r with
  | cons h t=>exact .cons (qZ h) (tX t)
abbrev KT(H:Hp):List (List Key×V)->List (List Key×Addr×Value)->Prop:=Paired λp q=>p.1=q.1/\H q.2.1=some (.tup (p.1.map kV))/\au p.2 q.2.2
theorem KT.val{H:Hp}{Λ:List (List Key×V)}{xs:List (List Key×Addr×Value)}(r:KT H Λ xs)(k:List Key):jx (jj Λ k) ((atKey xs k).map (·.2)):=by
 induction r with
 | nil=>exact True.intro
 | @cons p q ps qs h t ih=>
  obtain ⟨h1,_,h2⟩:=h;by_cases e:p.1=k
  ·have e':q.1=k:=h1.symm.trans e;have b:atKey (q::qs) k=some q.2:=by simp [atKey,List.find?_cons,e']
   rw [dW e,b];exact h2
  ·have e':¬q.1=k:=λz=>e (h1.trans z);have b:atKey (q::qs) k=atKey qs k:=by simp [atKey,List.find?_cons,e']
   rw [dN e,b];exact ih
theorem KT.Mu{H:Hp}{Λ:List (List Key×V)}{xs:List (List Key×Addr×Value)}(r:KT H Λ xs)(k:List Key){y:V}{u:Value}(ry:au y u):
  KT H (Λ.map λkv=>if kv.1=k then (kv.1,y) else kv) (xs.map (putAt k u)):=by
 induction r with
 | nil=>exact .nil
 | @cons p q ps qs h t ih=>
  rw [aaF,aaF];refine .cons ?_ ih;obtain ⟨h1,h2,h3⟩:=h;unfold putAt;by_cases e:p.1=k
  ·rw [if_pos e,if_pos (h1.symm.trans e)];exact ⟨h1,h2,ry⟩
  ·rw [if_neg e,if_neg (λz=>e (h1.trans z))];exact ⟨h1,h2,h3⟩
theorem KT.put{H:Hp}{Λ:List (List Key×V)}{xs:List (List Key×Addr×Value)}(r:KT H Λ xs)(k:List Key){b:Addr}{y:V}{u:Value}(hb:H b=some (.tup (k.map kV)))(ry:au y u):
  KT H (h7 Λ k y) (storedH xs k b u):=by
 have e:(Λ.any λkv=>decide (kv.1=k))=(atKey xs k).isSome:=by rw [mK,(r.val k).iD,Option.isSome_map]
 unfold h7 storedH;rw [e];by_cases q:(atKey xs k).isSome=true
 ·rw [if_pos q,if_pos q];exact r.Mu k ry
 ·rw [if_neg q,if_neg q];exact Paired.snoc r ⟨rfl,hb,ry⟩
theorem KT.keeps{H H':Hp}{Λ:List (List Key×V)}{xs:List (List Key×Addr×Value)}(r:KT H Λ xs)(ht:∀b ys,H b=some (.tup ys)->H' b=some (.tup ys)):KT H' Λ xs:=
 Paired.Mr r λ_ _ z=>⟨z.1,ht _ _ z.2.1,z.2.2⟩
section
variable{P:Program}{w:World}{H:Hp}{h:Heap}{a:Addr}
theorem LU{u:HO}(ok:ky P w H h)(e:Rd H a u):bD P w H h a u:=e.ok ok
theorem mE{Λ:List (Key×V)}(ok:ky P w H h)(e:Rd H a (.dK Λ)):Λ.length<=sizeLine/\(a==sysModules)=false/\∃vs,KV Λ vs/\h.DictOf (bb P w) a vs:=
 show bD P w H h a (.dK Λ) from LU ok e
theorem Bp{Λ:List (Key×V)}(ok:ky P w H h)(e:H a=some (.dK Λ)):Λ.length<=sizeLine/\(a==sysModules)=false/\∃vs,KV Λ vs/\h.DictOf (bb P w) a vs:=mE ok (.inl e)
theorem pS{ks:List Key}(ok:ky P w H h)(e:H a=some (.tup (ks.map kV))):(tupleKind (bb P w)).is h ks a:=by obtain ⟨_,its,r,o,h1,h2,n,h3⟩:=(show bD P w H h a (.tup (ks.map kV)) from ok a _ e);exact ⟨o,its.toArray,n,h1,h2,h3,by simpa using tX r⟩
theorem tY{Λ:List (List Key×V)}(ok:ky P w H h)(e:Rd H a (.dT Λ)):Λ.length<=sizeLine/\(a==sysModules)=false/\
  ∃xs,KT H Λ xs/\h.DictOfH (tupleKind (bb P w)) a xs:=by
 obtain ⟨z,y,xs,r,o,es,ep,h1,h2,h3,h4,h5⟩:=(show bD P w H h a (.dT Λ) from LU ok e);refine ⟨z,y,xs,r,o,es,ep,h1,h2,h3,h4,λx hx=> ?_,h5⟩;have all:∀{l:List (List Key×V)} {m:List (List Key×Addr×Value)},KT H l m->∀x∈m,(tupleKind (bb P w)).is h x.1 x.2.1:=by
  intro l m q
  induction q with
  | nil=>intro x hx;exact nomatch hx
  | @cons p q ps qs hq t ih=>
   intro x hx;rcases aay.mp hx with e | hx
   ·subst e;exact pS ok (by rw [<-hq.1];exact hq.2.1)
   ·exact ih x hx
 exact all r x hx
theorem RF{Λ:List (List Key×V)}(ok:ky P w H h)(e:H a=some (.dT Λ)):Λ.length<=sizeLine/\(a==sysModules)=false/\
  ∃xs,KT H Λ xs/\h.DictOfH (tupleKind (bb P w)) a xs:=tY ok (.inl e)
end
def uV(H:Hp)(a:Addr)(y:V)(r:Option V):Prop:=
 (∃Λ k,Rd H a (.dK Λ)/\y=kV k/\r=jj Λ k)\/∃Λ k b,Rd H a (.dT Λ)/\y= .ref b/\H b=some (.tup (k.map kV))/\r=jj Λ k
def Fz(H:Hp)(a:Addr)(y v:V)(H':Hp):Prop:=
 (∃Λ k,H a=some (.dK Λ)/\y=kV k/\Λ.length < sizeLine/\H'=upd H a (.dK (h7 Λ k v)))\/
 ∃Λ k b,H a=some (.dT Λ)/\y= .ref b/\H b=some (.tup (k.map kV))/\Λ.length < sizeLine/\H'=upd H a (.dT (h7 Λ k v))
theorem Fz.k{H:Hp}{a:Addr}{Λ:List (Key×V)}{k:Key}{v:V}(e:H a=some (.dK Λ))(hl:Λ.length < sizeLine):Fz H a (kV k) v (upd H a (.dK (h7 Λ k v))):= .inl ⟨Λ,k,e,rfl,hl,rfl⟩
section
variable{X:Cx}{ε:List (Addr×Obj)}{σ:St}{H:Hp}{s:Shared}{a:Addr}{y v:V}{u r:Value}{o:Option V}{A:Around}{E:Value->Shared->Prop}
theorem Inv.big(I:Inv X ε σ H s):sysModules < s.heap.objs.size:=by have h:mainGlobals < s.heap.objs.size:=(I.mod.glob.keeps I.bk).lt;exact Nat.lt_trans (by decide) h
theorem C6{Q:Value->Shared->Prop}(hu:A.units+1 < cLine)(I:Inv X ε σ H s)(g:uV H a y (some v))(ry:au y u)(h:∀w' s',Inv X ε σ H s'->au v w'->Q w' s'):
  wpAny (model X.prog X.w) A (getItem (.ref a) u) Q E s:=by
 rcases g with ⟨Λ,k,e,ey,l⟩ | ⟨Λ,k,b,e,ey,eb,l⟩
 ·subst ey;obtain ⟨z,hd,vs,rel,dd⟩:=mE I.aG e;obtain ⟨w',hw,Er⟩:=jx.some_of (v:=v) (o:=valueAt vs k) (by rw [l];exact rel.val k);exact wpAny_getItem_of (qZ ry) dd.mapOf hw (h w' _ (I.tok _) Er)
 ·subst ey;cases (show u=Value.ref b from ry);obtain ⟨z,hd,xs,rel,dd⟩:=tY I.aG e;obtain ⟨w',hw,Er⟩:=jx.some_of (v:=v) (o:=(atKey xs k).map (·.2)) (by rw [l];exact rel.val k);obtain ⟨p,hp,Pw⟩:=Option.map_eq_some_iff.mp hw;refine wpAny_getItem_heap (tupleKind_room_in1 hu) (pS I.aG eb) dd hp ?_;rw [Pw];exact h w' _ (I.tok _) Er
theorem VW{Q:Value->Shared->Prop}(hu:A.units+1 < cLine)(I:Inv X ε σ H s)(g:uV H a y o)(ry:au y u)(h:∀s',Inv X ε σ H s'->Q (.bool o.isSome) s'):
  wpAny (model X.prog X.w) A (compareOp .In u (.ref a)) Q E s:=by
 rcases g with ⟨Λ,k,e,ey,l⟩ | ⟨Λ,k,b,e,ey,eb,l⟩
 ·subst ey;obtain ⟨z,hd,vs,rel,dd⟩:=mE I.aG e;refine wpAny_in_of (qZ ry) hd dd.mapOf ?_;rw [<-(rel.val k).iD,<-l];exact h _ (I.tok _)
 ·subst ey;cases (show u=Value.ref b from ry);obtain ⟨z,hd,xs,rel,dd⟩:=tY I.aG e;refine wpAny_in_heap (tupleKind_room_in1 hu) (pS I.aG eb) hd dd ?_;have q:=(rel.val k).iD;rw [Option.isSome_map] at q;rw [<-q,<-l];exact h _ (I.tok _)
theorem JC{Q:Value->Shared->Prop}(hu:A.units+1 < cLine)(I:Inv X ε σ H s)(g:uV H a y o)(ry:au y u)(h:∀s',Inv X ε σ H s'->Q (.bool (!o.isSome)) s'):
  wpAny (model X.prog X.w) A (compareOp .NotIn u (.ref a)) Q E s:=by
 rcases g with ⟨Λ,k,e,ey,l⟩ | ⟨Λ,k,b,e,ey,eb,l⟩
 ·subst ey;obtain ⟨z,hd,vs,rel,dd⟩:=mE I.aG e;refine wpAny_notIn_of (qZ ry) hd dd.mapOf ?_;rw [<-(rel.val k).iD,<-l];exact h _ (I.tok _)
 ·subst ey;cases (show u=Value.ref b from ry);obtain ⟨z,hd,xs,rel,dd⟩:=tY I.aG e;refine wpAny_notIn_heap (tupleKind_room_in1 hu) (pS I.aG eb) hd dd ?_;have q:=(rel.val k).iD;rw [Option.isSome_map] at q;rw [<-q,<-l];exact h _ (I.tok _)
theorem pj{h':Heap}{t':Nat}{ob:HO}(I:Inv X ε σ H s)(mu:O2 (H a))(hs:Heap.SameBut a s.heap h')(he:∃q,h'.get? a=some q)(new:bD X.prog X.w (upd H a ob) h' a ob):
  Inv X ε σ (upd H a ob) {s with heap:=h',toks:=t'}:=
 I.write (x:=a) (e:=a) mu (.inl rfl) (λb q hb z=>(hs.2 b hb).trans z) he new
theorem pY{P:Program}{w:World}{H':Hp}{h':Heap}{Λ:List (Key×V)}{vs:List (Key×Value)}(z:Λ.length<=sizeLine)(hd:(a==sysModules)=false)(rel:KV Λ vs)(dd:h'.DictOf (bb P w) a vs):
  bD P w H' h' a (.dK Λ):=⟨z,hd,vs,rel,dd⟩
theorem Eb{H':Hp}{Q:Unit->Shared->Prop}(hu:A.units+1 < cLine)(I:Inv X ε σ H s)(g:Fz H a y v H')(ry:au y u)(rv:au v r)(h:∀s',Inv X ε σ H' s'->Q () s'):
  wpAny (model X.prog X.w) A (setItem (.ref a) u r) Q E s:=by
 rcases g with ⟨Λ,k,e,ey,l,eH⟩ | ⟨Λ,k,b,e,ey,eb,l,eH⟩
 ·subst ey eH;obtain ⟨z,hd,vs,rel,dd⟩:=Bp I.aG e;have hz:vs.length<=sizeLine:=by rw [<-rel.length];exact z
  have hl:(h7 Λ k v).length<=sizeLine:=by have:=js Λ k v;omega
  refine wpAny_setItem_pairs (hsz:=hz) (qZ ry) dd λh' JQ hs=>h _ ?_;have he:∃q,h'.get? a=some q:=let ⟨q,_,_,hq,_⟩:=JQ;⟨q,hq⟩
  exact pj I (by rw [e];exact True.intro) hs he (pY hl hd (rel.put k rv) JQ)
 ·subst ey eH;cases (show u=Value.ref b from ry);obtain ⟨z,hd,xs,rel,dd⟩:=RF I.aG e;have hz:xs.length<=sizeLine:=by rw [<-Paired.length rel];exact z
  have hl:(h7 Λ k v).length<=sizeLine:=by have:=js Λ k v;omega
  refine wpAny_setItem_heap (hsz:=hz) (tupleKind_room_in1 hu) (pS I.aG eb) dd λh' JQ hs=>h _ ?_;obtain ⟨q,es,ep,hq,h2,h3,h4,_,h5⟩:=JQ;refine pj I (by rw [e];exact True.intro) hs ⟨q,hq⟩ ⟨hl,hd,_,(rel.put k eb rv).keeps λc ys ec=> ?_,q,es,ep,hq,h2,h3,h4,h5⟩;rw [ψ (PV ec e (λz=>nomatch z))];exact ec
end
section
variable{X:Cx}{ε:List (Addr×Obj)}{σ:St}{H:Hp}{s:Shared}{a:Addr}{Λ:List (Key×V)}{k:Key}{u:Value}{A:Around}{E:Value->Shared->Prop}
theorem Q6{Q:Value->Shared->Prop}(I:Inv X ε σ H s)(e:Rd H a (.dK Λ))(h:∀t s',Inv X ε σ H s'->Q (.int Λ.length t) s'):wpAny (model X.prog X.w) A (call (.builtin "len") [.ref a]) Q E s:=by obtain ⟨z,hd,vs,rel,dd⟩:=mE I.aG e;refine call_len_dict hd dd (by rw [<-rel.length];rw [sizeLine_eq] at z;omega) ?_;rw [<-rel.length];exact h _ _ (I.tok _)
end
def zp(i:Expr):Prop:=∀ov iv,subscripted i false ov iv=operate [ov,iv] (getItem ov iv)
theorem wH{prog:Program}{w:World}{A:Around}{E:Value->Shared->Prop}{s:Shared}{env:Env}{value slice:Expr}{pos:Pos}{T id:String}{Q:Value->Shared->Prop}
  (hl:typeLookup (.type T) "__getitem__"=pure (some (.builtin id))) (hs:zp slice)
  (h:wpAny (model prog w) A (eval value env) (λo s₁=>wpAny (model prog w) A (eval slice env) (λi s₂=>s₂.TypeIs o T/\wpAny (model prog w) A (getItem o i) Q E s₂) E s₁) E s):
  wpAny (model prog w) A (eval (.Subscript value slice pos) env) Q E s:=by
 refine Subscript_ (wpAny_mono h (λo s₁ h₁=>wpAny_mono h₁ (λi s₂ h₂=> ?_) λ_ _ x=>x) λ_ _ x=>x);obtain ⟨hT,h₂⟩:=h₂;unfold subscriptTail;refine wpAny_bind ?_;rw [getitemInPython_of_ne hT.not_modules];refine wpAny_bind (wpAny_specialOf hT hl ?_);have fin:wpAny (model prog w) A (subscripted slice false o i) (λr s₃=>wpAny (model prog w) A (letTemporaryGo value o r >>= λ_=>pure r) Q E s₃) E s₂:=by rw [hs o i];exact wpAny_operating (wpAny_mono h₂ (λr s₃ h₃=>wpAny_bind (wpAny_letTemporaryGo (wpAny_pure h₃))) λ_ _ x=>x)
 first
  | exact wpAny_pure (wpAny_bind fin)
  | exact wpAny_bind (wpAny_pure (wpAny_bind fin))
  | exact wpAny_bind fin
theorem xq{X:Cx}{ε:List (Addr×Obj)}{σ:St}{H:Hp}{s:Shared}{a:Addr}{y:V}{o:Option V}(I:Inv X ε σ H s)(g:uV H a y o):s.TypeIs (.ref a) "dict":=by
 rcases g with ⟨Λ,k,e,_,_⟩ | ⟨Λ,k,b,e,_,_,_⟩
 ·obtain ⟨_,_,vs,_,dd⟩:=mE I.aG e;exact dd.typeIs
 ·obtain ⟨_,_,xs,_,dd⟩:=tY I.aG e;exact dd.typeIs
def QX(td ty:TE):TE:=λσ H Q=>td σ H λx H1=>ty σ H1 λy H2=>∃a v,x= .ref a/\uV H2 a y (some v)/\Q v H2
def P9(td ty tv:TE):TS:=λD σ H=>tv σ H λv H1=>td σ H1 λx H2=>ty σ H2 λy H3=>∃a H4,x= .ref a/\Fz H3 a y v H4/\D.nx σ H4
section
variable{X:Cx}{o i e value:Expr}{pos pos' rY:Pos}{td ty tv:TE}
theorem Ks(hu:X.A.units+1 < cLine)(ho:PE X o td)(hi:PE X i ty)(hs:zp i):PE X (.Subscript o i pos) (QX td ty):=by intro ε s σ H Q I h;refine wH abT.lookup hs (aS (ho ε s σ H _ I h) λu s1 ⟨x,H1,I1,rx,q1⟩=>aS (hi ε s1 σ H1 _ I1 q1) λiv s2 ⟨y,H2,I2,ry,a,v,ex,g,q2⟩=> ?_);subst ex;obtain rfl:u=Value.ref a:=rx;exact ⟨xq I2 g,C6 hu I2 g ry λw' s3 I3 Er=>⟨v,H2,I3,Er,q2⟩⟩
theorem Js(hu:X.A.units+1 < cLine)(ho:PE X o td)(hi:PE X i ty)(hv:PE X value tv)(hs:swapsWith value (some (.Subscript o i pos')) pos.line X.env=pure false):
  PS X (.Assign [.Subscript o i pos'] value pos) (P9 td ty tv):=by
 intro ε s σ H D I h;refine wpAny_Assign_Subscript (aS (hv ε s σ H _ I h) λr s1 ⟨v,H1,I1,rv,q1⟩=>aS (ho ε s1 σ H1 _ I1 q1) λu s2 ⟨x,H2,I2,rx,q2⟩=>aS (hi ε s2 σ H2 _ I2 q2) λiv s3 ⟨y,H3,I3,ry,a,H4,ex,g,q3⟩=> ?_) hs;subst ex;obtain rfl:u=Value.ref a:=rx;exact Eb hu I3 g ry rv λs4 I4=>⟨σ,H4,I4,q3⟩
end
theorem xk{P:Program}{w:World}{H:Hp}(h:Heap)(hb:sysModules < h.objs.size):bD P w H (h.push {cls:= .type "dict",data:= .dict #[]}) h.objs.size (.dK []):=
 ⟨abE _,beq_eq_false_iff_ne.mpr (Ne.symm (aaz hb)),[], .nil,Heap.DictOf.new h⟩
def Ml:TE:=λ_ H Q=>∀p,H p=none->Q (.ref p) (upd H p (.dK []))
section
variable{X:Cx}{pos:Pos}
theorem Hm:PE X (.Dict [] [] pos) Ml:=λε s σ H Q I h=>
 wpAny_Dict_empty ⟨.ref s.heap.objs.size,_,I.laid (a:=s.heap.objs.size) (o:= .dK []) (t':=s.toks) (λ_ _ q=>Heap.get?_push_of_some _ q) (aaj _) (xk s.heap I.big),rfl,h _ (I.aG.fresh (aaj _))⟩
end
def AU:List (TE×TE)->St->Hp->(List (V×V)->Hp->Prop)->Prop
 | [],_,H,Q=>Q [] H
 | (tk,tv)::r,σ,H,Q=>tk σ H λx H1=>tv σ H1 λy H2=>AU r σ H2 λps H3=>Q ((x,y)::ps) H3
abbrev VV:List (V×V)->List (Value×Value)->Prop:=Paired λp q=>au p.1 q.1/\au p.2 q.2
def S2(X:Cx)(pos:Pos)(keys:List (Option Expr))(values:List Expr)(KR:List (TE×TE)):Prop:=
 ∀(ε:List (Addr×Obj)) (s:Shared) (σ:St) (H:Hp) (Q:List (V×V)->Hp->Prop),Inv X ε σ H s->AU KR σ H Q->
  wpAny (model X.prog X.w) X.A (evalPairs (pairTrees keys values X.env pos)) (λvs s'=>∃ps H',Inv X ε σ H' s'/\VV ps vs/\Q ps H') X.xe s
theorem wm{X:Cx}{pos:Pos}:S2 X pos [] [] []:=λε s σ H Q I h=>pairTrees_nil_walk ⟨[],H,I, .nil,h⟩
theorem ju{X:Cx}{pos:Pos}{k v:Expr}{ks:List (Option Expr)}{vs:List Expr}{tk tv:TE}{KR:List (TE×TE)}(hk:PE X k tk)(hv:PE X v tv)(hr:S2 X pos ks vs KR):
  S2 X pos (some k::ks) (v::vs) ((tk,tv)::KR):=λε s σ H Q I h=>
 pairTrees_cons_walk (aS (hk ε s σ H _ I h) λu s1 ⟨x,H1,I1,rx,q1⟩=>aS (hv ε s1 σ H1 _ I1 q1) λw2 s2 ⟨y,H2,I2,ry,q2⟩=>
  aS (hr ε s2 σ H2 _ I2 q2) λws s3 ⟨ps,H3,I3,rel,q3⟩=>⟨(x,y)::ps,H3,I3, .cons ⟨rx,ry⟩ rel,q3⟩)
def g9(Λ more:List (Key×V)):List (Key×V):=more.foldl (λΕ kv=>h7 Ε kv.1 kv.2) Λ
theorem KV.merge:∀{more:List (Key×V)} {rs:List (Key×Value)} {Λ:List (Key×V)} {vs:List (Key×Value)},KV more rs->KV Λ vs->KV (g9 Λ more) (merged vs rs):=by
 intro more rs Λ vs r;unfold KV at r
 induction r generalizing Λ vs with
 | nil=>intro q;exact q
 | @cons p q ps qs h t ih=>
  intro r0;have e:KV (h7 Λ p.1 p.2) (stored vs q.1 q.2):=by have:=r0.put p.1 h.2;rw [<-h.1];exact this
  exact ih e
theorem gW:∀(more Λ:List (Key×V)),(g9 Λ more).length<=Λ.length+more.length
 | [],Λ=>by show Λ.length<=Λ.length+0;omega
 | p::r,Λ=>by have h1:=gW r (h7 Λ p.1 p.2);have h2:=js Λ p.1 p.2;show (g9 (h7 Λ p.1 p.2) r).length<=_;rw [aau];omega
theorem qK{P:Program}{w:World}:∀{Λ:List (Key×V)} {ws:List (Value×Value)},VV (Λ.map λkv=>(kV kv.1,kv.2)) ws->∃rs,Carries (bb P w) ws rs/\KV Λ rs
 | [],_,r=>by rw [List.map_nil] at r;cases r;exact ⟨[],True.intro, .nil⟩
 | p::Λ,_,r=>by
  rw [aaF] at r;cases r with
  | @cons a b as bs h t=>
   obtain ⟨rs,c,q⟩:=qK (P:=P) (w:=w) t;obtain ⟨b1,b2⟩:=b;exact ⟨(p.1,b2)::rs,⟨qZ h.1,rfl,c⟩, .cons ⟨rfl,h.2⟩ q⟩
def R7(KR:List (TE×TE)):TE:=λσ H Q=>∀p,H p=none->AU KR σ (upd H p (.dK [])) λps H2=>H2 p=some (.dK [])/\∃Λ:List (Key×V),ps=Λ.map (λkv=>(kV kv.1,kv.2))/\Λ.length<=15/\Q (.ref p) (upd H2 p (.dK (g9 [] Λ)))
theorem vB{X:Cx}{pos:Pos}{keys:List (Option Expr)}{values:List Expr}{KR:List (TE×TE)}(h:S2 X pos keys values KR)(NB:keys.all (·.isSome)=true)(hl:keys.length=values.length)(h0:keys≠[])
  (VP:keys.length<=15):PE X (.Dict keys values pos) (R7 KR):=by
 intro ε s σ H Q I q;have hn:=I.aG.fresh (aaj s.heap.objs.size);have I1:=I.laid (a:=s.heap.objs.size) (o:= .dK []) (h':=s.heap.push {cls:= .type "dict",data:= .dict #[]}) (t':=s.toks) (λ_ _ q=>Heap.get?_push_of_some _ q) (aaj _) (xk s.heap I.big);refine wpAny_Dict_walk (knd:=bb X.prog X.w) NB hl h0 VP (aS (h ε _ σ _ _ I1 (q _ hn)) λws s2 ⟨ps,H2,I2,rel,e,Λ,ep,lk,q2⟩=> ?_);subst ep;obtain ⟨rs,c,rk⟩:=qK (P:=X.prog) (w:=X.w) rel;obtain ⟨z,hd,YE,r0,dd⟩:=Bp I2.aG e;cases r0;refine ⟨rs,c,dd,λh' JQ hs=>⟨.ref s.heap.objs.size,_, ?_,rfl,q2⟩⟩;have hz:(g9 [] Λ).length<=sizeLine:=by have h1:=gW Λ [];rw [List.length_nil] at h1;rw [sizeLine_eq];omega
 have he:∃q,h'.get? s.heap.objs.size=some q:=let ⟨q,_,_,hq,_⟩:=JQ;⟨q,hq⟩
 exact pj I2 (by rw [e];exact True.intro) hs he (pY hz hd (rk.merge .nil) JQ)
structure M1(X:Cx)(o:Expr)(m:Str)(apos:Pos)(e:Expr)(ck:Pos):Prop where
 base:attributeBase o m X.env (eval o X.env)=eval o X.env
 few:((backTo ck (starEach [e] X.env)).all (λx=> !x.1)&&(backToKw ck (keywordEach [] X.env)).all (λx=>x.1.isSome)
  &&decide (([e]:List Expr).length+([]:List Keyword).length+(if ([]:List Keyword).isEmpty then 0 else 1) < 30))=true
 line:(apos.endLine==ck.line)=true
 trees:backTo ck (starEach [e] X.env)=[(false,eval e X.env)]
def Yk(H:Hp)(a:Addr):Prop:=(∃Λ,Rd H a (.dK Λ))\/∃Λ,Rd H a (.dT Λ)
theorem Nz{X:Cx}{ε:List (Addr×Obj)}{σ:St}{H:Hp}{s:Shared}{a:Addr}(I:Inv X ε σ H s)(d:Yk H a):
  s.TypeIs (.ref a) "dict"/\(∀b,Value.ref a= .ref b->∃ob,s.heap.get? b=some ob/\ob.dict=none)/\(a==sysModules)=false:=by
 rcases d with ⟨Λ,e⟩ | ⟨Λ,e⟩
 ·obtain ⟨_,hd,vs,_,dd⟩:=mE I.aG e;refine ⟨dd.typeIs,λb q=> ?_,hd⟩;cases q;obtain ⟨ob,_,_,h1,h2,_⟩:=dd;exact ⟨ob,h1,h2.2.1⟩
 ·obtain ⟨_,hd,xs,_,dd⟩:=tY I.aG e;refine ⟨dd.typeIs,λb q=> ?_,hd⟩;cases q;obtain ⟨ob,_,_,h1,h2,_⟩:=dd;exact ⟨ob,h1,h2.2.1⟩
section
variable{X:Cx}{ε:List (Addr×Obj)}{σ:St}{H:Hp}{s:Shared}{a:Addr}{Λ:List (Key×V)}{A:Around}{E:Value->Shared->Prop}
theorem EX{Q:Value->Shared->Prop}(I:Inv X ε σ H s)(e:Rd H a (.dK Λ))(h:∀p s',H p=none->Inv X ε σ (upd H p (.dK Λ)) s'->Q (.ref p) s'):wpAny (model X.prog X.w) A (call (.type "dict") [.ref a]) Q E s:=by obtain ⟨z,hd,vs,rel,dd⟩:=mE I.aG e;refine kt_call_dict hd dd (by rw [<-rel.length];exact z) λh' JQ hs=> ?_;refine h _ _ (I.aG.fresh (aaj _)) (I.laid (a:=s.heap.objs.size) (o:= .dK Λ) (t':=s.toks) (λb q hq=> ?_) (aaj _) (pY z (beq_eq_false_iff_ne.mpr (Ne.symm (aaz I.big))) rel JQ));exact (hs.2 b (aaz (Heap.lt_size hq))).trans (Heap.get?_push_of_some _ hq)
end
end L2
namespace Att
open PySem PySem.W PySem.Calls PyProof.Rows
end Att
namespace L2
open PySem PySem.Spec PyProof.Rows
end L2
/- THE TF JO (shape;LID,My.* are Rn):
  My.ZN:a structure of K6 addresses Vy VQ PZ names (classes,DZ);My.Txt K t:a structure (Prop) of K6 equations oZ K;
  My.zW:{K} {implicit addresses ..} (e1:nsIn K mainGlobals "law"=some (some (.ref f))) (e2:K.lookup f=some ⟨oc,od, .func (fnOf "law" "law" params body scope dV kV doc pm an aV ct),sl⟩) (e3:codeIn K aV "law"=true) .. :∃t,My.Txt K t
set_option maxRecDepth 100000 in
set_option maxHeartbeats 0 in
theorem PySem.Challenge.cw_LID_holds : PySem.Challenge.rw_LID.Holds := by
 w_on;o_law;k_head;(case hw=>w_witness2)
 k_fill
 refine L2.wG (l:=PySem.Challenge.rw_LID) (n:=63) (k:=40) (x:="script") (CX:=fun w=> ..) (sp:=fun _=>My.OM) rfl (by decide) rfl ⟨rfl,by decide,by decide⟩ (fun w h Y=>PySem.W.kIn_of Y) ?F ?S ?C
 case F=>
  intro w mg fa h KX G K7;have T:∃t,My.Txt (L2.Wt KX) t:=by
   dsimp only [L2.Wt]
   refine' My.zW ?e1 ?e2 ?e3 ..
   (case e1=>PySem.W.k_is)
   (case e2=>PySem.W.k_is)
   ..
  obtain ⟨t,T⟩:=T;have e0:=K7.symm.trans (PySem.W.mg_of KX G T.law);cases e0;exact ⟨_,λs u=> .of_eq rfl,λbase kb nb=>My.zu T kb nb⟩
 case S=>exact λw H a ns hl hO hS=> ..
 case C=>exact ..
(K6 tactic k_is has no namespace:write k_is) -/
namespace L2
open PySem PySem.Spec PyProof.Rows
section
variable{X:Cx}
theorem CI:cM X (.builtin "len") (λxs H Q=>∃a Λ,xs=[V.ref a]/\H a=some (.dK Λ)/\Q (.int Λ.length) H):=by intro ε s σ H xs us Q I r h;obtain ⟨a,Λ,rfl,ha,q⟩:=h;obtain ⟨u,rfl,ru⟩:=j5 r;cases ru;exact Q6 I (.inl ha) λt s' I'=>⟨.int Λ.length,H,I',⟨t,rfl⟩,q⟩
end
def rS:Dt->Option Key
 | .int i=>some (.inl i)
 | .str z=>some (.inr z)
 | _=>none
def b_(ks:List Key)(ds:List Dt)(k:Key):Option Dt:=((ks.zip ds).find? λp=>decide (p.1=k)).map (·.2)
theorem gR{K:PySem.W.Frag}{G:Hp}{L:List Addr}{d:Dt}{v:V}{k:Key}(h:rS d=some k)(n:Den K G L d v):v=kV k:=by
 cases d with
 | int i=>cases h;exact n
 | str z=>cases h;exact n
 | _=>cases h
theorem ni{K:PySem.W.Frag}{G:Hp}{L:List Addr}{k:Key}:∀{ks:List Key} {ds:List Dt} {vs:List V} {d:Dt},Ρ K G L ds vs->b_ ks ds k=some d->∃v,jj (ks.zip vs) k=some v/\Den K G L d v
 | [],_,_,_,_,h=>by cases h
 | _::_,[],_,_,_,h=>by cases h
 | c::ks,d0::ds,_,d,⟨v0,vs,e,n0,n⟩,h=>by
  subst e;rw [abi];by_cases hc:c=k
  ·have h':b_ (c::ks) (d0::ds) k=some d0:=by unfold b_;rw [List.zip_cons_cons,List.find?_cons_of_pos (by simpa using hc)];rfl
   rw [h'] at h;cases h;exact ⟨v0,dW hc,n0⟩
  ·have h':b_ (c::ks) (d0::ds) k=b_ ks ds k:=by unfold b_;rw [List.zip_cons_cons,List.find?_cons_of_neg (by simpa using hc)]
   rw [h'] at h;obtain ⟨v,h1,h2⟩:=ni n h;exact ⟨v,by rw [dN hc];exact h1,h2⟩
def Ir(to ti:DE):DE:=λρ M q x=>to ρ M (λd M1=>ti ρ M1 (λdi M2=>∃k ks ds key v,d= .loc k/\M2[k]? =some (.cW ks ds)/\rS di=some key/\b_ ks ds key=some v/\q v M2) x) x
theorem kr:∀(more Ε:List (Key×V)),(∀p∈more,jj Ε p.1=none)->(more.map (·.1)).Nodup->g9 Ε more=Ε++more
 | [],Ε,_,_=>by show Ε=Ε++[];rw [aaZ]
 | p::more,Ε,h,nd=>by
  show g9 (h7 Ε p.1 p.2) more=_;rw [GH p.2 (h p aaf),kr more _ (λq hq=> ?_) (aby.mp nd).2]
  ·simp
  ·have e:=tS p.1 q.1 p.2 Ε (h p aaf);rw [show (Ε++[(p.1,p.2)])=Ε++[(p.1,p.2)] from rfl,e,if_neg]
   ·exact h q (aad _ hq)
   ·intro z;exact (aby.mp nd).1 (aak.mpr ⟨q,hq,z⟩)
def tCs(z:Str):TE:=λ_ H Q=>Q (.str z) H
theorem Xy{X:Cx}{z:Str}{k:Nat}{pos:Pos}:PE X (.Constant (.str z) k pos) (tCs z):=IA
section
variable{X:Cx}{R:St->XK}{o i e:Expr}{to ti te:DE}{pos p:Pos}{k':Nat}
theorem jG(hr:bO k' X.A)(ho:JE X R o to)(hi:JE X R i ti)(hs:zp i:=by intro _ _;rfl):JE X R (.Subscript o i pos) (Ir to ti):=
 .of (Ks (B_ hr) ho hi hs) λσ H G L ρ M q x rl n h hx=>by refine ⟨G,L,ρ,M,_,x,rl,n,h,hx,λv H1 ⟨d1,G1,L1,M1,e1,r1,n1,h1⟩=> ?_⟩;refine ⟨G1,L1,ρ,M1,_,x,r1,n.mono e1,h1,hx.on e1,λv2 H2 ⟨d2,G2,L2,M2,e2,r2,n2,k,ks,ds,key,y,ed,hm,hk,hg,h2⟩=> ?_⟩;subst ed;obtain ⟨a,rfl,CP⟩:=n1;have Ko:=e2.l.get CP;obtain ⟨_,vs,hH,hl,dn⟩:=r2.d9 k a _ Ko hm;obtain ⟨u,hu,du⟩:=ni dn hg;refine ⟨a,u,rfl, .inl ⟨_,key, .inl hH,gR hk n2,hu.symm⟩,fin_same (e1.trans e2) r2 du h2⟩
end
structure OZ(K:PySem.W.Frag)(w:World)(mg:Str->Option Value)(x:Str)(tab:List (Str×Str)):Prop where
 ex:∃a es n,mg x=some (.ref a)/\K.lookup a=some ⟨.type "dict",none, .dict es n, #[]⟩/\PySem.W.KeysLit w.params es.toList/\∀z y,tab.lookup z=some y->∃tk,PySem.W.nsIn K a z=some (some (.str y tk))
def Qk(tab:List (Str×Str))(ti:DE):DE:=λρ M q x=>ti ρ M (λd M1=>∃z y,d= .str z/\tab.lookup z=some y/\q (.str y) M1) x
def U3(tab:List (Str×Str))(ti:TE):TE:=λσ H Q=>ti σ H λv H1=>∃z y,v= .str z/\tab.lookup z=some y/\Q (.str y) H1
section
variable{X:Cx}{R:St->XK}{i:Expr}{pos p:Pos}{x:Str}{tab:List (Str×Str)}
theorem Nk{ti:TE}(T:OZ X.K X.w X.mg x tab)(hi:PE X i ti)(hs:zp i)(hg:Gl X x)(wq:(x==("__debug__":Str))=false):PE X (.Subscript (.Name x p) i pos) (U3 tab ti):=by obtain ⟨a,es,n,hm,hl,hk,ht⟩:=T.ex;intro ε s σ H Q I h;refine wH abT.lookup hs (pA I hg hm ?_ wq);refine aS (hi ε s σ H _ I h) λiv s2 ⟨v,H2,I2,rv,z,y,ev,hy,q2⟩=> ?_;subst ev;obtain ⟨t,rfl⟩:=rv;obtain ⟨tk,hn⟩:=ht z y hy;have hM:=PySem.W.mapOf_K (prog:=X.prog) (w:=X.w) I2.oy hl hk;exact ⟨hM.typeIs,wpAny_getItem_of (strKind_is X.prog X.w z t) hM (PySem.W.find_K hl hn) ⟨.str y,H2,I2.tok _,⟨tk,rfl⟩,q2⟩⟩
theorem Qo{ti:DE}(T:OZ X.K X.w X.mg x tab)(hi:JE X R i ti)(hs:zp i:=by intro _ _;rfl)(hg:Gl X x:=by rfl)(wq:(x==("__debug__":Str))=false:=by decide):JE X R (.Subscript (.Name x p) i pos) (Qk tab ti):=
 .of (Nk T hi hs hg wq) λσ H G L ρ M q x rl n h hx=>by refine ⟨G,L,ρ,M,_,x,rl,n,h,hx,λv H1 ⟨d1,G1,L1,M1,e1,r1,n1,z,y,ed,hy,h1⟩=> ?_⟩;subst ed;exact ⟨z,y,n1,hy,bc e1 r1 h1⟩
end
def E4(M:Ms):Dt->Option (List Dt)
 | .lst xs=>some xs
 | .iV ns=>some (ns.map .int)
 | .loc k=>match M[k]? with
  | some (.lst xs)=>some xs
  | _=>none
 | _=>none
theorem pb{K:PySem.W.Frag}{G:Hp}{L:List Addr}{M:Ms}{H:Hp}{d:Dt}{v:V}{xs:List Dt}(r:Rl K G L M H)(n:Den K G L d v)(h:E4 M d=some xs):∃a vs,v= .ref a/\gQ K H a vs/\Ρ K G L xs vs:=by
 cases d with
 | lst ds=>cases h;obtain ⟨a,vs,rfl,e,m⟩:=n;exact ⟨a,vs,rfl, .of (r.sub _ _ e),m⟩
 | iV ns=>cases h;obtain ⟨a,rfl,e⟩:=n;exact ⟨a,_,rfl,r.sub.seq e,iE⟩
 | loc k=>
  obtain ⟨a,rfl,e⟩:=n;have h:(match M[k]? with | some (.lst xs)=>some xs | _=>none)=some xs:=h;split at h
  ·rename_i ys hm;cases h;obtain ⟨_,vs,e1,m1⟩:=r.d9 k a _ e hm;exact ⟨a,vs,rfl, .of e1,m1⟩
  ·cases h
 | _=>cases h
section
variable{X:Cx}{R:St->XK}{a b e l u:Expr}{ta tb te tl tu:DE}{t:DA}{pos p p2:Pos}{k':Nat}
theorem Eu(xs:List V)(k:Nat):sk xs none (some (k:Int))=xs.take k:=by
 unfold sk;rw [HT.pq,HT.y9,abF,Nat.sub_zero];by_cases h:k<=xs.length
 ·rw [ab4 h]
 ·rw [Nat.min_eq_right (by omega),abA (aaj _),abA (by omega)]
def SA(te tl:DE):DE:=λρ M q x=>te ρ M (λd M1=>tl ρ M1 (λdi M2=>∃ds n,E4 M2 d=some ds/\di= .int (n:Nat)/\q (.loc M2.length) (M2++[.lst (ds.drop n)])) x) x
theorem nz(he:JE X R e te)(hl:JE X R l tl):JE X R (.Subscript e (.Slice (some l) none none p2) pos) (SA te tl):=
 .of (qS vQ he (ku hl) B7) λσ H G L ρ M q x rl n h hx=>by refine ⟨G,L,ρ,M,_,x,rl,n,h,hx,λv H1 ⟨d1,G1,L1,M1,e1,r1,n1,h1⟩=> ?_⟩;refine ⟨G1,L1,ρ,M1,_,x,r1,n.mono e1,h1,hx.on e1,λv2 H2 ⟨d2,G2,L2,M2,e2,r2,n2,ds,k,ed,ei,h2⟩=> ?_⟩;subst ei;obtain ⟨a,vs,rfl,sq,m⟩:=pb r2 (Den.mono e2.g e2.l _ _ n1) ed;have n2:v2= .int k:=n2;subst n2;refine ⟨k,rfl,a,vs,rfl,sq,λp hp=> ?_⟩;rw [DG];exact i9 (e1.trans e2) r2 hp (Ρ.of (rJ k m.pair)) h2
end
open PySem PySem.SeqAt
def z7(M:Ms):Dt->Option (List Dt)
 | .lst xs=>some xs
 | .loc k=>match M[k]? with
  | some (.lst xs)=>some xs
  | _=>none
 | _=>none
theorem vF{K:PySem.W.Frag}{G:Hp}{L:List Addr}{M:Ms}{H:Hp}{d:Dt}{v:V}{xs:List Dt}(r:Rl K G L M H)(n:Den K G L d v)(h:z7 M d=some xs):∃a vs,v= .ref a/\H a=some (.lst vs)/\Ρ K G L xs vs:=by
 cases d with
 | lst ds=>cases h;obtain ⟨a,vs,rfl,e,m⟩:=n;exact ⟨a,vs,rfl,r.sub _ _ e,m⟩
 | loc k=>
  obtain ⟨a,rfl,e⟩:=n;have h:(match M[k]? with | some (.lst xs)=>some xs | _=>none)=some xs:=h;split at h
  ·rename_i ys hm;cases h;obtain ⟨_,vs,e1,m1⟩:=r.d9 k a _ e hm;exact ⟨a,vs,rfl,e1,m1⟩
  ·cases h
 | _=>cases h
def L9:Dt->Dt->Ms->DQ->Prop:=λd e M q=>∃xs ys,z7 M d=some xs/\z7 M e=some ys/\xs.length+ys.length<=sizeLine/\q (.lst (xs++ys)) M
theorem RS{K:PySem.W.Frag}:ou K Nx L9:=by intro G0 L0 H0 G L M H v1 v2 d1 d2 q e r n1 n2 ⟨xs,ys,h1,h2,hz,hq⟩;obtain ⟨p1,w1,rfl,e1,m1⟩:=vF r n1 h1;obtain ⟨p2,w2,rfl,e2,m2⟩:=vF r n2 h2;refine ⟨p1,p2,w1,w2,rfl,rfl,e1,e2,by rw [<-m1.length,<-m2.length];exact hz,λp hp=> ?_⟩;exact kf e r hp (pd r hp (m1.app m2)) hq
section
variable{X:Cx}{R:St->XK}{a b:Expr}{ta tb:DE}{pos:Pos}
theorem k4(ja:JE X R a ta)(jb:JE X R b tb):JE X R (.BinOp a .Add b pos) (kI L9 ta tb):=v7 GL RS ja jb
end
section
variable{X:Cx}{R:St->XK}{e l:Expr}{te tl:DE}{pos p2:Pos}
def He(te tl:DE):DE:=λρ M q x=>te ρ M (λd M1=>tl ρ M1 (λdi M2=>∃ds n,E4 M2 d=some ds/\di= .int (n:Nat)/\q (.loc M2.length) (M2++[.lst (ds.take n)])) x) x
theorem vE(he:JE X R e te)(hl:JE X R l tl):JE X R (.Subscript e (.Slice none (some l) none p2) pos) (He te tl):=
 .of (qS vQ he B7 (ku hl)) λσ H G L ρ M q x rl n h hx=>by refine ⟨G,L,ρ,M,_,x,rl,n,h,hx,λv H1 ⟨d1,G1,L1,M1,e1,r1,n1,h1⟩=> ?_⟩;refine ⟨G1,L1,ρ,M1,_,x,r1,n.mono e1,h1,hx.on e1,λv2 H2 ⟨d2,G2,L2,M2,e2,r2,n2,ds,k,ed,ei,h2⟩=> ?_⟩;subst ei;obtain ⟨a,vs,rfl,sq,m⟩:=pb r2 (Den.mono e2.g e2.l _ _ n1) ed;have n2:v2= .int k:=n2;subst n2;refine ⟨k,rfl,a,vs,rfl,sq,λp hp=> ?_⟩;rw [Eu];exact i9 (e1.trans e2) r2 hp (Ρ.of (qL k m.pair)) h2
end
theorem qj(elt target iter:Expr)(scope:Scope)(pos:Pos)(it Ε:Value)(env:Env):
  compTurn (.ListComp elt [⟨target,iter,[],0⟩] scope pos) 0 it Ε env=(standAt iter.pos >>= λ_=>pyNext it >>= λr=>match r with
   | none=>pure (.done .next)
   | some v=>letOwnedTupleGo target it v >>= λ_=>assign target env v >>= λ_=>
    (eval elt env >>= λx=>call (.builtin "list.append") [Ε,x] >>= λ_=>pure ()) >>= λ_=>again (.compLoop (.ListComp elt [⟨target,iter,[],0⟩] scope pos) 0 it Ε env)):=by
 unfold compTurn;dsimp only [List.getElem?_cons_zero,List.getElem?_cons_succ,List.getElem?_nil];simp only [List.forIn_cons,List.forIn_nil,bind_assoc,pure_bind,if_true];rfl
def A3(J:It)(n:Nat)(gg:TG)(te:TE)(cs:St)(Q:VK)(H1:Hp)(D:Addr):Prop:=
 ∃W:Nat->Nat->List V->Hp->Prop,(∃m,W 0 m [] (upd H1 D (.lst [])))/\∀i m ys H2,W i m ys H2->H2 D=some (.lst ys)/\
  ((J.stop i H2/\Q (.ref D) H2)\/(J.go i H2/\∀x H3,J.Nn i H2 x H3->∀os:St,os.length=n->gg x (os++cs) H3 λσ' Vm=>te σ' Vm λy H5=>H5 D=some (.lst ys)/\ys.length < sizeLine/\∃m',m' < m/\W (i+1) m' (ys++[y]) (upd H5 D (.lst (ys++[y])))))
def Ob(wi:TI)(n:Nat)(gg:TG)(te:TE)(caps:List Nat):TE:=λσ H Q=>wi σ H λJ H1=>∀D,H1 D=none->A3 J n gg te (cc caps σ) Q H1 D
section
variable{X:Cx}{elt iter tg:Expr}{xs:List Str}{scope:Scope}{pos:Pos}{wi:TI}{gg:TG}{te:TE}{ys:List Str}{caps:List Nat}
theorem Ez(S:ba X scope xs ys caps)(hc:X.calm=true)(hg:∀C s H fp,PG (Cx.comp X (xs++ys) scope C s H fp) tg gg)(hk:ue xs.length gg)(he:∀C s H fp,PE (Cx.comp X (xs++ys) scope C s H fp) elt te)
  {ε:List (Addr×Obj)} {σ:St} {H2:Hp} {s2:Shared} {it:Addr} {fp:List Addr} {tn:Nat->Heap->Prop} {J:It} {Q:V->Hp->Prop} {PQ:Value->Addr->Result->Shared->Prop} (I:Inv X ε σ H2 s2) (T:Turn X.prog X.w X.K tg J fp it tn) (t0:tn 0 s2.heap) (f2:∀b∈fp,lQ X ε H2 b)
  (h:∀D,H2 D=none->A3 J xs.length gg te (cc caps σ) Q H2 D)
  (Pr:∀D C s' H',Inv X ε σ H' s'->Q (.ref D) H'->(∃m,s'.heap.Ns C m)->H' C=none->X.s₀.heap.objs.size<=C->C≠X.env.locals->(∀z c,X.env.cells.lookup z=some c->c≠C)->(∀p∈X.pn++ε,p.1≠C)->PQ (.ref D) C (.ok .next) s'):
  wpAny (model X.prog X.w) X.A (newList []) (λΕ s3=>wpAny (model X.prog X.w) X.A (newFunctionEnv scope X.env.globals (gZ X.env scope.names []) [] X.env.qual none .none (some X.env)) (λxQ s4=>
   codeAny (model X.prog X.w) X.A (.compStart (.ListComp elt [⟨tg,iter,[],0⟩] scope pos) 0 (.ref it) Ε {xQ with scope:=relabel scope X.env}) (PQ Ε xQ.locals) s4) X.xe s3) X.xe s2:=by
 have hD:H2 s2.heap.objs.size=none:=I.fresh;obtain ⟨W,⟨m0,w0⟩,step⟩:=h _ hD;refine wpAny_newObj_type ?_;have I3:Inv X ε σ (upd H2 s2.heap.objs.size (.lst [])) {s2 with heap:=s2.heap.push {cls:= .type "list",data:= .seq ([]:List Value).toArray}}:=Inv.Fv (t':=s2.toks) I (ys:=[]) (its:=[]) .nil (abE _);generalize Su:upd H2 s2.heap.objs.size (.lst [])=H3 at I3 w0;generalize Rt:({s2 with heap:=s2.heap.push {cls:= .type "list",data:= .seq ([]:List Value).toArray}}:Shared)=s3 at I3;have Gh:∀b∈fp,H3 b=none:=λb hb=>by obtain ⟨o,e,_⟩:=T.obj _ _ t0 b hb;rw [<-Su,ψ (aaz (Heap.lt_size e))];exact (f2 b hb).1
 have t3:tn 0 s3.heap:=T.keep _ _ _ t0 λb hb o e=>by rw [<-Rt];exact Heap.get?_push_of_some _ e
 refine wpAny_newFunctionEnv S.lx (λy hy=>nomatch hy) (λh4 Qj RI=> ?_) S.kind;have hC:H3 s3.heap.objs.size=none:=I3.fresh
 have kp:∀b o,s3.heap.get? b=some o->h4.get? b=some o:=λb o e=>
  (RI.2 b (aaz (Heap.lt_size e))).trans (Heap.get?_push_of_some _ e)
 generalize II:({s3 with heap:=h4,toks:=s3.toks+([]:List (Str×Value)).length}:Shared)=s4;have e4:s4.heap=h4:=by rw [<-II]
 have D5:∀z c,X.env.cells.lookup z=some c->c≠s3.heap.objs.size:=λz c e q=>by obtain ⟨v,w⟩:=I3.cell z c e;exact aaY _ (q▸w.lt)
 have dw:∀z c,(gZ X.env scope.names []).lookup z=some c->X.env.cells.lookup z=some c:=λz c e=>ko scope.names [] (S.has I.ok) (λq=>nomatch q) e;have P4:s3.heap.objs.size≠X.env.locals:=abO I3.lt;have ok:(Cx.comp X (xs++ys) scope s3.heap.objs.size s3 H3 fp).Ok:=by
  refine ⟨I3.ok.mod,S.kind,I3.ok.glob,I3.ok.blt,aaj _,λz z' c e1 e2=>I3.ok.inj z z' c (dw z c e1) (dw z' c e2),λz hz=> ?_,λz c hz=>(by cases hz),I3.ok.hd,I3.ok.frames, .inl rfl,λb hb=>⟨?_,λz c e=> ?_⟩,I3.bs, ?_,λb o e hb=> ?_,λb hb hf=> ?_,I3.stack,I3.l7⟩
  ·have:=gA (env:=X.env) scope.names [] (.inl (vc S.lx hz));exact aaT.mp this
  ·obtain ⟨o,e,_⟩:=T.obj _ _ t3 b hb;exact aaz (Heap.lt_size e)
  ·exact (f2 b hb).2.2.2.2.1 z c (dw z c e)
  ·exact aaw I3.ok.sW I3.sz
  ·obtain ⟨_,_,_,hy,_⟩:=f2 b hb;have e0:=(I3.ok.bs b o e).1;rcases hy with hy | hy
   ·exact I3.ok.Fo b o e hy
   ·exact absurd (aap (Heap.lt_size e0) hy) (aaY _)
  ·obtain ⟨_,hl,Pj,_⟩:=f2 b hb;exact (aay.mp (I3.m_ b hf)).elim hl Pj
 have hlen:((List.replicate xs.length (none:Option V))++cc caps σ).length=(xs++ys).length:=by rw [aai,aai,aaD,S.len];unfold cc;rw [aae]
 have I4:Inv X ε σ H3 s4:=by rw [<-II];exact I3.kept kp
 have Ic:Inv (Cx.comp X (xs++ys) scope s3.heap.objs.size s3 H3 fp) [] ((List.replicate xs.length (none:Option V))++cc caps σ) H3 s4:=by
  refine ⟨ok,by rw [<-II];rfl,I4.bare,Un.kept (by rw [e4];exact kp),⟨_,by rw [e4];exact Qj,λi z v e1 e2 e3=> ?_⟩,λz c e=>I4.cell z c (dw z c e),hC,λz c e=>I4.kJ z c (dw z c e),(λp hp=>nomatch hp),I4.aG,hlen⟩;have e1:(xs++ys)[i]? =some z:=e1;by_cases hi:i < xs.length
  ·rw [aat (by rw [aaD];exact hi),abw,if_pos hi] at e2;cases e2
  ·obtain ⟨j,rfl⟩:∃j,i=xs.length+j:=⟨i - xs.length,by omega⟩;have e1:ys[j]? =some z:=by rw [aaq (by omega),abk] at e1;exact e1
   have e2:(cc caps σ)[j]? =some (some v):=by rw [aaq (by rw [aaD];omega),aaD,abk] at e2;exact e2
   unfold cc at e2;rw [aao] at e2;cases hi:caps[j]? with
   | none=>rw [hi] at e2;cases e2
   | some i=>
    rw [hi] at e2;have e2:(σ[i]?).join=some v:=aar e2;have e2:σ[i]? =some (some v):=by
     cases q:σ[i]? with
     | none=>rw [q] at e2;cases e2
     | some o=>rw [q] at e2;exact congrArg some e2
    obtain ⟨c1,c2,c3⟩:=S.S4 (z,i) (vt e1 hi);have c4:=mL (env:=X.env) I.ok.kind c2 c3;have c3:(z,NameKind.free)∈scope.names:=PySem.mem_of_lookup c3;obtain ⟨m,hn,hl⟩:=I4.loc;obtain ⟨u,r,lk⟩:=hl i z v c1 e2 (.inr (.inl c2));refine ⟨u,r, .inr ⟨.inl c4, ?_⟩⟩;rcases lk with ⟨k,_⟩ | ⟨_,c,uX,z'⟩
    ·exact absurd ((show X.env.scope.names.lookup z=some .local from k).symm.trans c2) (by decide)
    ·obtain ⟨d,hd⟩:=aaT.mp (gA (env:=X.env) scope.names [] (.inl c3));have:=dw z d hd;rw [uX] at this;cases this;exact ⟨c,hd,z'⟩
 have loop:codeAny (model X.prog X.w) X.A (.compLoop (.ListComp elt [⟨tg,iter,[],0⟩] scope pos) 0 (.ref it) (.ref s2.heap.objs.size) (compEnvC scope (gZ X.env scope.names []) s3.heap.objs.size X.env)) (PQ (.ref s2.heap.objs.size) s3.heap.objs.size) s4:=by
  have GU:∀{H':Hp},(∀b∈fp,H' b=none)->∀b∈fp,lQ (Cx.comp X (xs++ys) scope s3.heap.objs.size s3 H3 fp) [] H' b:=λhn b hb=>
   ⟨hn b hb,(ok.Pd b hb).1,ok.G9 b hb, .inl hb,(ok.Pd b hb).2,(λp hp=>nomatch hp)⟩
  refine codeAny_loop rfl (λn s'=>∃(i:Nat) (zs:List V) (os:St) (H':Hp),os.length=xs.length/\Inv (Cx.comp X (xs++ys) scope s3.heap.objs.size s3 H3 fp) [] (os++cc caps σ) H' s'/\tn i s'.heap/\(∀b∈fp,H' b=none)/\W i n zs H') (λn s5 z=> ?_) m0 ⟨0,[],List.replicate xs.length none,H3,by rw [aaD],Ic,T.keep _ _ _ t3 (λb hb o e=>by rw [e4];exact kp b o e),Gh,w0⟩;obtain ⟨i,zs,os,H5,l5,I5,t5,Jh,w5⟩:=z;show wpAny _ _ ((compTurn _ 0 (.ref it) _ _).onRaise _) _ _ s5;refine wpAny_noted ?_;rw [qj];refine wpAny_bind (wpAny_standAt (wpAny_bind ?_));obtain ⟨gI,stop | go⟩:=step i n zs H5 w5
  ·obtain ⟨stop,q⟩:=stop;refine aS (T.done (Cx.comp X (xs++ys) scope s3.heap.objs.size s3 H3 fp) rfl rfl rfl hc i [] s5 _ H5 _ I5 (GU Jh) t5 stop) λr s6 ⟨hr,I6⟩=> ?_;subst hr;refine wpAny_pure (Pr _ _ s6 H5 ?_ q ?_ I6.free ?_ P4 D5 λp hp z=> ?_)
   ·refine I3.GO I6.os I6.base I6.aG I6.bare λb hb=> ?_;obtain ⟨_,g1,_,g3,g4,g5⟩:=f2 b hb;exact ⟨g3,g1,g4,g5⟩
   ·obtain ⟨m,hn,_⟩:=I6.loc;exact ⟨m,hn⟩
   ·exact I3.sz
   ·exact aaz (Heap.lt_size (I3.pin p hp).1) z
  ·obtain ⟨go,turn⟩:=go;refine aS (T.item (Cx.comp X (xs++ys) scope s3.heap.objs.size s3 H3 fp) rfl rfl rfl hc i [] s5 _ H5 _ I5 (GU Jh) t5 go) λr s6 ⟨u,hr,h6⟩=> ?_;subst hr;refine wpAny_bind (aS h6 λ_ s7 ⟨y,H7,I7,r7,y7,t7,Rr⟩=> ?_);have R0:=I7.pinned (GU Rr) (T.obj _ _ t7);refine wpAny_bind (wpAny_mono (hg _ _ _ _ _ s7 _ H7 y u _ R0 r7 (hk y os _ H7 _ l5 (turn y _ y7 os l5))) (λ_ s8 z8=> ?_) λ_ _ f=>f.elim);obtain ⟨σ8,H8,I8,⟨SS,l8,e8⟩,q8⟩:=z8;subst e8;refine wpAny_bind (wpAny_bind (wpAny_mono (he _ _ _ _ _ s8 _ _ _ I8 q8) (λTo SD Ro=> ?_) λ_ _ f=>f.elim));obtain ⟨v10,Pe,Mj,Wg,QA,UI,Wu,OB,UK⟩:=Ro;refine wpAny_bind (wpAny_mono (j_ (X:=Cx.comp X (xs++ys) scope s3.heap.objs.size s3 H3 fp) _ SD _ Pe (.ref s2.heap.objs.size) [v10] _ [To] (λ_ H'=>H'=upd Pe s2.heap.objs.size (.lst (zs++[v10]))) Mj rfl (.cons Wg .nil) ⟨_,zs,v10,rfl,rfl,QA,UI,rfl⟩) (λ_ s11 WN=> ?_) λ_ _ f=>f.elim);obtain ⟨_,H11,N8,_,TH⟩:=WN;subst TH;refine wpAny_pure (wpAny_pure ⟨rfl,Wu,OB,i+1,zs++[v10],SS,_,l8,N8.fW,T.keep _ _ _ t7 λb hb o e=>(N8.pin (b,o) (aan _ (aan _ (bz hb e)))).1,λb hb=> ?_,UK⟩);obtain ⟨o,e,_⟩:=T.obj _ _ t7 b hb;exact (N8.pin (b,o) (aan _ (aan _ (bz hb e)))).2.1
 exact codeAny_compStart_list loop (T.self X.A 0 _ _ _ (T.keep _ _ _ t3 (λb hb o e=>by rw [e4];exact kp b o e)) loop)
theorem Gg(S:ba X scope xs ys caps)(hc:X.calm=true)(hi:PI X tg iter wi)(hg:∀C s H fp,PG (Cx.comp X (xs++ys) scope C s H fp) tg gg)(hk:ue xs.length gg)(he:∀C s H fp,PE (Cx.comp X (xs++ys) scope C s H fp) elt te)(hs:∀x,foldedSetIterable iter X.env x=pure x:=by intro _;rfl):
  PE X (.ListComp elt [⟨tg,iter,[],0⟩] scope pos) (Ob wi xs.length gg te caps):=by
 intro ε s σ H Q I h;rw [eval_ListComp];refine wpAny_comprehension_free (use:=none) rfl hs (iP (S.has I.ok)) S.kind S.names (aS (hi ε s σ H _ I h) λv s1 h1=>aS h1 λO5 s2 h2=> ?_);obtain ⟨it,fp,tn,J,H2,rfl,I2,T,t0,f2,q⟩:=h2;refine Ez S hc hg hk he (Q:=Q) I2 T t0 f2 q λD C s' H' I' q' n' hC hz hL Gn hp=> ?_;obtain ⟨m,n'⟩:=n';exact ⟨m,n',λh' sb=>⟨.ref D,H',I'.turned (it:=C) (t':=s'.toks) (λb o hb e=>(sb.2 b hb).trans e) hC hL (.inr hz) Gn hp,rfl,q'⟩⟩
end
def yk(g:Dt->En->(En->Prop)->Prop)(te:DE)(ρ0:En)(ok:Ms->Prop):List Dt->List Dt->Ms->(List Dt->Ms->Prop)->Prop
 | [],Ε,M,k=>ok M/\k Ε M
 | x::xs,Ε,M,k=>ok M/\g x ρ0 λρ'=>te ρ' M (λd M2=>yk g te ρ0 ok xs (Ε++[d]) M2 k) mQ
def ID(n:Nat)(ti:DK)(g:Dt->En->(En->Prop)->Prop)(te:DE)(caps:List Nat):DE:=λρ M q x=>ti ρ M (λxs ok M1=>xs.length<=sizeLine/\yk g te (List.replicate n none++ie caps ρ) ok xs [] M1 (λys M2=>q (.lst ys) M2)) x
theorem Ig{K:PySem.W.Frag}{J:It}{gg:TG}{g:Dt->En->(En->Prop)->Prop}{te:DE}{caps:List Nat}{nn:Nat}{ρ:En}{σ:St}{G1:Hp}{L1:List Addr}{M1:Ms}{H1:Hp}{xs:List Dt}{ok:Ms->Prop}{Dl:Addr}{Q:VK}{k:List Dt->Ms->Prop}(gd:GD K gg g)(r1:Rl K G1 L1 M1 H1)(n:ji K G1 L1 ρ σ)(y:K0 K J xs ok G1 L1)(hD:H1 Dl=none)(hz:xs.length<=sizeLine)
  (h:yk g te (List.replicate nn none++ie caps ρ) ok xs [] M1 k)
  (fin:∀G2 L2 M2 H2 ds vs,Ex G1 L1 H1 G2 L2 H2->Rl K G2 L2 M2 H2->G2 Dl=none->Dl∉L2->H2 Dl=some (.lst vs)->Ρ K G2 L2 ds vs->k ds M2->Q (.ref Dl) H2):
  A3 J nn gg (lq K (λ_=>E0) te) (cc caps σ) Q H1 Dl:=by
 refine ⟨λi m ys H2=>m+i=xs.length/\H2 Dl=some (.lst ys)/\∃Ε G2 L2 M2,Ex G1 L1 H1 G2 L2 H2/\Rl K G2 L2 M2 H2/\G2 Dl=none/\Dl∉L2/\Ρ K G2 L2 Ε ys/\Ε.length<=i/\yk g te (List.replicate nn none++ie caps ρ) ok (xs.drop i) Ε M2 k,⟨xs.length,rfl,Κ,[],G1,L1,M1, ?_⟩, ?_⟩
 ·have gn:G1 Dl=none:=r1.sub.free hD;refine ⟨⟨.refl _, .refl _,λ_ h _=>h,λb u h1 _=>by rw [ψ (λz=>by rw [z,hD] at h1;cases h1)];exact h1,λ_ h=> .inl h,λb h=>by rw [ψ (λz=>h (by rw [z];exact hD))];exact h⟩,⟨λb u e=>by rw [ψ (λz=>by rw [z,gn] at e;cases e)];exact r1.sub b u e,r1.len,r1.nd,λi a m h1 h2=> ?_⟩,gn,r1.zw hD,rfl,aaj _,by rw [abF];exact h⟩;obtain ⟨q1,q2⟩:=r1.d9 i a m h1 h2;exact ⟨q1,q2.mono (.refl _) (.refl _) (ψ λz=>q2.there (by rw [z];exact hD))⟩
 ·rintro i m ys H2 ⟨hm,gI,Ε,G2,L2,M2,e2,r2,g2,l2,n2,la,h2⟩;refine ⟨gI, ?_⟩;have ne1:∀{b:Addr} {u:HO},H1 b=some u->b≠Dl:=λe z=>by rw [z,hD] at e;cases e
  by_cases hi:i < xs.length
  ·right;have hd:xs[i]? =some xs[i]:=aaa hi;rw [aaP hi] at h2;obtain ⟨aG,h2⟩:=h2;obtain ⟨go,yl⟩:=y.go i G2 L2 M2 H2 _ e2.g e2.l r2 aG hd;refine ⟨go,λv H3 hy os Wd=> ?_⟩;obtain ⟨G3,e3,r3,n3⟩:=yl v H3 hy;have h3:H3 Dl=some (.lst ys):=e3.out _ _ gI l2;have g3:G3 Dl=none:=e3.fr _ g2 (by rw [gI];simp);refine gd G3 L2 M2 H3 _ v _ _ _ _ r3 n3 (BG ((n.mono e2).mono e3) caps Wd) h2 λρ' σ' n' h'=> ?_;refine ⟨G3,L2,ρ',M2,_,mQ,r3,n',h',qH,λv5 H5 ⟨d5,G5,L5,M5,e5,r5,n5,h5⟩=> ?_⟩;have Ux:H5 Dl=some (.lst ys):=e5.out _ _ h3 l2;have g5:G5 Dl=none:=e5.fr _ g3 (by rw [h3];simp);have l5:Dl∉L5:=λz=>(e5.new _ z).elim l2 λq=>by rw [h3] at q;cases q
   have NU:=e3.trans e5;have Hs:ys.length=Ε.length:=by rw [<-n2.length]
   refine ⟨Ux,by omega,m - 1,by omega,by omega,Κ,Ε++[d5],G5,L5,M5, ?_, ?_,g5,l5,(Ρ.mono NU.g NU.l _ _ n2).app ⟨_,_,rfl,n5,rfl⟩,by rw [aai];show Ε.length+1<=i+1;omega,h5⟩
   ·have CW:=e2.trans NU
    exact ⟨CW.g,CW.l,CW.fr,λb u h1 h2=>by rw [ψ (ne1 h1)];exact CW.out b u h1 h2,CW.new,λb h=>by
     by_cases hb:b=Dl
     ·rw [hb,Κ];simp
     ·rw [ψ hb];exact CW.xW b h⟩
   ·refine ⟨λb u e=>by rw [ψ (λz=>by rw [z,g5] at e;cases e)];exact r5.sub b u e,r5.len,r5.nd,λi a m h1 h2=> ?_⟩;obtain ⟨q1,q2⟩:=r5.d9 i a m h1 h2;exact ⟨q1,q2.mono (.refl _) (.refl _) (ψ λz=>l5 (by rw [<-z];exact aal h1))⟩
  ·left;rw [abb (by omega)] at h2;exact ⟨y.stop i G2 L2 M2 H2 e2.g e2.l r2 h2.1 (by omega),fin G2 L2 M2 H2 Ε ys e2 r2 g2 l2 gI n2 h2.2⟩
section
variable{X:Cx}{R:St->XK}{elt iter:Expr}{x y:Str}{px py tp:Pos}{scope:Scope}{pos:Pos}{ti:DK}{te:DE}{ys:List Str}{caps:List Nat}{kk:Nat}
theorem B9(S:ba X scope [x,y] ys caps)(hi:JK X R (.Tuple [.Name x px, .Name y py] kk tp) iter ti)(he:∀C s H fp,JE (Cx.comp X (x::y::ys) scope C s H fp) (λ_=>E0) elt te)(hc:X.calm=true:=by rfl)(hs:∀x,foldedSetIterable iter X.env x=pure x:=by intro _;rfl):
  JE X R (.ListComp elt [⟨.Tuple [.Name x px, .Name y py] kk tp,iter,[],0⟩] scope pos) (ID 2 ti (g2 0 1) te caps):= .of (Gg (wi:=Dy X.K R ti) (te:=lq X.K (λ_=>E0) te) S hc hi (B1 hc S) (tV (Nat.zero_lt_succ 1) (aa8 1)) he hs) λσ H G L ρ M q x rl n h hx=>by
 refine ⟨G,L,ρ,M,_,x,rl,n,h,hx,λJ H1 ⟨xs,ok,G1,L1,M1,e1,r1,y,hz,h1⟩ D hD=> ?_⟩;exact Ig nu r1 (n.mono e1) y hD hz h1 λG2 L2 M2 H2 ds vs e2 r2 g2 l2 h2 n2 k=>Fin.back e1 (kj e2 r2 hD g2 l2 h2 n2 k)
end
theorem nG{g:Dt->En->(En->Prop)->Prop}{te:DE}{ρ0:En}{ok:Ms->Prop}{M:Ms}{k:List Dt->Ms->Prop}(ho:ok M)(f:Dt->Dt):∀(xs Ε:List Dt),(∀x∈xs,∀q:DQ,q (f x) M->g x ρ0 λρ'=>te ρ' M q mQ)->k (Ε++xs.map f) M->yk g te ρ0 ok xs Ε M k
 | [],Ε,_,h=>⟨ho,by simpa using h⟩
 | x::xs,Ε,ht,h=>⟨ho,ht x List.mem_cons_self _ (nG ho f xs _ (λy hy=>ht y (List.mem_cons_of_mem _ hy)) (by simpa using h))⟩
theorem EK(xs:List V)(a b:Nat):sk xs (some (a:Int)) (some (b:Int))=(xs.drop a).take (b - a):=by
 unfold sk;rw [HT.pq,HT.pq];by_cases ha:a<=xs.length
 ·rw [ab4 ha];by_cases hb:b<=xs.length
  ·rw [ab4 hb]
  ·rw [Nat.min_eq_right (by omega),abA (by rw [abu];omega),abA (by rw [abu];omega)]
 ·have h1:min a xs.length=xs.length:=Nat.min_eq_right (by omega);rw [h1,List.drop_of_length_le (aaj xs.length),List.drop_of_length_le (show xs.length<=a by omega)];simp
section
variable{X:Cx}{R:St->XK}{e l u a b:Expr}{te tl tu ta tb:DE}{pos p2:Pos}
def Qm(te tl tu:DE):DE:=λρ M q x=>te ρ M (λd M1=>tl ρ M1 (λdi M2=>∃n:Nat,di= .int n/\tu ρ M2 (λdu M3=>∃ds m,E4 M3 d=some ds/\du= .int (m:Nat)/\q (.loc M3.length) (M3++[.lst ((ds.drop n).take (m - n))])) x) x) x
theorem tO(he:JE X R e te)(hl:JE X R l tl)(hu:JE X R u tu):JE X R (.Subscript e (.Slice (some l) (some u) none p2) pos) (Qm te tl tu):=
 .of (qS vQ he (ku hl) (ku hu)) λσ H G L ρ M q x rl n h hx=>by refine ⟨G,L,ρ,M,_,x,rl,n,h,hx,λv H1 ⟨d1,G1,L1,M1,e1,r1,n1,h1⟩=> ?_⟩;refine ⟨G1,L1,ρ,M1,_,x,r1,n.mono e1,h1,hx.on e1,λv2 H2 ⟨d2,G2,L2,M2,e2,r2,n2,k,ek,h2⟩=> ?_⟩;subst ek;have n2:v2= .int k:=n2;subst n2;refine ⟨k,rfl,G2,L2,ρ,M2,_,x,r2,(n.mono e1).mono e2,h2,(hx.on e1).on e2,λv3 H3 ⟨d3,G3,L3,M3,e3,r3,n3,ds,m,ed,em,h3⟩=> ?_⟩;subst em;have D6:=e2.trans e3;obtain ⟨a,vs,rfl,sq,dn⟩:=pb r3 (Den.mono D6.g D6.l _ _ n1) ed;have n3:v3= .int m:=n3;subst n3;refine ⟨m,rfl,a,vs,rfl,sq,λp hp=> ?_⟩;rw [EK];exact i9 (e1.trans D6) r3 hp (Ρ.of (qL (m - k) (rJ k dn.pair))) h3
def L6:Dt->Dt->Ms->DQ->Prop:=λd e M q=>∃xs k,z7 M d=some xs/\e= .int k/\ -(2 ^ 63)<=k/\k < 2 ^ 63/\xs.length * k.toNat<=sizeLine/\q (.loc M.length) (M++[.lst (List.replicate k.toNat xs).flatten])
theorem PD{K:PySem.W.Frag}:ou K Nh L6:=by intro G0 L0 H0 G L M H v1 v2 d1 d2 q e r n1 n2 ⟨xs,k,h1,h2,a,b,hz,hq⟩;obtain ⟨p1,w1,rfl,e1,m1⟩:=vF r n1 h1;subst h2;have n2:v2= .int k:=n2;subst n2;refine ⟨p1,k,w1,rfl,rfl,e1,a,b,by rw [<-m1.length];exact hz,λp hp=> ?_⟩;exact i9 e r hp (Ρ.of (uh m1.pair k.toNat)) hq
theorem zF(ja:JE X R a ta)(jb:JE X R b tb):JE X R (.BinOp a .Mult b pos) (kI L6 ta tb):=v7 FR PD ja jb
end
def Ip(ks:List Key)(k:Key):Bool:=ks.any λc=>decide (c=k)
theorem lZ{k:Key}:∀{ks:List Key} {vs:List V},ks.length=vs.length->(jj (ks.zip vs) k).isSome=Ip ks k
 | [],[],_=>rfl
 | c::ks,v::vs,h=>by
  have h:ks.length=vs.length:=by simpa using h
  rw [abi];by_cases e:c=k
  ·rw [dW e];subst e;simp [Ip]
  ·rw [dN e,lZ h];unfold Ip;rw [abN,decide_eq_false e,Bool.false_or]
section
variable{X:Cx}{R:St->XK}{o i e a b:Expr}{to ti te ta tb:DE}{pos p:Pos}{k':Nat}
theorem uj:JE X R (.Dict [] [] pos) (λ_ M q _=>q (.loc M.length) (M++[.cW [] []])):=
 .of Hm λσ H G L ρ M q x rl n h hx=>by intro p hp;exact ⟨.loc M.length,G,L++[p],_,rl.SH hp,rl.KP (m:= .cW [] []) hp ⟨[],Κ,rfl,rfl⟩,⟨p,rfl,by rw [<-rl.len,List.getElem?_append_right (Nat.le_refl _)];simp⟩,h⟩
def QU:Dt->Dt->Ms->DQ->Prop:=λdi d M q=>∃k ks ds key,d= .loc k/\M[k]? =some (.cW ks ds)/\rS di=some key/\q (.bl (Ip ks key)) M
theorem N5(hu:X.A.units+1 < cLine):jq X (compareOp .In) (λy x H Q=>∃a o,x=V.ref a/\uV H a y o/\Q (.bl o.isSome) H):=by intro ε s σ H x y u v Q I rx ry ⟨a,o,ex,g,q⟩;subst ex;obtain rfl:v=Value.ref a:=ry;exact VW hu I g rx λs3 I3=>⟨.bl o.isSome,H,I3,rfl,q⟩
theorem UM{K:PySem.W.Frag}:ou K (λy x H Q=>∃a o,x=V.ref a/\uV H a y o/\Q (.bl o.isSome) H) QU:=by intro G0 L0 H0 G L M H v1 v2 d1 d2 q e r n1 n2 ⟨k,ks,ds,key,ed,hm,hk,h⟩;subst ed;obtain ⟨a,rfl,CP⟩:=n2;obtain ⟨_,vs,hH,hl,dn⟩:=r.d9 k a _ CP hm;refine ⟨a,_,rfl, .inl ⟨_,key, .inl hH,gR hk n1,rfl⟩, ?_⟩;have Dc:ks.length=vs.length:=hl.trans dn.length;rw [lZ Dc];exact bc e r h
theorem Q1(hr:bO k' X.A)(ja:JE X R a ta)(jb:JE X R b tb)(hm:behindInMarks .In b=false:=by rfl):JE X R (.Compare a [.In] [b] pos) (kI QU ta tb):=yN (N5 (B_ hr)) UM ja jb hm
end
def fh(ks:List Key)(k:Key):List Key:=if Ip ks k=true then ks else ks++[k]
def kK{α:Type}(k:Key)(v:α):List Key->List α->List α
 | c::ks,x::xs=>(if c=k then v else x)::kK k v ks xs
 | _,_=>[]
def dU{α:Type}(ks:List Key)(k:Key)(xs:List α)(v:α):List α:=if Ip ks k=true then kK k v ks xs else xs++[v]
theorem nI{α:Type}{k:Key}{v:α}:∀{ks:List Key} {xs:List α},ks.length=xs.length->(kK k v ks xs).length=ks.length
 | [],[],_=>rfl
 | _::ks,_::xs,h=>by
  have h:ks.length=xs.length:=by simpa using h
  show (kK k v ks xs).length+1=ks.length+1;rw [nI h]
theorem sV{k:Key}{v:V}:∀{ks:List Key} {vs:List V},ks.length=vs.length->(ks.zip vs).map (λkv=>if kv.1=k then (kv.1,v) else kv)=ks.zip (kK k v ks vs)
 | [],[],_=>rfl
 | c::ks,x::vs,h=>by
  have h:ks.length=vs.length:=by simpa using h
  rw [abi,aaF,sV h];show _=(c,if c=k then v else x)::ks.zip (kK k v ks vs)
  congr 1
  show (if c=k then (c,v) else (c,x))=_;split <;> rfl
theorem n9{K:PySem.W.Frag}{G:Hp}{L:List Addr}{k:Key}{d:Dt}{v:V}(n:Den K G L d v):∀{ks:List Key} {ds:List Dt} {vs:List V},Ρ K G L ds vs->ks.length=ds.length->Ρ K G L (kK k d ks ds) (kK k v ks vs)
 | [],[],_,h,_=>by cases h;rfl
 | c::ks,x::ds,_,⟨y,vs,e,n0,ns⟩,hl=>by
  subst e;have hl:ks.length=ds.length:=by simpa using hl
  refine ⟨_,_,rfl, ?_,n9 n ns hl⟩;show Den K G L (if c=k then d else x) (if c=k then v else y);split
  ·exact n
  ·exact n0
theorem FG{k:Key}{v:V}{ks:List Key}{vs:List V}(h:ks.length=vs.length):h7 (ks.zip vs) k v=(fh ks k).zip (dU ks k vs v):=by
 unfold h7 fh dU;rw [mK,lZ h];split
 ·exact sV h
 ·rw [List.zip_append h];rfl
def uP(to ti tv:DE):DS:=λDn ρ M=>tv ρ M (λy M1=>to ρ M1 (λd M2=>ti ρ M2 (λdi M3=>∃k ks ds key,d= .loc k/\M3[k]? =some (.cW ks ds)/\rS di=some key/\ks.length < 1000/\Dn.nx ρ (M3.set k (.cW (fh ks key) (dU ks key ds y)))) Dn.x) Dn.x) Dn.x
section
variable{X:Cx}{R:St->XK}{o i value:Expr}{to ti tv:DE}{pos pos':Pos}{k':Nat}
theorem o7(hr:bO k' X.A)(ho:JE X R o to)(hi:JE X R i ti)(hv:JE X R value tv)(hs:swapsWith value (some (.Subscript o i pos')) pos.line X.env=pure false:=by rfl):JS X R (.Assign [.Subscript o i pos'] value pos) (uP to ti tv):=
 .of (Js (B_ hr) ho hi hv hs) λσ H G L ρ M Dn rl n h hx=>by
  refine ⟨G,L,ρ,M,_,_,rl,n,h,hx,λv H1 ⟨dv,G1,L1,M1,e1,r1,n1,h1⟩=> ?_⟩;refine ⟨G1,L1,ρ,M1,_,_,r1,n.mono e1,h1,hx.on e1,λov H2 ⟨d,G2,L2,M2,e2,r2,n2,h2⟩=> ?_⟩;refine ⟨G2,L2,ρ,M2,_,_,r2,(n.mono e1).mono e2,h2,(hx.on e1).on e2,λiv H3 ⟨di,G3,L3,M3,e3,r3,n3,k,ks,ds,key,ed,hm,hk,hlen,h3⟩=> ?_⟩;subst ed;obtain ⟨a,rfl,Oj⟩:=n2;have zt:=e3.l.get Oj;obtain ⟨_,vs,hH,hl,dn⟩:=r3.d9 k a _ zt hm;have D6:=e2.trans e3;have SY:=Den.mono D6.g D6.l _ _ n1;have Dc:ks.length=vs.length:=hl.trans dn.length;obtain rfl:iv=kV key:=gR hk n3;have z:(ks.zip vs).length < sizeLine:=by rw [abj];exact aaR (Nat.min_le_left _ _) (Nat.lt_trans hlen (by decide))
  refine ⟨a,_,rfl,Fz.k hH z,ρ,G3,L3,_,((e1.trans e2).trans e3).trans (r3.Ij zt),r3.setM (m:= .cW (fh ks key) (dU ks key ds dv)) zt ⟨dU ks key vs v,by rw [Κ,FG Dc], ?_, ?_⟩,(((n.mono e1).mono e2).mono e3).mono (r3.Ij (o:= .own a) zt),h3⟩
  ·unfold fh dU;split
   ·rw [nI hl]
   ·rw [aai,aai,hl];rfl
  ·unfold dU;split
   ·exact n9 SY dn hl
   ·exact dn.app ⟨_,_,rfl,SY,rfl⟩
end
section
variable{X:Cx}{R:St->XK}{o i e f a b v1 v2:Expr}{to ti te ta tb tx t1 t2:DE}{t:DA}{pos p apos ck:Pos}{k':Nat}
def Cp:Dt->Dt->Ms->DQ->Prop:=λdi d M q=>∃k ks ds key,d= .loc k/\M[k]? =some (.cW ks ds)/\rS di=some key/\q (.bl (!Ip ks key)) M
theorem CM(hu:X.A.units+1 < cLine):jq X (compareOp .NotIn) (λy x H Q=>∃a o,x=V.ref a/\uV H a y o/\Q (.bl (!o.isSome)) H):=by intro ε s σ H x y u v Q I rx ry ⟨a,o,ex,g,q⟩;subst ex;obtain rfl:v=Value.ref a:=ry;exact JC hu I g rx λs3 I3=>⟨.bl (!o.isSome),H,I3,rfl,q⟩
theorem JG{K:PySem.W.Frag}:ou K (λy x H Q=>∃a o,x=V.ref a/\uV H a y o/\Q (.bl (!o.isSome)) H) Cp:=by intro G0 L0 H0 G L M H v1 v2 d1 d2 q e r n1 n2 ⟨k,ks,ds,key,ed,hm,hk,h⟩;subst ed;obtain ⟨a,rfl,CP⟩:=n2;obtain ⟨_,vs,hH,hl,dn⟩:=r.d9 k a _ CP hm;refine ⟨a,_,rfl, .inl ⟨_,key, .inl hH,gR hk n1,rfl⟩, ?_⟩;have Dc:ks.length=vs.length:=hl.trans dn.length;rw [lZ Dc];exact bc e r h
theorem CV(hr:bO k' X.A)(ja:JE X R a ta)(jb:JE X R b tb)(hm:behindInMarks .NotIn b=false:=by rfl):JT X R (.Compare a [.NotIn] [b] pos) (oQ (kI Cp ta tb)):=jW (CM (B_ hr)) JG ja jb hm
theorem um:cM X (.type "dict") (λxs H Q=>∃a Λ,xs=[V.ref a]/\Rd H a (.dK Λ)/\∀p,H p=none->Q (.ref p) (upd H p (.dK Λ))):=by
 intro ε s σ H xs us Q I r ⟨a,Λ,ex,e,q⟩;subst ex;cases r with
 | cons r1 r2=>
  cases r2;cases r1;exact EX I e λp s' hp I'=>⟨.ref p,_,I',rfl,q p hp⟩
def Fm:List Dt->Ms->DQ->Prop
 | [d],M,q=>∃k ks ds,d= .loc k/\M[k]? =some (.cW ks ds)/\q (.loc M.length) (M++[.cW ks ds])
 | _,_,_=>False
theorem Sv{K:PySem.W.Frag}:AI K (λxs H Q=>∃a Λ,xs=[V.ref a]/\Rd H a (.dK Λ)/\∀p,H p=none->Q (.ref p) (upd H p (.dK Λ))) Fm:=by
 intro G0 L0 H0 G L M H vs ds q e r n h;unfold Fm at h;split at h
 ·rename_i d;obtain ⟨v,rfl,n1⟩:=aT n;obtain ⟨k,ks,ds,ed,hm,h⟩:=h;subst ed;obtain ⟨a,rfl,hk⟩:=n1;obtain ⟨_,vs,hH,hl,dn⟩:=r.d9 k a _ hk hm;refine ⟨a,_,rfl, .inl hH,λp hp=> ?_⟩;exact ⟨.loc M.length,G,L++[p],_,e.trans (r.SH hp),r.KP (m:= .cW ks ds) hp ⟨vs,Κ,hl,Ρ.mono (.refl _) ⟨[p],rfl⟩ _ _ dn⟩,⟨p,rfl,by rw [<-r.len,List.getElem?_append_right (Nat.le_refl _)];simp⟩,h⟩
 ·exact h.elim
theorem A1:bootBuiltins "dict"=some (.type "dict"):=by decide+kernel
theorem Ba(hm:X.mg "dict"=none)(ha:JA X R [e] t)(hg:Gl X "dict":=by rfl)(he:starEach [e] X.env=(false,eval e X.env)::starEach [] X.env:=by rfl)(fF:(backTo pos (starEach [] X.env)).any (·.1)=false:=by rfl):JE X R (.Call (.Name "dict" p) [e] [] pos) (zf Fm t):=
 rG um Sv hm A1 ha hg (by decide) (by decide) he fF
end
section
variable{X:Cx}{R:St->XK}{o e f v1 v2:Expr}{to te tx t1 t2:DE}{pos apos ck:Pos}
theorem BR{K:PySem.W.Frag}{G1:Hp}{L1:List Addr}{H1 G:Hp}{L:List Addr}{M:Ms}{H:Hp}{p:Addr}{ks:List Key}{ds:List Dt}{vs:List V}{q:DQ}(e:Ex G1 L1 H1 G L H)(r:Rl K G L M H)(Oi:H1 p=none)(hg:G p=none)(hl:p∉L)(h:H p=some (.dK (ks.zip vs)))(hk:ks.length=ds.length)(n:Ρ K G L ds vs)(k:q (.loc M.length) (M++[.cW ks ds])):Fin K G1 L1 H1 q (.ref p) H:=by
 refine ⟨.loc M.length,G,L++[p],M++[.cW ks ds],⟨e.g,e.l.trans ⟨[p],rfl⟩,e.fr,e.out,λb hb=> ?_,e.xW⟩,⟨r.sub,by rw [List.length_append,List.length_append,r.len];rfl,List.nodup_append.mpr ⟨r.nd,by simp,λa ha b hb=> ?_⟩,λk a m h1 h2=> ?_⟩,⟨p,rfl,by rw [<-r.len,List.getElem?_append_right (Nat.le_refl _)];simp⟩,k⟩
 ·rcases aaN.mp hb with z | z
  ·exact e.new b z
  ·have e:b=p:=by simpa using z
   right;rw [e];exact Oi
 ·have e:b=p:=by simpa using hb
  rw [e];exact λz=>hl (z▸ha)
 ·by_cases rO:k < L.length
  ·rw [aat rO] at h1;rw [aat (by rw [<-r.len];exact rO)] at h2;obtain ⟨q1,q2⟩:=r.d9 k a m h1 h2;exact ⟨q1,q2.mono (.refl _) ⟨[p],rfl⟩ rfl⟩
  ·have e:k=L.length:=by have:=(aag.mp h1).1;rw [aai] at this;simp at this;omega
   rw [e,aaq (aaj _)] at h1;rw [e,r.len,aaq (aaj _)] at h2;simp at h1 h2;subst h1 h2;exact ⟨hg,vs,h,hk,Ρ.mono (.refl _) ⟨[p],rfl⟩ _ _ n⟩
theorem J7{z1 z2:Str}{c1 c2:Nat}{p1 p2:Pos}(Sl:JE X R v1 t1)(V0:JE X R v2 t2)(iT:z1≠z2:=by decide):
  JE X R (.Dict [some (.Constant (.str z1) c1 p1),some (.Constant (.str z2) c2 p2)] [v1,v2] pos) (λρ M q x=>t1 ρ M (λd1 M1=>t2 ρ M1 (λd2 M2=>q (.loc M2.length) (M2++[.cW [Sum.inr z1,Sum.inr z2] [d1,d2]])) x) x):=
 .of (vB (ju Xy Sl (ju Xy V0 wm)) rfl rfl (by simp) (by show 2<=15;decide)) λσ H G L ρ M q x rl n h hx=>by
  intro p hp;have gn:G p=none:=rl.sub.free hp;have ln:p∉L:=rl.zw hp;have e0:Ex G L H G L (upd H p (.dK [])):=⟨.refl _, .refl _,λ_ h _=>h,λb u h1 _=>by rw [ψ (λz=>by rw [z,hp] at h1;cases h1)];exact h1,λ_ h=> .inl h,λb h=>by rw [ψ (λz=>h (by rw [z];exact hp))];exact h⟩
  have r0:Rl X.K G L M (upd H p (.dK [])):=⟨λb u e=>by rw [ψ (λz=>by rw [z,gn] at e;cases e)];exact rl.sub b u e,rl.len,rl.nd,λi a m h1 h2=>by
   obtain ⟨q1,q2⟩:=rl.d9 i a m h1 h2
   exact ⟨q1,q2.mono (.refl _) (.refl _) (ψ λz=>q2.there (by rw [z];exact hp))⟩⟩
  refine ⟨G,L,ρ,M,_,x,r0,n,h,hx.on e0,λu1 H1 ⟨d1,G1,L1,M1,e1,r1,n1,h1⟩=> ?_⟩;have Oi:H1 p=some (.dK []):=e1.out _ _ Κ ln;have g1:G1 p=none:=e1.fr _ gn (by rw [Κ];simp);have l1:p∉L1:=λz=>(e1.new _ z).elim ln λq=>by rw [Κ] at q;cases q
  refine ⟨G1,L1,ρ,M1,_,x,r1,n.mono (e0.trans e1),h1,hx.on (e0.trans e1),λu2 H2 ⟨d2,G2,L2,M2,e2,r2,n2,h2⟩=> ?_⟩;have Pw:H2 p=some (.dK []):=e2.out _ _ Oi l1;have g2:G2 p=none:=e2.fr _ g1 (by rw [Oi];simp);have l2:p∉L2:=λz=>(e2.new _ z).elim l1 λq=>by rw [Oi] at q;cases q
  refine ⟨Pw,[(Sum.inr z1,u1),(Sum.inr z2,u2)],rfl,by show 2<=15;decide, ?_⟩;rw [kr _ [] (λ_ _=>rfl) (by simp [iT]),List.nil_append];have Pf:=(e0.trans e1).trans e2;have Wl:∀{b:Addr} {w:HO},G2 b=some w->b≠p:=λe z=>by rw [z,g2] at e;cases e
  refine BR (G:=G2) (L:=L2) (M:=M2) (ks:=[Sum.inr z1,Sum.inr z2]) (ds:=[d1,d2]) (vs:=[u1,u2]) ⟨Pf.g,Pf.l,Pf.fr,λb w h1 h2=> ?_,Pf.new,λb h=> ?_⟩ ⟨λb w e=> ?_,r2.len,r2.nd,λi a m h1 h2=> ?_⟩ hp g2 l2 Κ rfl ⟨_,_,rfl,Den.mono e2.g e2.l _ _ n1,_,_,rfl,n2,rfl⟩ h2
  ·rw [ψ (λz=>by rw [z,hp] at h1;cases h1)];exact Pf.out b w h1 h2
  ·by_cases hb:b=p
   ·rw [hb,Κ];simp
   ·rw [ψ hb];exact Pf.xW b h
  ·rw [ψ (Wl e)];exact r2.sub b w e
  ·obtain ⟨q1,q2⟩:=r2.d9 i a m h1 h2;exact ⟨q1,q2.mono (.refl _) (.refl _) (ψ λz=>l2 (by rw [<-z];exact aal h1))⟩
end
def ij{α:Type}(is:List Nat)(xs:List α):List α:=is.filterMap λi=>xs[i]?
theorem AE{α β:Type}{F:α->β->Prop}:∀{xs:List α} {ys:List β},Paired F xs ys->∀{i:Nat} {x:α},xs[i]? =some x->∃y,ys[i]? =some y/\F x y
 | _,_, .nil,i,x,h=>by simp at h
 | _,_, .cons r t,0,x,h=>by obtain rfl:=aar h;exact ⟨_,rfl,r⟩
 | _,_, .cons r t,i+1,x,h=>by obtain ⟨y,e,f⟩:=AE t (show _=some x by simpa using h);exact ⟨y,by simpa using e,f⟩
theorem qv{α β:Type}{F:α->β->Prop}{xs:List α}{ys:List β}(p:Paired F xs ys):∀is:List Nat,Paired F (ij is xs) (ij is ys)
 | []=> .nil
 | i::is=>by
  have ih:=qv p is;unfold ij at ih⊢;rw [abX,abX];cases hx:xs[i]? with
  | none=>
   have:ys[i]? =none:=by rw [List.getElem?_eq_none_iff] at hx⊢;rw [<-Paired.length p];exact hx
   rw [this];exact ih
  | some x=>
   obtain ⟨y,hy,r⟩:=AE p hx;rw [hy];exact .cons r ih
theorem DU{a b:Nat}(its:List Value)(hb:0 < b)(ha:a<=its.length):slicePick its.toArray (some (a:Int)) none (some (b:Int))=(ij (sliceRange a its.length b) its).toArray:=by
 have hs:sliceBounds (some (a:Int)) none (some (b:Int)) its.length=((a:Int),(its.length:Int),(b:Int)):=by
  unfold sliceBounds;have h1:(b:Int) > 0:=by omega
  have h2:¬(a:Int) < 0:=by omega
  simp only [Option.getD_some,h1,if_true,h2,if_false];refine Prod.ext ?_ rfl;show max (0:Int) (min (a:Int) (its.length:Int))=a;omega
 unfold slicePick;rw [aa0,hs]
 congr 1
 unfold ij
 congr 1
 funext i
 simp
section
variable{X:Cx}{e l k:Expr}{te tl tk:TE}{pos p2:Pos}
def Qd(K:PySem.W.Frag)(a b:Nat)(te tl tk:TE):TE:=λσ H Q=>te σ H λx H1=>tl σ H1 λy H2=>∃i:Int,y= .int i/\some i=some (a:Int)/\tk σ H2 λz H3=>∃j:Int,z= .int j/\some j=some (b:Int)/\∃c xs,x= .ref c/\gQ K H3 c xs/\a<=xs.length/\(sliceRange a xs.length b).length<=xs.length/\∀p,H3 p=none->Q (.ref p) (upd H3 p (.lst (ij (sliceRange a xs.length b) xs)))
theorem IT{α:Type}{xs:List α}:∀is:List Nat,(ij is xs).length<=is.length:=λis=>List.length_filterMap_le _ _
theorem Kt{a b:Nat}(hb:0 < b)(he:PE X e te)(hl:PE X l tl)(hk:PE X k tk):PE X (.Subscript e (.Slice (some l) none (some k) p2) pos) (Qd X.K a b te tl tk):=by intro ε s σ H Q I h;refine Subscript_ (aS (he ε s σ H _ I h) λv s1 ⟨x,H1,I1,r1,q1⟩=> ?_);refine wpAny_Slice (aS (ku hl ε s1 σ H1 (λo H2=>o=some (a:Int)/\tk σ H2 λz H3=>∃j:Int,z= .int j/\some j=some (b:Int)/\∃c xs,x= .ref c/\gQ X.K H3 c xs/\a<=xs.length/\(sliceRange a xs.length b).length<=xs.length/\∀p,H3 p=none->Q (.ref p) (upd H3 p (.lst (ij (sliceRange a xs.length b) xs)))) I1 q1) λvl s2 ⟨o1,H2,I2,pl,el,q2⟩=> ?_);rw [evalPart_none];refine wpAny_pure ?_;refine aS (ku hk ε s2 σ H2 (λo H3=>o=some (b:Int)/\∃c xs,x= .ref c/\gQ X.K H3 c xs/\a<=xs.length/\(sliceRange a xs.length b).length<=xs.length/\∀p,H3 p=none->Q (.ref p) (upd H3 p (.lst (ij (sliceRange a xs.length b) xs)))) I2 q2) λvs s3 ⟨o,H3,I3,ps,eo,c,xs,ex,hx,ha,hn,q⟩=> ?_;subst el eo ex;cases r1;have I4:Inv X ε σ H3 {s3 with heap:=s3.heap.push {cls:= .type "slice",data:= .fields #[vl, .none,vs]}}:=I3.kept (t':=s3.toks) λb ob q=>Heap.get?_push_of_some _ q;obtain ⟨its,r,ht,hz⟩:=I4.list hx;have hlen:=r.length;show wpAny (model X.prog X.w) X.A (subscriptTail e (.Slice (some l) none (some k) p2) (.ref c) (.ref s3.heap.objs.size)) (EP X ε σ Q) X.xe {s3 with heap:=s3.heap.push {cls:= .type "slice",data:= .fields #[vl, .none,vs]}};refine tail_any (ops:=[.ref c, .ref s3.heap.objs.size]) ht.isList.typeIs slot_list_getitem.lookup ?_ (by with_unfolding_all rfl);refine wpAny_getItem_list_slice ht.isList (Heap.IsSliceOf.new ..) pl .none ps (λz=>by injection z with z;omega) ?_ (by rw [aa0] <;> omega);rw [DU its hb (by omega),<-hlen];refine ⟨.ref _,_,I4.laid (t':=s3.toks) (o:= .lst (ij (sliceRange a xs.length b) xs)) (λb ob q=>Heap.get?_push_of_some _ q) (aaj _) ?_,rfl,q _ (I4.aG.fresh (aaj _))⟩;exact ⟨aaw (IT _) (aaw hn hz),_,0,qv r _,Heap.get?_push_size _ rfl⟩
end
def Rc(td te:TE):TE:=λσ H Q=>td σ H λx H1=>∃a,x= .ref a/\Yk H1 a/\te σ H1 λy H2=>∃b Λ more,y= .ref b/\a≠b/\H2 a=some (.dK Λ)/\Rd H2 b (.dK more)/\Λ.length+more.length<=sizeLine/\Q .br (upd H2 a (.dK (g9 Λ more)))
section
variable{X:Cx}{o e:Expr}{apos ck:Pos}{td te:TE}
theorem J4(ho:PE X o td)(he:PE X e te)(m:M1 X o "update" apos e ck):PE X (.Call (.Attribute o "update" apos) [e] [] ck) (Rc td te):=by
 intro ε s σ H Q I h;refine wpAny_Call_method m.base m.few m.line PySem.F.plainAttrs_dict PySem.F.slot_dict_update PySem.F.type_dict_update (aS (ho ε s σ H _ I h) λu s1 ⟨x,H1,I1,rx,a,ex,d,q1⟩=> ?_);subst ex;obtain rfl:u=Value.ref a:=rx;obtain ⟨t1,t2,_⟩:=Nz I1 d;refine ⟨t1,t2, ?_⟩;rw [m.trees];refine Calls.callWith_builtin rfl (Calls.evalArgs_plain (Calls.spliced_cons (aS (he ε s1 σ H1 _ I1 q1) λiv s2 ⟨y,H2,I2,ry,b,Λ,more,ey,iT,hA,hB,hz,q2⟩=>Calls.spliced_nil ?_)));subst ey;obtain rfl:iv=Value.ref b:=ry;obtain ⟨z1,d1,vs,r1,Yq⟩:=Bp I2.aG hA;obtain ⟨z2,d2,rs,r2,Ta⟩:=mE I2.aG hB;refine call_meetsIn PySem.F.slot_dict_update Yq.typeIs PySem.F.entry_dict_update (PySem.F.args_dict_update_2 _ _) (meets_dict_update (bb X.prog X.w) a b iT d2) ⟨vs,rs,Yq,Ta,by rw [<-r1.length,<-r2.length];exact hz,λh' hm _ hs=> ?_⟩;have hex:∃q,h'.get? a=some q:=let ⟨q,_,_,hq,_⟩:=hm;⟨q,hq⟩
 exact ⟨.br,_,pj (t':=s2.toks) I2 (by rw [hA];exact True.intro) hs hex (pY (aaw (gW more Λ) hz) d1 (KV.merge r2 r1) hm),rfl,q2⟩
end
section
variable{X:Cx}{R:St->XK}{o e l k a b:Expr}{to te tl tk ta tb:DE}{pos p2 apos ck:Pos}{k':Nat}
def LB(a b:Nat)(te tl tk:DE):DE:=λρ M q x=>te ρ M (λd M1=>tl ρ M1 (λdi M2=>di= .int a/\tk ρ M2 (λdk M3=>∃ds,E4 M3 d=some ds/\dk= .int b/\a<=ds.length/\(sliceRange a ds.length b).length<=ds.length/\q (.loc M3.length) (M3++[.lst (ij (sliceRange a ds.length b) ds)])) x) x) x
theorem Oo{a b:Nat}(he:JE X R e te)(hl:JE X R l tl)(hk:JE X R k tk)(hb:0 < b:=by decide):JE X R (.Subscript e (.Slice (some l) none (some k) p2) pos) (LB a b te tl tk):=
 .of (Kt hb he hl hk) λσ H G L ρ M q x rl n h hx=>by refine ⟨G,L,ρ,M,_,x,rl,n,h,hx,λv H1 ⟨d1,G1,L1,M1,e1,r1,n1,h1⟩=> ?_⟩;refine ⟨G1,L1,ρ,M1,_,x,r1,n.mono e1,h1,hx.on e1,λv2 H2 ⟨d2,G2,L2,M2,e2,r2,n2,ei,h2⟩=> ?_⟩;subst ei;have n2:v2= .int a:=n2;subst n2;refine ⟨_,rfl,rfl,G2,L2,ρ,M2,_,x,r2,(n.mono e1).mono e2,h2,(hx.on e1).on e2,λv3 H3 ⟨d3,G3,L3,M3,e3,r3,n3,ds,ed,ek,ha,hn,h3⟩=> ?_⟩;subst ek;have n3:v3= .int b:=n3;subst n3;have D6:=e2.trans e3;obtain ⟨c,vs,rfl,sq,m⟩:=pb r3 (Den.mono D6.g D6.l _ _ n1) ed;have hl:=m.length;refine ⟨_,rfl,rfl,c,vs,rfl,sq,by rw [<-hl];exact ha,by rw [<-hl];exact hn,λp hp=> ?_⟩;rw [<-hl];exact i9 (e1.trans D6) r3 hp (Ρ.of (qv m.pair _)) h3
def oH(ks:List Key):List Key->List Key
 | []=>ks
 | k::r=>oH (fh ks k) r
def rH(ks:List Key)(ds:List Dt):List Key->List Dt->List Dt
 | k::r,d::w8=>rH (fh ks k) (dU ks k ds d) r w8
 | _,_=>ds
theorem M_{α:Type}{ks:List Key}{k:Key}{xs:List α}{v:α}(h:ks.length=xs.length):(fh ks k).length=(dU ks k xs v).length:=by
 unfold fh dU;split
 ·rw [nI h]
 ·rw [aai,aai,h];rfl
theorem OD{K:PySem.W.Frag}{G:Hp}{L:List Addr}{ks:List Key}{k:Key}{ds:List Dt}{vs:List V}{d:Dt}{v:V}(n:Den K G L d v)(h:Ρ K G L ds vs)(hl:ks.length=ds.length):Ρ K G L (dU ks k ds d) (dU ks k vs v):=by
 unfold dU;split
 ·exact n9 n h hl
 ·exact h.app ⟨_,_,rfl,n,rfl⟩
theorem BD{K:PySem.W.Frag}{G:Hp}{L:List Addr}:∀{sM:List Key} {w8:List Dt} {Jc:List V} {ks:List Key} {ds:List Dt} {vs:List V},sM.length=w8.length->Ρ K G L w8 Jc->ks.length=ds.length->Ρ K G L ds vs->
  ∃us,g9 (ks.zip vs) (sM.zip Jc)=(oH ks sM).zip us/\(oH ks sM).length=(rH ks ds sM w8).length/\Ρ K G L (rH ks ds sM w8) us
 | [],[],_,ks,ds,vs,_,h2,hl,h=>by cases h2;exact ⟨vs,rfl,hl,h⟩
 | k::sM,d::w8,_,ks,ds,vs,Dc,⟨v,Jc,e,n0,ns⟩,hl,h=>by
  subst e;have Dc:sM.length=w8.length:=by simpa using Dc
  obtain ⟨us,e1,e2,e3⟩:=BD (ks:=fh ks k) (ds:=dU ks k ds d) (vs:=dU ks k vs v) Dc ns (M_ hl) (OD n0 h hl);refine ⟨us, ?_,e2,e3⟩;rw [abi];show g9 (h7 (ks.zip vs) k v) (sM.zip Jc)=(oH (fh ks k) sM).zip us;rw [FG (hl.trans h.length),e1]
def GP(to te:DE):DE:=λρ M q x=>to ρ M (λd M1=>(∃k ks ds,d= .loc k/\M1[k]? =some (.cW ks ds))/\te ρ M1 (λd2 M2=>∃k k2 ks ds sM w8,d= .loc k/\d2= .loc k2/\k≠k2/\M2[k]? =some (.cW ks ds)/\M2[k2]? =some (.cW sM w8)/\ks.length+sM.length<=1000/\q .br (M2.set k (.cW (oH ks sM) (rH ks ds sM w8)))) x) x
theorem Fb(ho:JE X R o to)(he:JE X R e te)(m:M1 X o "update" apos e ck:=by exact ⟨rfl,rfl,rfl,rfl⟩):JE X R (.Call (.Attribute o "update" apos) [e] [] ck) (GP to te):=
 .of (J4 ho he m) λσ H G L ρ M q x rl n h hx=>by
  refine ⟨G,L,ρ,M,_,x,rl,n,h,hx,λv H1 ⟨d1,G1,L1,M1,e1,r1,n1,⟨k0,ks0,ds0,ZS,XG⟩,h1⟩=> ?_⟩;subst ZS;obtain ⟨a,rfl,hk⟩:=n1;obtain ⟨_,YE,hH0,_,_⟩:=r1.d9 k0 a _ hk XG;refine ⟨a,rfl, .inl ⟨_, .inl hH0⟩,G1,L1,ρ,M1,_,x,r1,n.mono e1,h1,hx.on e1,λv2 H2 ⟨d2,G2,L2,M2,e2,r2,n2,k,k2,ks,ds,sM,w8,ed,ed2,iT,hm,WZ,hz,h3⟩=> ?_⟩;cases ed;subst ed2;have zt:=e2.l.get hk;obtain ⟨b,rfl,Q5⟩:=n2;obtain ⟨_,vs,hH,hl,dn⟩:=r2.d9 k0 a _ zt hm;obtain ⟨_,Jc,SF,Dc,O9⟩:=r2.d9 k2 b _ Q5 WZ;have z1:(ks.zip vs).length<=ks.length:=by rw [abj];exact Nat.min_le_left _ _
  have z2:(sM.zip Jc).length<=sM.length:=by rw [abj];exact Nat.min_le_left _ _
  have sz:(1000:Nat)<=sizeLine:=by decide
  obtain ⟨us,u1,u2,u3⟩:=BD Dc O9 hl dn;have ab:a≠b:=λz=>by subst z;have i1:=(aag.mp zt).1;have:=(List.getElem?_inj (l:=L2) i1 r2.nd).mp (zt.trans Q5.symm);exact iT this
  refine ⟨b,_,_,rfl,ab,hH, .inl SF,by omega, ?_⟩;exact ⟨.br,G2,L2,_,(e1.trans e2).trans (r2.Ij zt),r2.setM (m:= .cW (oH ks sM) (rH ks ds sM w8)) zt ⟨us,by rw [Κ,u1],u2,u3⟩,rfl,h3⟩
end
def FC(P:Program)(w:World)(a:Addr)(Λ:List (Key×V))(ep:Nat)(h:Heap):Prop:=Λ.length<=sizeLine/\(a==sysModules)=false/\∃vs,KV Λ vs/\h.DictAt (bb P w) a vs ep
def zB(P:Program)(w:World)(a:Addr)(Λ:List (Key×V))(ep:Nat):HO:= .ext (FC P w a Λ ep)
section
variable{P P':Program}{w w':World}{H:Hp}{h:Heap}{a:Addr}{Λ:List (Key×V)}{ep:Nat}
theorem BJ(ok:ky P w H h)(e:H a=some (zB P' w' a Λ ep)):FC P' w' a Λ ep h:=(ok a _ e).1
theorem Mx(x:FC P' w' a Λ ep h):bD P w H h a (zB P' w' a Λ ep):=by
 refine ⟨x, ?_,λh1 h2 y k=> ?_⟩
 ·obtain ⟨_,_,vs,_,o,es,e,_⟩:=x;exact ⟨o,e⟩
 ·obtain ⟨z,hd,vs,r,o,es,e,c⟩:=y;exact ⟨z,hd,vs,r,o,es,k _ e,c⟩
end
section
variable{X:Cx}{ε:List (Addr×Obj)}{σ:St}{H:Hp}{s:Shared}{a:Addr}{Λ:List (Key×V)}{ep:Nat}
theorem Inv.ON(I:Inv X ε σ H s)(mu:O2 (H a))(x:FC X.prog X.w a Λ ep s.heap):Inv X ε σ (upd H a (zB X.prog X.w a Λ ep)) s:=by
 have he:∃u,s.heap.get? a=some u:=let ⟨_,_,_,_,o,_,e,_⟩:=x;⟨o,e⟩
 exact I.write (x:=a) (e:=a) (h':=s.heap) (t':=s.toks) mu (.inl rfl) (λb u _ q=>q) he (Mx x)
theorem Inv.walkOut(I:Inv X ε σ H s)(e:H a=some (zB X.prog X.w a Λ ep)):Inv X ε σ (upd H a (.dK Λ)) s:=by
 obtain ⟨z,hd,vs,r,dd⟩:=BJ I.aG e;have he:∃u,s.heap.get? a=some u:=let ⟨o,_,e,_⟩:=dd;⟨o,e⟩
 exact I.write (x:=a) (e:=a) (h':=s.heap) (t':=s.toks) (by rw [e];exact True.intro) (.inl rfl) (λb u _ q=>q) he (pY z hd r dd.dictOf)
theorem Qp{P:Program}{w:World}{k:Key}{u:Value}(h:(bb P w).is k u=true):au (kV k) u:=by
 rcases aX h with ⟨i,t,rfl,rfl⟩ | ⟨x,t,rfl,rfl⟩
 ·exact ⟨t,rfl⟩
 ·exact ⟨t,rfl⟩
end
def UE(P:Program)(w:World)(a:Addr)(Λ:List (Key×V))(ep:Nat):It:=
 ⟨λi H=>H a=some (zB P w a Λ ep)/\i < Λ.length,λi H x H'=>H'=H/\∃kv,Λ[i]? =some kv/\x=kV kv.1,λi H=>H a=some (zB P w a Λ ep)/\Λ.length<=i⟩
theorem CU{P:Program}{w:World}{K:PySem.W.Frag}{tg:Expr}(a it:Addr)(Λ:List (Key×V))(ep:Nat):Turn P w K tg (UE P w a Λ ep) [it] it (λi h=>h.IsKeyIter it a i Λ.length ep) where
 mem:=by simp
 obj:=λi h st b hb=>by
  have e:b=it:=by simpa using hb
  subst e;obtain ⟨o,e,c,d⟩:=st;exact ⟨o,e,λv z=>by rw [d] at z;cases z⟩
 keep:=λi h h' st k=>by obtain ⟨o,e,r⟩:=st;exact ⟨o,k it (by simp) o e,r⟩
 item:=by
  intro X hP hw hK hc i ε s σ H E I hf st hg;subst hP hw hK;obtain ⟨hq,hi⟩:=hg;obtain ⟨z,hd,vs,rel,dd⟩:=BJ I.aG hq;obtain ⟨f0,f1,f2,f3,f4,f5⟩:=hf it (by simp);have hx:Λ[i]? =some Λ[i]:=aaa hi;obtain ⟨q,O3,r1,r2⟩:=AE rel hx;obtain ⟨k,v⟩:=q;have TL:s.heap.IsKeyIter it a i vs.length ep:=by rw [<-rel.length];exact st
  refine wpAny_pyNext_dict_item TL dd O3 λkey h' hk uI sb=> ?_;have uI:h'.IsKeyIter it a (i+1) Λ.length ep:=by rw [rel.length];exact uI
  have I1:Inv X ε σ H {s with heap:=h'}:=I.turned (t':=s.toks) (λb o hb e=>(sb.2 b hb).trans e) f0 f1 f3 f4 f5;obtain ⟨o,e,c,d⟩:=id uI;exact ⟨key,rfl,tT (s:={s with heap:=h'}) e c d (by decide) ⟨kV k,H,I1,Qp hk,⟨rfl,Λ[i],hx,by rw [r1]⟩,uI,λb hb=>(hf b hb).1⟩⟩
 done:=by
  intro X hP hw hK hc i ε s σ H E I hf st hg;subst hP hw hK;obtain ⟨hq,hi⟩:=hg;obtain ⟨z,hd,vs,rel,dd⟩:=BJ I.aG hq;obtain ⟨f0,f1,f2,f3,f4,f5⟩:=hf it (by simp);have TL:s.heap.IsKeyIter it a i vs.length ep:=by rw [<-rel.length];exact st
  exact wpAny_pyNext_dict_end (I.ok.hd hc) TL dd (List.getElem?_eq_none (by rw [<-rel.length];exact hi)) λh' eb=>⟨rfl,I.turned (t':=s.toks) (λb o hb e=>eb b o hb e) f0 f1 f3 f4 f5⟩
 self:=λ_ _ _ _ _ st h=>wpAny_pyIter_keyiter st h
section
variable{X:Cx}{tg:Expr}{ε:List (Addr×Obj)}{σ:St}{H:Hp}{s:Shared}{a:Addr}{Λ:List (Key×V)}{Q:It->Hp->Prop}{E:Value->Shared->Prop}
theorem Kq(I:Inv X ε σ H s)(e:H a=some (.dK Λ))(q:∀ep,Q (UE X.prog X.w a Λ ep) (upd H a (zB X.prog X.w a Λ ep))):wpAny (model X.prog X.w) X.A (pyIter (.ref a)) (Jk X ε σ tg Q) E s:=by
 obtain ⟨z,hd,vs,rel,dd⟩:=Bp I.aG e;obtain ⟨ep,dd⟩:=dd.dictAt;refine wpAny_pyIter_dict hd dd ?_;have I1:=I.ON (by rw [e];exact True.intro) (show FC X.prog X.w a Λ ep s.heap from ⟨z,hd,vs,rel,dd⟩);refine ⟨s.heap.objs.size,[s.heap.objs.size],_,_,_,rfl,I1.kept (t':=s.toks) λb o e=>Heap.get?_push_of_some _ e,CU a _ Λ ep,⟨_,Heap.get?_push_size _ rfl,rfl,by rw [rel.length];rfl⟩,λb hb=> ?_,q ep⟩;have e:b=s.heap.objs.size:=by simpa using hb
 subst e;exact I1.z_ (aaj _) (I1.aG.fresh (aaj _))
end
def Xb(P:Program)(w:World)(D:wI):St->Hp->Prop:=λσ H=>∃a Λ ep,H a=some (zB P w a Λ ep)/\D.nx σ (upd H a (.dK Λ))
section
variable{X:Cx}{st:Stmt}{t:TS}{o i:Expr}{td ty:TE}{pos:Pos}
theorem EC(h:PS X st t):PS X st (λD σ H=>t {D with nx:=Xb X.prog X.w D} σ H):=by
 intro ε s σ H D I h';refine aS (h ε s σ H _ I h') λf s' sp=> ?_;cases f with
 | next=>
  obtain ⟨σ',H',I',a,Λ,ep,e,q⟩:=sp;exact ⟨σ',_,I'.walkOut e,q⟩
 | brk=>exact sp
 | cont=>exact sp
 | ret u=>exact sp
def MD(P:Program)(w:World)(td ty:TE):TE:=λσ H Q=>td σ H λx H1=>ty σ H1 λy H2=>∃a Λ ep k v,x= .ref a/\H2 a=some (zB P w a Λ ep)/\y=kV k/\jj Λ k=some v/\Q v H2
theorem HU(ho:PE X o td)(hi:PE X i ty)(hs:zp i):PE X (.Subscript o i pos) (MD X.prog X.w td ty):=by intro ε s σ H Q I h;refine wH abT.lookup hs (aS (ho ε s σ H _ I h) λu s1 ⟨x,H1,I1,rx,q1⟩=>aS (hi ε s1 σ H1 _ I1 q1) λiv s2 ⟨y,H2,I2,ry,a,Λ,ep,k,v,ex,e,ey,l,q2⟩=> ?_);subst ex ey;obtain rfl:u=Value.ref a:=rx;obtain ⟨z,hd,vs,rel,dd⟩:=BJ I2.aG e;have dd:=dd.dictOf;obtain ⟨w',hw,Er⟩:=jx.some_of (v:=v) (o:=valueAt vs k) (by rw [<-l];exact rel.val k);exact ⟨dd.typeIs,wpAny_getItem_of (qZ ry) dd.mapOf hw ⟨v,H2,I2.tok _,Er,q2⟩⟩
end
def FX:Key->Dt
 | .inl i=> .int i
 | .inr x=> .str x
theorem KG{K:PySem.W.Frag}{G:Hp}{L:List Addr}:∀k:Key,Den K G L (FX k) (kV k)
 | .inl _=>rfl
 | .inr _=>rfl
theorem qt{K:PySem.W.Frag}{G:Hp}{L:List Addr}:∀is:List Int,Ρ K G L (is.map Dt.int) (is.map V.int)
 | []=>rfl
 | _::is=>⟨_,_,rfl,rfl,qt is⟩
theorem xA{K:PySem.W.Frag}{G:Hp}{L:List Addr}:∀{is:List Int} {vs:List V},Ρ K G L (is.map Dt.int) vs->vs=is.map V.int
 | [],vs,h=>h
 | i::is,vs,h=>by obtain ⟨v,r,rfl,h1,h2⟩:=h;have h1:v= .int i:=h1;rw [h1,xA h2];rfl
def LH(P:Program)(w:World)(ks:List Key)(is:List Int)(ep:Nat):Addr->HO:=λa=>zB P w a (ks.zip (is.map V.int)) ep
def r6(g:Dt->En->(En->Prop)->Prop)(tb:DS)(Dn:kG)(k:Nat)(u:Addr->HO)(m:MO):List Key->En->Ms->Prop
 | [],ρ,M=>M[k]? =some (.raw u)/\Dn.nx ρ (M.set k m)
 | x::xs,ρ,M=>M[k]? =some (.raw u)/\g (FX x) ρ λρ'=>tb {Dn with nx:=r6 g tb Dn k u m xs,ct:=r6 g tb Dn k u m xs,bk:=λρ M=>M[k]? =some (.raw u)/\Dn.nx ρ (M.set k m)} ρ' M
def QW(P:Program)(w:World)(te:DE)(g:Dt->En->(En->Prop)->Prop)(tb:DS):DS:=λDn ρ M=>te ρ M (λd M1=>∃k ks is,d= .loc k/\M1[k]? =some (.cW ks (is.map Dt.int))/\∀ep,r6 g tb Dn k (LH P w ks is ep) (.cW ks (is.map Dt.int)) ks ρ (M1.set k (.raw (LH P w ks is ep)))) Dn.x
def OT(P:Program)(w:World)(t:TE):TI:=λσ H R=>t σ H λv H1=>∃a Λ,v= .ref a/\H1 a=some (.dK Λ)/\∀ep,R (UE P w a Λ ep) (upd H1 a (zB P w a Λ ep))
theorem Kw{X:Cx}{tg e:Expr}{t:TE}(h:PE X e t):PI X tg e (OT X.prog X.w t):=by intro ε s σ H R I ht;refine aS (h ε s σ H _ I ht) λu s1 ⟨v,H1,I1,rv,a,Λ,ev,ha,q⟩=> ?_;subst ev;obtain rfl:u=Value.ref a:=rv;exact Kq I1 ha q
section
variable{X:Cx}{R:St->XK}{tg iter e o i:Expr}{body:List Stmt}{te to ti:DE}{gg:TG}{g:Dt->En->(En->Prop)->Prop}{tb:DS}{pos:Pos}
theorem KL(hi:JE X R iter te)(hg:PG X tg gg)(gd:GD X.K gg g)(hb:BH X R body tb)(hp:PassesOwn (model X.prog X.w) X.A X.env X.xe:=by first | exact PassesOwn.never | exact PassesOwn.leaving)(hc:X.calm=true:=by rfl)(hs:∀x,foldedSetIterable iter X.env x=pure x:=by intro _;rfl):
  JS X R (.For tg iter body [] pos) (QW X.prog X.w te g tb):= .of (EC (AY hp hc (Kw hi) hg hb hs)) λσ H G L ρ M Dn rl n h hx=>by
 refine ⟨G,L,ρ,M,_,_,rl,n,h,hx,λv H1 ⟨d,G1,L1,M1,e1,r1,n1,k,ks,is,ed,hk,h1⟩=> ?_⟩;subst ed;obtain ⟨a,rfl,Oj⟩:=n1;obtain ⟨hGa,vs,hH,hl,dn⟩:=r1.d9 k a _ Oj hk;have hvs:=xA dn;subst hvs;rw [aae] at hl;refine ⟨a,_,rfl,hH,λep=> ?_⟩;have h1:=h1 ep;generalize hu:LH X.prog X.w ks is ep=u at h1;have SV:zB X.prog X.w a (ks.zip (is.map V.int)) ep=u a:=by rw [<-hu];rfl
 have r2:Rl X.K G1 L1 (M1.set k (.raw u)) (upd H1 a (zB X.prog X.w a (ks.zip (is.map V.int)) ep)):=r1.setM (m:= .raw u) Oj (show upd H1 a _ a=some (u a) by rw [Κ,SV]);have e2:Ex G1 L1 H1 G1 L1 (upd H1 a (zB X.prog X.w a (ks.zip (is.map V.int)) ep)):=r1.Ij Oj;have zl:(ks.zip (is.map V.int)).length=ks.length:=by rw [abj,aae];omega
 generalize SF:upd H1 a (zB X.prog X.w a (ks.zip (is.map V.int)) ep)=H2 at r2 e2;have E_:=e1.trans e2;have out:∀{G':Hp} {L':List Addr} {H':Hp} {M':Ms} {ρ':En} {σ':St},Ex G1 L1 H2 G' L' H'->Rl X.K G' L' M' H'->ji X.K G' L' ρ' σ'->M'[k]? =some (.raw u)->Dn.nx ρ' (M'.set k (.cW ks (is.map Dt.int)))->Xb X.prog X.w (sx X.K G L H Dn) σ' H':=λ{G' L' H' M' ρ' σ'} e' r' n' hm Rb=>by have zz:=e'.l.get Oj;have Rz:H' a=some (u a):=(r'.d9 k a _ zz hm).2;refine ⟨a,ks.zip (is.map V.int),ep,by rw [SV];exact Rz,ρ',G',L',_,(E_.trans e').trans (r'.Ij zz),r'.setM (m:= .cW ks (is.map Dt.int)) zz ⟨is.map V.int,Κ,by rw [aae];exact hl,qt is⟩,n'.mono (r'.Ij (o:= .own a) zz),Rb⟩
 refine ⟨λi m σ' H'=>m+i=ks.length/\dY X.K G1 L1 H2 (λρ' M'=>r6 g tb Dn k u (.cW ks (is.map Dt.int)) (ks.drop i) ρ' M') σ' H',⟨ks.length,rfl,ρ,G1,L1,_, .refl _ _ _,r2,n.mono e1,by rw [abF];exact h1⟩, ?_⟩;rintro i m σ' H' ⟨hm,ρ',G',L',M',e',r',n',h'⟩;have zz:=e'.l.get Oj;by_cases hi:i < ks.length
 ·right;rw [aaP hi] at h';obtain ⟨J5,h'⟩:=h';have Rz:H' a=some (u a):=(r'.d9 k a _ zz J5).2;refine ⟨⟨by rw [SV];exact Rz,by omega⟩,dY X.K G1 L1 H2 (λρ' M'=>r6 g tb Dn k u (.cW ks (is.map Dt.int)) (ks.drop (i+1)) ρ' M'),λσ2 H3 f=>⟨m - 1,by omega,by omega,f⟩,λv H3 hy=> ?_⟩;obtain ⟨rfl,kv,Xn,rfl⟩:=hy;have CP:kv.1=ks[i]:=by rw [List.getElem?_zip_eq_some] at Xn;have:=Xn.1;rw [aaa hi] at this;exact (aar this).symm
  rw [CP];refine gd G' L' M' H3 _ _ ρ' σ' _ _ r' (KG _) n' h' λρ3 σ3 n3 h3=> ?_;refine ⟨G',L',ρ3,M',_,r',n3,h3,hx.on (E_.trans e'),⟨λ_ _ f=>dY.back e' f,λ_ _ f=>Fin.back (E_.trans e') f,λσ4 H4 f=> ?_,λ_ _ f=>dY.back e' f⟩⟩;obtain ⟨ρ4,G4,L4,M4,e4,r4,n4,hm4,h4⟩:=f;exact out (e'.trans e4) r4 n4 hm4 h4
 ·left;rw [abb (by omega)] at h';have Rz:H' a=some (u a):=(r'.d9 k a _ zz h'.1).2;exact ⟨⟨by rw [SV];exact Rz,by omega⟩,out e' r' n' h'.1 h'.2⟩
def Mg(P:Program)(w:World)(to ti:DE):DE:=λρ M q x=>to ρ M (λd M1=>ti ρ M1 (λdi M2=>∃k ks is ep key j,d= .loc k/\M2[k]? =some (.raw (LH P w ks is ep))/\rS di=some key/\b_ ks (is.map Dt.int) key=some (.int j)/\q (.int j) M2) x) x
theorem Kn(ho:JE X R o to)(hi:JE X R i ti)(hs:zp i:=by intro _ _;rfl):JE X R (.Subscript o i pos) (Mg X.prog X.w to ti):=
 .of (HU ho hi hs) λσ H G L ρ M q x rl n h hx=>by refine ⟨G,L,ρ,M,_,x,rl,n,h,hx,λv H1 ⟨d1,G1,L1,M1,e1,r1,n1,h1⟩=> ?_⟩;refine ⟨G1,L1,ρ,M1,_,x,r1,n.mono e1,h1,hx.on e1,λv2 H2 ⟨d2,G2,L2,M2,e2,r2,n2,k,ks,is,ep,key,j,ed,hm,hk,hg,h2⟩=> ?_⟩;subst ed;obtain ⟨a,rfl,CP⟩:=n1;have Ko:=e2.l.get CP;have hH:H2 a=some (LH X.prog X.w ks is ep a):=(r2.d9 k a _ Ko hm).2;obtain rfl:v2=kV key:=gR hk n2;obtain ⟨v,hv,dv⟩:=ni (K:=X.K) (G:=G2) (L:=L2) (qt is) hg;exact ⟨a,_,ep,key,v,rfl,hH,rfl,hv,_,G2,L2,M2,e1.trans e2,r2,dv,h2⟩
end
section
variable{X:Cx}{R:St->XK}{k1 v1 k2 v2:Expr}{s1 t1 s2 t2:DE}{pos:Pos}
structure EN(K:PySem.W.Frag)(G0:Hp)(L0:List Addr)(H0:Hp)(p:Addr)(G:Hp)(L:List Addr)(M:Ms)(H:Hp):Prop where
 ex:Ex G0 L0 (upd H0 p (.dK [])) G L H
 rl:Rl K G L M H
 at_:H p=some (.dK [])
 g:G p=none
 l:p∉L
theorem EN.on{K:PySem.W.Frag}{G0:Hp}{L0:List Addr}{H0:Hp}{p:Addr}{G:Hp}{L:List Addr}{M:Ms}{H:Hp}(a:EN K G0 L0 H0 p G L M H){G':Hp}{L':List Addr}{M':Ms}{H':Hp}(e:Ex G L H G' L' H')(r:Rl K G' L' M' H'):EN K G0 L0 H0 p G' L' M' H':=
 ⟨a.ex.trans e,r,e.out _ _ a.at_ a.l,e.fr _ a.g (by rw [a.at_];simp),λz=>(e.new _ z).elim a.l λq=>by rw [a.at_] at q;cases q⟩
theorem L8{K:PySem.W.Frag}{G:Hp}{L:List Addr}{M:Ms}{H:Hp}{p:Addr}(rl:Rl K G L M H)(hp:H p=none):Ex G L H G L (upd H p (.dK []))/\EN K G L H p G L M (upd H p (.dK [])):=by
 have gn:G p=none:=rl.sub.free hp;have ln:p∉L:=rl.zw hp;have e0:Ex G L H G L (upd H p (.dK [])):=⟨.refl _, .refl _,λ_ h _=>h,λb u h1 _=>by rw [ψ (λz=>by rw [z,hp] at h1;cases h1)];exact h1,λ_ h=> .inl h,λb h=>by rw [ψ (λz=>h (by rw [z];exact hp))];exact h⟩
 have r0:Rl K G L M (upd H p (.dK [])):=⟨λb u e=>by rw [ψ (λz=>by rw [z,gn] at e;cases e)];exact rl.sub b u e,rl.len,rl.nd,λi a m h1 h2=>by
  obtain ⟨q1,q2⟩:=rl.d9 i a m h1 h2
  exact ⟨q1,q2.mono (.refl _) (.refl _) (ψ λz=>q2.there (by rw [z];exact hp))⟩⟩
 exact ⟨e0, .refl _ _ _,r0,Κ,gn,ln⟩
theorem EN.fin{K:PySem.W.Frag}{G0:Hp}{L0:List Addr}{H0:Hp}{p:Addr}{G:Hp}{L:List Addr}{M:Ms}{H:Hp}{ks:List Key}{ds:List Dt}{vs:List V}{q:DQ}(a:EN K G0 L0 H0 p G L M H)(e0:Ex G0 L0 H0 G0 L0 (upd H0 p (.dK [])))(hp:H0 p=none)(hk:ks.length=ds.length)(n:Ρ K G L ds vs)(k:q (.loc M.length) (M++[.cW ks ds])):Fin K G0 L0 H0 q (.ref p) (upd H p (.dK (ks.zip vs))):=by
 have e:=e0.trans a.ex;have Wl:∀{b:Addr} {w:HO},G b=some w->b≠p:=λe z=>by rw [z,a.g] at e;cases e
 refine BR (G:=G) (L:=L) (M:=M) (ks:=ks) (ds:=ds) (vs:=vs) ⟨e.g,e.l,e.fr,λb w h1 h2=> ?_,e.new,λb h=> ?_⟩ ⟨λb w e=> ?_,a.rl.len,a.rl.nd,λi c m h1 h2=> ?_⟩ hp a.g a.l Κ hk n k
 ·rw [ψ (λz=>by rw [z,hp] at h1;cases h1)];exact e.out b w h1 h2
 ·by_cases hb:b=p
  ·rw [hb,Κ];simp
  ·rw [ψ hb];exact e.xW b h
 ·rw [ψ (Wl e)];exact a.rl.sub b w e
 ·obtain ⟨q1,q2⟩:=a.rl.d9 i c m h1 h2;exact ⟨q1,q2.mono (.refl _) (.refl _) (ψ λz=>a.l (by rw [<-z];exact aal h1))⟩
def GW(s1 t1:DE):DE:=λρ M q x=>s1 ρ M (λc1 M1=>t1 ρ M1 (λd1 M2=>∃y1,rS c1=some y1/\q (.loc M2.length) (M2++[.cW [y1] [d1]])) x) x
theorem Gx(CP:JE X R k1 s1)(Sl:JE X R v1 t1):JE X R (.Dict [some k1] [v1] pos) (GW s1 t1):=
 .of (vB (ju CP Sl wm) rfl rfl (by simp) (by show 1<=15;decide)) λσ H G L ρ M q x rl n h hx=>by intro p hp;obtain ⟨e0,a0⟩:=L8 rl hp;refine ⟨G,L,ρ,M,_,x,a0.rl,n,h,hx.on e0,λu1 H1 ⟨d1,G1,L1,M1,e1,r1,n1,h1⟩=> ?_⟩;have a1:=a0.on e1 r1;refine ⟨G1,L1,ρ,M1,_,x,r1,n.mono (e0.trans e1),h1,hx.on (e0.trans e1),λu2 H2 ⟨d2,G2,L2,M2,e2,r2,n2,y1,hy,h2⟩=> ?_⟩;have a2:=a1.on e2 r2;obtain rfl:u1=kV y1:=gR hy n1;refine ⟨a2.at_,[(y1,u2)],rfl,by show 1<=15;decide, ?_⟩;rw [kr _ [] (λ_ _=>rfl) (by simp),List.nil_append];exact a2.fin (ks:=[y1]) (ds:=[d2]) (vs:=[u2]) e0 hp rfl ⟨_,_,rfl,n2,rfl⟩ h2
def HI(s1 t1 s2 t2:DE):DE:=λρ M q x=>s1 ρ M (λc1 M1=>t1 ρ M1 (λd1 M2=>s2 ρ M2 (λc2 M3=>t2 ρ M3 (λd2 M4=>∃y1 y2,rS c1=some y1/\rS c2=some y2/\y1≠y2/\q (.loc M4.length) (M4++[.cW [y1,y2] [d1,d2]])) x) x) x) x
theorem HE(CP:JE X R k1 s1)(Sl:JE X R v1 t1)(Ko:JE X R k2 s2)(V0:JE X R v2 t2):JE X R (.Dict [some k1,some k2] [v1,v2] pos) (HI s1 t1 s2 t2):=
 .of (vB (ju CP Sl (ju Ko V0 wm)) rfl rfl (by simp) (by show 2<=15;decide)) λσ H G L ρ M q x rl n h hx=>by intro p hp;obtain ⟨e0,a0⟩:=L8 rl hp;refine ⟨G,L,ρ,M,_,x,a0.rl,n,h,hx.on e0,λu1 H1 ⟨c1,G1,L1,M1,e1,r1,n1,h1⟩=> ?_⟩;have a1:=a0.on e1 r1;have x1:=e0.trans e1;refine ⟨G1,L1,ρ,M1,_,x,r1,n.mono x1,h1,hx.on x1,λu2 H2 ⟨d1,G2,L2,M2,e2,r2,n2,h2⟩=> ?_⟩;have a2:=a1.on e2 r2;have x2:=x1.trans e2;refine ⟨G2,L2,ρ,M2,_,x,r2,n.mono x2,h2,hx.on x2,λu3 H3 ⟨c2,G3,L3,M3,e3,r3,n3,h3⟩=> ?_⟩;have a3:=a2.on e3 r3;have x3:=x2.trans e3;refine ⟨G3,L3,ρ,M3,_,x,r3,n.mono x3,h3,hx.on x3,λu4 H4 ⟨d2,G4,L4,M4,e4,r4,n4,y1,y2,hy1,SN,iT,h4⟩=> ?_⟩;have a4:=a3.on e4 r4;obtain rfl:u1=kV y1:=gR hy1 n1;obtain rfl:u3=kV y2:=gR SN n3;refine ⟨a4.at_,[(y1,u2),(y2,u4)],rfl,by show 2<=15;decide, ?_⟩;rw [kr _ [] (λ_ _=>rfl) (by simp [iT]),List.nil_append];have MX:=e3.trans e4;exact a4.fin (ks:=[y1,y2]) (ds:=[d1,d2]) (vs:=[u2,u4]) e0 hp rfl ⟨_,_,rfl,Den.mono MX.g MX.l _ _ n2,_,_,rfl,n4,rfl⟩ h4
end
def E7:List Dt->Ms->DQ->Prop
 | [d],M,q=>∃k ks ds,d= .loc k/\M[k]? =some (.cW ks ds)/\q (.int ks.length) M
 | _,_,_=>False
theorem Sm{K:PySem.W.Frag}:AI K (λxs H Q=>∃a Λ,xs=[V.ref a]/\H a=some (.dK Λ)/\Q (.int Λ.length) H) E7:=by
 intro G0 L0 H0 G L M H vs ds q e r n h;unfold E7 at h;split at h
 ·obtain ⟨k,ks,ds,rfl,hm,h⟩:=h;obtain ⟨v,rfl,n1⟩:=aT n;obtain ⟨a,rfl,hk⟩:=n1;obtain ⟨_,vs,hH,hl,dn⟩:=r.d9 k a _ hk hm;refine ⟨a,_,rfl,hH, .int ks.length,G,L,M,e,r, ?_,h⟩;show V.int _=V.int _;rw [abj,<-dn.length,<-hl,Nat.min_self]
 ·exact h.elim
section
variable{X:Cx}{R:St->XK}{e:Expr}{t:DA}{p pos:Pos}
theorem Ot(hm:X.mg "len"=none)(ha:JA X R [e] t)(hg:Gl X "len":=by rfl)(he:starEach [e] X.env=(false,eval e X.env)::starEach [] X.env:=by rfl)(fF:(backTo pos (starEach [] X.env)).any (·.1)=false:=by rfl):JE X R (.Call (.Name "len" p) [e] [] pos) (zf E7 t):=
 fD CI Sm hm PySem.boot_len ha hg (by decide) (by decide) he fF
end
end L2
namespace Fr0
def g(a b:Int):Int:=(Int.gcd a b:Nat)
theorem xR{a b:Int}(h:b≠0):0 < g a b:=by have:=Int.gcd_pos_of_ne_zero_right a h;unfold g;omega
theorem Hx{a:Int}(h:0<=a):g a 0=a:=by unfold g;rw [Int.gcd_zero_right];omega
theorem H_{a b:Int}(hb:0 < b):g b (a.fmod b)=g a b:=by
 unfold g;rw [abB a (aah hb),Int.gcd_comm a b]
 congr 1
 refine Int.gcd_right_eq_iff.mpr λc hc=> ?_;rw [Int.emod_def];constructor
 ·intro h;have:=Int.dvd_add h (Int.dvd_mul_of_dvd_left (c:=a / b) hc);rwa [Int.sub_add_cancel] at this
 ·intro h;exact Int.dvd_sub h (Int.dvd_mul_of_dvd_left (c:=a / b) hc)
theorem Lz(a b:Int):g (if a < 0 then -a else a) (if b < 0 then -b else b)=g a b:=by unfold g;split <;> split <;> simp
def dv(t b:Int):Int:=if b < 0 then -(g t b) else g t b
def ah(t b:Int):Int×Int:=(t.fdiv (dv t b),b.fdiv (dv t b))
theorem Co{t b:Int}(h:b≠0):dv t b≠0:=by have:=xR (a:=t) h;unfold dv;split <;> omega
theorem yE{k p:Int}(h:k≠0):(k * p).fdiv k=p:=by rw [aaQ];exact Int.mul_fdiv_cancel p h
theorem EY{t b:Int}(h:b≠0):∃p q:Int,t=dv t b * p/\b=dv t b * q/\0 < q/\Int.gcd p q=1:=by
 have hg:=xR (a:=t) h;have h0:0 < Int.gcd t b:=Int.gcd_pos_of_ne_zero_right t h;obtain ⟨p,hp⟩:=Int.gcd_dvd_left t b;obtain ⟨q,hq⟩:=Int.gcd_dvd_right t b;have hc:Int.gcd p q=1:=by
  have e:=Int.gcd_ediv_gcd_ediv_gcd h0;have n0:(Int.gcd t b:Int)≠0:=by omega
  have e1:t / (Int.gcd t b:Int)=p:=by
   conv=>lhs;arg 1;rw [hp]
   exact abg p n0
  have e2:b / (Int.gcd t b:Int)=q:=by
   conv=>lhs;arg 1;rw [hq]
   exact abg q n0
  rwa [e1,e2] at e
 have Cd:t=g t b * p:=hp;have wK:b=g t b * q:=hq;by_cases hb:b < 0
 ·have hd:dv t b= -(g t b):=by unfold dv;rw [if_pos hb]
  refine ⟨-p, -q, ?_, ?_, ?_, ?_⟩
  ·rw [hd,Int.neg_mul_neg];exact Cd
  ·rw [hd,Int.neg_mul_neg];exact wK
  ·have:g t b * q < 0:=by rw [<-wK];exact hb
   by_cases q0:0<=q
   ·exact absurd (aa3 (aah hg) q0) (by omega)
   ·omega
  ·simpa using hc
 ·have hd:dv t b=g t b:=by unfold dv;rw [if_neg hb]
  refine ⟨p,q,by rw [hd];exact Cd,by rw [hd];exact wK, ?_,hc⟩;have:0 < g t b * q:=by rw [<-wK];omega
  exact Int.pos_of_mul_pos_right this hg
theorem fK {t b : Int} (h : b ≠ 0) : ∃ p q : Int, ah t b = (p, q) /\ 0 < q /\ Int.gcd p q = 1 /\ t = dv t b * p /\ b = dv t b * q := by
  obtain ⟨p, q, hp, hq, h0, hc⟩ := EY (t := t) h;have n0 := Co (t := t) h;refine ⟨p, q, ?_, h0, hc, hp, hq⟩;unfold ah
  have e1 : t.fdiv (dv t b) = p := by conv => lhs; arg 1; rw [hp]
                                      exact yE n0
  have e2 : b.fdiv (dv t b) = q := by conv => lhs; arg 1; rw [hq]
                                      exact yE n0
  rw [e1, e2]
theorem bU{t b:Int}(h:b≠0):t * (ah t b).2=b * (ah t b).1:=by
 obtain ⟨p,q,e,_,_,hp,hq⟩:=fK (t:=t) h;rw [e];show t * q=b * p
 calc t * q=dv t b * p * q:=by rw [<-hp]
  _=dv t b * q * p:=by rw [Int.mul_assoc,aaQ p q,<-Int.mul_assoc]
  _=b * p:=by rw [<-hq]
theorem b7{t b:Int}(h:b≠0):0 < (ah t b).2:=by obtain ⟨p,q,e,h0,_⟩:=fK (t:=t) h;rw [e];exact h0
theorem xv{t b:Int}(h:b≠0):Int.gcd (ah t b).1 (ah t b).2=1:=by obtain ⟨p,q,e,_,hc,_⟩:=fK (t:=t) h;rw [e];exact hc
theorem oG{k m n:Int}(h:k∣m * n)(hc:Int.gcd k m=1):k∣n:=by have:=(Int.dvd_gcd_mul_iff_dvd_mul (k:=k) (n:=m) (m:=n)).mpr h;rw [hc] at this;simpa using this
theorem Ai{p q p' q':Int}(hq:0 < q)(wK:0 < q')(h:Int.gcd p q=1)(h':Int.gcd p' q'=1)(e:p * q'=p' * q):p=p'/\q=q':=by
 have d1:q∣q':=by have:q∣p * q':=⟨p',by rw [e,aaQ]⟩;exact oG this (by rw [Int.gcd_comm];exact h)
 have d2:q'∣q:=by have:q'∣p' * q:=⟨p,by rw [<-e,aaQ]⟩;exact oG this (by rw [Int.gcd_comm];exact h')
 have eq:q=q':=Int.le_antisymm (abP wK d1) (abP hq d2);subst eq;exact ⟨Int.eq_of_mul_eq_mul_right (by omega) e,rfl⟩
theorem uy{t b p q:Int}(h:b≠0)(hq:0 < q)(hc:Int.gcd p q=1)(e:t * q=b * p):ah t b=(p,q):=by
 have h1:=bU (t:=t) h;have h2:=b7 (t:=t) h;have h3:=xv (t:=t) h;have h4:(ah t b).1 * q=p * (ah t b).2:=by
  have:b * ((ah t b).1 * q)=b * (p * (ah t b).2):=by rw [<-Int.mul_assoc,<-h1,Int.mul_right_comm,e,Int.mul_assoc]
  exact aaH h this
 have:=Ai h2 hq h3 hc h4;exact Prod.ext this.1 this.2
theorem tF{p q:Int}(hq:0 < q)(hc:Int.gcd p q=1):ah p q=(p,q):=uy (by omega) hq hc (aaQ _ _)
theorem uK{t b:Int}(h:b≠0):(dv t b).natAbs<=b.natAbs:=by
 have e:(dv t b).natAbs=Int.gcd t b:=by unfold dv g;split <;> omega
 rw [e];exact Int.gcd_le_natAbs_right t h
theorem pW {t b : Int} (h : b ≠ 0) : (ah t b).1.natAbs <= t.natAbs := by
  obtain ⟨p, q, e, _, _, hp, _⟩ := fK (t := t) h;have n0 := Co (t := t) h;rw [e];show p.natAbs <= t.natAbs
  have : t.natAbs = (dv t b).natAbs * p.natAbs := by conv => lhs; rw [hp]
                                                     exact aa1 _ _
  rw [this];exact Nat.le_mul_of_pos_left _ (by omega)
theorem jB {t b : Int} (h : b ≠ 0) : (ah t b).2.natAbs <= b.natAbs := by
  obtain ⟨p, q, e, _, _, _, hq⟩ := fK (t := t) h;have n0 := Co (t := t) h;rw [e];show q.natAbs <= b.natAbs
  have : b.natAbs = (dv t b).natAbs * q.natAbs := by conv => lhs; rw [hq]
                                                     exact aa1 _ _
  rw [this];exact Nat.le_mul_of_pos_left _ (by omega)
theorem Ka{t b:Int}(h:0 < b):ah t b=(t.fdiv (g t b),b.fdiv (g t b)):=by unfold ah dv;rw [if_neg (by omega)]
end Fr0
namespace Tx
open PySem PySem.NumText
end Tx
namespace Bz
abbrev Row:=Nat->Int
abbrev Fn:=List Nat->Int
def Lx(x:Row):Fn->Fn
 | _,[]=>0
 | F,c::cs=>x c * F cs - Lx x (λt=>F (c::t)) cs
theorem AV(x:Row):∀(cs:List Nat) (F G:Fn),Lx x (λt=>F t+G t) cs=Lx x F cs+Lx x G cs
 | [],F,G=>by simp [Lx]
 | c::cs,F,G=>by have:=AV x cs (λt=>F (c::t)) (λt=>G (c::t));simp only [Lx];rw [this];grind
theorem kQ(x:Row)(k:Int):∀(cs:List Nat) (F:Fn),Lx x (λt=>k * F t) cs=k * Lx x F cs
 | [],F=>by simp [Lx]
 | c::cs,F=>by have:=kQ x k cs (λt=>F (c::t));simp only [Lx];rw [this];grind
theorem GI(x:Row)(cs:List Nat)(F G:Fn):Lx x (λt=>F t - G t) cs=Lx x F cs - Lx x G cs:=by
 have h1:=AV x cs F (λt=>(-1) * G t);have h2:=kQ x (-1) cs G;have e:(λt=>F t - G t)=λt=>F t+(-1) * G t:=by funext t;grind
 rw [e,h1,h2];grind
theorem Bv(x:Row):∀(cs:List Nat),Lx x (λ_=>0) cs=0
 | []=>rfl
 | c::cs=>by simp only [Lx];rw [Bv x cs];simp
theorem uf(x y:Row):∀(cs:List Nat) (F:Fn),Lx x (Lx y F) cs= - Lx y (Lx x F) cs
 | [],F=>rfl
 | c::cs,F=>by have ih:=uf x y cs (λt=>F (c::t));have e1:(λt=>Lx y F (c::t))=λt=>y c * F t - Lx y (λu=>F (c::u)) t:=rfl;have e2:(λt=>Lx x F (c::t))=λt=>x c * F t - Lx x (λu=>F (c::u)) t:=rfl;show x c * Lx y F cs - Lx x (λt=>Lx y F (c::t)) cs= -(y c * Lx x F cs - Lx y (λt=>Lx x F (c::t)) cs);rw [e1,e2,GI,GI,kQ,kQ,ih];grind
theorem Lb(x:Row)(cs:List Nat)(F:Fn):Lx x (Lx x F) cs=0:=by have:=uf x x cs F;omega
theorem vf(x:Row)(d:Nat):∀(cs:List Nat) (F:Fn),Lx x F (cs++[d])=Lx x (λt=>F (t++[d])) cs+(-1) ^ cs.length * (x d * F cs)
 | [],F=>by simp [Lx]
 | c::cs,F=>by have:=vf x d cs (λt=>F (c::t));show x c * F (cs++[d]) - Lx x (λt=>F (c::t)) (cs++[d])=_;rw [this];show _=(x c * F (cs++[d]) - Lx x (λt=>F (c::(t++[d]))) cs)+(-1) ^ (cs.length+1) * (x d * F (c::cs));have e:(λt=>F (c::(t++[d])))=λt=>(λu=>F (c::u)) (t++[d]):=rfl;rw [e,abD];grind
theorem yG(x:Row){F G:Fn}{n:Nat}:∀(cs:List Nat),(∀t,t.length+1=cs.length->F t=G t)->Lx x F cs=Lx x G cs:=by
 intro cs
 induction cs generalizing F G with
 | nil=>intro _;rfl
 | cons c cs ih=>
  intro h;simp only [Lx];rw [h cs (by simp),ih (F:=λt=>F (c::t)) (G:=λt=>G (c::t)) λt ht=>h (c::t) (by simp;omega)]
def Α(f:Nat->Int):Nat->Int
 | 0=>0
 | n+1=>Α f n+f n
theorem gm(f g:Nat->Int):∀n,Α (λi=>f i+g i) n=Α f n+Α g n
 | 0=>rfl
 | n+1=>by simp only [Α];rw [gm f g n];omega
theorem Ο(k:Int)(f:Nat->Int):∀n,Α (λi=>k * f i) n=k * Α f n
 | 0=>by simp [Α]
 | n+1=>by simp only [Α];rw [Ο k f n,Int.mul_add]
theorem ο{f g:Nat->Int}:∀{n:Nat},(∀i,i < n->f i=g i)->Α f n=Α g n
 | 0,_=>rfl
 | n+1,h=>by simp only [Α];rw [ο λi hi=>h i (by omega),h n (by omega)]
theorem ik{f:Nat->Int}{n:Nat}(h:∀i,i < n->f i=0):Α f n=0:=by
 rw [ο h];clear h
 induction n with
 | zero=>rfl
 | succ n ih=>simp only [Α];rw [ih];rfl
theorem iA{f:Nat->Int}{n j:Nat}(hj:j < n)(h:∀i,i < n->i≠j->f i=0):Α f n=f j:=by
 induction n with
 | zero=>omega
 | succ n ih=>
  simp only [Α];by_cases e:j=n
  ·subst e;rw [ik λi hi=>h i (by omega) (by omega)];omega
  ·rw [ih (by omega) λi hi iT=>h i (by omega) iT,h n (by omega) (by omega)];omega
theorem kN(f:Nat->Int):∀n,Α f (n+1)=f 0+Α (λi=>f (i+1)) n
 | 0=>by simp [Α]
 | n+1=>by have:=kN f n;rw [show Α f (n+1+1)=Α f (n+1)+f (n+1) from rfl,this];simp only [Α];omega
theorem cK(f:Nat->Nat->Int)(m:Nat):∀n,Α (λi=>Α (f i) m) n=Α (λj=>Α (λi=>f i j) n) m
 | 0=>by rw [show Α (λi=>Α (f i) m) 0=0 from rfl];exact (ik λ_ _=>rfl).symm
 | n+1=>by rw [show Α (λi=>Α (f i) m) (n+1)=Α (λi=>Α (f i) m) n+Α (f n) m from rfl,cK f m n,<-gm];rfl
theorem vb(x:Row):∀(cs:List Nat) (F:Fn),Lx x F cs=Α (λp=>(-1) ^ p * (x (cs.getD p 0) * F (cs.eraseIdx p))) cs.length
 | [],F=>rfl
 | c::cs,F=>by
  have ih:=vb x cs (λt=>F (c::t));show x c * F cs - Lx x (λt=>F (c::t)) cs=_;rw [aau,kN,ih];have e:Α (λp=>(-1) ^ (p+1) * (x ((c::cs).getD (p+1) 0) * F ((c::cs).eraseIdx (p+1)))) cs.length= -1 * Α (λp=>(-1) ^ p * (x (cs.getD p 0) * F (c::cs.eraseIdx p))) cs.length:=by rw [<-Ο];refine ο λp _=> ?_;simp only [List.getD_cons_succ,List.eraseIdx_cons_succ];rw [Int.pow_succ];grind
  rw [e];simp only [List.getD_cons_zero,List.eraseIdx_cons_zero,Int.pow_zero];omega
def F0:Fn:=λcs=>if cs=[] then 1 else 0
def D:List Row->Fn
 | []=>F0
 | x::xs=>Lx x (D xs)
theorem mj(y:Row):∀(xs ys:List Row) (cs:List Nat),D (xs++y::ys) cs=(-1) ^ xs.length * D (y::(xs++ys)) cs
 | [],ys,cs=>by simp
 | x::xs,ys,cs=>by
  show Lx x (D (xs++y::ys)) cs=_;have e:D (xs++y::ys)=λt=>(-1) ^ xs.length * D (y::(xs++ys)) t:=by funext t;exact mj y xs ys t
  rw [e,kQ];show (-1) ^ xs.length * Lx x (Lx y (D (xs++ys))) cs=(-1) ^ (xs.length+1) * Lx y (Lx x (D (xs++ys))) cs;rw [uf x y,Int.pow_succ];grind
theorem Pu(y:Row)(xs ys zs:List Row)(cs:List Nat):D (xs++y::(ys++y::zs)) cs=0:=by
 rw [mj];have e:D (y::(xs++(ys++y::zs))) cs=Lx y (λt=>D (xs++(ys++y::zs)) t) cs:=rfl;have e2:(λt=>D (xs++(ys++y::zs)) t)=λt=>(-1) ^ (xs++ys).length * Lx y (D (xs++ys++zs)) t:=by
  funext t
  rw [<-abf,mj];rfl
 rw [e,e2,kQ,Lb];simp
def d8(rows:List Row)(cols:List Nat)(p k:Nat):Int:=(-1) ^ (p+k) * D (rows.eraseIdx k) (cols.eraseIdx p)
def zr:Row:=λ_=>0
theorem MR(n:Nat):((-1:Int) ^ n) * (-1) ^ n=1:=by
 induction n with
 | zero=>rfl
 | succ n ih=>rw [Int.pow_succ];grind
theorem HJ{α:Type}:∀{l:List α} {k:Nat} (h:k < l.length),l=l.take k++l[k]::l.drop (k+1):=by intro l k h;rw [List.getElem_cons_drop,List.take_append_drop]
theorem EO{α:Type}{l:List α}{i k:Nat}(hi:i < l.length)(iT:i≠k):l[i]∈l.eraseIdx k:=by rw [List.mem_eraseIdx_iff_getElem];exact ⟨i,hi,iT,rfl⟩
theorem PA{rows:List Row}{cols:List Nat}{i k:Nat}(hl:cols.length=rows.length)(hi:i < rows.length)(hk:k < rows.length):Α (λp=>rows.getD i zr (cols.getD p 0) * d8 rows cols p k) rows.length=if i=k then D rows cols else 0:=by
 have gi:rows.getD i zr=rows[i]:=by rw [aab,aaa hi];rfl
 have e:Α (λp=>rows.getD i zr (cols.getD p 0) * d8 rows cols p k) rows.length=(-1) ^ k * D (rows.getD i zr::rows.eraseIdx k) cols:=by show _=(-1) ^ k * Lx (rows.getD i zr) (D (rows.eraseIdx k)) cols;rw [vb,<-Ο,hl];refine ο λp _=> ?_;unfold d8;rw [Int.pow_add];grind
 rw [e,gi];by_cases h:i=k
 ·subst h;rw [if_pos rfl];have s:=HJ hi;have f:=mj rows[i] (rows.take i) (rows.drop (i+1)) cols;rw [<-s,abV,ab4 (by omega)] at f;rw [f,List.eraseIdx_eq_take_drop_succ]
 ·rw [if_neg h];obtain ⟨ys,zs,e2⟩:=List.append_of_mem (EO hi h);rw [e2];have:=Pu rows[i] [] ys zs cols;rw [show D (rows[i]::(ys++rows[i]::zs)) cols=0 from this];simp
theorem vn(x:Row)(g:Nat->Int)(F:Nat->Fn)(cs:List Nat):∀n,Lx x (λt=>Α (λk=>g k * F k t) n) cs=Α (λk=>g k * Lx x (F k) cs) n
 | 0=>Bv x cs
 | n+1=>by have:=AV x cs (λt=>Α (λk=>g k * F k t) n) (λt=>g n * F n t);show Lx x (λt=>Α (λk=>g k * F k t) n+g n * F n t) cs=_;rw [this,vn x g F cs n,kQ];rfl
theorem Lk(c:Nat):∀(rows:List Row) (t:List Nat),D rows (t++[c])=Α (λk=>(-1) ^ (t.length+k) * (rows.getD k zr c * D (rows.eraseIdx k) t)) rows.length
 | [],t=>by show F0 (t++[c])=0;unfold F0;simp
 | x::xs,t=>by
  show Lx x (D xs) (t++[c])=_;rw [vf,aau,kN];have e:Lx x (λu=>D xs (u++[c])) t=Α (λk=>(-1) ^ (t.length+(k+1)) * ((x::xs).getD (k+1) zr c * D ((x::xs).eraseIdx (k+1)) t)) xs.length:=by
   have e1:Lx x (λu=>D xs (u++[c])) t=Lx x (λu=>Α (λk=>((-1) ^ (t.length+(k+1)) * xs.getD k zr c) * D (xs.eraseIdx k) u) xs.length) t:=by refine yG x (n:=0) t λu hu=> ?_;rw [Lk c xs u];refine ο λk _=> ?_;rw [<-hu,show u.length+1+(k+1)=u.length+k+1+1 by omega,Int.pow_succ,Int.pow_succ];grind
   rw [e1,vn x (λk=>(-1) ^ (t.length+(k+1)) * xs.getD k zr c) (λk=>D (xs.eraseIdx k))];refine ο λk _=> ?_;simp only [List.getD_cons_succ,List.eraseIdx_cons_succ];show _=(-1) ^ (t.length+(k+1)) * (xs.getD k zr c * Lx x (D (xs.eraseIdx k)) t);grind
  rw [e];simp only [List.getD_cons_zero,List.eraseIdx_cons_zero,Nat.add_zero];omega
theorem Hq{rows:List Row}{cols:List Nat}{y:Row}{c:Nat}(hl:cols.length=rows.length):D (rows++[y]) (cols++[c])=y c * D rows cols - Α (λp=>y (cols.getD p 0) * Α (λk=>d8 rows cols p k * rows.getD k zr c) rows.length) rows.length:=by
 rw [mj,aaZ];show (-1) ^ rows.length * Lx y (D rows) (cols++[c])=_;rw [vf];have e1:Lx y (λt=>D rows (t++[c])) cols= - ((-1) ^ rows.length * Α (λp=>y (cols.getD p 0) * Α (λk=>d8 rows cols p k * rows.getD k zr c) rows.length) rows.length):=by
  have e2:Lx y (λt=>D rows (t++[c])) cols=Lx y (λt=>Α (λk=>(-((-1) ^ (rows.length+k) * rows.getD k zr c)) * D (rows.eraseIdx k) t) rows.length) cols:=by refine yG y (n:=0) cols λt ht=> ?_;rw [Lk c rows t];refine ο λk _=> ?_;rw [<-hl,<-ht,show t.length+1+k=t.length+k+1 by omega,Int.pow_succ];grind
  rw [e2,vn y (λk=> -((-1) ^ (rows.length+k) * rows.getD k zr c)) (λk=>D (rows.eraseIdx k))];have e3:Α (λk=> -((-1) ^ (rows.length+k) * rows.getD k zr c) * Lx y (D (rows.eraseIdx k)) cols) rows.length=Α (λk=>Α (λp=> -((-1) ^ rows.length) * (y (cols.getD p 0) * (d8 rows cols p k * rows.getD k zr c))) rows.length) rows.length:=by refine ο λk _=> ?_;rw [vb,<-Ο,hl];refine ο λp _=> ?_;unfold d8;rw [Int.pow_add,Int.pow_add];grind
  rw [e3,cK];have e4:Α (λp=>Α (λk=> -((-1) ^ rows.length) * (y (cols.getD p 0) * (d8 rows cols p k * rows.getD k zr c))) rows.length) rows.length=Α (λp=> -((-1) ^ rows.length) * (y (cols.getD p 0) * Α (λk=>d8 rows cols p k * rows.getD k zr c) rows.length)) rows.length:=by refine ο λp _=> ?_;rw [Ο,Ο]
  rw [e4,Ο];grind
 rw [e1,hl];have s:=MR rows.length;generalize ((-1:Int) ^ rows.length)=z at *
 generalize Α _ rows.length=q;grind
theorem FD{rows:List Row}{cols:List Nat}{v:Nat->Int}{e:Int}{i k:Nat}(hl:cols.length=rows.length)(hi:i < rows.length)(hk:k < rows.length)
  (h:∀p,p < rows.length->Α (λj=>v j * rows.getD j zr (cols.getD p 0)) rows.length=if i=p then e else 0):v k * D rows cols=e * d8 rows cols i k:=by
 have a:Α (λp=>Α (λj=>v j * rows.getD j zr (cols.getD p 0)) rows.length * d8 rows cols p k) rows.length=e * d8 rows cols i k:=by rw [iA hi λp hp iT=>by rw [h p hp,if_neg (Ne.symm iT)];simp];rw [h i hi,if_pos rfl]
 have b:Α (λp=>Α (λj=>v j * rows.getD j zr (cols.getD p 0)) rows.length * d8 rows cols p k) rows.length=Α (λj=>v j * Α (λp=>rows.getD j zr (cols.getD p 0) * d8 rows cols p k) rows.length) rows.length:=by
  have e1:Α (λp=>Α (λj=>v j * rows.getD j zr (cols.getD p 0)) rows.length * d8 rows cols p k) rows.length=Α (λp=>Α (λj=>v j * (rows.getD j zr (cols.getD p 0) * d8 rows cols p k)) rows.length) rows.length:=by refine ο λp _=> ?_;rw [aaQ,<-Ο];refine ο λj _=> ?_;grind
  rw [e1,cK];refine ο λj _=> ?_;rw [<-Ο]
 rw [<-a,b,iA hk λj hj iT=>by rw [PA hl hj hk,if_neg iT];simp];rw [PA hl hk hk,if_pos rfl]
def ind(a k:Nat):Int:=if a=k then 1 else 0
def rv(A:Nat->Row)(n:Nat)(w:Row)(x:Nat):Int:=Α (λk=>w k * A k x) n
theorem mw{f:Nat->Int}{a n:Nat}(h:a < n):Α (λk=>ind a k * f k) n=f a:=by rw [iA h λi _ iT=>by unfold ind;rw [if_neg (Ne.symm iT)];simp];unfold ind;rw [if_pos rfl];simp
theorem vv{A:Nat->Row}{n:Nat}{w u v:Row}{a b:Int}(h:∀k,w k=a * u k - b * v k)(x:Nat):rv A n w x=a * rv A n u x - b * rv A n v x:=by
 unfold rv;have e:Α (λk=>w k * A k x) n=Α (λk=>a * (u k * A k x)+(-b) * (v k * A k x)) n:=ο λk _=>by rw [h k];grind
 rw [e,gm,Ο,Ο];grind
theorem E9{A:Nat->Row}{n r:Nat}{w:Row}{g:Nat->Int}{u:Nat->Row}(h:∀k,w k=Α (λj=>g j * u j k) r)(x:Nat):rv A n w x=Α (λj=>g j * rv A n (u j) x) r:=by
 unfold rv;have e:Α (λk=>w k * A k x) n=Α (λk=>Α (λj=>g j * (u j k * A k x)) r) n:=ο λk _=>by rw [h k,aaQ,<-Ο];exact ο λj _=>by grind
 rw [e,cK];exact ο λj _=>Ο _ _ _
theorem zH{A:Nat->Row}{n a:Nat}(h:a < n)(x:Nat):rv A n (ind a) x=A a x:=by unfold rv;exact mw (f:=λk=>A k x) h
structure St(A:Nat->Row)(n:Nat)(ρ cols:List Nat)(q:Nat->Nat)(d:Int)(W:Nat->Row):Prop where
 lc:cols.length=ρ.length
 rn:ρ.length<=n
 Lc:∀i,i < n->q i < n
 y3:∀j,j < ρ.length->ρ.getD j 0 < n
 det:D (ρ.map A) cols=d
 wp:∀i,i < ρ.length->∀k,W i k=Α (λj=>d8 (ρ.map A) cols i j * ind (ρ.getD j 0) k) ρ.length
 wn:∀i,ρ.length<=i->i < n->∀k,W i k=d * ind (q i) k - Α (λp=>A (q i) (cols.getD p 0) * W p k) ρ.length
 one:∀i p,i < ρ.length->p < ρ.length->rv A n (W i) (cols.getD p 0)=if i=p then d else 0
section
variable{A:Nat->Row}{n:Nat}{ρ cols:List Nat}{q:Nat->Nat}{d:Int}{W:Nat->Row}
theorem rM{j:Nat}(h:j < ρ.length):(ρ.map A).getD j zr=A (ρ.getD j 0):=by rw [aab,aao,aaa h,aab,aaa h];rfl
theorem St.Pc(s:St A n ρ cols q d W){i:Nat}(hi:i < ρ.length)(x:Nat):rv A n (W i) x=Α (λj=>d8 (ρ.map A) cols i j * A (ρ.getD j 0) x) ρ.length:=by rw [E9 (u:=λj=>ind (ρ.getD j 0)) (s.wp i hi)];exact ο λj hj=>by rw [zH (s.y3 j hj)]
theorem St.Nw(s:St A n ρ cols q d W){i:Nat}(h1:ρ.length<=i)(hi:i < n)(x:Nat):rv A n (W i) x=d * A (q i) x - Α (λp=>A (q i) (cols.getD p 0) * rv A n (W p) x) ρ.length:=by
 have h:∀k,W i k=d * ind (q i) k - 1 * Α (λp=>A (q i) (cols.getD p 0) * W p k) ρ.length:=λk=>by rw [s.wn i h1 hi k];omega
 rw [vv h x,zH (s.Lc i hi),E9 (w:=λk=>Α (λp=>A (q i) (cols.getD p 0) * W p k) ρ.length) (u:=W) (λk=>rfl)];omega
theorem St.zero(s:St A n ρ cols q d W){i p:Nat}(h1:ρ.length<=i)(hi:i < n)(hp:p < ρ.length):rv A n (W i) (cols.getD p 0)=0:=by
 rw [s.Nw h1 hi];have e:Α (λp'=>A (q i) (cols.getD p' 0) * rv A n (W p') (cols.getD p 0)) ρ.length=A (q i) (cols.getD p 0) * d:=by rw [iA hp λp' Cd iT=>by rw [s.one p' p Cd hp,if_neg iT];simp];rw [s.one p p hp hp,if_pos rfl]
 rw [e];grind
theorem St.head(s:St A n ρ cols q d W)(hr:ρ.length < n)(c:Nat):D ((ρ++[q ρ.length]).map A) (cols++[c])=rv A n (W ρ.length) c:=by
 rw [aaS,s.Nw (aaj _) hr];show D (ρ.map A++[A (q ρ.length)]) (cols++[c])=_;rw [Hq (by rw [aae];exact s.lc),s.det,aae,aaQ]
 congr 1
 refine ο λp hp=> ?_;rw [s.Pc hp]
 congr 1
 exact ο λk hk=>by rw [rM hk]
theorem mz{a j:Nat}{l:List Nat}(h:j < l.length):(l++[a]).getD j 0=l.getD j 0:=by rw [aab,aat h,<-aab]
theorem mB{a:Nat}{l:List Nat}:(l++[a]).getD l.length 0=a:=by simp
theorem mix(f:Nat->Int)(s:St A n ρ cols q d W)(a L:Int)(g:Nat->Int):
  Α (λj=>(if j < ρ.length then a * g j+L * Α (λp=>A (q ρ.length) (cols.getD p 0) * d8 (ρ.map A) cols p j) ρ.length else -(L * d)) * f ((ρ++[q ρ.length]).getD j 0)) (ρ.length+1)
  =a * Α (λj=>g j * f (ρ.getD j 0)) ρ.length - L * (d * f (q ρ.length) - Α (λp=>A (q ρ.length) (cols.getD p 0) * Α (λj=>d8 (ρ.map A) cols p j * f (ρ.getD j 0)) ρ.length) ρ.length):=by
 rw [show∀F:Nat->Int,Α F (ρ.length+1)=Α F ρ.length+F ρ.length from λ_=>rfl,mB,if_neg (aaY _)]
 have e:Α (λj=>(if j < ρ.length then a * g j+L * Α (λp=>A (q ρ.length) (cols.getD p 0) * d8 (ρ.map A) cols p j) ρ.length else -(L * d)) * f ((ρ++[q ρ.length]).getD j 0)) ρ.length
   =Α (λj=>a * (g j * f (ρ.getD j 0))+L * Α (λp=>A (q ρ.length) (cols.getD p 0) * (d8 (ρ.map A) cols p j * f (ρ.getD j 0))) ρ.length) ρ.length:=by
  refine ο λj hj=> ?_;rw [if_pos hj,mz hj];have e2:Α (λp=>A (q ρ.length) (cols.getD p 0) * (d8 (ρ.map A) cols p j * f (ρ.getD j 0))) ρ.length=f (ρ.getD j 0) * Α (λp=>A (q ρ.length) (cols.getD p 0) * d8 (ρ.map A) cols p j) ρ.length:=by rw [<-Ο];exact ο λp _=>by grind
  rw [e2];grind
 rw [e,gm,Ο,Ο,cK (λj p=>A (q ρ.length) (cols.getD p 0) * (d8 (ρ.map A) cols p j * f (ρ.getD j 0)))]
 have e3:Α (λp=>Α (λj=>A (q ρ.length) (cols.getD p 0) * (d8 (ρ.map A) cols p j * f (ρ.getD j 0))) ρ.length) ρ.length=Α (λp=>A (q ρ.length) (cols.getD p 0) * Α (λj=>d8 (ρ.map A) cols p j * f (ρ.getD j 0)) ρ.length) ρ.length:=
  ο λp _=>Ο _ _ _
 rw [e3];grind
theorem St.step(s:St A n ρ cols q d W)(hr:ρ.length < n)(c:Nat)(d0:d≠0)(h0:rv A n (W ρ.length) c≠0):
  ∃W':Nat->Row,St A n (ρ++[q ρ.length]) (cols++[c]) q (rv A n (W ρ.length) c) W'/\(∀k,W' ρ.length k=W ρ.length k)/\
   ∀i,i < n->i≠ρ.length->∀k,d * W' i k=rv A n (W ρ.length) c * W i k - rv A n (W i) c * W ρ.length k:=by
 have hd:=s.head hr c;generalize hE:rv A n (W ρ.length) c=E at *
 have lr:((ρ++[q ρ.length]).map A).length=ρ.length+1:=by simp
 have XC:(cols++[c]).length=((ρ++[q ρ.length]).map A).length:=by rw [lr];simp [s.lc]
 have cg:∀p,p < ρ.length->(cols++[c]).getD p 0=cols.getD p 0:=λp hp=>mz (by rw [s.lc];exact hp);have cl:(cols++[c]).getD ρ.length 0=c:=by rw [<-s.lc];exact mB
 have rg:∀j,j < ρ.length+1->((ρ++[q ρ.length]).map A).getD j zr=A ((ρ++[q ρ.length]).getD j 0):=λj hj=>rM (by simp;omega);have head:∀j,j < ρ.length+1->(if j < ρ.length then (0:Int) * 0+(-1) * Α (λp=>A (q ρ.length) (cols.getD p 0) * d8 (ρ.map A) cols p j) ρ.length else -((-1) * d))=d8 ((ρ++[q ρ.length]).map A) (cols++[c]) ρ.length j:=λj hj=>by
  have:=FD (rows:=(ρ++[q ρ.length]).map A) (cols:=cols++[c]) (v:=λj=>if j < ρ.length then (0:Int) * 0+(-1) * Α (λp=>A (q ρ.length) (cols.getD p 0) * d8 (ρ.map A) cols p j) ρ.length else -((-1) * d)) (e:=E) (i:=ρ.length) (k:=j) XC (by rw [lr];omega) (by rw [lr];exact hj) (λp hp=>by
   rw [lr] at hp⊢;have e1:=mix (λa=>A a ((cols++[c]).getD p 0)) s 0 (-1) (λ_=>0);have e2:Α (λj=>(if j < ρ.length then (0:Int) * 0+(-1) * Α (λp=>A (q ρ.length) (cols.getD p 0) * d8 (ρ.map A) cols p j) ρ.length else -((-1) * d)) * ((ρ++[q ρ.length]).map A).getD j zr ((cols++[c]).getD p 0)) (ρ.length+1)=_:=(ο λj hj=>by rw [rg j hj]).trans e1;rw [e2];have e3:d * A (q ρ.length) ((cols++[c]).getD p 0) - Α (λp'=>A (q ρ.length) (cols.getD p' 0) * Α (λj=>d8 (ρ.map A) cols p' j * A (ρ.getD j 0) ((cols++[c]).getD p 0)) ρ.length) ρ.length=rv A n (W ρ.length) ((cols++[c]).getD p 0):=by
    rw [s.Nw (aaj _) hr]
    congr 1
    exact ο λp' Cd=>by rw [s.Pc Cd]
   rw [e3];by_cases C5:p < ρ.length
   ·rw [cg p C5,s.zero (Nat.le_refl _) hr C5,if_neg (by omega)];simp
   ·have:p=ρ.length:=by omega
    subst this
    rw [cl,hE,if_pos rfl];omega)
  rw [hd] at this;refine aaH h0 ?_;rw [<-this];grind
 have hk:∀k,W ρ.length k=Α (λj=>d8 ((ρ++[q ρ.length]).map A) (cols++[c]) ρ.length j * ind ((ρ++[q ρ.length]).getD j 0) k) (ρ.length+1):=λk=>by
  have e1:=mix (λa=>ind a k) s 0 (-1) (λ_=>0);have e2:Α (λj=>d8 ((ρ++[q ρ.length]).map A) (cols++[c]) ρ.length j * ind ((ρ++[q ρ.length]).getD j 0) k) (ρ.length+1)=_:=(ο λj hj=>by rw [<-head j hj]).trans e1;rw [e2,s.wn _ (aaj _) hr k];have e3:Α (λp=>A (q ρ.length) (cols.getD p 0) * W p k) ρ.length=Α (λp=>A (q ρ.length) (cols.getD p 0) * Α (λj=>d8 (ρ.map A) cols p j * ind (ρ.getD j 0) k) ρ.length) ρ.length:=ο λp hp=>by rw [s.wp p hp k]
  rw [e3];omega
 have above:∀i,i < ρ.length->∀j,j < ρ.length+1->(if j < ρ.length then E * d8 (ρ.map A) cols i j+rv A n (W i) c * Α (λp=>A (q ρ.length) (cols.getD p 0) * d8 (ρ.map A) cols p j) ρ.length else -(rv A n (W i) c * d))=d * d8 ((ρ++[q ρ.length]).map A) (cols++[c]) i j:=λi hi j hj=>by
  have:=FD (rows:=(ρ++[q ρ.length]).map A) (cols:=cols++[c]) (v:=λj=>if j < ρ.length then E * d8 (ρ.map A) cols i j+rv A n (W i) c * Α (λp=>A (q ρ.length) (cols.getD p 0) * d8 (ρ.map A) cols p j) ρ.length else -(rv A n (W i) c * d)) (e:=d * E) (i:=i) (k:=j) XC (by rw [lr];omega) (by rw [lr];exact hj) (λp hp=>by
   rw [lr] at hp⊢;have e1:=mix (λa=>A a ((cols++[c]).getD p 0)) s E (rv A n (W i) c) (λj=>d8 (ρ.map A) cols i j);have e2:Α (λj=>(if j < ρ.length then E * d8 (ρ.map A) cols i j+rv A n (W i) c * Α (λp=>A (q ρ.length) (cols.getD p 0) * d8 (ρ.map A) cols p j) ρ.length else -(rv A n (W i) c * d)) * ((ρ++[q ρ.length]).map A).getD j zr ((cols++[c]).getD p 0)) (ρ.length+1)=_:=(ο λj hj=>by rw [rg j hj]).trans e1;rw [e2];have e3:d * A (q ρ.length) ((cols++[c]).getD p 0) - Α (λp'=>A (q ρ.length) (cols.getD p' 0) * Α (λj=>d8 (ρ.map A) cols p' j * A (ρ.getD j 0) ((cols++[c]).getD p 0)) ρ.length) ρ.length=rv A n (W ρ.length) ((cols++[c]).getD p 0):=by
    rw [s.Nw (aaj _) hr]
    congr 1
    exact ο λp' Cd=>by rw [s.Pc Cd]
   rw [e3,<-s.Pc hi];by_cases C5:p < ρ.length
   ·rw [cg p C5,s.zero (aaj _) hr C5,s.one i p hi C5];split <;> grind
   ·have:p=ρ.length:=by omega
    subst this
    rw [cl,hE,if_neg (by omega)];grind)
  rw [hd] at this;refine aaH h0 ?_;rw [Int.mul_comm,this];grind
 have Yb:∀i,i < ρ.length->∀k,d * Α (λj=>d8 ((ρ++[q ρ.length]).map A) (cols++[c]) i j * ind ((ρ++[q ρ.length]).getD j 0) k) (ρ.length+1)=E * W i k - rv A n (W i) c * W ρ.length k:=λi hi k=>by
  have e1:=mix (λa=>ind a k) s E (rv A n (W i) c) (λj=>d8 (ρ.map A) cols i j);have e2:d * Α (λj=>d8 ((ρ++[q ρ.length]).map A) (cols++[c]) i j * ind ((ρ++[q ρ.length]).getD j 0) k) (ρ.length+1)=_:=((Ο _ _ _).symm.trans (ο λj hj=>by rw [above i hi j hj];grind)).trans e1;rw [e2,s.wn _ (aaj _) hr k,s.wp i hi k];have e3:Α (λp=>A (q ρ.length) (cols.getD p 0) * W p k) ρ.length=Α (λp=>A (q ρ.length) (cols.getD p 0) * Α (λj=>d8 (ρ.map A) cols p j * ind (ρ.getD j 0) k) ρ.length) ρ.length:=ο λp hp=>by rw [s.wp p hp k]
  rw [e3]
 let V:Nat->Row:=λi k=>if i=ρ.length then W ρ.length k else Α (λj=>d8 ((ρ++[q ρ.length]).map A) (cols++[c]) i j * ind ((ρ++[q ρ.length]).getD j 0) k) (ρ.length+1)
 let W':Nat->Row:=λi k=>if i < ρ.length+1 then V i k else E * ind (q i) k - Α (λp=>A (q i) ((cols++[c]).getD p 0) * V p k) (ρ.length+1)
 have Wr:∀k,W' ρ.length k=W ρ.length k:=λk=>by show (if ρ.length < ρ.length+1 then (if ρ.length=ρ.length then W ρ.length k else _) else _)=_;rw [if_pos (aa8 _),if_pos rfl]
 have Wi:∀i,i < ρ.length->∀k,W' i k=Α (λj=>d8 ((ρ++[q ρ.length]).map A) (cols++[c]) i j * ind ((ρ++[q ρ.length]).getD j 0) k) (ρ.length+1):=λi hi k=>by show (if i < ρ.length+1 then (if i=ρ.length then _ else _) else _)=_;rw [if_pos (by omega),if_neg (by omega)]
 have WV:∀p,p < ρ.length+1->∀k,W' p k=V p k:=λp hp k=>by show (if p < ρ.length+1 then V p k else _)=_;rw [if_pos hp]
 have Wn:∀i,ρ.length+1<=i->∀k,W' i k=E * ind (q i) k - Α (λp=>A (q i) ((cols++[c]).getD p 0) * W' p k) (ρ.length+1):=λi hi k=>by
  show (if i < ρ.length+1 then V i k else _)=_;rw [if_neg (by omega)]
  congr 1
  exact ο λp hp=>by rw [WV p hp]
 have H:∀i,i < n->i≠ρ.length->∀k,d * W' i k=E * W i k - rv A n (W i) c * W ρ.length k:=λi hi iT k=>by
  by_cases ux:i < ρ.length
  ·rw [Wi i ux k];exact Yb i ux k
  ·rw [Wn i (by omega) k,s.wn i (by omega) hi k,s.Nw (by omega) hi c];rw [show∀F:Nat->Int,Α F (ρ.length+1)=Α F ρ.length+F ρ.length from λ_=>rfl,cl,Wr];have e1:d * Α (λp=>A (q i) ((cols++[c]).getD p 0) * W' p k) ρ.length=Α (λp=>E * (A (q i) (cols.getD p 0) * W p k)+(-(W ρ.length k)) * (A (q i) (cols.getD p 0) * rv A n (W p) c)) ρ.length:=by rw [<-Ο];refine ο λp hp=> ?_;have:=Yb p hp k;rw [cg p hp,Wi p hp k];grind
   rw [gm,Ο,Ο] at e1;grind
 refine ⟨W',⟨by simp [s.lc],by simp;omega,s.Lc,λj hj=> ?_,hd,λi hi k=> ?_,λi h1 hi k=> ?_,λi p hi hp=> ?_⟩,Wr,H⟩
 ·by_cases XU:j < ρ.length
  ·rw [mz XU];exact s.y3 j XU
  ·have:j=ρ.length:=by simp at hj;omega
   rw [this,mB];exact s.Lc _ hr
 ·rw [show (ρ++[q ρ.length]).length=ρ.length+1 by simp] at hi⊢;by_cases ux:i < ρ.length
  ·exact Wi i ux k
  ·have:i=ρ.length:=by omega
   subst this;rw [Wr k];exact hk k
 ·rw [show (ρ++[q ρ.length]).length=ρ.length+1 by simp] at h1⊢;exact Wn i h1 k
 ·rw [show (ρ++[q ρ.length]).length=ρ.length+1 by simp] at hi hp;have hrr:∀x,rv A n (W' ρ.length) x=rv A n (W ρ.length) x:=λx=>by unfold rv;exact ο λk _=>by rw [Wr k]
  by_cases ux:i < ρ.length
  ·have Vf:d * rv A n (W' i) ((cols++[c]).getD p 0)=E * rv A n (W i) ((cols++[c]).getD p 0) - rv A n (W i) c * rv A n (W ρ.length) ((cols++[c]).getD p 0):=by have:=vv (A:=A) (n:=n) (w:=λk=>d * W' i k) (u:=W i) (v:=W ρ.length) (a:=E) (b:=rv A n (W i) c) (λk=>H i (by omega) (by omega) k) ((cols++[c]).getD p 0);rw [<-this];unfold rv;rw [<-Ο];exact ο λk _=>by grind
   refine aaH d0 ?_;rw [Vf];by_cases C5:p < ρ.length
   ·rw [cg p C5,s.zero (aaj _) hr C5,s.one i p ux C5];split <;> grind
   ·have:p=ρ.length:=by omega
    subst this;rw [cl,hE,if_neg (by omega)];grind
  ·have:i=ρ.length:=by omega
   subst this;rw [hrr];by_cases C5:p < ρ.length
   ·rw [cg p C5,s.zero (aaj _) hr C5,if_neg (by omega)]
   ·have:p=ρ.length:=by omega
    subst this;rw [cl,hE,if_pos rfl]
end
theorem St.start{A:Nat->Row}{n:Nat}:St A n [] [] id 1 (λi=>ind i) where
 lc:=rfl
 rn:=abE _
 Lc:=λ_ h=>h
 y3:=λ_ h=>absurd h (abq _)
 det:=rfl
 wp:=λ_ h=>absurd h (abq _)
 wn:=λi _ _ k=>by show ind i k=1 * ind i k - 0;omega
 one:=λ_ _ h=>absurd h (abq _)
theorem St.perm{A:Nat->Row}{n:Nat}{ρ cols:List Nat}{q:Nat->Nat}{d:Int}{W:Nat->Row}(s:St A n ρ cols q d W){π:Nat->Nat}(h1:∀i,i < ρ.length->π i=i)(h2:∀i,ρ.length<=i->i < n->ρ.length<=π i/\π i < n):St A n ρ cols (λi=>q (π i)) d (λi=>W (π i)) where
 lc:=s.lc
 rn:=s.rn
 Lc:=λi hi=>s.Lc _ (by
  by_cases h:i < ρ.length
  ·rw [h1 i h];exact hi
  ·exact (h2 i (by omega) hi).2)
 y3:=s.y3
 det:=s.det
 wp:=λi hi k=>by show W (π i) k=_;rw [h1 i hi];exact s.wp i hi k
 wn:=λi hi hn k=>by
  obtain ⟨a,b⟩:=h2 i hi hn;have:=s.wn (π i) a b k;rw [this]
  congr 1
  exact ο λp hp=>by rw [h1 p hp]
 one:=λi p hi hp=>by show rv A n (W (π i)) _=_;rw [h1 i hi];exact s.one i p hi hp
def Ab(x B:Int):Prop:= -B<=x/\x<=B
theorem Ab.mul{x y B C:Int}(h:Ab x B)(h':Ab y C):Ab (x * y) (B * C):=by
 obtain ⟨a,b⟩:=h;obtain ⟨c,d⟩:=h';have B0:0<=B:=by omega
 have C0:0<=C:=by omega
 have hb:x.natAbs<=B.natAbs:=by omega
 have hc:y.natAbs<=C.natAbs:=by omega
 have hm:=Nat.mul_le_mul hb hc;rw [<-aa1,<-aa1] at hm;have p:=aa3 B0 C0;exact ⟨by omega,by omega⟩
theorem Ab.add{x y B C:Int}(h:Ab x B)(h':Ab y C):Ab (x+y) (B+C):=⟨by have:=h.1;have:=h'.1;omega,by have:=h.2;have:=h'.2;omega⟩
theorem Ab.sub{x y B C:Int}(h:Ab x B)(h':Ab y C):Ab (x - y) (B+C):=⟨by have:=h.1;have:=h'.2;omega,by have:=h.2;have:=h'.1;omega⟩
theorem Ab.mono{x B C:Int}(h:Ab x B)(h':B<=C):Ab x C:=⟨by have:=h.1;omega,by have:=h.2;omega⟩
theorem Ab.sum{f:Nat->Int}{B:Int}:∀{n:Nat},(∀i,i < n->Ab (f i) B)->Ab (Α f n) (n * B)
 | 0,_=>⟨by simp [Α],by simp [Α]⟩
 | n+1,h=>by
  have i:=Ab.sum (n:=n) λi hi=>h i (by omega);have:=Ab.add i (h n (by omega));have e:(n:Int) * B+B=((n+1:Nat):Int) * B:=by rw [show ((n+1:Nat):Int)=(n:Int)+1 from rfl,Int.add_mul,Int.one_mul]
  rw [e] at this;exact this
theorem Ab.pow{k:Nat}{x B:Int}(h:Ab x B):Ab ((-1) ^ k * x) B:=by
 rcases (by induction k with
  | zero=>exact .inl rfl
  | succ k ih=>rw [Int.pow_succ];rcases ih with e | e <;> rw [e] <;> simp:((-1:Int) ^ k=1\/(-1:Int) ^ k= -1)) with e | e
 ·rw [e,Int.one_mul];exact h
 ·rw [e];obtain ⟨a,b⟩:=h;exact ⟨by omega,by omega⟩
theorem Ab.det{B:Int}(B0:1<=B):∀(rows:List Row) (cols:List Nat),(∀x∈rows,∀c∈cols,Ab (x c) B)->cols.length<=12->Ab (D rows cols) ((12 * B) ^ rows.length)
 | [],cols,_,_=>by
  show Ab (F0 cols) ((12 * B) ^ 0);rw [Int.pow_zero];unfold F0;split
  ·exact ⟨by decide,by decide⟩
  ·exact ⟨by decide,by decide⟩
 | x::rows,cols,h,hl=>by
  show Ab (Lx x (D rows) cols) _;rw [vb,aau,abD];have P0:(0:Int)<=(12 * B) ^ rows.length:=abG (by omega);have each:∀p,p < cols.length->Ab ((-1) ^ p * (x (cols.getD p 0) * D rows (cols.eraseIdx p))) (B * (12 * B) ^ rows.length):=λp hp=>by
   refine Ab.pow (Ab.mul ?_ (Ab.det B0 rows (cols.eraseIdx p) (λy hy c hc=>h y (aad _ hy) c (ab0 hc)) ?_))
   ·rw [aab,aaa hp];exact h x aaf _ (aaA hp)
   ·rw [List.length_eraseIdx];split <;> omega
  refine (Ab.sum each).mono ?_;have Q0:0<=B * (12 * B) ^ rows.length:=aa3 (by omega) P0;have:=aaC (show (cols.length:Int)<=12 by omega) Q0;refine abr this ?_;have e:12 * (B * (12 * B) ^ rows.length)=(12 * B) ^ rows.length * (12 * B):=by grind
  omega
section
variable{A:Nat->Row}{n:Nat}{ρ cols:List Nat}{q:Nat->Nat}{d:Int}{W:Nat->Row}
structure Bd(A:Nat->Row)(n m:Nat)(B:Int):Prop where
 b1:1<=B
 ab:∀k x,k < n->x < m->Ab (A k x) B
def top(B:Int)(r:Nat):Int:=(12 * B) ^ (r+3)
theorem uL{B:Int}{a b:Nat}(h:1<=B)(VJ:a<=b):(12 * B) ^ a<=(12 * B) ^ b:=by
 obtain ⟨c,rfl⟩:=Nat.exists_eq_add_of_le VJ;rw [Int.pow_add];have p:(1:Int)<=(12 * B) ^ c:=by have:0 < (12 * B) ^ c:=Int.pow_pos (by omega);omega
 have q:(0:Int)<=(12 * B) ^ a:=abG (by omega);have:=aav p q;omega
theorem St.abs(s:St A n ρ cols q d W){m:Nat}{B:Int}(b:Bd A n m B)(hc:∀c∈cols,c < m)(hr:ρ.length<=12):
  (∀i k,i < n->Ab (W i k) (top B ρ.length))/\(∀i x,i < n->x < m->Ab (rv A n (W i) x) (top B ρ.length))/\Ab d (top B ρ.length):=by
 have B0:=b.b1;have mem:∀j,j < ρ.length->ρ.getD j 0∈ρ:=λj hj=>by rw [aab,aaa hj];exact aaA hj
 have ρn:∀a∈ρ,a < n:=λa ha=>by obtain ⟨j,hj,e⟩:=aa2 ha;have:=s.y3 j hj;rw [aab,aaa hj] at this;rw [<-e];exact this
 have ent:∀x∈ρ.map A,∀c∈cols,Ab (x c) B:=λx hx c uX=>by obtain ⟨a,ha,rfl⟩:=aak.mp hx;exact b.ab a c (ρn a ha) (hc c uX)
 have cl:cols.length<=12:=by rw [s.lc];exact hr
 have hd:Ab d ((12 * B) ^ ρ.length):=by have:=Ab.det B0 (ρ.map A) cols ent cl;rw [s.det,aae] at this;exact this
 have SU:∀p k,Ab (d8 (ρ.map A) cols p k) ((12 * B) ^ ρ.length):=λp k=>by
  unfold d8;refine Ab.pow ((Ab.det B0 _ _ (λx hx c uX=>ent x (ab0 hx) c (ab0 uX)) ?_).mono (uL B0 ?_))
  ·rw [List.length_eraseIdx];split <;> omega
  ·rw [List.length_eraseIdx,aae];split <;> omega
 have i1:∀a k,Ab (ind a k) 1:=λa k=>by unfold ind;split <;> exact ⟨by decide,by decide⟩
 have P0:(0:Int)<=(12 * B) ^ ρ.length:=abG (by omega);have KN:∀{C:Int},0<=C->(ρ.length:Int) * C<=12 * C:=λh=>aaC (by omega) h;have c1:12 * (12 * B) ^ ρ.length<=(12 * B) ^ (ρ.length+1):=by rw [abD];have:=aav (show (12:Int)<=12 * B by omega) P0;omega
 have wp:∀i k,i < ρ.length->Ab (W i k) ((12 * B) ^ (ρ.length+1)):=λi k hi=>by rw [s.wp i hi k];refine (Ab.sum (B:=(12 * B) ^ ρ.length) λj hj=> ?_).mono (abr (KN P0) c1);have:=Ab.mul (SU i j) (i1 (ρ.getD j 0) k);rw [Int.mul_one] at this;exact this
 have rp:∀i x,i < ρ.length->x < m->Ab (rv A n (W i) x) ((12 * B) ^ (ρ.length+1)):=λi x hi hx=>by
  rw [s.Pc hi];have Q0:0<=(12 * B) ^ ρ.length * B:=aa3 P0 (by omega);refine (Ab.sum (B:=(12 * B) ^ ρ.length * B) λj hj=>Ab.mul (SU i j) (b.ab _ x (s.y3 j hj) hx)).mono (abr (KN Q0) ?_);rw [abD];have:12 * ((12 * B) ^ ρ.length * B)=(12 * B) ^ ρ.length * (12 * B):=by grind
  omega
 have S0:(0:Int)<=(12 * B) ^ (ρ.length+1):=abG (by omega);have T0:(0:Int)<=(12 * B) ^ (ρ.length+2):=abG (by omega);have c2:12 * (B * (12 * B) ^ (ρ.length+1))=(12 * B) ^ (ρ.length+2):=by rw [show ρ.length+2=ρ.length+1+1 from rfl,Int.pow_succ];grind
 have c3:(12 * B) ^ (ρ.length+2)+(12 * B) ^ (ρ.length+2)<=top B ρ.length:=by unfold top;have e:(12 * B) ^ (ρ.length+3)=(12 * B) ^ (ρ.length+2) * (12 * B):=abD _ _;rw [e];have:=aav (show (2:Int)<=12 * B by omega) T0;omega
 have c4:(12 * B) ^ (ρ.length+1)<=(12 * B) ^ (ρ.length+2):=uL B0 (by omega);have c5:(12 * B) ^ ρ.length<=(12 * B) ^ (ρ.length+2):=uL B0 (by omega);have c6:(12 * B) ^ ρ.length * B<=(12 * B) ^ (ρ.length+2):=by refine abr ?_ c4;rw [abD];exact aav (by omega) P0
 have U0:0<=B * (12 * B) ^ (ρ.length+1):=aa3 (by omega) S0;have PR:∀p,p < ρ.length->cols.getD p 0 < m:=λp hp=>by
  have Cd:p < cols.length:=by rw [s.lc];exact hp
  rw [aab,aaa Cd];exact hc _ (aaA Cd)
 refine ⟨λi k hi=> ?_,λi x hi hx=> ?_,hd.mono (by omega)⟩
 ·by_cases ux:i < ρ.length
  ·exact (wp i k ux).mono (by omega)
  ·rw [s.wn i (by omega) hi k];have a1:=Ab.mul hd (i1 (q i) k);rw [Int.mul_one] at a1;refine (Ab.sub a1 (Ab.sum (B:=B * (12 * B) ^ (ρ.length+1)) λp hp=>Ab.mul (b.ab (q i) _ (s.Lc i hi) (PR p hp)) (wp p k hp))).mono ?_;have:=KN U0;omega
 ·by_cases ux:i < ρ.length
  ·exact (rp i x ux hx).mono (by omega)
  ·rw [s.Nw (by omega) hi];refine (Ab.sub (Ab.mul hd (b.ab (q i) x (s.Lc i hi) hx)) (Ab.sum (B:=B * (12 * B) ^ (ρ.length+1)) λp hp=>Ab.mul (b.ab (q i) _ (s.Lc i hi) (PR p hp)) (rp p x hp hx))).mono ?_;have:=KN U0;omega
end
def cx(n i:Nat):List Int:=(List.range n).map (ind i)
def jM(ls:List (List Int))(f k:Nat):List (List Int):=ls.take f++[ls.getD k []]++(ls.drop f).take (k - f)++ls.drop (k+1)
def cw(l h:List Int)(c:Nat)(d:Int):List Int:=(l.zip h).map λp=>(h.getD c 0 * p.1 - l.getD c 0 * p.2).fdiv d
def ak(A:Nat->Row)(n m:Nat)(w:Row):List Int:=(List.range m).map (λx=>rv A n w x)++(List.range n).map w
def Χ(A:Nat->Row)(n m:Nat)(W:Nat->Row):List (List Int):=(List.range n).map λi=>ak A n m (W i)
def arr(rows:List (List Int)):Nat->Row:=λk x=>(rows.getD k []).getD x 0
theorem dM{A:Nat->Row}{n m:Nat}{w:Row}:(ak A n m w).length=m+n:=by unfold ak;simp
theorem gT{A:Nat->Row}{n m x:Nat}{w:Row}(h:x < m):(ak A n m w).getD x 0=rv A n w x:=by unfold ak;rw [List.getD_eq_getElem?_getD,List.getElem?_append_left (by simpa using h),List.getElem?_map,List.getElem?_range h];rfl
theorem jR{A:Nat->Row}{n m i:Nat}{W:Nat->Row}(h:i < n):(Χ A n m W).getD i []=ak A n m (W i):=by unfold Χ;rw [aab,aao,aaI h];rfl
theorem cI{A:Nat->Row}{n m:Nat}{W:Nat->Row}:(Χ A n m W).length=n:=by unfold Χ;simp
theorem Bb{A:Nat->Row}{n m:Nat}{w u:Row}(h:∀k,w k=u k):ak A n m w=ak A n m u:=by have:w=u:=funext h;rw [this]
theorem xu{rows:List (List Int)}{m:Nat}(hl:∀r∈rows,r.length=m):(List.range rows.length).map (λi=>rows.getD i []++cx rows.length i)=Χ (arr rows) rows.length m (λi=>ind i):=by
 unfold Χ;apply aaW;intro i hi;have hi:=abc.mp hi;unfold ak cx
 congr 1
 have g:rows.getD i []=rows[i]:=by rw [aab,aaa hi];rfl
 have ml:=hl rows[i] (aaA hi);apply abe
 ·rw [g,ml];simp
 ·intro x h1 h2;simp only [List.getElem_map,List.getElem_range];rw [zH hi];unfold arr;rw [aab (l:=rows.getD i []),aaa h1];rfl
def iF(r k i:Nat):Nat:=if i < r then i else if i=r then k else if i<=k then i - 1 else i
theorem yi{A:Nat->Row}{n m r k:Nat}{W:Nat->Row}(hr:r<=k)(hk:k < n):jM (Χ A n m W) r k=Χ A n m (λi=>W (iF r k i)):=by
 unfold jM;rw [jR hk];unfold Χ;apply List.ext_getElem?;intro i;rw [aao];simp only [List.append_assoc];by_cases h1:i < r
 ·rw [List.getElem?_append_left (by simp;omega),List.getElem?_take_of_lt h1,List.getElem?_map];rw [aaI (by omega)];have:iF r k i=i:=by unfold iF;rw [if_pos h1]
  simp [this]
 ·rw [List.getElem?_append_right (by simp;omega)];have lt:((List.map (λi=>ak A n m (W i)) (List.range n)).take r).length=r:=by simp;omega
  rw [lt];by_cases h2:i=r
  ·subst h2;rw [Nat.sub_self,List.getElem?_append_left (by simp)];rw [aaI (by omega)];have:iF i k i=k:=by unfold iF;rw [if_neg (Nat.lt_irrefl _),if_pos rfl]
   simp [this]
  ·rw [List.getElem?_append_right (by simp;omega)];show (_++_)[i - r - 1]? =_;have l2:((List.map (λi=>ak A n m (W i)) (List.range n)).drop r |>.take (k - r)).length=k - r:=by simp;omega
   by_cases h3:i<=k
   ·rw [aat (by rw [l2];omega),abZ (by omega),List.getElem?_drop,aao,aaI (by omega),aaI (by omega)];have:iF r k i=i - 1:=by unfold iF;rw [if_neg h1,if_neg h2,if_pos h3]
    simp only [Option.map_some,this];rw [show r+(i - r - 1)=i - 1 by omega]
   ·rw [aaq (by rw [l2];omega),l2,List.getElem?_drop,aao];rw [show k+1+(i - r - 1 - (k - r))=i by omega];by_cases h4:i < n
    ·rw [aaI h4];have:iF r k i=i:=by unfold iF;rw [if_neg h1,if_neg h2,if_neg h3]
     simp [this]
    ·rw [List.getElem?_eq_none (by simpa using h4)];rfl
theorem qD{a b d:Int}(h:d≠0)(e:d * b=a):a.fdiv d=b:=by rw [<-e];exact Int.mul_fdiv_cancel_left b h
theorem pX{A:Nat->Row}{n m c:Nat}{w u v:Row}{d:Int}(hc:c < m)(d0:d≠0)(h:∀k,d * v k=rv A n u c * w k - rv A n w c * u k):cw (ak A n m w) (ak A n m u) c d=ak A n m v:=by
 have hr:∀x,d * rv A n v x=rv A n u c * rv A n w x - rv A n w c * rv A n u x:=λx=>by have:=vv (A:=A) (n:=n) (w:=λk=>d * v k) (u:=w) (v:=u) (a:=rv A n u c) (b:=rv A n w c) h x;rw [<-this];unfold rv;rw [<-Ο];exact ο λk _=>by grind
 unfold cw;rw [gT hc,gT hc];unfold ak;rw [List.zip_append (by simp),List.map_append]
 congr 1
 ·apply abe
  ·simp
  ·intro x h1 h2;simp only [List.getElem_map,List.getElem_zip,List.getElem_range];exact qD d0 (hr x)
 ·apply abe
  ·simp
  ·intro x h1 h2;simp only [List.getElem_map,List.getElem_zip,List.getElem_range];exact qD d0 (h x)
structure Turn(A:Nat->Row)(n:Nat)(col:Nat)(ρ cols:List Nat)(q:Nat->Nat)(d:Int)(W:Nat->Row):Prop where
 st:St A n ρ cols q d W
 d0:d≠0
 cl:∀c∈cols,c < col
 Nt:∀i,i < ρ.length->q i=ρ.getD i 0
 OI:∀k,k < n->∃i,i < n/\q i=k
 zero:∀i,ρ.length<=i->i < n->∀x,x < col->rv A n (W i) x=0
 all:cols=List.range col\/∃x,x < col/\x∉cols
theorem Turn.start{A:Nat->Row}{n:Nat}:Turn A n 0 [] [] id 1 (λi=>ind i) where
 st:=St.start
 d0:=by decide
 cl:=λ_ h=>nomatch h
 Nt:=λ_ h=>absurd h (abq _)
 OI:=λk h=>⟨k,h,rfl⟩
 zero:=λ_ _ _ _ h=>absurd h (abq _)
 all:= .inl rfl
section
variable{A:Nat->Row}{n col:Nat}{ρ cols:List Nat}{q:Nat->Nat}{d:Int}{W:Nat->Row}
theorem Turn.skip(t:Turn A n col ρ cols q d W)(h:∀i,ρ.length<=i->i < n->rv A n (W i) col=0):Turn A n (col+1) ρ cols q d W where
 st:=t.st
 d0:=t.d0
 cl:=λc hc=>abK (t.cl c hc)
 Nt:=t.Nt
 OI:=t.OI
 zero:=λi h1 h2 x hx=>by
  by_cases e:x=col
  ·rw [e];exact h i h1 h2
  ·exact t.zero i h1 h2 x (by omega)
 all:= .inr ⟨col,aa8 _,λz=>absurd (t.cl col z) (aaY _)⟩
theorem Turn.move(t:Turn A n col ρ cols q d W){k:Nat}(h1:ρ.length<=k)(h2:k < n):Turn A n col ρ cols (λi=>q (iF ρ.length k i)) d (λi=>W (iF ρ.length k i)) where
 st:=t.st.perm (λi hi=>by unfold iF;rw [if_pos hi]) λi a b=>by unfold iF;split <;> (try split) <;> (try split) <;> omega
 d0:=t.d0
 cl:=t.cl
 Nt:=λi hi=>by show q (iF ρ.length k i)=_;rw [show iF ρ.length k i=i by unfold iF;rw [if_pos hi]];exact t.Nt i hi
 OI:=λj hj=>by
  obtain ⟨i,hi,e⟩:=t.OI j hj;by_cases a:i < ρ.length
  ·exact ⟨i,hi,by show q (iF ρ.length k i)=j;rw [show iF ρ.length k i=i by unfold iF;rw [if_pos a]];exact e⟩
  ·by_cases b:i=k
   ·exact ⟨ρ.length,by omega,by show q (iF ρ.length k ρ.length)=j;rw [show iF ρ.length k ρ.length=k by unfold iF;rw [if_neg (Nat.lt_irrefl _),if_pos rfl],<-b];exact e⟩
   ·by_cases c:i < k
    ·exact ⟨i+1,by omega,by show q (iF ρ.length k (i+1))=j;rw [show iF ρ.length k (i+1)=i by unfold iF;rw [if_neg (by omega),if_neg (by omega),if_pos (by omega)];omega];exact e⟩
    ·exact ⟨i,hi,by show q (iF ρ.length k i)=j;rw [show iF ρ.length k i=i by unfold iF;rw [if_neg a,if_neg (by omega),if_neg (by omega)]];exact e⟩
 zero:=λi a b x hx=>by
  have:ρ.length<=iF ρ.length k i/\iF ρ.length k i < n:=by unfold iF;split <;> (try split) <;> (try split) <;> omega
  exact t.zero _ this.1 this.2 x hx
 all:=t.all
theorem Turn.step{m:Nat}(t:Turn A n col ρ cols q d W)(hr:ρ.length < n)(hm:col < m)(h0:rv A n (W ρ.length) col≠0):
  ∃W',Turn A n (col+1) (ρ++[q ρ.length]) (cols++[col]) q (rv A n (W ρ.length) col) W'/\
   ((Χ A n m W).take ρ.length).map (λl=>cw l (ak A n m (W ρ.length)) col d)++[ak A n m (W ρ.length)]++((Χ A n m W).drop (ρ.length+1)).map (λl=>cw l (ak A n m (W ρ.length)) col d)=Χ A n m W':=by
 obtain ⟨W',s',e1,e2⟩:=t.st.step hr col t.d0 h0;refine ⟨W',⟨s',h0,λc hc=> ?_,λi hi=> ?_,t.OI,λi a b x hx=> ?_, ?_⟩, ?_⟩
 ·rcases aaN.mp hc with z | z
  ·exact abK (t.cl c z)
  ·have:c=col:=by simpa using z
   omega
 ·by_cases ux:i < ρ.length
  ·rw [mz ux];exact t.Nt i ux
  ·have:i=ρ.length:=by simp at hi;omega
   rw [this,mB]
 ·rw [show (ρ++[q ρ.length]).length=ρ.length+1 by simp] at a;have Vf:d * rv A n (W' i) x=rv A n (W ρ.length) col * rv A n (W i) x - rv A n (W i) col * rv A n (W ρ.length) x:=by have:=vv (A:=A) (n:=n) (w:=λk=>d * W' i k) (u:=W i) (v:=W ρ.length) (λk=>e2 i b (by omega) k) x;rw [<-this];unfold rv;rw [<-Ο];exact ο λk _=>by grind
  refine aaH t.d0 ?_;rw [Vf];by_cases e:x=col
  ·subst e;grind
  ·rw [t.zero i (by omega) b x (by omega),t.zero ρ.length (Nat.le_refl _) hr x (by omega)];simp
 ·rcases t.all with z | ⟨x,a,b⟩
  ·left;rw [z,List.range_succ]
  ·refine .inr ⟨x,by omega,λz=> ?_⟩;rcases aaN.mp z with z | z
   ·exact b z
   ·have:x=col:=by simpa using z
    omega
 ·unfold Χ;rw [<-ab5,<-ab6,aaE,aaE];apply List.ext_getElem?;intro i;simp only [List.append_assoc];have lt:(List.map ((λl=>cw l (ak A n m (W ρ.length)) col d) ∘ λi=>ak A n m (W i)) ((List.range n).take ρ.length)).length=ρ.length:=by simp;omega
  by_cases h1:i < ρ.length
  ·rw [aat (by rw [lt];exact h1),aao,aao,abZ h1,aaI (by omega)];show some (cw (ak A n m (W i)) (ak A n m (W ρ.length)) col d)=some _;rw [pX hm t.d0 (e2 i (by omega) (by omega))]
  ·rw [aaq (by rw [lt];omega),lt,aao];by_cases h2:i=ρ.length
   ·subst h2;rw [Nat.sub_self,aaI hr];show some (ak A n m (W ρ.length))=some (ak A n m (W' ρ.length));rw [Bb e1]
   ·rw [List.getElem?_append_right (by simp;omega)];show (List.map _ ((List.range n).drop (ρ.length+1)))[i - ρ.length - 1]? =_;rw [aao,List.getElem?_drop,show ρ.length+1+(i - ρ.length - 1)=i by omega];by_cases h4:i < n
    ·rw [aaI h4];show some (cw (ak A n m (W i)) (ak A n m (W ρ.length)) col d)=some _;rw [pX hm t.d0 (e2 i h4 h2)]
    ·rw [List.getElem?_eq_none (by simpa using h4)];rfl
end
section
variable{A:Nat->Row}{n col:Nat}{ρ cols:List Nat}{q:Nat->Nat}{d:Int}{W:Nat->Row}
theorem Turn.back(t:Turn A n col ρ cols q d W){k y:Nat}(hk:k < n)(hy:y < col):d * A k y=Α (λp=>A k (cols.getD p 0) * rv A n (W p) y) ρ.length:=by
 obtain ⟨i,hi,e⟩:=t.OI k hk;have s:=t.st;by_cases ux:i < ρ.length
 ·have ek:k=ρ.getD i 0:=by rw [<-e];exact t.Nt i ux
  have lr:(ρ.map A).length=ρ.length:=aae _;have e1:Α (λp=>A k (cols.getD p 0) * rv A n (W p) y) ρ.length=Α (λp=>Α (λj=>(A k (cols.getD p 0) * d8 (ρ.map A) cols p j) * A (ρ.getD j 0) y) ρ.length) ρ.length:=ο λp hp=>by rw [s.Pc hp,<-Ο];exact ο λj _=>by grind
  have e2:Α (λp=>Α (λj=>(A k (cols.getD p 0) * d8 (ρ.map A) cols p j) * A (ρ.getD j 0) y) ρ.length) ρ.length=Α (λj=>A (ρ.getD j 0) y * Α (λp=>(ρ.map A).getD i zr (cols.getD p 0) * d8 (ρ.map A) cols p j) ρ.length) ρ.length:=by rw [cK];refine ο λj _=> ?_;rw [<-Ο];refine ο λp _=> ?_;rw [rM ux,<-ek];grind
  rw [e1,e2];have pa:∀j,j < ρ.length->Α (λp=>(ρ.map A).getD i zr (cols.getD p 0) * d8 (ρ.map A) cols p j) ρ.length=if i=j then d else 0:=λj hj=>by have:=PA (rows:=ρ.map A) (cols:=cols) (i:=i) (k:=j) (by rw [lr];exact s.lc) (by rw [lr];exact ux) (by rw [lr];exact hj);rw [lr,s.det] at this;exact this
  rw [iA ux λj hj iT=>by rw [pa j hj,if_neg (Ne.symm iT)];simp];rw [pa i ux,if_pos rfl,ek];grind
 ·have:=s.Nw (by omega) hi y;rw [t.zero i (by omega) hi y hy,e] at this;omega
theorem Turn.kernel(t:Turn A n col ρ cols q d W){x:Nat}(hx:x < col)(hf:x∉cols):∃z:Row,z x= -d/\∀k,k < n->Α (λy=>A k y * z y) col=0:=by
 have s:=t.st;have cm:∀i,i < ρ.length->cols.getD i 0∈cols:=λi hi=>by
  have tm:i < cols.length:=by rw [s.lc];exact hi
  rw [aab,aaa tm];exact aaA tm
 refine ⟨λy=>Α (λi=>rv A n (W i) x * ind (cols.getD i 0) y) ρ.length - d * ind x y, ?_,λk hk=> ?_⟩
 ·have e1:Α (λi=>rv A n (W i) x * ind (cols.getD i 0) x) ρ.length=0:=ik λi hi=>by unfold ind;rw [if_neg λz=>hf (by rw [<-z];exact cm i hi)];simp
  show Α (λi=>rv A n (W i) x * ind (cols.getD i 0) x) ρ.length - d * ind x x= -d;rw [e1];unfold ind;rw [if_pos rfl];omega
 ·have gen:∀f:Row,Α (λy=>f y * (Α (λi=>rv A n (W i) x * ind (cols.getD i 0) y) ρ.length - d * ind x y)) col=Α (λi=>rv A n (W i) x * f (cols.getD i 0)) ρ.length - d * f x:=λf=>by
   have e1:Α (λy=>f y * (Α (λi=>rv A n (W i) x * ind (cols.getD i 0) y) ρ.length - d * ind x y)) col=Α (λy=>Α (λi=>rv A n (W i) x * (ind (cols.getD i 0) y * f y)) ρ.length+(-d) * (ind x y * f y)) col:=ο λy _=>by
    have:Α (λi=>rv A n (W i) x * (ind (cols.getD i 0) y * f y)) ρ.length=f y * Α (λi=>rv A n (W i) x * ind (cols.getD i 0) y) ρ.length:=by rw [<-Ο];exact ο λi _=>by grind
    rw [this];grind
   rw [e1,gm,Ο,mw (f:=f) hx,cK];have e2:Α (λi=>Α (λy=>rv A n (W i) x * (ind (cols.getD i 0) y * f y)) col) ρ.length=Α (λi=>rv A n (W i) x * f (cols.getD i 0)) ρ.length:=ο λi hi=>by rw [Ο,mw (f:=f) (t.cl _ (cm i hi))]
   rw [e2];grind
  refine aaH t.d0 ?_;rw [Int.mul_zero,gen (A k),Int.mul_sub];have b1:=t.back hk hx;have e3:Α (λi=>rv A n (W i) x * A k (cols.getD i 0)) ρ.length=d * A k x:=by rw [b1];exact ο λi _=>aaQ _ _
  rw [e3];grind
def OV(A:Nat->Row)(n u:Nat)(z:Row)(N:Int):Prop:=∀k,k < n->Α (λx=>A k x * z x) u=N * A k u
theorem OV.line{u:Nat}{z:Row}{N:Int}(h:OV A n u z N)(w:Row):Α (λx=>rv A n w x * z x) u=N * rv A n w u:=by
 unfold rv;have e1:Α (λx=>Α (λk=>w k * A k x) n * z x) u=Α (λx=>Α (λk=>w k * (A k x * z x)) n) u:=ο λx _=>by rw [aaQ,<-Ο];exact ο λk _=>by grind
 rw [e1,cK,<-Ο];refine ο λk hk=> ?_;rw [Ο,h k hk];grind
theorem Turn.rest(t:Turn A n col ρ cols q d W){z:Row}{N:Int}(hs:OV A n col z N)(hN:N≠0){i:Nat}(h1:ρ.length<=i)(hi:i < n):rv A n (W i) col=0:=by
 have:=hs.line (W i);rw [ik λx hx=>by rw [t.zero i h1 hi x hx];simp] at this;rcases Int.mul_eq_zero.mp this.symm with e | e
 ·exact absurd e hN
 ·exact e
theorem Turn.told(t:Turn A n col ρ cols q d W)(hc:cols=List.range col){z:Row}{N:Int}(hs:OV A n col z N){i:Nat}(hi:i < col):d * z i=N * rv A n (W i) col:=by
 have s:=t.st;have hl:ρ.length=col:=by rw [<-s.lc,hc,aaU]
 have g:∀p,p < col->cols.getD p 0=p:=λp hp=>by rw [hc,aab,aaI hp];rfl
 rw [<-hs.line (W i)]
 rw [iA hi λx hx iT=>by
  have:=s.one i x (by rw [hl];exact hi) (by rw [hl];exact hx);rw [g x hx,if_neg (Ne.symm iT)] at this
  rw [this];simp]
 have:=s.one i i (by rw [hl];exact hi) (by rw [hl];exact hi);rw [g i hi,if_pos rfl] at this;rw [this]
end
theorem Turn.exists{A:Nat->Row}{n:Nat}:∀col:Nat,∃ρ cols q d W,Turn A n col ρ cols q d W
 | 0=>⟨_,_,_,_,_,Turn.start⟩
 | col+1=>by
  obtain ⟨ρ,cols,q,d,W,t⟩:=Turn.exists (A:=A) (n:=n) col;by_cases h:∃k,ρ.length<=k/\k < n/\rv A n (W k) col≠0
  ·obtain ⟨k,h1,h2,h3⟩:=h;have t':=t.move h1 h2;have e:iF ρ.length k ρ.length=k:=by unfold iF;rw [if_neg (Nat.lt_irrefl _),if_pos rfl]
   obtain ⟨W',t2,_⟩:=t'.step (m:=col+1) (by omega) (by omega) (by show rv A n (W (iF ρ.length k ρ.length)) col≠0;rw [e];exact h3);exact ⟨_,_,_,_,_,t2⟩
  ·refine ⟨_,_,_,_,_,t.skip λi h1 h2=> ?_⟩;by_cases e:rv A n (W i) col=0
   ·exact e
   ·exact absurd ⟨i,h1,h2,e⟩ h
section
variable{A:Nat->Row}{n col:Nat}{ρ cols:List Nat}{q:Nat->Nat}{d:Int}{W:Nat->Row}
def Je(A:Nat->Row)(n:Nat)(W:Nat->Row)(cols:List Nat)(s k:Nat):Row:=λy=>Α (λi=>rv A n (W i) s * ind (cols.getD i 0) y) k
theorem Turn.Km(t:Turn A n col ρ cols q d W){x:Nat}(hx:x < col):∀k,k < n->Α (λy=>A k y * (Je A n W cols x cols.length y - d * ind x y)) col=0:=λk hk=>by
 have s:=t.st;have cm:∀i,i < ρ.length->cols.getD i 0∈cols:=λi hi=>by
  have tm:i < cols.length:=by rw [s.lc];exact hi
  rw [aab,aaa tm];exact aaA tm
 unfold Je;rw [s.lc];have gen:∀f:Row,Α (λy=>f y * (Α (λi=>rv A n (W i) x * ind (cols.getD i 0) y) ρ.length - d * ind x y)) col=Α (λi=>rv A n (W i) x * f (cols.getD i 0)) ρ.length - d * f x:=λf=>by
  have e1:Α (λy=>f y * (Α (λi=>rv A n (W i) x * ind (cols.getD i 0) y) ρ.length - d * ind x y)) col=Α (λy=>Α (λi=>rv A n (W i) x * (ind (cols.getD i 0) y * f y)) ρ.length+(-d) * (ind x y * f y)) col:=ο λy _=>by
   have:Α (λi=>rv A n (W i) x * (ind (cols.getD i 0) y * f y)) ρ.length=f y * Α (λi=>rv A n (W i) x * ind (cols.getD i 0) y) ρ.length:=by rw [<-Ο];exact ο λi _=>by grind
   rw [this];grind
  rw [e1,gm,Ο,mw (f:=f) hx,cK];have e2:Α (λi=>Α (λy=>rv A n (W i) x * (ind (cols.getD i 0) y * f y)) col) ρ.length=Α (λi=>rv A n (W i) x * f (cols.getD i 0)) ρ.length:=ο λi hi=>by rw [Ο,mw (f:=f) (t.cl _ (cm i hi))]
  rw [e2];grind
 refine aaH t.d0 ?_;rw [Int.mul_zero,gen (A k),Int.mul_sub];have b1:=t.back hk hx;have e3:Α (λi=>rv A n (W i) x * A k (cols.getD i 0)) ρ.length=d * A k x:=by rw [b1];exact ο λi _=>aaQ _ _
 rw [e3];grind
theorem Turn.PM(t:Turn A n col ρ cols q d W)(h:∀i,ρ.length<=i->i < n->rv A n (W i) col=0):OV A n col (Je A n W cols col cols.length) d:=λk hk=>by
 have:=(t.skip h).Km (x:=col) (by omega) k hk;have e:Α (λy=>A k y * (Je A n W cols col cols.length y - d * ind col y)) (col+1)=Α (λy=>A k y * (Je A n W cols col cols.length y - d * ind col y)) col+A k col * (Je A n W cols col cols.length col - d * ind col col):=rfl;have e1:Α (λy=>A k y * (Je A n W cols col cols.length y - d * ind col y)) col=Α (λy=>A k y * Je A n W cols col cols.length y) col:=ο λy hy=>by
  have:ind col y=0:=by unfold ind;rw [if_neg (by omega)]
  rw [this];grind
 have e2:Je A n W cols col cols.length col=0:=ik λi hi=>by
  have hm:cols.getD i 0∈cols:=by rw [aab,aaa hi];exact aaA hi
  have:ind (cols.getD i 0) col=0:=by unfold ind;rw [if_neg (by have:=t.cl _ hm;omega)]
  rw [this,Int.mul_zero]
 have e3:ind col col=1:=by unfold ind;rw [if_pos rfl]
 rw [e,e1,e2,e3] at this;have:A k col * (0 - d * 1)= -(d * A k col):=by grind
 omega
theorem St.Ua(s:St A n ρ cols q d W){m:Nat}{B:Int}(b:Bd A n m B)(hc:∀c∈cols,c < m)(hr:ρ.length<=12):Ab d ((12 * B) ^ ρ.length):=by
 have ρn:∀a∈ρ,a < n:=λa ha=>by obtain ⟨j,hj,e⟩:=aa2 ha;have:=s.y3 j hj;rw [aab,aaa hj] at this;rw [<-e];exact this
 have:=Ab.det b.b1 (ρ.map A) cols (λx hx c uX=>by
  obtain ⟨a,ha,rfl⟩:=aak.mp hx
  exact b.ab a c (ρn a ha) (hc c uX)) (by rw [s.lc];exact hr)
 rw [s.det,aae] at this;exact this
end
end Bz
seal L2.JE L2.JT L2.JW L2.JA L2.JS L2.BH L2.JI L2.JK
local macro_rules | `(tactic| walk_at "vc")=>`(tactic| dsimp only [L2.gN,L2.RW,L2.Ra,L2.Rp,L2.Se,L2.LR,L2.Yh,L2.RU,L2.OC,L2.Gf,L2.LJ,L2.zf,L2.kI,L2.Td,L2.zy,L2.dC,L2.Od,L2.LM,L2.QL,L2.Qr,L2.oQ,L2.XO,L2.Rg,L2.R4,L2.Ru,L2.Xx,L2.nR,List.map_cons,List.map_nil,List.length_cons,List.length_nil,List.cons_append,List.nil_append,List.replicate,List.getElem?_cons_zero,List.getElem?_cons_succ,List.set_cons_zero,List.set_cons_succ,Nat.reduceSub,Nat.reduceAdd,Nat.zero_add])
namespace Pg
open PySem L2
def top(i:Nat):Stmt:=PySem.Challenge.pw_chanceduel_k24_whole_no_plan_does_better.main.body.getD i (.Pass ⟨0,0,0,0⟩)
def cls(i j:Nat):Stmt:=match top i with
 | .ClassDef _ _ _ b _ _ _ _ _ _ _=>b.getD j (.Pass ⟨0,0,0,0⟩)
 | _=> .Pass ⟨0,0,0,0⟩
abbrev gB:Stmt:=top 9
abbrev nD:Stmt:=top 10
abbrev Io:Stmt:=top 11
abbrev zO:Stmt:=top 12
abbrev AW:Stmt:=top 13
abbrev Bg:Stmt:=top 14
abbrev qb:Stmt:=top 19
abbrev nU:Stmt:=top 20
abbrev hX:Stmt:=top 21
abbrev bV:Stmt:=top 22
abbrev fR:Stmt:=top 23
abbrev jH:Stmt:=top 24
abbrev lL:Stmt:=top 25
abbrev k_:Stmt:=top 30
abbrev pJ:Stmt:=top 31
abbrev mX:Stmt:=top 32
abbrev zM:Stmt:=top 33
abbrev iG:Stmt:=top 36
abbrev g6:Stmt:=top 37
abbrev jr:Stmt:=top 38
abbrev dQ:Stmt:=top 39
abbrev fX:Stmt:=top 40
abbrev lO:Stmt:=top 41
abbrev n6:Stmt:=top 43
abbrev iB:Stmt:=top 45
abbrev lR:Stmt:=top 46
abbrev pV:Stmt:=top 47
abbrev pH:Stmt:=top 48
abbrev iJ:Stmt:=top 49
abbrev oa:Stmt:=top 50
abbrev h_:Stmt:=top 51
abbrev vC:Stmt:=top 52
abbrev lE:Stmt:=top 53
abbrev iy:Stmt:=top 54
abbrev nZ:Stmt:=top 55
abbrev gs:Stmt:=top 57
abbrev rA:Stmt:=top 58
abbrev zk:Stmt:=top 60
abbrev lF:Stmt:=top 61
abbrev kY:Stmt:=top 62
abbrev uQ:Stmt:=top 63
abbrev iC:Stmt:=top 64
abbrev iO:Stmt:=top 65
abbrev ly:Stmt:=top 66
abbrev jT:Stmt:=top 67
abbrev nA:Stmt:=top 68
abbrev j2:Stmt:=top 69
abbrev rK:Stmt:=top 70
abbrev nq:Stmt:=top 71
abbrev mU:Stmt:=top 72
abbrev i7:Stmt:=top 73
abbrev NH:Stmt:=top 74
abbrev fS:Stmt:=cls 34 0
abbrev lV:Stmt:=cls 34 1
abbrev jK:Stmt:=cls 34 2
abbrev lC:Stmt:=cls 34 3
abbrev jI:Stmt:=cls 34 4
abbrev m8:Stmt:=cls 34 5
abbrev jF:Stmt:=cls 34 7
abbrev cD:Stmt:=cls 34 8
abbrev gq:Stmt:=cls 34 9
abbrev gu:Stmt:=cls 34 10
open PySem L2 Fr0 Tx
structure Ev(K:PySem.W.Frag)(mg:Str->Option Value)(w:World)(Cm:Addr):Prop where
 aZ:mg "len"=none
 pZ:mg "abs"=none
 bR:mg "isinstance"=none
 tq:mg "int"=none
 uA:mg "bool"=none
 HS:mg "str"=none
 o_:mg "tuple"=none
 lU:mg "list"=none
 bG:mg "range"=none
 dz:mg "enumerate"=none
 Cu:mg "any"=none
 Cj:mg "all"=none
 yf:mg "sum"=none
 sJ:mg "zip"=none
 n8:mg "dict"=none
 x6:mg "min"=none
 Bm:mg "max"=none
 ib:PySem.W.kitOne K (.type "int") (.type "bool")=some false
 kis:PySem.W.kitOne K (.type "int") (.type "str")=some false
 Y':PySem.W.kitOne K (.type "tuple") (.type "str")=some false
 kti:PySem.W.kitOne K (.type "tuple") (.type "int")=some false
 kls:PySem.W.kitOne K (.type "list") (.type "str")=some false
 kli:PySem.W.kitOne K (.type "list") (.type "int")=some false
 ktl:PySem.W.kitOne K (.type "tuple") (.type "list")=some false
 klt:PySem.W.kitOne K (.type "list") (.type "tuple")=some false
 cQ:Cq K Cm
 bP:gX K Cm "kept_rows"
 eN:gX K Cm "kept_share"
 vU:∃a o its n,mg "HANDS"=some (.ref a)/\K.lookup a=some o/\o.cls= .type "tuple"/\o.data= .seq its n/\its.size<=sizeLine/\Paired (λ(z:Str) (u:Value)=>∃tk,u= .str z tk) ["one","other"] its.toList
 kM:OZ K w mg "TURNED_KINDS" [("one","other"),("other","one"),("chance","chance")]
 oF:∃tk,mg "MOST_DOORS"=some (.int 6 tk)
 i4:∃tk,mg "MOST_BOTTOM"=some (.int 1000000 tk)
 mF:∃tk,mg "MOST_PLACES"=some (.int 12 tk)
 fY:∃tk,mg "MOST_SHARE_BOTTOM"=some (.int 1000 tk)
theorem AB{K:PySem.W.Frag}{T:String}:PySem.W.kitOne K (.type T) (.type T)=some true:=by unfold PySem.W.kitOne;rw [if_pos (beq_self_eq_true _)]
section
variable{P:Program}{w:World}{K:PySem.W.Frag}{mg:Str->Option Value}{base:Heap}{Cm:Addr}
def Hk:DF:=λds M q _=>match ds with
 | [.int a, .int b]=>q (.int (g a b)) M
 | _=>False
theorem bo:Γ ["one","other","great","small","rest"] ["one","other"] (θ gB):=⟨rfl,rfl,rfl,by decide+kernel,rfl,by decide+kernel,by decide+kernel⟩
theorem nc{f:Addr}{fd:FuncData}(F:cH K "common_divisor" "common_divisor" gB f fd)(E:Ev K mg w Cm):af P w K mg base (bX P w) 1 f fd ["one","other"] (cn K Hk):=by
 refine F.dF bo (λds M q x h=> ?_) (λaV A outer s H E' hr=>⟨_,(ζ (ω (i:=2) bo.nd rfl (Or.inl rfl) (Cg E.pZ (γ (jv 0) η (hs:=μ))))
   (ζ (ω (i:=3) bo.nd rfl (Or.inl rfl) (Cg E.pZ (γ (jv 1) η (hs:=μ))))
   (ζ (qM (rC hr (jv 3) υ) (ζ (ω (i:=4) bo.nd rfl (Or.inl rfl) (bB (jv 2) (jv 3)))
   (ζ (ω (i:=2) bo.nd rfl (Or.inl rfl) (jv 3))
   (ι (ω (i:=3) bo.nd rfl (Or.inl rfl) (jv 4))))))
   (ι (Β (jv 2)))))),λds M q x h=> ?_⟩)
 ·unfold Hk at h;split at h; · rfl
  ·exact h.elim
 ·unfold Hk at h;split at h
  ·rename_i a b;refine ⟨λm ρ M'=>M'=M/\∃(x y:Int) (r:Option Dt),ρ=[some (.int a),some (.int b),some (.int x),some (.int y),r]/\0<=x/\0<=y/\g x y=g a b/\m=y.toNat,⟨_,rfl,_,_,_,rfl,by split <;> omega,by split <;> omega,Lz a b,rfl⟩, ?_⟩;rintro m ρ M' ⟨rfl,x,y,r,rfl,hx,hy,e,rfl⟩;refine ⟨λhb=> ?_,λhb=> ?_⟩
   ·have JZ:y≠0:=by simpa using hb
    refine ⟨_,λρ' M2 h2=>h2, ?_⟩;refine ⟨by omega,(x % y).toNat, ?_,rfl,y,x % y,_,rfl,hy,aaO _ JZ, ?_,rfl⟩
    ·have:=aaL x (show 0 < y by omega);have:=aaO x JZ;omega
    ·rw [<-abB x hy,H_ (by omega)];exact e
   ·have JZ:y=0:=by simpa using hb
    subst JZ;rw [Hx hx] at e;subst e;exact h
  ·exact h.elim
theorem Ef{i j:Int}(h:gJ j)(l:i.natAbs<=j.natAbs):gJ i:=aaR l h
def rL:DF:=λds M q _=>match ds with
 | [.int t, .int b]=>gJ b/\(b=0->False)/\(b≠0->q (.tup [.int (ah t b).1, .int (ah t b).2]) M)
 | _=>False
theorem kX:Γ ["top","bottom","divisor"] ["top","bottom"] (θ nD):=⟨rfl,rfl,rfl,by decide+kernel,rfl,by decide+kernel,by decide+kernel⟩
theorem w6{f:Addr}{fd:FuncData}(F:cH K "fraction" "fraction" nD f fd)(E:Ev K mg w Cm){gF:Addr}{fT:FuncData}(bq:aj P w K mg base 1 "common_divisor" ["one","other"] Hk gF fT):af P w K mg base (bX P w) 2 f fd ["top","bottom"] (cn K rL):=by
 refine F.dF kX (λds M q x h=> ?_) (λaV A outer s H E' hr=>⟨_,(ζ (aB (d_ hr (jv 1) υ) (ι fU) Τ)
   (ζ (ω (i:=2) kX.nd rfl (Or.inl rfl) (aa bq hr ν (γ (jv 0) (γ (jv 1) η (hs:=μ)) (hs:=μ))))
   (ζ (iZ (aB (qY (jv 1) υ) (ι (ω (i:=2) kX.nd rfl (Or.inl rfl) (R6 (jv 2)))) Τ))
   (ι (Β (gh (γ (zx (jv 0) (jv 2)) (γ (zx (jv 1) (jv 2)) η (hs:=bC)) (hs:=bC)))))))),λds M q x h=> ?_⟩)
 ·unfold rL at h;split at h; · rfl
  ·exact h.elim
 ·unfold rL at h;split at h
  ·rename_i t b;obtain ⟨hB,h0,h1⟩:=h;refine ⟨λhb=> ?_,λhb=> ?_⟩
   ·exact h0 (by simpa using hb)
   ·have Ji:b≠0:=by simpa using hb
    refine ⟨λρ M'=>M'=M/\ρ=[some (.int t),some (.int b),some (.int (dv t b))],⟨λhn=> ?_,λhn=> ?_⟩, ?_⟩
    ·have Ss:b < 0:=by simpa using hn
     exact ⟨rfl,by unfold dv;rw [if_pos Ss];rfl⟩
    ·have Ss:¬b < 0:=by simpa using hn
     exact ⟨rfl,by unfold dv;rw [if_neg Ss];rfl⟩
    ·rintro ρ M' ⟨rfl,rfl⟩;have hd:=Co (t:=t) Ji;have Xj:gJ (dv t b):=Ef hB (uK Ji);exact ⟨⟨hd,Xj⟩,⟨hd,Xj⟩,(by show 2<=sizeLine;decide),h1 Ji⟩
  ·exact h.elim
abbrev Fr:=Int×Int
def Υ(p:Fr):Dt:= .tup [.int p.1, .int p.2]
def aW(p:Fr):Bool:=decide ((if p.1 < 0 then -p.1 else p.1)<=10 ^ 30)&&decide (p.2<=1000000)
def qW:DF:=λds M q _=>∃p,ds=[Υ p]/\q (.bl (aW p)) M
theorem DO:Γ ["pay"] ["pay"] (θ qb):=⟨rfl,rfl,rfl,by decide+kernel,rfl,by decide+kernel,by decide+kernel⟩
theorem Bf{f:Addr}{fd:FuncData}(F:cH K "fits_pay" "fits_pay" qb f fd)(E:Ev K mg w Cm):af P w K mg base (bX P w) 1 f fd ["pay"] (cn K qW):=by
 refine F.dF DO (λds M q x h=> ?_) (λaV A outer s H E' hr=>⟨_,(ι (Β (g7 (yj (Cg E.pZ (γ (Ι (jv 0) υ) η (hs:=aU))) (ig υ υ)) (k8 (yj (Ι (jv 0) υ) (rE E.i4)))))),λds M q x h=> ?_⟩)
 ·obtain ⟨p,rfl,_⟩:=h;rfl
 ·obtain ⟨p,rfl,h⟩:=h;refine ⟨⟨by decide,by decide,by decide⟩,λh1=> ?_,λh1=> ?_⟩
  ·have e:aW p=decide (p.2<=1000000):=by unfold aW;rw [show decide ((if p.1 < 0 then -p.1 else p.1)<=10 ^ 30)=true from h1];rfl
   rw [e] at h;exact h
  ·have e:aW p=false:=by unfold aW;rw [show decide ((if p.1 < 0 then -p.1 else p.1)<=10 ^ 30)=false from h1];rfl
   rw [e] at h;exact h
theorem o8{M:Ms}{d:Dt}{xs:List Dt}{ok:Ms->Prop}(h:kF M d=some (xs,ok)):ok M:=by
 cases d with
 | lst ds=>cases h;trivial
 | iV ns=>cases h;trivial
 | loc k=>
  have h:(match M[k]? with | some (.lst xs)=>some (xs,λM':Ms=>M'[k]? =some (.lst xs)) | _=>none)=some (xs,ok):=h;split at h
  ·rename_i ys hm;cases h;exact hm
  ·cases h
 | _=>cases h
theorem yF{M:Ms}{d:Dt}{xs:List Dt}{ok:Ms->Prop}(h:kF M d=some (xs,ok)):oB M d=some (xs,ok):=by
 cases d with
 | lst ds=>cases h;rfl
 | iV ns=>cases h;rfl
 | loc k=>exact h
 | _=>cases h
theorem dD{i:Nat}{ρ:En}{M:Ms}{d:Dt}{xs:List Dt}{ok:Ms->Prop}{q:List Dt->(Ms->Prop)->Ms->Prop}{x:DX}(hv:ρ[i]? =some (some d))(hl:kF M d=some (xs,ok))(h:q xs ok M):gy (zy i) ρ M q x:=by unfold gy zy;rw [hv];show (match oB M d with | some (xs,ok)=>q xs ok M | none=>False);rw [yF hl];exact h
theorem bg{n:Int}{k:Nat}(h:n.natAbs < 2 ^ k)(hk:k<=8000:=by decide):gJ n:=aap h (abS (by decide) hk)
def ax(t:Int)(p:Fr)(size:Int):Bool:=decide (0<=t)&&(decide (t < size)&&aW p)
def sT:DF:=λds M q _=>∃t p r size,ds=[.tup (.int t::Υ p::r), .int size]/\q (.bl (ax t p size)) M
theorem z5:Γ ["door","size"] ["door","size"] (θ nU):=⟨rfl,rfl,rfl,by decide+kernel,rfl,by decide+kernel,by decide+kernel⟩
theorem xE{f:Addr}{fd:FuncData}(F:cH K "fits_door" "fits_door" nU f fd)(E:Ev K mg w Cm){qr:Addr}{q5:FuncData}(fN:aj P w K mg base 1 "fits_pay" ["pay"] qW qr q5):af P w K mg base (bX P w) 2 f fd ["door","size"] (cn K sT):=by
 refine F.dF z5 (λds M q x h=> ?_) (λaV A outer s H E' hr=>⟨_,(ι (Β (g7 (yj υ (Ι (jv 0) υ)) (g7 (KC (Ι (jv 0) υ) (jv 1)) (k8 (aa fN hr ν (γ (Ι (jv 0) υ) η (hs:=aU)))))))),λds M q x h=> ?_⟩)
 ·obtain ⟨t,p,r,size,rfl,_⟩:=h;rfl
 ·obtain ⟨t,p,r,size,rfl,h⟩:=h;walk_at "vc";refine Ζ rfl aO ?_;refine ⟨λh1=> ?_,λh1=> ?_⟩
  ·refine Ζ rfl aO ⟨λh2=> ?_,λh2=> ?_⟩
   ·refine Ζ rfl (Η (j:=1) rfl) ⟨p,rfl, ?_⟩;have e:ax t p size=aW p:=by unfold ax;rw [h1,h2];rfl
    rw [<-e];exact h
   ·have e:ax t p size=false:=by unfold ax;rw [h1,h2];rfl
    rw [<-e];exact h
  ·have e:ax t p size=false:=by unfold ax;rw [h1];rfl
   rw [<-e];exact h
abbrev bQ:=Int×Fr×List Fr
def ef(d:bQ):Dt:= .tup (.int d.1::Υ d.2.1::d.2.2.map Υ)
def Ψ(ds:List bQ)(size:Int):Bool:=decide (1<=ds.length)&&decide (ds.length<=6)&&ds.all λd=>ax d.1 d.2.1 size
def pM:DF:=λas M q _=>∃d size ds ok,as=[d, .int size]/\kF M d=some (ds.map ef,ok)/\ds.length<=100/\q (.bl (Ψ ds size)) M
theorem xI:Γ ["doors","size"] ["doors","size"] (θ fR):=⟨rfl,rfl,rfl,by decide+kernel,rfl,by decide+kernel,by decide+kernel⟩
theorem vD{f:Addr}{fd:FuncData}(F:cH K "fits_doors" "fits_doors" fR f fd)(E:Ev K mg w Cm){CY:Addr}{CQ:FuncData}(kO:aj P w K mg base 2 "fits_door" ["door","size"] sT CY CQ):af P w K mg base (bX P w) 3 f fd ["doors","size"] (cn K pM):=by
 refine F.dF xI (λds M q x h=> ?_) (λaV A outer s H E' hr=>⟨_,(ζ (aB (JW.jt (ot (qY (bK E.aZ (γ (jv 0) η (hs:=μ))) υ) (mZ (BC (bK E.aZ (γ (jv 0) η (hs:=μ))) (rE E.oF))))) (ι (Β CZ)) Τ)
   (ι (Β (PB E.Cj (γ (fo (ys:=["size"]) (caps:=[1]) ⟨rfl,by decide+kernel,by decide+kernel,rfl,(by show∀p:Str×NameKind,p∈_->p.2=NameKind.free->List.lookup p.1 (θ fR).names=some .cell;decide+kernel),by decide+kernel,(by show∀q:Str×Nat,q∈_->(["doors","size"]:List Str)[q.2]? =some q.1/\List.lookup q.1 (θ fR).names=some .cell/\_;decide+kernel),rfl⟩ (bA (jv 0)) (λC s H fp=>(aa kO hr (i6 (P:=P) (w:=w)) (γ (jv 0) (γ (jv 1) η (hs:=μ)) (hs:=μ))))) η))))),λds M q x h=> ?_⟩)
 ·obtain ⟨d,size,ds,ok,rfl,_⟩:=h;rfl
 ·obtain ⟨d,size,ds,ok,rfl,hl,hz,h⟩:=h;have hs:=mO hl;walk_at "vc";refine ae hs ⟨λh1=> ?_,λh1=> ?_⟩
  ·refine ⟨λ_=> ?_,λz=>(nomatch z)⟩;have e:Ψ ds size=false:=by
    have:(ds.length:Int) < 1:=by simpa using h1
    unfold Ψ;rw [decide_eq_false (by omega)];rfl
   rw [<-e];exact h
  ·have h1:¬(ds.length:Int) < 1:=by simpa using h1
   refine ae hs ⟨λh2=> ?_,λh2=> ?_⟩
   ·have e:Ψ ds size=false:=by
     have:6 < (ds.length:Int):=by simpa using h2
     unfold Ψ;rw [decide_eq_false (p:=ds.length<=6) (by omega),Bool.and_false];rfl
    rw [<-e];exact h
   ·have h2:¬6 < (ds.length:Int):=by simpa using h2
    refine dD rfl hl ⟨by rw [aae];exact aaw hz (by decide), ?_⟩;refine fH (f:=λd=> .bl (match d with | .tup (.int t:: .tup [.int a, .int b]::_)=>ax t (a,b) size | _=>false)) (o8 hl) (λx hx q hq=> ?_) ?_
    ·obtain ⟨y,_,rfl⟩:=aak.mp hx;exact ⟨y.1,y.2.1,y.2.2.map Υ,size,rfl,hq⟩
    ·refine ⟨ds.map λd=>ax d.1 d.2.1 size, ?_, ?_⟩
     ·rw [aaE,aaM,aaE];rfl
     ·have e:Ψ ds size=(ds.map λd=>ax d.1 d.2.1 size).all id:=by unfold Ψ;rw [decide_eq_true (show 1<=ds.length by omega),decide_eq_true (show ds.length<=6 by omega),List.all_map];rfl
      rw [<-e];exact h
def bj(cs:List Fr):Int:=cs.foldl (λb c=>b * c.2 / g b c.2) 1
theorem mi{b c:Int}(hb:0 < b)(hc:0 < c):0 < b * c / g b c/\b * c / g b c<=b * c/\0 < g b c/\g b c<=c:=by
 have hg:0 < g b c:=xR (by omega);have hbc:0 < b * c:=aaJ hb hc;have hd:g b c∣c:=Int.gcd_dvd_right ..;have hle:g b c<=c:=abP hc hd;have h1:c<=b * c:=by have:=aaC (show 1<=b by omega) (show 0<=c by omega);simpa using this
 refine ⟨Int.ediv_pos_of_pos_of_dvd hbc (by omega) (Int.dvd_mul_of_dvd_right hd), ?_,hg,hle⟩;exact abW _ (by omega)
def MS(cs:List Fr):Prop:=cs.length<=12/\∀c∈cs,0 < c.2/\c.2 < 2 ^ 200/\c.1.natAbs < 2 ^ 200
def OkB(cs:List Fr):Prop:=cs.length<=13/\∀c∈cs,0 < c.2/\c.2 < 2 ^ 200
theorem nB:∀(cs:List Fr) (b:Int) (k:Nat),0 < b->b<=2 ^ (200 * k)->(∀c∈cs,0 < c.2/\c.2 < 2 ^ 200)->0 < cs.foldl (λb c=>b * c.2 / g b c.2) b/\cs.foldl (λb c=>b * c.2 / g b c.2) b<=2 ^ (200 * (k+cs.length))
 | [],b,k,h0,h1,_=>⟨h0,h1⟩
 | c::cs,b,k,h0,h1,hc=>by
  obtain ⟨c0,c1⟩:=hc c aaf;obtain ⟨s0,s1,_⟩:=mi h0 c0;have hlt:b * c.2 / g b c.2<=2 ^ (200 * (k+1)):=by refine abr s1 ?_;rw [show 200 * (k+1)=200 * k+200 by omega,Int.pow_add];exact abn h1 (aah c1) (aah c0) (aah (Int.pow_pos (by decide)))
  have:=nB cs _ (k+1) s0 hlt λd hd=>hc d (aad _ hd);rw [abp,aau,show k+(cs.length+1)=k+1+cs.length by omega];exact this
theorem Q_{n:Int}{k:Nat}(h0:0<=n)(h:n<=2 ^ k)(hk:k < 8000):gJ n:=by
 refine bg (k:=k+1) ?_ hk;have:(n.natAbs:Int) < ((2 ^ (k+1):Nat):Int):=by rw [aa4 h0,Int.natCast_pow,abD];have:(0:Int) < 2 ^ k:=Int.pow_pos (by decide);show n < 2 ^ k * 2;omega
 exact abx.mp this
theorem eW:∀(cs:List Fr) (b:Int),0 < b->(∀c∈cs,0 < c.2)->0 < cs.foldl (λb c=>b * c.2 / g b c.2) b
 | [],_,h0,_=>h0
 | c::cs,b,h0,hc=>eW cs _ (mi h0 (hc c aaf)).1 λd hd=>hc d (aad _ hd)
theorem oM{n:Int}{k:Nat}(h0:0<=n)(h:n < 2 ^ k)(hk:k<=8000):gJ n:=by
 refine bg (k:=k) ?_ hk;have:(n.natAbs:Int) < ((2 ^ k:Nat):Int):=by rw [aa4 h0,Int.natCast_pow];exact h
 exact abx.mp this
def hV:DF:=λds M q _=>∃cs:List Fr,ds=[.lst (cs.map Υ)]/\OkB cs/\q (.int (bj cs)) M
theorem dJ:Γ ["chances","bottom","chance"] ["chances"] (θ hX):=⟨rfl,rfl,rfl,by decide+kernel,rfl,by decide+kernel,by decide+kernel⟩
theorem oU{f:Addr}{fd:FuncData}(F:cH K "common_bottom" "common_bottom" hX f fd)(E:Ev K mg w Cm){gF:Addr}{fT:FuncData}(bq:aj P w K mg base 1 "common_divisor" ["one","other"] Hk gF fT):af P w K mg base (bX P w) 2 f fd ["chances"] (cn K hV):=by
 refine F.dF dJ (λds M q x h=> ?_) (λaV A outer s H E' hr=>⟨_,(ζ (ω (i:=1) dJ.nd rfl (Or.inl rfl) υ)
   (ζ (cT (bA (jv 0)) (ag (i:=2) dJ.nd rfl (Or.inl rfl)) aP (ι (ω (i:=1) dJ.nd rfl (Or.inl rfl) (je (aw (jv 1) (Ι (jv 2) υ)) (aa bq hr ν (γ (jv 1) (γ (Ι (jv 2) υ) η (hs:=aU)) (hs:=μ)))))))
   (ι (Β (jv 1))))),λds M q x h=> ?_⟩)
 ·obtain ⟨cs,rfl,_⟩:=h;rfl
 ·obtain ⟨cs,rfl,⟨hz,hc⟩,h⟩:=h;walk_at "vc";refine dD (i:=0) rfl rfl ?_;refine bJ (λxs ρ M'=>M'=M/\∃fG rest r,cs=fG++rest/\xs=rest.map Υ/\ρ=[some (.lst (cs.map Υ)),some (.int (bj fG)),r]) (λ_ _ _ _=>trivial) (λx xs ρ M' hj fe=> ?_) (λρ M' hj=> ?_) _ _ _ ⟨rfl,[],cs,none,rfl,rfl,rfl⟩
  ·obtain ⟨rfl,fG,rest,r,e,ex,rfl⟩:=hj;cases rest with
   | nil=>cases ex
   | cons c rest=>
    cases ex;have hd:∀d∈fG,0 < d.2/\d.2 < 2 ^ 200:=λd hd=>by obtain ⟨a,b⟩:=hc d (by rw [e];exact List.mem_append_left _ hd);exact ⟨a,b⟩
    obtain ⟨c0,c1⟩:=hc c (by rw [e];exact aan _ aaf);obtain ⟨b0,b1⟩:=nB fG 1 0 (by decide) (by decide) hd;have hl:fG.length<=13:=by have:=congrArg List.length e;rw [aai] at this;omega
    obtain ⟨s0,s1,g0,g1⟩:=mi b0 c0;refine ⟨⟨Q_ (aah b0) b1 (by omega),oM (aah c0) c1 (by decide)⟩,⟨g0,oM (aah g0) (aaB g1 c1) (by decide)⟩, ?_⟩;refine fe _ _ ⟨rfl,fG++[c],rest,some (Υ c),by rw [e];simp,rfl, ?_⟩;have e2:bj (fG++[c])=bj fG * c.2 / g (bj fG) c.2:=by unfold bj;rw [List.foldl_append];rfl
    rw [e2];rfl
  ·obtain ⟨rfl,fG,rest,r,e,ex,rfl⟩:=hj;cases rest with
   | nil=>rw [aaZ] at e;subst e;exact h
   | cons c rest=>cases ex
def Ω(cs:List Fr):Bool:= !(cs.any λc=>decide (c.1<=0))&&(decide ((cs.map λc=>c.1 * (bj cs / c.2)).sum=bj cs)&&decide (bj cs<=1000000))
def mN:DF:=λds M q _=>∃cs:List Fr,ds=[.lst (cs.map Υ)]/\MS cs/\q (.bl (Ω cs)) M
theorem gU:Γ ["chances","bottom","whole"] ["chances"] (θ bV):=⟨rfl,rfl,rfl,by decide+kernel,rfl,by decide+kernel,by decide+kernel⟩
theorem qI{f:Addr}{fd:FuncData}(F:cH K "fits_chances" "fits_chances" bV f fd)(E:Ev K mg w Cm){g_:Addr}{hZ:FuncData}(bI:aj P w K mg base 2 "common_bottom" ["chances"] hV g_ hZ):af P w K mg base (bX P w) 3 f fd ["chances"] (cn K mN):=by
 refine F.dF gU (λds M q x h=> ?_) (λaV A outer s H E' hr=>⟨_,(ζ (aB (bW (P8 E.Cu (γ (fo (ys:=[]) (caps:=[]) ⟨rfl,by decide+kernel,by decide+kernel,rfl,(by show∀p:Str×NameKind,p∈_->p.2=NameKind.free->List.lookup p.1 (θ bV).names=some .cell;decide+kernel),by decide+kernel,(by show∀q:Str×Nat,q∈_->(["chances","bottom","whole"]:List Str)[q.2]? =some q.1/\List.lookup q.1 (θ bV).names=some .cell/\_;decide+kernel),rfl⟩ (bA (jv 0)) (λC s H fp=>(yj (Ι (jv 0) υ) υ))) η))) (ι (Β CZ)) Τ)
   (ζ (ω (i:=1) gU.nd rfl (Or.inr rfl) (aa bI hr ν (γ (jv 0) η (hs:=μ))))
   (ζ (ω (i:=2) gU.nd rfl (Or.inl rfl) (LL E.yf (γ (fo (ys:=["bottom"]) (caps:=[1]) ⟨rfl,by decide+kernel,by decide+kernel,rfl,(by show∀p:Str×NameKind,p∈_->p.2=NameKind.free->List.lookup p.1 (θ bV).names=some .cell;decide+kernel),by decide+kernel,(by show∀q:Str×Nat,q∈_->(["chances","bottom","whole"]:List Str)[q.2]? =some q.1/\List.lookup q.1 (θ bV).names=some .cell/\_;decide+kernel),rfl⟩ (bA (jv 0)) (λC s H fp=>(aw (Ι (jv 0) υ) (je (jv 1) (Ι (jv 0) υ))))) η)))
   (ι (Β (g7 (Jz hr (jv 2) (jv 1)) (k8 (yj (jv 1) (rE E.i4))))))))),λds M q x h=> ?_⟩)
 ·obtain ⟨cs,rfl,_⟩:=h;rfl
 ·obtain ⟨cs,rfl,Ja,h⟩:=h;obtain ⟨hz,hc⟩:=id Ja;have Xm:(cs.map Υ).length<=sizeLine:=by rw [aae];exact aaw hz (by decide)
  obtain ⟨b0,b1⟩:=nB cs 1 0 (by decide) (by decide) λc h=>⟨(hc c h).1,(hc c h).2.1⟩;walk_at "vc";refine dD (i:=0) rfl rfl ⟨Xm, ?_⟩;refine fH (f:=λd=> .bl (match d with | .tup [.int a, .int b]=>decide (a<=0) | _=>false)) trivial (λx hx q hq=> ?_) ?_
  ·obtain ⟨y,_,rfl⟩:=aak.mp hx;exact hq
  ·refine ⟨cs.map λc=>decide (c.1<=0),by rw [aaE,aaM,aaE];rfl,λ_ z=>(nomatch z),λ_ z=>(nomatch z), ?_⟩;have ea:(cs.map λc=>decide (c.1<=0)).any id=cs.any λc=>decide (c.1<=0):=by rw [List.any_map];rfl
   rw [ea];refine ⟨λh1=> ?_,λh1=> ?_⟩
   ·have e:Ω cs=false:=by unfold Ω;rw [h1];rfl
    rw [<-e];exact h
   ·refine ⟨cs,rfl,⟨by omega,λc h=>⟨(hc c h).1,(hc c h).2.1⟩⟩, ?_⟩;walk_at "vc";refine dD (i:=0) rfl rfl ⟨Xm, ?_⟩;refine fH (f:=λd=> .int (match d with | .tup [.int a, .int b]=>a * (bj cs / b) | _=>0)) trivial (λx hx q hq=> ?_) ?_
    ·obtain ⟨y,hy,rfl⟩:=aak.mp hx;obtain ⟨y0,y1,y2⟩:=hc y hy;refine ⟨⟨y0,oM (aah y0) y1 (by decide)⟩,⟨bg y2, ?_⟩,hq⟩;refine Q_ (k:=200 * (0+cs.length)) (Int.ediv_nonneg (aah b0) (aah y0)) (abr (abW _ (aah b0)) b1) (by omega)
    ·refine ⟨cs.map λc=>c.1 * (bj cs / c.2),by rw [aaE,aaM,aaE];rfl,⟨_,_,rfl⟩, ?_⟩;refine ⟨λh2=> ?_,λh2=> ?_⟩
     ·have e:Ω cs=decide (bj cs<=1000000):=by unfold Ω;rw [h1,h2];rfl
      rw [e] at h;exact h
     ·have e:Ω cs=false:=by unfold Ω;rw [h1,h2];rfl
      rw [<-e];exact h
inductive Rw where
 | fin (p:Fr)
 | τ (k:Str) (ds:List bQ)
def χ(d:bQ):Fr:=d.2.2.headD (0,1)
def fj:Rw->Prop
 | .fin p=>0 < p.2
 | .τ k ds=>k≠"end"/\ds.length<=12/\(k="chance"->(∀d∈ds,d.2.2=[χ d])/\MS (ds.map χ))/\∀d∈ds,d.2.2.length<=1/\0 < d.2.1.2
def jJ(M:Ms)(d:Dt):Rw->Prop
 | .fin p=>d= .tup [.str "end",Υ p]
 | .τ k ds=>∃e ok,d= .tup [.str k,e]/\kF M e=some (ds.map ef,ok)
def aN:Rw->Dt
 | .fin p=> .tup [.str "end",Υ p]
 | .τ k ds=> .tup [.str k, .lst (ds.map ef)]
theorem KH(M:Ms)(r:Rw):jJ M (aN r) r:=by
 cases r with
 | fin p=>rfl
 | τ k ds=>exact ⟨_,_,rfl,rfl⟩
theorem lB{n:Nat}(p:Fr):(Υ p).under n:=⟨trivial,trivial,trivial⟩
theorem Ce{n:Nat}:∀(ps:List Fr),Dt.bf n (ps.map Υ)
 | []=>trivial
 | p::ps=>⟨lB p,Ce ps⟩
theorem N1{n:Nat}(d:bQ):(ef d).under n:=⟨trivial,lB _,Ce _⟩
theorem gP{n:Nat}:∀(ds:List bQ),Dt.bf n (ds.map ef)
 | []=>trivial
 | d::ds=>⟨N1 d,gP ds⟩
theorem Jo{n:Nat}(r:Rw):(aN r).under n:=by
 cases r with
 | fin p=>exact ⟨trivial,lB p,trivial⟩
 | τ k ds=>exact ⟨trivial,gP ds,trivial⟩
theorem qh{n:Nat}:∀(rs:List Rw),Dt.bf n (rs.map aN)
 | []=>trivial
 | r::rs=>⟨Jo r,qh rs⟩
def Δ(k:Str):Bool:=k=="one" || k=="other"
def eQ(r:Rw)(size:Int):Bool:=match r with
 | .fin p=>aW p
 | .τ k ds=>if Δ k then Ψ ds size else if k="chance" then Ψ ds size&&Ω (ds.map χ) else false
theorem Hz{i:Nat}{j:Int}{ρ:En}{M:Ms}{d:Dt}{ds xs:List Dt}{ok:Ms->Prop}{q:List Dt->(Ms->Prop)->Ms->Prop}{x:DX}(hv:ρ[i]? =some (some (.tup ds)))(hj:lY ds j=some d)(hl:kF M d=some (xs,ok))(h:q xs ok M):gy (kI d7 (zy i) (dC (.int j))) ρ M q x:=by unfold gy kI zy;rw [hv];show d7 (.tup ds) (.int j) M (λd M1=>match oB M1 d with | some (xs,ok)=>q xs ok M1 | none=>False);refine Ζ rfl hj ?_;show (match oB M d with | some (xs,ok)=>q xs ok M | none=>False);rw [yF hl];exact h
theorem qg{k:Str}:Nd (.str k) [.str "one", .str "other"]=Δ k:=by show ((("one":Str)==k) || ((("other":Str)==k) || false))=(k=="one" || k=="other");rw [Bool.or_false,BEq.comm (a:=("one":Str)),BEq.comm (a:=("other":Str))]
def yn:DF:=λas M q _=>∃d r size,as=[d, .int size]/\jJ M d r/\fj r/\q (.bl (eQ r size)) M
theorem s_:Γ ["row","size","kind"] ["row","size"] (θ jH):=⟨rfl,rfl,rfl,by decide+kernel,rfl,by decide+kernel,by decide+kernel⟩
theorem zV {f:Addr} {fd:FuncData} (F:cH K "fits_row" "fits_row" jH f fd) (E:Ev K mg w Cm) {qr:Addr} {q5:FuncData} (fN:aj P w K mg base 1 "fits_pay" ["pay"] qW qr q5) {Bi:Addr} {AL:FuncData} (gS:aj P w K mg base 3 "fits_doors" ["doors","size"] pM Bi AL) {uY:Addr} {wB:FuncData} (hI:aj P w K mg base 3 "fits_chances" ["chances"] mN uY wB):af P w K mg base (bX P w) 4 f fd ["row","size"] (cn K yn):=by
 refine F.dF s_ (λds M q x h=> ?_) (λaV A outer s H E' hr=>⟨_,(ζ (ω (i:=2) s_.nd rfl (Or.inl rfl) (Ι (jv 0) υ))
   (ζ (aB (d_ hr (jv 2) jo) (ι (Β (aa fN hr ν (γ (Ι (jv 0) υ) η (hs:=aU))))) Τ)
   (ζ (aB (IC (jv 2) (Gj E.vU)) (ι (Β (aa gS hr ν (γ (Ι (jv 0) υ) (γ (jv 1) η (hs:=μ)) (hs:=aU))))) Τ)
   (ζ (aB (d_ hr (jv 2) jo) (ι (Β (g7 (aa gS hr ν (γ (Ι (jv 0) υ) (γ (jv 1) η (hs:=μ)) (hs:=aU))) (k8 (aa hI hr ν (γ (fo (ys:=[]) (caps:=[]) ⟨rfl,by decide+kernel,by decide+kernel,rfl,(by show∀p:Str×NameKind,p∈_->p.2=NameKind.free->List.lookup p.1 (θ jH).names=some .cell;decide+kernel),by decide+kernel,(by show∀q:Str×Nat,q∈_->(["row","size","kind"]:List Str)[q.2]? =some q.1/\List.lookup q.1 (θ jH).names=some .cell/\_;decide+kernel),rfl⟩ (bA (Ι (jv 0) υ)) (λC s H fp=>(Ι (jv 0) υ))) η)))))) Τ)
   (ι (Β CZ)))))),λds M q x h=> ?_⟩)
 ·obtain ⟨d,r,size,rfl,_⟩:=h;rfl
 ·obtain ⟨d,r,size,rfl,ra,ro,h⟩:=h;cases r with
  | fin p=>
   have ra:d= .tup [.str "end",Υ p]:=ra;subst ra;exact ⟨λ_=>⟨p,rfl,h⟩,λz=>(nomatch z)⟩
  | τ k ds=>
   obtain ⟨e,ok,rfl,hl⟩:=ra;obtain ⟨hk,hz,za,_⟩:=ro;refine ⟨λz=>absurd (of_decide_eq_true z) hk,λ_=> ?_⟩;refine ⟨.str k,[.str "one", .str "other"],[.str "one", .str "other"],rfl,rfl,rfl, ?_⟩;rw [qg];refine ⟨λh1=> ?_,λh1=> ?_⟩
   ·refine ⟨e,size,ds,ok,rfl,hl,by omega, ?_⟩;have e1:eQ (.τ k ds) size=Ψ ds size:=by show (if Δ k then _ else _)=_;rw [if_pos h1]
    rw [<-e1];exact h
   ·have e1:eQ (.τ k ds) size=if k="chance" then Ψ ds size&&Ω (ds.map χ) else false:=by show (if Δ k then _ else _)=_;rw [if_neg (by rw [h1];decide)]
    rw [e1] at h;refine ⟨λh2=> ?_,λh2=> ?_⟩
    ·have h2:k="chance":=of_decide_eq_true h2;rw [if_pos h2] at h;obtain ⟨Kj,Ja⟩:=za h2;refine ⟨e,size,ds,ok,rfl,hl,by omega,λh3=> ?_,λh3=> ?_⟩
     ·rw [h3,Bool.true_and] at h;show gy _ _ _ _ _;refine Hz (i:=0) (j:=1) (ds:=[.str k,e]) rfl (Η (j:=1) rfl) hl ⟨by rw [aae];exact aaw hz (by decide), ?_⟩;refine fH (f:=λd=>match d with | .tup [_,_,c]=>c | _=> .br) (o8 hl) (λx hx q hq=> ?_) ?_
      ·obtain ⟨y,hy,rfl⟩:=aak.mp hx;have ey:ef y= .tup [.int y.1,Υ y.2.1,Υ (χ y)]:=by unfold ef;rw [Kj y hy];rfl
       rw [ey] at hq⊢;exact hq
      ·refine ⟨ds.map χ, ?_,Ja,h⟩;rw [aaM,aaE,aaE];have:∀y∈ds,((λd=>match d with | Dt.tup [_,_,c]=>c | _=>Dt.br) ∘ ef) y=(Υ ∘ χ) y:=λy hy=>by
        have ey:ef y= .tup [.int y.1,Υ y.2.1,Υ (χ y)]:=by unfold ef;rw [Kj y hy];rfl
        show (match ef y with | Dt.tup [_,_,c]=>c | _=>Dt.br)=Υ (χ y);rw [ey]
       rw [aaW this]
     ·rw [h3,Bool.false_and] at h;exact h
    ·have h2:k≠"chance":=of_decide_eq_false h2;rw [if_neg h2] at h;exact h
def qV:DF:=λas M q _=>∃d r,as=[d]/\jJ M d r/\fj r/\match r with
 | .fin p=>q (.tup [.str "end",Υ p]) M
 | .τ k ds=>q (.tup [.str k, .loc M.length]) (M++[.lst (ds.map ef)])
theorem xm:Γ ["row"] ["row"] (θ lL):=⟨rfl,rfl,rfl,by decide+kernel,rfl,by decide+kernel,by decide+kernel⟩
theorem wD{f:Addr}{fd:FuncData}(F:cH K "copied_row" "copied_row" lL f fd)(E:Ev K mg w Cm):af P w K mg base (bX P w) 1 f fd ["row"] (cn K qV):=by
 refine F.dF xm (λds M q x h=> ?_) (λaV A outer s H E' hr=>⟨_,(ζ (aB (d_ hr (Ι (jv 0) υ) jo) (ι (Β (gh (γ (Ι (jv 0) υ) (γ (Ι (jv 0) υ) η (hs:=aU)) (hs:=aU))))) Τ)
   (ι (Β (gh (γ (Ι (jv 0) υ) (γ (zv E.lU (γ (Ι (jv 0) υ) η (hs:=aU))) η (hs:=aA)) (hs:=aU)))))),λds M q x h=> ?_⟩)
 ·obtain ⟨d,r,rfl,_⟩:=h;rfl
 ·obtain ⟨d,r,rfl,ra,ro,h⟩:=h;cases r with
  | fin p=>
   have ra:d= .tup [.str "end",Υ p]:=ra;subst ra;exact ⟨λ_=>⟨by show 2<=sizeLine;decide,h⟩,λz=>(nomatch z)⟩
  | τ k ds=>
   obtain ⟨e,ok,rfl,hl⟩:=ra;refine ⟨λz=>absurd (of_decide_eq_true z) ro.1,λ_=> ?_⟩;show (match kC M e with | some xs=>_ | none=>False);rw [mO hl];exact ⟨by show 2<=sizeLine;decide,h⟩
def aH(p:Fr):Bool:=decide (0<=p.1)&&(decide (p.1 < p.2)&&decide (p.2<=1000))
def qC:DF:=λas M q _=>∃p,as=[Υ p]/\q (.bl (aH p)) M
theorem x':Γ ["share"] ["share"] (θ k_):=⟨rfl,rfl,rfl,by decide+kernel,rfl,by decide+kernel,by decide+kernel⟩
theorem ve{f:Addr}{fd:FuncData}(F:cH K "fits_share" "fits_share" k_ f fd)(E:Ev K mg w Cm):af P w K mg base (bX P w) 1 f fd ["share"] (cn K qC):=by
 refine F.dF x' (λds M q x h=> ?_) (λaV A outer s H E' hr=>⟨_,(ι (Β (g7 (yj υ (Ι (jv 0) υ)) (g7 (KC (Ι (jv 0) υ) (Ι (jv 0) υ)) (k8 (yj (Ι (jv 0) υ) (rE E.fY))))))),λds M q x h=> ?_⟩)
 ·obtain ⟨p,rfl,_⟩:=h;rfl
 ·obtain ⟨p,rfl,h⟩:=h;unfold aH at h;refine ⟨λh1=>⟨λh2=> ?_,λh2=> ?_⟩,λh1=> ?_⟩
  ·rw [show decide (0<=p.1)=true from h1,show decide (p.1 < p.2)=true from h2] at h;exact h
  ·rw [show decide (0<=p.1)=true from h1,show decide (p.1 < p.2)=false from h2] at h;exact h
  ·rw [show decide (0<=p.1)=false from h1] at h;exact h
theorem Lh{b c S:Int}(hb:b∣S)(hc:c∣S)(Ji:0 < b)(ZL:0 < c):b * c / g b c∣S/\b∣b * c / g b c/\c∣b * c / g b c:=by
 have e:b * c / g b c=(Int.lcm b c:Nat):=by
  have h:=Int.gcd_mul_lcm b c;have hg:0 < g b c:=xR (by omega);have h2:((Int.gcd b c:Nat):Int) * ((Int.lcm b c:Nat):Int)=b * c:=by rw [<-Int.natCast_mul,h,Int.natCast_mul,aa4 (aah Ji),aa4 (aah ZL)]
  rw [<-h2];exact Int.mul_ediv_cancel_left _ (by unfold g at hg;omega)
 rw [e];exact ⟨Int.coe_lcm_dvd hb hc,Int.dvd_lcm_left ..,Int.dvd_lcm_right ..⟩
theorem ir:∀(cs:List Fr) (b S:Int),0 < b->b∣S->(∀c∈cs,0 < c.2/\c.2∣S)->cs.foldl (λb c=>b * c.2 / g b c.2) b∣S/\b∣cs.foldl (λb c=>b * c.2 / g b c.2) b/\∀c∈cs,c.2∣cs.foldl (λb c=>b * c.2 / g b c.2) b
 | [],b,S,_,h,_=>⟨h,Int.dvd_refl b,λc hc=>nomatch hc⟩
 | c::cs,b,S,h0,h,hc=>by
  obtain ⟨c0,cS⟩:=hc c aaf;obtain ⟨d1,d2,d3⟩:=Lh h cS h0 c0;obtain ⟨i1,i2,i3⟩:=ir cs _ S (mi h0 c0).1 d1 λx hx=>hc x (aad _ hx);rw [abp];refine ⟨i1,Int.dvd_trans d2 i2,λx hx=> ?_⟩;rcases aay.mp hx with rfl | hx
  ·exact Int.dvd_trans d3 i2
  ·exact i3 x hx
theorem oC(m:Int)(f:Int->Int):∀(ws:List Int),(ws.map λw=>m * f w).sum=m * (ws.map f).sum
 | []=>by simp
 | w::ws=>by simp only [List.map_cons,List.sum_cons];rw [oC m f ws,Int.mul_add]
theorem yP{t b:Int}(h:0 < b):(ah t b).2∣b:=by obtain ⟨p,q,e,_,_,_,eb⟩:=fK (t:=t) (show b≠0 by omega);rw [e];exact ⟨dv t b,by show b=q * dv t b;rw [aaQ];exact eb⟩
theorem yJ{t b:Int}(ht:0 < t)(h:0 < b):0 < (ah t b).1:=by have hc:=bU (t:=t) (show b≠0 by omega);have hp:=b7 (t:=t) (show b≠0 by omega);have h1:0 < t * (ah t b).2:=aaJ ht hp;rw [hc] at h1;exact Int.pos_of_mul_pos_right h1 h |> λz=>z
theorem AG{ws:List Int}{S:Int}(hS:ws.sum=S)(hw:∀w∈ws,0 < w)(hn:ws≠[])(hS1:S<=1000000)(hz:ws.length<=12):Ω (ws.map λw=>ah w S)=true/\MS (ws.map λw=>ah w S):=by
 have pos:∀{l:List Int},(∀w∈l,0 < w)->0<=l.sum/\(l≠[]->0 < l.sum)/\∀w∈l,w<=l.sum:=by
  intro l
  induction l with
  | nil=>exact λ_=>⟨by simp,λz=>absurd rfl z,λw hw=>nomatch hw⟩
  | cons a l ih=>
   intro h;obtain ⟨i1,i2,i3⟩:=ih λw hw=>h w (aad _ hw);have:=h a aaf;rw [List.sum_cons];refine ⟨by omega,λ_=>by omega,λw hw=> ?_⟩;rcases aay.mp hw with rfl | hw
   ·omega
   ·have:=i3 w hw;omega
 obtain ⟨_,p2,p3⟩:=pos hw;have S0:0 < S:=by rw [<-hS];exact p2 hn
 have O0:S≠0:=by omega
 have hd:∀c∈ws.map (λw=>ah w S),0 < c.2/\c.2∣S:=λc hc=>by obtain ⟨w,_,rfl⟩:=aak.mp hc;exact ⟨b7 O0,yP S0⟩
 obtain ⟨⟨m,hm⟩,_,hB⟩:=ir (ws.map λw=>ah w S) 1 S (by decide) (Int.one_dvd _) hd;have B0:0 < bj (ws.map λw=>ah w S):=by refine (eW (ws.map λw=>ah w S) 1 (by decide) λc hc=>(hd c hc).1)
 generalize Vc:bj (ws.map λw=>ah w S)=B at *
 have hm:S=B * m:=by rw [<-Vc];exact hm
 have m0:0 < m:=by
  rcases Int.lt_trichotomy m 0 with h | h | h
  ·have:=abH B0 h;omega
  ·rw [h,Int.mul_zero] at hm;omega
  ·exact h
 have key:((ws.map λw=>ah w S).map λc=>c.1 * (B / c.2)).sum=B:=by
  have e1:∀w∈ws,m * ((ah w S).1 * (B / (ah w S).2))=w:=λw hw=>by
   have hb:(ah w S).2∣B:=by rw [<-Vc];exact hB _ (aak.mpr ⟨w,hw,rfl⟩)
   obtain ⟨k,hk⟩:=hb;have q0:=b7 (t:=w) O0;have e2:B / (ah w S).2=k:=by rw [hk];exact abg _ (by omega)
   have hc:=bU (t:=w) O0;rw [e2];have hS':S=(ah w S).2 * k * m:=by rw [<-hk];exact hm
   generalize (ah w S).1=x at *
   generalize (ah w S).2=y at *
   have e4:S * x=y * (m * (x * k)):=by rw [hS'];simp only [Int.mul_assoc,Int.mul_comm,Int.mul_left_comm]
   have e3:y * (m * (x * k))=y * w:=by rw [<-e4,<-hc,aaQ]
   exact aaH (by omega) e3
  have e5:m * ((ws.map λw=>ah w S).map λc=>c.1 * (B / c.2)).sum=m * B:=by rw [aaE];show m * (ws.map λw=>(ah w S).1 * (B / (ah w S).2)).sum=m * B;rw [<-oC,aaW e1,List.map_id',hS,hm,aaQ]
  exact aaH (by omega) e5
 refine ⟨?_,⟨by rw [aae];exact hz,λc hc=> ?_⟩⟩
 ·unfold Ω;rw [Vc,key];have ha:((ws.map λw=>ah w S).any λc=>decide (c.1<=0))=false:=by rw [List.any_eq_false];intro c hc;obtain ⟨w,S',rfl⟩:=aak.mp hc;have:=yJ (hw w S') S0;simpa using this
  have hle:B<=S:=by have:=aav (show 1<=m by omega) (aah B0);rw [Int.mul_one,<-hm] at this;exact this
  rw [ha,decide_eq_true rfl,decide_eq_true (show B<=1000000 by omega)];rfl
 ·obtain ⟨w,S',rfl⟩:=aak.mp hc;have q0:=b7 (t:=w) O0;have l1:=pW (t:=w) O0;have l2:=jB (t:=w) O0;have:=p3 w S';have w0:=hw w S';have big:(1000000:Int) < 2 ^ 200:=by decide
  have aaV:1000000 < 2 ^ 200:=by decide
  exact ⟨q0,by omega,by omega⟩
theorem c_{α:Type}{te:DE}{cs:En}{ok:Ms->Prop}{F:Dt->α->Prop}{f:α->Dt}{M:Ms}{k:List Dt->Ms->Prop}(ho:ok M)(ht:∀x a,F x a->∀q:DQ,q (f a) M->te (some x::cs) M q mQ):∀{xs:List Dt} {as:List α} {Ε:List Dt},Paired F xs as->k (Ε++as.map f) M->sO te cs ok xs Ε M k
 | _,_,Ε, .nil,h=>⟨ho,by simpa using h⟩
 | _,_,Ε, .cons r t,h=>⟨ho,ht _ _ r _ (c_ ho ht t (by simpa using h))⟩
theorem ye{M:Ms}{k:Nat}{C C':Addr}{ns ns':List Str}{xs xs':List Dt}{e:Dt}{ys:List Dt}{ok:Ms->Prop}(hk:M[k]? =some (.ins C ns xs))(h:kF M e=some (ys,ok)):kF (M.set k (.ins C' ns' xs')) e=some (ys,ok):=by
 cases e with
 | lst ds=>exact h
 | iV ns=>exact h
 | loc j=>
  have h:(match M[j]? with | some (.lst xs)=>some (xs,λM':Ms=>M'[j]? =some (.lst xs)) | _=>none)=some (ys,ok):=h;have ne:k≠j:=λz=>by subst z;rw [hk] at h;cases h
  show (match (M.set k (.ins C' ns' xs'))[j]? with | some (.lst xs)=>some (xs,λM':Ms=>M'[j]? =some (.lst xs)) | _=>none)=some (ys,ok);rw [abv ne];exact h
 | _=>cases h
theorem D'{M:Ms}{k:Nat}{C C':Addr}{ns ns':List Str}{xs xs':List Dt}{d:Dt}{r:Rw}(hk:M[k]? =some (.ins C ns xs))(h:jJ M d r):jJ (M.set k (.ins C' ns' xs')) d r:=by
 cases r with
 | fin p=>exact h
 | τ k' ds=>
  obtain ⟨e,ok,h1,h2⟩:=h;exact ⟨e,ok,h1,ye hk h2⟩
def av(C:Addr)(share:Fr)(rows:List Rw):Dt:= .obj C ["kept_share","kept_rows"] [Υ share, .lst (rows.map aN)]
def L_(Cm:Addr):DF:=λas M q _=>∃k d share ds rows ok,as=[.loc k,Υ share,d]/\M[k]? =some (.ins Cm [] [])/\kF M d=some (ds,ok)/\Paired (jJ M) ds rows/\aH share=true/\1<=rows.length/\rows.length<=12/\
 (∀r∈rows,fj r/\eQ r rows.length=true)/\q .br (M.set k (.ins Cm ["kept_share","kept_rows"] [Υ share, .lst (rows.map aN)]))
theorem jL:Γ ["self","share","rows","place","row"] ["self","share","rows"] (θ fS):=⟨rfl,rfl,rfl,by decide+kernel,rfl,by decide+kernel,by decide+kernel⟩
theorem vo{f:Addr}{fd:FuncData}(F:cH K "__init__" "Floor.__init__" fS f fd)(E:Ev K mg w Cm){A2:Addr}{Ak:FuncData}(jZ:aj P w K mg base 1 "fits_share" ["share"] qC A2 Ak){HM:Addr}{Gd:FuncData}(nY:aj P w K mg base 4 "fits_row" ["row","size"] yn HM Gd){AA:Addr}{zL:FuncData}(jX:aj P w K mg base 1 "copied_row" ["row"] qV AA zL):af P w K mg base (bX P w) 5 f fd ["self","share","rows"] (cn K (L_ Cm)):=by
 refine F.dF jL (λds M q x h=> ?_) (λaV A outer s H E' hr=>⟨_,(ζ (aB (f_ (bW (aa jZ hr ν (γ (jv 1) η (hs:=μ))))) (ι fU) Τ)
   (ζ (aB (JW.jt (ot (qY (bK E.aZ (γ (jv 2) η (hs:=μ))) υ) (mZ (BC (bK E.aZ (γ (jv 2) η (hs:=μ))) (rE E.mF))))) (ι fU) Τ)
   (ζ (cT (uH E.dz (γ (jv 2) η (hs:=μ))) (nP rfl (bY (ag (i:=3) jL.nd rfl (Or.inl rfl)) (bY (ag (i:=4) jL.nd rfl (Or.inl rfl)) kq))) nu (ι (aB (f_ (bW (aa nY hr ν (γ (jv 4) (γ (bK E.aZ (γ (jv 2) η (hs:=μ))) η (hs:=aA)) (hs:=μ))))) (ι fU) Τ)))
   (ζ (BW E.cQ E.eN (jv 0) (jv 1))
   (ι (BW E.cQ E.bP (jv 0) (fo (ys:=[]) (caps:=[]) ⟨rfl,by decide+kernel,by decide+kernel,rfl,(by show∀p:Str×NameKind,p∈_->p.2=NameKind.free->List.lookup p.1 (θ fS).names=some .cell;decide+kernel),by decide+kernel,(by show∀q:Str×Nat,q∈_->(["self","share","rows","place","row"]:List Str)[q.2]? =some q.1/\List.lookup q.1 (θ fS).names=some .cell/\_;decide+kernel),rfl⟩ (bA (jv 2)) (λC s H fp=>(bL (aa jX hr (i6 (P:=P) (w:=w)) (γ (jv 0) η (hs:=μ)))))))))))),λds M q x h=> ?_⟩)
 ·obtain ⟨k,d,share,ds,rows,ok,rfl,_⟩:=h;rfl
 ·obtain ⟨k,d,share,ds,rows,ok,rfl,hk,hl,hp,hs,h1,h12,wJ,h⟩:=h;have hlen:ds.length=rows.length:=Paired.length hp;walk_at "vc";refine ⟨share,rfl,λz=> ?_,λ_=> ?_⟩
  ·rw [hs] at z;exact nomatch z
  have V2:=mO hl;refine ae V2 ⟨λz=> ?_,λ_=> ?_⟩
  ·have:(ds.length:Int) < 1:=by simpa using z
   omega
  refine ae V2 ⟨λz=> ?_,λ_=> ?_⟩
  ·have:12 < (ds.length:Int):=by simpa using z
   omega
  refine ⟨d,ds,ok,rfl,hl, ?_⟩;refine bJ (λxs ρ M'=>M'=M/\∃n mH BK a b,xs=iw n mH/\Paired (jJ M) mH BK/\(∀r∈BK,r∈rows)/\ρ=[some (.loc k),some (Υ share),some d,a,b]) (λxs ρ M' hj=>by obtain ⟨rfl,_⟩:=hj;exact o8 hl) (λx xs ρ M' hj fe=> ?_) (λρ M' hj=> ?_) _ _ _ ⟨rfl,0,ds,rows,none,none,rfl,hp,λ_ h=>h,rfl⟩
  ·obtain ⟨rfl,n,mH,BK,a,b,ex,Cd,Tg,rfl⟩:=hj;cases Cd with
   | nil=>cases ex
   | cons ra t=>
    rename_i d1 r1 YQ RE;cases ex;refine ae V2 ⟨d1,r1,ds.length,rfl,ra,(wJ r1 (Tg r1 aaf)).1,λz=> ?_,λ_=> ?_⟩
    ·rw [hlen,(wJ r1 (Tg r1 aaf)).2] at z;exact nomatch z
    ·exact fe _ _ ⟨rfl,n+1,YQ,RE,_,_,rfl,t,λr hr=>Tg r (aad _ hr),rfl⟩
  ·obtain ⟨rfl,n,mH,BK,a,b,ex,Cd,Tg,rfl⟩:=hj;have hkl:k < M'.length:=(aag.mp hk).1;refine ⟨k,[],[],rfl,hk,(λz=>(nomatch z)),by decide, ?_⟩;have V3:=ye (C':=Cm) (ns':=["kept_share"]) (xs':=[Υ share]) hk hl;dsimp only [LS,List.nil_append];show gy _ _ _ _ _;refine dD (i:=2) rfl V3 ⟨by rw [hlen];exact aaw h12 (by decide), ?_⟩;have Pw:Paired (λx a=>jJ (M'.set k (.ins Cm ["kept_share"] [Υ share])) x a/\fj a) ds rows:=by
    have:∀{xs:List Dt} {rs:List Rw},Paired (jJ M') xs rs->(∀r∈rs,fj r)->Paired (λx a=>jJ (M'.set k (.ins Cm ["kept_share"] [Υ share])) x a/\fj a) xs rs:=by
     intro xs rs hp
     induction hp with
     | nil=>exact λ_=> .nil
     | cons r t ih=>exact λh=> .cons ⟨D' hk r,h _ aaf⟩ (ih λy hy=>h y (aad _ hy))
    exact this hp λr hr=>(wJ r hr).1
   refine c_ (f:=aN) (o8 V3) (λx a ha q' hq=> ?ht) Pw ?fin
   case ht=>
    obtain ⟨ha,ho⟩:=ha;refine ⟨x,a,rfl,ha,ho, ?_⟩;cases a with
    | fin p=>exact Ju ⟨trivial,lB p,trivial⟩ hq
    | τ k2 w8=>exact jS (.tup (.cons (.old trivial) (.cons (.DB (Nat.le_refl _) (by simp) (iu.old (gP w8))) .nil))) hq
   case fin=>
    refine ⟨k,["kept_share"],[Υ share],rfl,by rw [aa5 hkl],by decide,by decide, ?_⟩;rw [List.set_set];exact h
def kindOf:Rw->Str
 | .fin _=>"end"
 | .τ k _=>k
def Ν:Rw->List bQ
 | .fin _=>[]
 | .τ _ ds=>ds
def R9:Rw->Dt
 | .fin p=>Υ p
 | .τ _ _=> .br
theorem mI{rows:List Rw}{i:Nat}{r:Rw}(h:rows[i]? =some r):(rows.map aN)[i]? =some (aN r):=by rw [aao,h];rfl
theorem FQ{r:Rw}:∃e,aN r= .tup [.str (kindOf r),e]:=by
 cases r with
 | fin p=>exact ⟨_,rfl⟩
 | τ k ds=>exact ⟨_,rfl⟩
def yz(C:Addr):DF:=λas M q _=>∃share rows,as=[av C share rows]/\q (.int rows.length) M
theorem yK:Γ ["self"] ["self"] (θ lV):=⟨rfl,rfl,rfl,by decide+kernel,rfl,by decide+kernel,by decide+kernel⟩
theorem we{f:Addr}{fd:FuncData}(F:cH K "size" "Floor.size" lV f fd)(E:Ev K mg w Cm):af P w K mg base (bX P w) 1 f fd ["self"] (cn K (yz Cm)):=by
 refine F.dF yK (λds M q x h=> ?_) (λaV A outer s H E' hr=>⟨_,(ι (Β (bK E.aZ (γ (pO E.cQ E.bP (jv 0)) η)))),λds M q x h=> ?_⟩)
 ·obtain ⟨share,rows,rfl,_⟩:=h;rfl
 ·obtain ⟨share,rows,rfl,h⟩:=h;refine ⟨_,_,_, .inl rfl,rfl, ?_⟩;show fb [.lst (rows.map aN)] M _;refine ae (xs:=rows.map aN) rfl ?_;rw [aae];exact h
def HR(C:Addr):DF:=λas M q _=>∃share rows,as=[av C share rows]/\q (Υ share) M
theorem vj:Γ ["self"] ["self"] (θ jK):=⟨rfl,rfl,rfl,by decide+kernel,rfl,by decide+kernel,by decide+kernel⟩
theorem sA{f:Addr}{fd:FuncData}(F:cH K "share" "Floor.share" jK f fd)(E:Ev K mg w Cm):af P w K mg base (bX P w) 1 f fd ["self"] (cn K (HR Cm)):=by
 refine F.dF vj (λds M q x h=> ?_) (λaV A outer s H E' hr=>⟨_,(ι (Β (pO E.cQ E.eN (jv 0)))),λds M q x h=> ?_⟩)
 ·obtain ⟨share,rows,rfl,_⟩:=h;rfl
 ·obtain ⟨share,rows,rfl,h⟩:=h;exact ⟨_,_,_, .inl rfl,rfl,h⟩
def mM(C:Addr):DF:=λas M q _=>∃share rows i r,as=[av C share rows, .int (i:Nat)]/\rows[i]? =some r/\q (.str (kindOf r)) M
theorem yu:Γ ["self","place"] ["self","place"] (θ lC):=⟨rfl,rfl,rfl,by decide+kernel,rfl,by decide+kernel,by decide+kernel⟩
theorem ug{f:Addr}{fd:FuncData}(F:cH K "kind" "Floor.kind" lC f fd)(E:Ev K mg w Cm):af P w K mg base (bX P w) 1 f fd ["self","place"] (cn K (mM Cm)):=by
 refine F.dF yu (λds M q x h=> ?_) (λaV A outer s H E' hr=>⟨_,(ι (Β (Ι (Ι (pO E.cQ E.bP (jv 0)) (jv 1)) υ))),λds M q x h=> ?_⟩)
 ·obtain ⟨share,rows,i,r,rfl,_⟩:=h;rfl
 ·obtain ⟨share,rows,i,r,rfl,hi,h⟩:=h;refine ⟨_,_,_, .inl rfl,rfl, ?_⟩;walk_at "vc";refine Ζ (xs:=rows.map aN) rfl (Η (mI hi)) ?_;obtain ⟨e,er⟩:=FQ (r:=r);rw [er];exact h
def pQ(C:Addr):DF:=λas M q _=>∃share rows i r,as=[av C share rows, .int (i:Nat)]/\rows[i]? =some r/\fj r/\q (.loc M.length) (M++[.lst ((Ν r).map ef)])
theorem vT:Γ ["self","place"] ["self","place"] (θ jI):=⟨rfl,rfl,rfl,by decide+kernel,rfl,by decide+kernel,by decide+kernel⟩
theorem rR{f:Addr}{fd:FuncData}(F:cH K "doors" "Floor.doors" jI f fd)(E:Ev K mg w Cm){aE:Addr}{aC:FuncData}(Μ:cE P w K mg base 1 Cm "kind" ["self","place"] (mM Cm) aE aC):af P w K mg base (bX P w) 2 f fd ["self","place"] (cn K (pQ Cm)):=by
 refine F.dF vT (λds M q x h=> ?_) (λaV A outer s H E' hr=>⟨_,(ζ (aB (d_ hr (bt Μ hr ν (jv 0) (γ (jv 1) η (hs:=μ))) jo) (ι (Β (lh η))) Τ)
   (ι (Β (zv E.lU (γ (Ι (Ι (pO E.cQ E.bP (jv 0)) (jv 1)) υ) η (hs:=aU)))))),λds M q x h=> ?_⟩)
 ·obtain ⟨share,rows,i,r,rfl,_⟩:=h;rfl
 ·obtain ⟨share,rows,i,r,rfl,hi,ro,h⟩:=h;refine ⟨⟨_,_, .inl rfl,rfl⟩,share,rows,i,r,rfl,hi, ?_⟩;cases r with
  | fin p=>exact ⟨λ_=>⟨by decide,h⟩,λz=>(nomatch z)⟩
  | τ k ds=>
   refine ⟨λz=>absurd (of_decide_eq_true z) ro.1,λ_=> ?_⟩;refine ⟨_,_,_, .inl rfl,rfl, ?_⟩;walk_at "vc";refine Ζ (xs:=rows.map aN) rfl (Η (mI hi)) ?_;exact h
def OS(C:Addr):DF:=λas M q _=>∃share rows i r,as=[av C share rows, .int (i:Nat)]/\rows[i]? =some r/\fj r/\q (R9 r) M
theorem Ao:Γ ["self","place"] ["self","place"] (θ m8):=⟨rfl,rfl,rfl,by decide+kernel,rfl,by decide+kernel,by decide+kernel⟩
theorem yh{f:Addr}{fd:FuncData}(F:cH K "pay" "Floor.pay" m8 f fd)(E:Ev K mg w Cm){aE:Addr}{aC:FuncData}(Μ:cE P w K mg base 1 Cm "kind" ["self","place"] (mM Cm) aE aC):af P w K mg base (bX P w) 2 f fd ["self","place"] (cn K (OS Cm)):=by
 refine F.dF Ao (λds M q x h=> ?_) (λaV A outer s H E' hr=>⟨_,(ζ (aB (d_ hr (bt Μ hr ν (jv 0) (γ (jv 1) η (hs:=μ))) jo) (ι (Β (Ι (Ι (pO E.cQ E.bP (jv 0)) (jv 1)) υ))) Τ)
   (ι (Β Mq))),λds M q x h=> ?_⟩)
 ·obtain ⟨share,rows,i,r,rfl,_⟩:=h;rfl
 ·obtain ⟨share,rows,i,r,rfl,hi,ro,h⟩:=h;refine ⟨⟨_,_, .inl rfl,rfl⟩,share,rows,i,r,rfl,hi, ?_⟩;cases r with
  | fin p=>
   refine ⟨λ_=> ?_,λz=>(nomatch z)⟩;refine ⟨_,_,_, .inl rfl,rfl, ?_⟩;walk_at "vc";refine Ζ (xs:=rows.map aN) rfl (Η (mI hi)) ?_;exact h
  | τ k ds=>exact ⟨λz=>absurd (of_decide_eq_true z) ro.1,λ_=>h⟩
theorem j4{α:Type}(f:α->Dt):∀(xs ys:List α),(∀x∈xs,x∈ys)->Paired (λx a=>x=f a/\a∈ys) (xs.map f) xs
 | [],_,_=> .nil
 | x::xs,ys,h=> .cons ⟨rfl,h x aaf⟩ (j4 f xs ys λy hy=>h y (aad _ hy))
theorem cG{M:Ms}{q:DQ}{ds:List Dt}(u:Dt.bf M.length ds)(h:q (.lst ds) M):q_ M q (.loc M.length) (M++[.lst ds]):=jS (.DB (aaj _) (by rw [Nat.sub_self];rfl) (iu.old u)) h
theorem KD{M:Ms}{q:DQ}{ds:List Dt}(u:Dt.bf M.length ds)(h:q (.lst ds) M):BL [.lst ds] M (q_ M q):=by show q_ M q (.loc M.length) (M++[.lst ds]);exact cG u h
theorem LY{d:bQ}{M:Ms}{q:DQ}(h:q (Υ d.2.1) M):d7 (ef d) (.int 1) M q:=Ζ (xs:= .int d.1::Υ d.2.1::d.2.2.map Υ) rfl (Η (j:=1) rfl) h
theorem Gk{d:bQ}{M:Ms}{q:DQ}(h:q (.int d.1) M):d7 (ef d) (.int 0) M q:=Ζ (xs:= .int d.1::Υ d.2.1::d.2.2.map Υ) rfl aO h
theorem LD{k:Str}{e:Dt}{M:Ms}{q:DQ}(h:q e M):d7 (.tup [.str k,e]) (.int 1) M q:=Ζ (xs:=[.str k,e]) rfl (Η (j:=1) rfl) h
theorem cq{g:Dt->En->(En->Prop)->Prop}{tb:DS}{Dn:kG}(J:List Dt->En->Ms->Prop)
  (step:∀x xs ρ M,J (x::xs) ρ M->(∀ρ M,J xs ρ M->v_ g tb Dn xs ρ M)->g x ρ λρ'=>tb {Dn with nx:=v_ g tb Dn xs,ct:=v_ g tb Dn xs,bk:=Dn.nx} ρ' M)
  (fin:∀ρ M,J [] ρ M->Dn.nx ρ M):∀(xs:List Dt) (ρ:En) (M:Ms),J xs ρ M->v_ g tb Dn xs ρ M
 | [],ρ,M,h=>fin _ _ h
 | x::xs,ρ,M,h=>step x xs ρ M h λρ' M' h'=>cq J step fin xs ρ' M' h'
theorem b8{lo:Int}{n:Nat}{x:Dt}{xs:List Dt}(h:x::xs=dc lo n):∃m,n=m+1/\x= .int lo/\xs=dc (lo+1) m:=by
 cases n with
 | zero=>exact nomatch h
 | succ m=>
  unfold dc at h;rw [abz,aaF,aaE] at h;cases h;refine ⟨m,rfl,by simp, ?_⟩;unfold dc;apply aaW;intro k _;show Dt.int (lo+((k+1:Nat):Int))=Dt.int (lo+1+(k:Int))
  congr 1
  omega
theorem qE{lo:Int}{n:Nat}{x:Dt}(h:x∈dc lo n):∃k:Nat,k < n/\x= .int (lo+k):=by unfold dc at h;obtain ⟨k,hk,rfl⟩:=aak.mp h;exact ⟨k,abc.mp hk,rfl⟩
theorem fQ{lo:Int}{n:Nat}:(dc lo n).length=n:=by unfold dc;simp
theorem ft{n:Nat}:∀(xs:List Int),Dt.bf n (xs.map Dt.int)
 | []=>trivial
 | _::xs=>⟨trivial,ft xs⟩
theorem Fy{m:Int}:∀{l:List Int},(∀w∈l,w<=m)->l.sum<=l.length * m
 | [],_=>by simp
 | a::l,h=>by have i:=Fy (l:=l) λw hw=>h w (aad _ hw);have:=h a aaf;rw [List.sum_cons,aau,abL,Int.add_mul];omega
def pB(many:Int)(r:Rw):Prop:=fj r/\eQ r many=true
theorem Kv{k:Str}{ds:List bQ}{many:Int}(hk:Δ k=true)(hz:1<=ds.length)(VT:ds.length<=6)(hd:∀d∈ds,ax d.1 d.2.1 many=true)(hs:∀d∈ds,d.2.2=[]/\0 < d.2.1.2):pB many (.τ k ds):=by
 have fd:Ψ ds many=true:=by unfold Ψ;rw [decide_eq_true hz,decide_eq_true VT,List.all_eq_true.mpr hd];rfl
 have ne:k≠"end"/\k≠"chance":=by refine ⟨λz=> ?_,λz=> ?_⟩ <;> (subst z;exact absurd hk (by decide))
 refine ⟨⟨ne.1,by omega,λz=>absurd z ne.2,λd h=>⟨by rw [(hs d h).1];exact abE _,(hs d h).2⟩⟩, ?_⟩;show (if Δ k then _ else _)=true;rw [if_pos hk];exact fd
theorem Eh{ds:List bQ}{many:Int}(hz:1<=ds.length)(VT:ds.length<=6)(hd:∀d∈ds,ax d.1 d.2.1 many=true)(h1:∀d∈ds,d.2.2=[χ d])(hc:Ω (ds.map χ)=true)(ho:MS (ds.map χ))(hp:∀d∈ds,0 < d.2.1.2):pB many (.τ "chance" ds):=by
 have fd:Ψ ds many=true:=by unfold Ψ;rw [decide_eq_true hz,decide_eq_true VT,List.all_eq_true.mpr hd];rfl
 refine ⟨⟨by decide,by omega,λ_=>⟨h1,ho⟩,λd h=>⟨by rw [h1 d h];exact aaj _,hp d h⟩⟩, ?_⟩;have e:eQ (.τ "chance" ds) many=(Ψ ds many&&Ω (ds.map χ)):=by dsimp only [eQ];rw [if_neg (by decide),if_pos rfl]
 rw [e,fd,hc];rfl
theorem Jn{t many:Int}{p:Fr}(h0:0<=t)(h1:t < many)(hp:aW p=true):ax t p many=true:=by unfold ax;rw [decide_eq_true h0,decide_eq_true h1,hp];rfl
theorem ff{xs:List Int}{j:Nat}(h:j < xs.length):lY (xs.map Dt.int) (j:Int)=some (.int xs[j]):=Η (by rw [aao,aaa h];rfl)
theorem Cw:∀{l:List Int},(∀w∈l,0 < w)->l≠[]->0 < l.sum
 | [],_,z=>absurd rfl z
 | [a],h,_=>by have:=h a List.mem_cons_self;simpa using this
 | a::b::l,h,_=>by have i:=Cw (l:=b::l) (λw hw=>h w (List.mem_cons_of_mem _ hw)) (by simp);have:=h a aaf;rw [List.sum_cons];omega
def Sz(k:Nat)(p:Fr):Prop:=p.1.natAbs < 2 ^ k/\0 < p.2/\p.2.natAbs < 2 ^ k
def fg(p q:Fr):Fr:=ah (p.1 * q.2+q.1 * p.2) (p.2 * q.2)
def aL(p q:Fr):Fr:=ah (p.1 * q.1) (p.2 * q.2)
def cy(p q:Fr):Bool:=decide (p.1 * q.2 < q.1 * p.2)
theorem pw{k k':Nat}{p:Fr}(h:Sz k p)(hk:k<=k'):Sz k' p:=
 ⟨aap h.1 (abS (by decide) hk),h.2.1,aap h.2.2 (abS (by decide) hk)⟩
theorem bw{a b k l:Nat}(h:a < 2 ^ k)(h':b < 2 ^ l):a * b < 2 ^ (k+l):=by rw [Nat.pow_add];exact Nat.mul_lt_mul'' h h'
theorem BN{t b:Int}{k:Nat}(hb:0 < b)(h1:t.natAbs < 2 ^ k)(h2:b.natAbs < 2 ^ k):Sz k (ah t b):=
 ⟨aaR (pW (by omega)) h1,b7 (by omega),aaR (jB (by omega)) h2⟩
theorem tW{p q:Fr}{k l:Nat}(hp:Sz k p)(hq:Sz l q):(p.1 * q.2+q.1 * p.2).natAbs < 2 ^ (k+l+1)/\(p.2 * q.2).natAbs < 2 ^ (k+l+1)/\0 < p.2 * q.2:=by
 have a:=bw hp.1 hq.2.2;have b:=bw hq.1 hp.2.2;have c:=bw hp.2.2 hq.2.2;rw [Nat.add_comm l k] at b;have e:(2:Nat) ^ (k+l+1)=2 ^ (k+l)+2 ^ (k+l):=by rw [Nat.pow_succ];omega
 have hn:=Int.natAbs_add_le (p.1 * q.2) (q.1 * p.2);rw [aa1,aa1] at hn;refine ⟨by rw [e];omega, ?_,aaJ hp.2.1 hq.2.1⟩;rw [aa1,e];omega
theorem JV{p q:Fr}{k l:Nat}(hp:Sz k p)(hq:Sz l q):Sz (k+l+1) (fg p q):=
 let ⟨a,b,c⟩:=tW hp hq
 BN c a b
theorem qP{p q:Fr}{k l:Nat}(hp:Sz k p)(hq:Sz l q):(p.1 * q.1).natAbs < 2 ^ (k+l)/\(p.2 * q.2).natAbs < 2 ^ (k+l)/\0 < p.2 * q.2:=by have a:=bw hp.1 hq.1;have c:=bw hp.2.2 hq.2.2;exact ⟨by rw [aa1];exact a,by rw [aa1];exact c,aaJ hp.2.1 hq.2.1⟩
theorem yC{p q:Fr}{k l:Nat}(hp:Sz k p)(hq:Sz l q):Sz (k+l) (aL p q):=
 let ⟨a,b,c⟩:=qP hp hq
 BN c a b
theorem fE{p:Fr}{k:Nat}(h:Sz k p)(hk:k<=8000):gJ p.1:=bg h.1 hk
theorem cL{p:Fr}{k:Nat}(h:Sz k p)(hk:k<=8000):gJ p.2:=bg h.2.2 hk
theorem Nl{p:Fr}(h:aW p=true)(h0:0 < p.2):Sz 101 p:=by
 unfold aW at h;rw [aas,decide_eq_true_iff,decide_eq_true_iff] at h;obtain ⟨h1,h2⟩:=h;have e1:(10:Int) ^ 30 < 2 ^ 101:=by decide
 have n1:(p.1.natAbs:Int)<=10 ^ 30:=by split at h1 <;> omega
 refine ⟨?_,h0, ?_⟩
 ·have:(p.1.natAbs:Int) < ((2 ^ 101:Nat):Int):=aaB n1 (by decide);exact abx.mp this
 ·have:(p.2.natAbs:Int) < ((2 ^ 101:Nat):Int):=aaB (show (p.2.natAbs:Int)<=1000000 by omega) (by decide);exact abx.mp this
theorem mG{p:Fr}(h:aH p=true):Sz 11 p:=by unfold aH at h;rw [aas,aas,decide_eq_true_iff,decide_eq_true_iff,decide_eq_true_iff] at h;obtain ⟨h1,h2,h3⟩:=h;exact ⟨by omega,by omega,by omega⟩
theorem Cr{p:Fr}{M:Ms}{q:DQ}(h:q (.int p.1) M):d7 (Υ p) (.int 0) M q:=Ζ (xs:=[.int p.1, .int p.2]) rfl aO h
theorem xy{p:Fr}{M:Ms}{q:DQ}(h:q (.int p.2) M):d7 (Υ p) (.int 1) M q:=Ζ (xs:=[.int p.1, .int p.2]) rfl (Η (j:=1) rfl) h
def HZ:DF:=λas M q _=>∃p r k l,as=[Υ p,Υ r]/\Sz k p/\Sz l r/\k+l+1<=8000/\q (Υ (fg p r)) M
theorem Ow:Γ ["one","other"] ["one","other"] (θ Io):=⟨rfl,rfl,rfl,by decide+kernel,rfl,by decide+kernel,by decide+kernel⟩
theorem La{f:Addr}{fd:FuncData}(F:cH K "plus" "plus" Io f fd)(E:Ev K mg w Cm){eD:Addr}{eI:FuncData}(aR:aj P w K mg base 2 "fraction" ["top","bottom"] rL eD eI):af P w K mg base (bX P w) 3 f fd ["one","other"] (cn K HZ):=by
 refine F.dF Ow (λds M q x h=> ?_) (λaV A outer s H E' hr=>⟨_,(ι (Β (aa aR hr ν (γ (cf (aw (Ι (jv 0) υ) (Ι (jv 1) υ)) (aw (Ι (jv 1) υ) (Ι (jv 0) υ))) (γ (aw (Ι (jv 0) υ) (Ι (jv 1) υ)) η (hs:=bC)) (hs:=bC))))),λds M q x h=> ?_⟩)
 ·obtain ⟨p,r,k,l,rfl,_⟩:=h;rfl
 ·obtain ⟨p,r,k,l,rfl,hp,dX,hk,h⟩:=h;obtain ⟨a,b,c⟩:=tW hp dX;refine ⟨⟨fE hp (by omega),cL dX (by omega)⟩,⟨fE dX (by omega),cL hp (by omega)⟩,⟨cL hp (by omega),cL dX (by omega)⟩,bg b hk,λz=>absurd z (by omega),λ_=>h⟩
def ui:DF:=λas M q _=>∃p r k l,as=[Υ p,Υ r]/\Sz k p/\Sz l r/\k+l+1<=8000/\q (Υ (aL p r)) M
theorem Kd:Γ ["one","other"] ["one","other"] (θ AW):=⟨rfl,rfl,rfl,by decide+kernel,rfl,by decide+kernel,by decide+kernel⟩
theorem Hc{f:Addr}{fd:FuncData}(F:cH K "times" "times" AW f fd)(E:Ev K mg w Cm){eD:Addr}{eI:FuncData}(aR:aj P w K mg base 2 "fraction" ["top","bottom"] rL eD eI):af P w K mg base (bX P w) 3 f fd ["one","other"] (cn K ui):=by
 refine F.dF Kd (λds M q x h=> ?_) (λaV A outer s H E' hr=>⟨_,(ι (Β (aa aR hr ν (γ (aw (Ι (jv 0) υ) (Ι (jv 1) υ)) (γ (aw (Ι (jv 0) υ) (Ι (jv 1) υ)) η (hs:=bC)) (hs:=bC))))),λds M q x h=> ?_⟩)
 ·obtain ⟨p,r,k,l,rfl,_⟩:=h;rfl
 ·obtain ⟨p,r,k,l,rfl,hp,dX,hk,h⟩:=h;obtain ⟨a,b,c⟩:=qP hp dX;refine ⟨⟨fE hp (by omega),fE dX (by omega)⟩,⟨cL hp (by omega),cL dX (by omega)⟩,bg b (by omega),λz=>absurd z (by omega),λ_=>h⟩
def hU(p q:Fr):Fr:=ah (p.1 * q.2 - q.1 * p.2) (p.2 * q.2)
theorem zC{p q:Fr}{k l:Nat}(hp:Sz k p)(hq:Sz l q):(p.1 * q.2 - q.1 * p.2).natAbs < 2 ^ (k+l+1)/\(p.2 * q.2).natAbs < 2 ^ (k+l+1)/\0 < p.2 * q.2:=by
 have a:=bw hp.1 hq.2.2;have b:=bw hq.1 hp.2.2;have c:=bw hp.2.2 hq.2.2;rw [Nat.add_comm l k] at b;have e:(2:Nat) ^ (k+l+1)=2 ^ (k+l)+2 ^ (k+l):=by rw [Nat.pow_succ];omega
 have hn:(p.1 * q.2 - q.1 * p.2).natAbs<=(p.1 * q.2).natAbs+(q.1 * p.2).natAbs:=by omega
 rw [aa1,aa1] at hn;refine ⟨by rw [e];omega, ?_,aaJ hp.2.1 hq.2.1⟩;rw [aa1,e];omega
def HF:DF:=λas M q _=>∃p r k l,as=[Υ p,Υ r]/\Sz k p/\Sz l r/\k+l+1<=8000/\q (Υ (hU p r)) M
theorem JX:Γ ["one","other"] ["one","other"] (θ zO):=⟨rfl,rfl,rfl,by decide+kernel,rfl,by decide+kernel,by decide+kernel⟩
theorem Hy{f:Addr}{fd:FuncData}(F:cH K "minus" "minus" zO f fd)(E:Ev K mg w Cm){eD:Addr}{eI:FuncData}(aR:aj P w K mg base 2 "fraction" ["top","bottom"] rL eD eI):af P w K mg base (bX P w) 3 f fd ["one","other"] (cn K HF):=by
 refine F.dF JX (λds M q x h=> ?_) (λaV A outer s H E' hr=>⟨_,(ι (Β (aa aR hr ν (γ (qe (aw (Ι (jv 0) υ) (Ι (jv 1) υ)) (aw (Ι (jv 1) υ) (Ι (jv 0) υ))) (γ (aw (Ι (jv 0) υ) (Ι (jv 1) υ)) η (hs:=bC)) (hs:=bC))))),λds M q x h=> ?_⟩)
 ·obtain ⟨p,r,k,l,rfl,_⟩:=h;rfl
 ·obtain ⟨p,r,k,l,rfl,hp,dX,hk,h⟩:=h;obtain ⟨a,b,c⟩:=zC hp dX;refine ⟨⟨fE hp (by omega),cL dX (by omega)⟩,⟨fE dX (by omega),cL hp (by omega)⟩,⟨cL hp (by omega),cL dX (by omega)⟩,bg b hk,λz=>absurd z (by omega),λ_=>h⟩
def lX(B:Int)(c:Fr):Int:=c.1 * (B / c.2)
structure Ht(cs:List Fr):Prop where
 pos:∀c∈cs,0 < lX (bj cs) c
 sum:(cs.map (lX (bj cs))).sum=bj cs
 b0:0 < bj cs
 b1:bj cs<=1000000
 ne:cs≠[]
 Ja:MS cs
theorem Px{cs:List Fr}(h:Ω cs=true)(o:MS cs)(n:cs≠[]):Ht cs:=by
 unfold Ω at h;rw [aas,aas,decide_eq_true_iff,decide_eq_true_iff,Bool.not_eq_true'] at h;obtain ⟨h1,h2,h3⟩:=h;have B0:0 < bj cs:=eW cs 1 (by decide) λc hc=>(o.2 c hc).1;obtain ⟨_,_,hB⟩:=ir cs 1 0 (by decide) (ab8 _) λc hc=>⟨(o.2 c hc).1,ab8 _⟩;refine ⟨λc hc=> ?_,h2,B0,h3,n,o⟩;have c1:0 < c.1:=by have:=List.any_eq_false.mp h1 c hc;simpa using this
 exact aaJ c1 (Int.ediv_pos_of_pos_of_dvd B0 (aah (o.2 c hc).1) (hB c hc))
def val(p:Fr):Rat:=(p.1:Rat) / (p.2:Rat)
structure Red(p:Fr):Prop where
 pos:0 < p.2
 low:Int.gcd p.1 p.2=1
theorem aQ{b:Int}(h:b≠0):(b:Rat)≠0:=λz=>h (Rat.intCast_eq_zero_iff.mp z)
theorem Li{a b c d:Int}(h:a * b=c * d):(a:Rat) * b=c * d:=by rw [<-aaG,<-aaG,h]
theorem bZ{t b:Int}(h:b≠0):Red (ah t b):=⟨b7 h,xv h⟩
theorem jw{t b:Int}(h:b≠0):val (ah t b)=(t:Rat) / (b:Rat):=by
 have hq:=b7 (t:=t) h;have hx:=Li (bU (t:=t) h);have h1:=aQ h;have h2:=aQ (show (ah t b).2≠0 by omega);unfold val;generalize ((ah t b).1:Rat)=x at *
 generalize ((ah t b).2:Rat)=y at *
 generalize (t:Rat)=t' at *
 generalize (b:Rat)=b' at *
 grind
theorem CD{p q:Fr}(hp:Red p)(hq:Red q)(h:val p=val q):p=q:=by
 have h1:=aQ (show p.2≠0 by have:=hp.pos;omega);have h2:=aQ (show q.2≠0 by have:=hq.pos;omega);have e:p.1 * q.2=p.2 * q.1:=by
  unfold val at h;have e1:(p.1:Rat) * (q.2:Rat)=(p.2:Rat) * (q.1:Rat):=by
   generalize (p.1:Rat)=a at *
   generalize (p.2:Rat)=b at *
   generalize (q.1:Rat)=c at *
   generalize (q.2:Rat)=d at *
   grind
  rw [<-aaG,<-aaG] at e1;exact Rat.intCast_inj.mp e1
 have a:=uy (show p.2≠0 by have:=hp.pos;omega) hq.pos hq.low e;have b:=tF hp.pos hp.low;rw [<-Prod.eta p,<-b,a]
theorem yq{p q:Fr}(hp:0 < p.2)(hq:0 < q.2):val (fg p q)=val p+val q:=by
 unfold fg;rw [jw (abh (aaJ hp hq))];have h1:=aQ (show p.2≠0 by omega);have h2:=aQ (show q.2≠0 by omega);rw [Rat.intCast_add,aaG,aaG,aaG];unfold val;generalize (p.1:Rat)=a at *
 generalize (p.2:Rat)=b at *
 generalize (q.1:Rat)=c at *
 generalize (q.2:Rat)=d at *
 grind
theorem nh{p q:Fr}(hp:0 < p.2)(hq:0 < q.2):val (aL p q)=val p * val q:=by
 unfold aL;rw [jw (abh (aaJ hp hq))];have h1:=aQ (show p.2≠0 by omega);have h2:=aQ (show q.2≠0 by omega);rw [aaG,aaG];unfold val;generalize (p.1:Rat)=a at *
 generalize (p.2:Rat)=b at *
 generalize (q.1:Rat)=c at *
 generalize (q.2:Rat)=d at *
 grind
def gH(p:Fr)(E:Int):Prop:=∃N,p.1 * E=N * p.2
theorem nK{t b E N:Int}(h:b≠0)(e:t * E=N * b):gH (ah t b) E:=by
 have hx:=bU (t:=t) h;generalize hf:ah t b=f at *
 obtain ⟨x,y⟩:=f;refine ⟨N, ?_⟩;show x * E=N * y;have hx:t * y=b * x:=hx;have:b * (x * E)=b * (N * y):=by grind
 exact aaH h this
theorem yw{p:Fr}{E:Int}(k:Int)(h:gH p E):gH p (E * k):=by obtain ⟨N,e⟩:=h;exact ⟨N * k,by grind⟩
theorem D4(p:Fr):gH p p.2:=⟨p.1,rfl⟩
theorem CL{p q:Fr}{E:Int}(hp:0 < p.2)(hq:0 < q.2)(h:gH p E)(h':gH q E):gH (fg p q) E:=by obtain ⟨N,e⟩:=h;obtain ⟨N',e'⟩:=h';unfold fg;exact nK (N:=N+N') (Int.ne_of_gt (Int.mul_pos hp hq)) (by grind)
theorem qi{p q:Fr}{E F:Int}(hp:0 < p.2)(hq:0 < q.2)(h:gH p E)(h':gH q F):gH (aL p q) (E * F):=by obtain ⟨N,e⟩:=h;obtain ⟨N',e'⟩:=h';unfold aL;exact nK (N:=N * N') (Int.ne_of_gt (Int.mul_pos hp hq)) (by grind)
theorem wA{p:Fr}{E:Int}(hp:Red p)(h:gH p E):p.2∣E:=by
 obtain ⟨N,e⟩:=h;have d:p.2∣p.1 * E:=⟨N,by rw [e,aaQ]⟩;have d2:p.2.natAbs∣p.1.natAbs * E.natAbs:=by rw [<-aa1];exact Int.natAbs_dvd_natAbs.mpr d
 have co:Nat.Coprime p.2.natAbs p.1.natAbs:=by have:=hp.low;unfold Int.gcd at this;rw [Nat.coprime_comm];exact this
 exact Int.natAbs_dvd_natAbs.mp (co.dvd_of_dvd_mul_left d2)
def dG(p:Fr)(C:Int):Prop:=p.1<=p.2 * C/\ -(p.2 * C)<=p.1
theorem mf{t b C:Int}(h:0 < b)(h1:t<=b * C)(h2: -(b * C)<=t):dG (ah t b) C:=by
 have hx:=bU (t:=t) (show b≠0 by omega);have hq:=b7 (t:=t) (show b≠0 by omega);generalize hf:ah t b=f at *
 obtain ⟨x,y⟩:=f;have hx:t * y=b * x:=hx;have hq:0 < y:=hq;constructor
 ·show x<=y * C;have:=aaC h1 (aah hq);rw [hx] at this;have e:b * C * y=b * (y * C):=by grind
  rw [e] at this;exact abU this h
 ·show -(y * C)<=x;have:=aaC h2 (aah hq);rw [hx] at this;have e: -(b * C) * y=b * (-(y * C)):=by grind
  rw [e] at this;exact abU this h
theorem bH{a b c:Int}(h:a<=b)(hc:0<=c):a * c<=b * c:=aaC h hc
theorem GA{p q:Fr}{C D:Int}(hp:0 < p.2)(hq:0 < q.2)(h:dG p C)(h':dG q D):dG (fg p q) (C+D):=by
 unfold fg;have a:=bH h.1 (aah hq);have b:=bH h'.1 (aah hp);have c:=bH h.2 (aah hq);have d:=bH h'.2 (aah hp);refine mf (aaJ hp hq) ?_ ?_
 ·have e:p.2 * q.2 * (C+D)=p.2 * C * q.2+q.2 * D * p.2:=by grind
  omega
 ·have e: -(p.2 * q.2 * (C+D))= -(p.2 * C) * q.2+ -(q.2 * D) * p.2:=by grind
  omega
def gz(c:Fr):Prop:=0<=c.1/\c.1<=c.2
theorem D8{c p:Fr}{C:Int}(hc:0 < c.2)(hp:0 < p.2)(u:gz c)(h:dG p C)(hC:0<=C):dG (aL c p) C:=by
 unfold aL;have pc:0<=p.2 * C:=aa3 (aah hp) hC;have a:=bH h.1 u.1;have b:=bH u.2 pc;have c':=bH h.2 u.1;refine mf (aaJ hc hp) ?_ ?_
 ·have e:c.2 * p.2 * C=c.2 * (p.2 * C):=by grind
  have e1:c.1 * p.1=p.1 * c.1:=aaQ ..;have e2:p.2 * C * c.1=c.1 * (p.2 * C):=aaQ ..;omega
 ·have e: -(c.2 * p.2 * C)= -(c.2 * (p.2 * C)):=by grind
  have e1:c.1 * p.1=p.1 * c.1:=aaQ ..;have e2: -(p.2 * C) * c.1= -(c.1 * (p.2 * C)):=by grind
  omega
theorem AD{c s:Fr}(hc:0 < c.2)(hs:0 < s.2)(u:gz c)(v:gz s):gz (aL c s):=by
 unfold aL;have hx:=bU (t:=c.1 * s.1) (abh (aaJ hc hs));have hq:=b7 (t:=c.1 * s.1) (abh (aaJ hc hs));have t0:0<=c.1 * s.1:=aa3 u.1 v.1
 have t1:c.1 * s.1<=c.2 * s.2:=abr (bH u.2 v.1) (by
  have:=bH v.2 (aah hc)
  rw [aaQ c.2 s.1,aaQ c.2 s.2];exact this)
 have bp:=aaJ hc hs;generalize c.1 * s.1=t at *
 generalize c.2 * s.2=b at *
 generalize hf:ah t b=f at *
 obtain ⟨x,y⟩:=f;have hx:t * y=b * x:=hx;have hq:0 < y:=hq;constructor
 ·show 0<=x;rcases ab1 x 0 with z | z
  ·have:=abH bp z;have:=aa3 t0 (aah hq);omega
  ·exact z
 ·show x<=y;have:=bH t1 (aah hq);rw [hx] at this;exact abU this bp
theorem Ly{p:Fr}{E C:Int}{k m:Nat}(r:Red p)(h:gH p E)(e0:0 < E)(e1:E < 2 ^ k)(a:dG p C)(c0:0<=C)(c1:C < 2 ^ m):Sz (k+m) p:=by
 have d:=abP e0 (wA r h);have rp:=r.pos;have b1:p.2.natAbs < 2 ^ k:=by
  have:(p.2.natAbs:Int) < ((2 ^ k:Nat):Int):=by rw [aa4 (aah rp)];exact aaB d (by exact_mod_cast e1)
  exact abx.mp this
 have b2:C.natAbs < 2 ^ m:=by
  have:(C.natAbs:Int) < ((2 ^ m:Nat):Int):=by
   rw [aa4 c0]
   exact_mod_cast c1
  exact abx.mp this
 have b3:=bw b1 b2;refine ⟨?_,rp,aap b1 (abS (by decide) (abC _ _))⟩;refine aaR ?_ b3;rw [<-aa1];have q0:0<=p.2 * C:=aa3 (aah rp) c0;have:=a.1;have:=a.2;omega
theorem Ls{cs:List Fr}{j:Nat}(h:j < cs.length):lY (cs.map Υ) (j:Int)=some (Υ cs[j]):=Η (by rw [aao,aaa h];rfl)
theorem RM{ds:List bQ}{j:Nat}(h:j < ds.length):lY (ds.map ef) (j:Int)=some (ef ds[j]):=Η (by rw [aao,aaa h];rfl)
structure N_(share:Fr)(rows:List Rw):Prop where
 sh:aH share=true
 len:rows.length<=12
 row:∀r∈rows,fj r/\eQ r rows.length=true
structure Rv(rows:List Rw)(k:Str)(ds:List bQ):Prop where
 ro:fj (.τ k ds)
 l1:1<=ds.length
 l6:ds.length<=6
 kd:Δ k=true\/(Δ k=false/\k="chance"/\Ht (ds.map χ))
 to:∀d∈ds,0<=d.1/\d.1 < rows.length
 py:∀d∈ds,aW d.2.1=true/\0 < d.2.1.2
theorem fc{share:Fr}{rows:List Rw}{k:Str}{ds:List bQ}(f:N_ share rows)(h:Rw.τ k ds∈rows):Rv rows k ds:=by
 obtain ⟨ro,h2⟩:=f.row _ h;have h2:(if Δ k then Ψ ds rows.length else if k="chance" then Ψ ds rows.length&&Ω (ds.map χ) else false)=true:=h2;have key:Ψ ds rows.length=true/\(Δ k=true\/(Δ k=false/\k="chance"/\Ω (ds.map χ)=true)):=by
  by_cases hk:Δ k=true
  ·rw [if_pos hk] at h2;exact ⟨h2, .inl hk⟩
  ·rw [if_neg hk] at h2;by_cases hc:k="chance"
   ·rw [if_pos hc,Bool.and_eq_true] at h2;exact ⟨h2.1, .inr ⟨by simpa using hk,hc,h2.2⟩⟩
   ·rw [if_neg hc] at h2;cases h2
 obtain ⟨fd,hk⟩:=key;unfold Ψ at fd;rw [aas,aas,decide_eq_true_iff,decide_eq_true_iff] at fd;obtain ⟨⟨d1,d6⟩,fa⟩:=fd;have each:∀d∈ds,0<=d.1/\d.1 < rows.length/\aW d.2.1=true:=λd hd=>by have h3:=List.all_eq_true.mp fa d hd;unfold ax at h3;rw [aas,aas,decide_eq_true_iff,decide_eq_true_iff] at h3;exact ⟨h3.1,h3.2.1,h3.2.2⟩
 refine ⟨ro,d1,d6, ?_,λd hd=>⟨(each d hd).1,(each d hd).2.1⟩,λd hd=>⟨(each d hd).2.2,(ro.2.2.2 d hd).2⟩⟩;rcases hk with hk | ⟨hk,hc,hf⟩
 ·exact .inl hk
 ·refine .inr ⟨hk,hc,Px hf (ro.2.2.1 hc).2 λz=> ?_⟩;have:=congrArg List.length z;rw [aae] at this;have:ds.length=0:=this;omega
theorem BS{α:Type}(xs:List α)(a:α)(f:α->Dt):(dc 0 xs.length).map (λx=>match x with | .int j=>f (xs.getD j.toNat a) | _=> .br)=xs.map f:=by
 unfold dc;rw [aaE];apply abe
 ·simp
 ·intro i h1 h2;simp only [List.getElem_map,List.getElem_range,Function.comp];rw [show (0+(i:Int)).toNat=i by omega];have hi:i < xs.length:=by simpa using h2
  rw [aab,aaa hi];rfl
abbrev d0:bQ:=(0,(0,1),[])
def rN(tb:List Fr)(t:Int):Fr:=tb.getD t.toNat (0,1)
def Φ(share:Fr)(tb:List Fr)(d:bQ):Fr:=fg d.2.1 (aL share (rN tb d.1))
def hJ(ps:List (Fr×Fr)):Fr:=ps.foldl (λw p=>fg w (aL p.1 p.2)) (0,1)
structure Nb(E C:Int)(p:Fr):Prop where
 pos:0 < p.2
 he:gH p E
 ab:dG p C
 sz:Sz 2600 p
structure Bd(E C:Int):Prop where
 e0:0 < E
 e1:E < 2 ^ 2200
 c0:0<=C
 c1:C < 2 ^ 400
theorem G8{E C:Int}{p:Fr}(r:Red p)(h:gH p E)(a:dG p C)(b:Bd E C):Nb E C p:=⟨r.pos,h,a,Ly (k:=2200) (m:=400) r h b.e0 b.e1 a b.c0 b.c1⟩
theorem Kb{E C D:Int}{p q:Fr}(h:Nb E C p)(h':Nb E D q)(b:Bd E (C+D)):Nb E (C+D) (fg p q):=G8 (bZ (abh (aaJ h.pos h'.pos))) (CL h.pos h'.pos h.he h'.he) (GA h.pos h'.pos h.ab h'.ab) b
theorem xn{E F C:Int}{c p:Fr}(c0:0 < c.2)(hc:gH c F)(u:gz c)(h:Nb E C p)(b:Bd (F * E) C):Nb (F * E) C (aL c p):=G8 (bZ (abh (aaJ c0 h.pos))) (qi c0 h.pos hc h.he) (D8 c0 h.pos u h.ab b.c0) b
theorem N4{p:Fr}{C D:Int}(h0:0 < p.2)(h:dG p C)(hd:C<=D):dG p D:=by have:=aav hd (aah h0);obtain ⟨a,b⟩:=h;exact ⟨by omega,by omega⟩
theorem RX{E:Int}:Nb E 0 (0,1):=⟨by decide,⟨0,by simp⟩,⟨by decide,by decide⟩,pw (k:=1) ⟨by decide,by decide,by decide⟩ (by decide)⟩
theorem IB{p:Fr}(h:aH p=true):0 < p.2/\p.2<=1000/\gz p:=by unfold aH at h;rw [aas,aas,decide_eq_true_iff,decide_eq_true_iff,decide_eq_true_iff] at h;obtain ⟨h1,h2,h3⟩:=h;exact ⟨by omega,h3,h1,by omega⟩
theorem vz{n p:Nat}(h:p < n):Ii n (p:Int)=some p:=by unfold Ii;rw [if_pos (by omega),if_pos (by omega),abJ]
theorem FL{M:Ms}{d:Dt}{xs:List Dt}(h:z7 M d=some xs):kC M d=some xs:=by cases d <;> first | exact h | cases h
theorem Ec{M:Ms}{d:Dt}{xs:List Dt}(h:z7 M d=some xs):BF M d=some (.type "list"):=by
 cases d with
 | lst ds=>rfl
 | loc k=>
  have h:(match M[k]? with | some (.lst xs)=>some xs | _=>none)=some xs:=h;show (match M[k]? with | some (.lst _)=>some (Value.type "list") | _=>none)=_;split at h
  ·rfl
  ·cases h
 | _=>cases h
theorem aq{M:Ms}{o:MO}:(M++[o])[M.length]? =some o:=by simp
theorem pE{M:Ms}{k:Nat}{xs:List Dt}(h:M[k]? =some (MO.lst xs)):z7 M (.loc k)=some xs:=by show (match M[k]? with | some (MO.lst xs)=>some xs | _=>none)=some xs;rw [h]
theorem cU{M:Ms}{a c:MO}:(M++[a]).set M.length c=M++[c]:=by simp [List.set_append]
theorem Ov{M E:Ms}{o:MO}:(M++o::E)[M.length]? =some o:=by simp
theorem Ku{M E:Ms}{o c:MO}:(M++o::E).set M.length c=M++c::E:=by simp [List.set_append]
abbrev bM(l:List Int):Dt:= .lst (l.map Dt.int)
abbrev jn(ls:List (List Int)):Dt:= .lst (ls.map bM)
theorem Cc{ls:List (List Int)}{j:Nat}(h:j < ls.length):lY (ls.map bM) (j:Int)=some (bM ls[j]):=Η (by rw [aao,aaa h];rfl)
theorem iL{n:Nat}:∀(ls:List (List Int)),Dt.bf n (ls.map bM)
 | []=>trivial
 | l::ls=>⟨ft l,iL ls⟩
abbrev cx:=Bz.cx
theorem yI{n i:Nat}(h:i < n):((List.replicate (n:Int).toNat [Dt.int 0]).flatten).set i (Dt.int 1)=(cx n i).map Dt.int:=by
 have e:(List.replicate (n:Int).toNat [Dt.int 0]).flatten=List.replicate n (Dt.int 0):=by
  rw [show ((n:Int)).toNat=n by omega];clear h
  induction n with
  | zero=>rfl
  | succ n ih=>rw [aa7,abm,ih];rfl
 rw [e];unfold cx Bz.cx;apply abe
 ·simp
 ·intro j h1 h2;rw [List.getElem_set];simp only [List.getElem_replicate,List.getElem_map,List.getElem_range,Bz.ind];split <;> rfl
def LW:DF:=λas M q _=>∃rows:List (List Int),as=[jn rows]/\rows.length<=12/\(∀r∈rows,r.length<=13)/\∀E,q (.loc M.length) (M++MO.lst (((List.range rows.length).map λi=>rows.getD i []++cx rows.length i).map bM)::E)
theorem cP:Γ ["rows","told","number","row","weights"] ["rows"] (θ iG):=⟨rfl,rfl,rfl,by decide+kernel,rfl,by decide+kernel,by decide+kernel⟩
theorem qc{f:Addr}{fd:FuncData}(F:cH K "with_weights" "with_weights" iG f fd)(E:Ev K mg w Cm):af P w K mg base (bX P w) 1 f fd ["rows"] (cn K LW):=by
 refine F.dF cP (λds M q x h=> ?_) (λaV A outer s H E' hr=>⟨_,(ζ (ω (i:=1) cP.nd rfl (Or.inl rfl) (lh η))
   (ζ (cT (uH E.dz (γ (jv 0) η (hs:=μ))) (nP rfl (bY (ag (i:=2) cP.nd rfl (Or.inl rfl)) (bY (ag (i:=3) cP.nd rfl (Or.inl rfl)) kq))) nu (ζ (ω (i:=4) cP.nd rfl (Or.inl rfl) (zF (cJ 3 (d:= .lst [.int 0]) (by rfl)) (bK E.aZ (γ (jv 0) η (hs:=μ)))))
   (ζ (mh (jv 4) (jv 2) υ)
   (ι (fB (gf (jv 1) (γ (k4 (jv 3) (jv 4)) η (hs:=bC))))))))
   (ι (Β (jv 1))))),λds M q x h=> ?_⟩)
 ·obtain ⟨rows,rfl,_⟩:=h;rfl
 ·obtain ⟨rows,rfl,r12,ZV,h⟩:=h;refine ⟨by decide, ?_⟩;refine ⟨jn rows,rows.map bM,λ_=>True,rfl,rfl, ?_⟩;refine bJ (λxs ρ M'=>∃(k:Nat) (rest:List (List Int)) (E:Ms) (o1 o2 o3:Option Dt),xs=iw k (rest.map bM)/\rows.drop k=rest/\k<=rows.length/\M'=M++MO.lst (((List.range k).map λi=>rows.getD i []++cx rows.length i).map bM)::E/\ρ=[some (jn rows),some (.loc M.length),o1,o2,o3]) (λxs ρ M' hj=>trivial) (λx xs ρ M' hj fe=> ?_) (λρ M' hj=> ?_) _ _ _ ⟨0,rows,[],none,none,none,rfl,rfl,abE _,rfl,rfl⟩
  ·obtain ⟨k,rest,E,o1,o2,o3,ex,hd,hk,rfl,rfl⟩:=hj;cases rest with
   | nil=>cases ex
   | cons r rest=>
    cases ex;have rO:k < rows.length:=by
     rcases Nat.lt_or_ge k rows.length with z | z
     ·exact z
     ·rw [List.drop_of_length_le z] at hd;cases hd
    have rk:rows[k]=r:=by have:=aaP rO;rw [hd] at this;exact (List.cons.inj this).1.symm
    have rg:rows.getD k []=r:=by rw [aab,aaa rO,rk];rfl
    have YA:=ZV r (by rw [<-rk];exact aaA rO);have K5:rows.drop (k+1)=rest:=by have:=aaP rO;rw [hd] at this;exact (List.cons.inj this).2.symm
    dsimp only [g2];walk_at "vc";refine (ae (d:=jn rows) (xs:=rows.map bM) rfl ?_:fb [jn rows] _ _);rw [aae];refine ⟨[.int 0],rows.length,rfl,rfl,by omega,by omega, ?_, ?_⟩
    ·show 1 * ((rows.length:Int)).toNat<=sizeLine;exact aaw (show _<=12 by omega) (by decide)
    generalize Zd:M++MO.lst (((List.range k).map λi=>rows.getD i []++cx rows.length i).map bM)::E=M2;refine ⟨M2.length,k,_,k,rfl,rfl,aq, ?_, ?_⟩
    ·have:((List.replicate (rows.length:Int).toNat [Dt.int 0]).flatten).length=rows.length:=by have:=congrArg List.length (yI rO);rw [aa6,aae] at this;rw [this];unfold cx Bz.cx;simp
     rw [this];exact vz rO
    rw [cU,yI rO];subst Zd;have eM:(M++MO.lst (((List.range k).map λi=>rows.getD i []++cx rows.length i).map bM)::E)++[MO.lst ((cx rows.length k).map Dt.int)]=M++MO.lst (((List.range k).map λi=>rows.getD i []++cx rows.length i).map bM)::(E++[MO.lst ((cx rows.length k).map Dt.int)]):=by simp
    have XH:((M++MO.lst (((List.range k).map λi=>rows.getD i []++cx rows.length i).map bM)::E)++[MO.lst ((cx rows.length k).map Dt.int)])[M.length]? =some (.lst (((List.range k).map λi=>rows.getD i []++cx rows.length i).map bM)):=by rw [eM];exact Ov
    refine ⟨⟨M.length,_,rfl,XH⟩,r.map Dt.int,(cx rows.length k).map Dt.int,rfl,pE aq, ?_,M.length,_,_,rfl,rfl,XH, ?_, ?_⟩
    ·rw [aae,aae];unfold cx Bz.cx;rw [aae,aaU];exact aaw (show _<=30 by omega) (by decide)
    ·rw [aae,aae,aaU];exact aaR (show k<=12 by omega) (by decide)
    rw [eM,Ku];refine fe _ _ ⟨k+1,rest,E++[MO.lst ((cx rows.length k).map Dt.int)],_,_,_,rfl,K5,rO, ?_,rfl⟩;rw [List.range_succ,aaS,aaS];simp only [List.map_cons,List.map_nil];rw [rg,<-aaS]
  ·obtain ⟨k,rest,E,o1,o2,o3,ex,hd,hk,rfl,rfl⟩:=hj;cases rest with
   | cons r rest=>cases ex
   | nil=>
    have:k=rows.length:=by have:=congrArg List.length hd;rw [abu] at this;simp at this;omega
    subst this;exact h E
def Qh:DF:=λas M q _=>∃(ls:List (List Int)) (f c:Nat),as=[jn ls, .int (f:Int), .int (c:Int)]/\f<=ls.length/\ls.length<=12/\(∀l∈ls,c < l.length)/\
 ((∀(k:Nat),f<=k->k < ls.length->(ls.getD k []).getD c 0=0)->q .br M)/\
 (∀(k:Nat),f<=k->k < ls.length->(ls.getD k []).getD c 0≠0->q (.int (k:Int)) M)
theorem j3:Γ ["lines","first","column","number"] ["lines","first","column"] (θ g6):=⟨rfl,rfl,rfl,by decide+kernel,rfl,by decide+kernel,by decide+kernel⟩
theorem oY{f:Addr}{fd:FuncData}(F:cH K "number_of_head" "number_of_head" g6 f fd)(E:Ev K mg w Cm):af P w K mg base (bX P w) 1 f fd ["lines","first","column"] (cn K Qh):=by
 refine F.dF j3 (λds M q x h=> ?_) (λaV A outer s H E' hr=>⟨_,(ζ (hG (sX E.bG (γ (jv 1) (γ (bK E.aZ (γ (jv 0) η (hs:=μ))) η (hs:=aA)) (hs:=μ))) (ag (i:=3) j3.nd rfl (Or.inl rfl)) aP (ι (aB (rC hr (Ι (Ι (jv 0) (jv 3)) (jv 2)) υ) (ι (Β (jv 3))) Τ)))
   (ι (Β Mq))),λds M q x h=> ?_⟩)
 ·obtain ⟨ls,f,c,rfl,_⟩:=h;rfl
 ·obtain ⟨ls,f,c,rfl,hf,oE,hc,h1,h2⟩:=h;walk_at "vc";dsimp only [zP];walk_at "vc";refine (ae (d:=jn ls) (xs:=ls.map bM) rfl ?_:fb [jn ls] _ _);rw [aae];refine ⟨⟨by omega,by omega,by omega,by omega⟩, ?_⟩;refine cq (λzs ρ M'=>M'=M/\∃(n k:Nat) (o:Option Dt),zs=dc k n/\f<=k/\k+n=ls.length/\(∀j,f<=j->j < k->(ls.getD j []).getD c 0=0)/\ρ=[some (jn ls),some (.int (f:Int)),some (.int (c:Int)),o]) (λx zs ρ M' hj fe=> ?_) (λρ M' hj=> ?_) _ _ _ ⟨rfl,ls.length - f,f,none, ?_,aaj _,by omega,λj a b=>absurd a (by omega),rfl⟩
  ·obtain ⟨rfl,n,k,o,ex,hk,hn,hz,rfl⟩:=hj;obtain ⟨m,rfl,rfl,rfl⟩:=b8 ex;have kl:k < ls.length:=by omega
   have hl:=hc _ (aaA kl);have e1:(ls.getD k []).getD c 0=(ls[k])[c]:=by rw [aab,aab,aaa kl];show ((ls[k])[c]?).getD 0=_;rw [aaa hl];rfl
   walk_at "vc";refine (Ζ (d:=jn ls) rfl (Cc kl) ?_:d7 (jn ls) (.int (k:Int)) _ _);refine (Ζ (d:=bM ls[k]) rfl (ff hl) ?_:d7 (bM ls[k]) (.int (c:Int)) _ _);refine ⟨λz=> ?_,λz=> ?_⟩
   ·have z:(!decide ((ls[k])[c]=0))=true:=z;refine h2 k hk kl ?_;rw [e1];intro y;rw [decide_eq_true y] at z;exact nomatch z
   ·have z:(!decide ((ls[k])[c]=0))=false:=z;have z0:(ls[k])[c]=0:=by
     rcases Decidable.em ((ls[k])[c]=0) with y | y
     ·exact y
     ·rw [decide_eq_false y] at z;exact nomatch z
    refine fe _ _ ⟨rfl,m,k+1,_,by simp,by omega,by omega,λj a b=> ?_,rfl⟩;by_cases e:j=k
    ·rw [e,e1];exact z0
    ·exact hz j a (by omega)
  ·obtain ⟨rfl,n,k,o,ex,hk,hn,hz,rfl⟩:=hj;have SG:n=0:=by have:=congrArg List.length ex;unfold dc at this;simpa using this.symm
   exact h1 λj a b=>hz j a (by omega)
  ·rw [show ((ls.length:Int) - (f:Int)).toNat=ls.length - f by omega]
abbrev jM:=Bz.jM
def GX:DF:=λas M q _=>∃(ls:List (List Int)) (f k:Nat),as=[jn ls, .int (f:Int), .int (k:Int)]/\f<=k/\k < ls.length/\ls.length<=12/\q (jn (jM ls f k)) M
theorem u_:Γ ["lines","first","number"] ["lines","first","number"] (θ jr):=⟨rfl,rfl,rfl,by decide+kernel,rfl,by decide+kernel,by decide+kernel⟩
theorem rX{f:Addr}{fd:FuncData}(F:cH K "moved_ahead" "moved_ahead" jr f fd)(E:Ev K mg w Cm):af P w K mg base (bX P w) 1 f fd ["lines","first","number"] (cn K GX):=by
 refine F.dF u_ (λds M q x h=> ?_) (λaV A outer s H E' hr=>⟨_,(ι (Β (k4 (k4 (k4 (bL (vE (jv 0) (jv 1))) (kH (γ (Ι (jv 0) (jv 2)) η (hs:=aU)))) (bL (tO (jv 0) (jv 1) (jv 2)))) (bL (nz (jv 0) (cf (jv 2) υ)))))),λds M q x h=> ?_⟩)
 ·obtain ⟨ls,f,k,rfl,_⟩:=h;rfl
 ·obtain ⟨ls,f,k,rfl,hf,hk,oE,h⟩:=h;have gk:ls.getD k []=ls[k]:=by rw [aab,aaa hk];rfl
  have sz:∀{n:Nat},n<=40->n<=sizeLine:=λh=>aaw h (by decide);refine ⟨ls.map bM,f,rfl,rfl, ?_⟩;rw [<-ab5];refine cG (iL _) ?_;walk_at "vc";refine (Ζ (d:=jn ls) rfl (Cc hk) ?_:d7 (jn ls) (.int (k:Int)) _ _);refine ⟨sz (by show 1<=40;decide),(ls.take f).map bM,[bM ls[k]],rfl,rfl,sz (by simp;omega), ?_⟩;refine ⟨f,rfl,ls.map bM,k,rfl,rfl, ?_⟩;rw [<-ab6,<-ab5];refine cG (iL _) ?_;refine ⟨(ls.take f).map bM++[bM ls[k]],((ls.drop f).take (k - f)).map bM,rfl,rfl,sz (by simp;omega), ?_⟩;refine ⟨ls.map bM,k+1,rfl,rfl, ?_⟩;rw [<-ab6];refine cG (iL _) ?_;refine ⟨(ls.take f).map bM++[bM ls[k]]++((ls.drop f).take (k - f)).map bM,(ls.drop (k+1)).map bM,rfl,rfl,sz (by simp;omega), ?_⟩;unfold jM Bz.jM at h;rw [gk] at h;have e:(ls.take f).map bM++[bM ls[k]]++((ls.drop f).take (k - f)).map bM++(ls.drop (k+1)).map bM=(ls.take f++[ls[k]]++(ls.drop f).take (k - f)++ls.drop (k+1)).map bM:=by rw [aaS,aaS,aaS];rfl
  rw [e];exact h
abbrev cw:=Bz.cw
def Bl:DF:=λas M q _=>∃(l h:List Int) (c:Nat) (d:Int),as=[bM l,bM h, .int (c:Int), .int d]/\l.length=h.length/\h.length<=30/\c < h.length/\(∀x∈l,gJ x)/\(∀x∈h,gJ x)/\d≠0/\gJ d/\q (bM (cw l h c d)) M
theorem rQ:Γ ["line","head","column","divisor"] ["line","head","column","divisor"] (θ dQ):=⟨rfl,rfl,rfl,by decide+kernel,rfl,by decide+kernel,by decide+kernel⟩
theorem qp{f:Addr}{fd:FuncData}(F:cH K "cleared_line" "cleared_line" dQ f fd)(E:Ev K mg w Cm):af P w K mg base (bX P w) 1 f fd ["line","head","column","divisor"] (cn K Bl):=by
 refine F.dF rQ (λds M q x h=> ?_) (λaV A outer s H E' hr=>⟨_,(ι (Β (B9 (ys:=["divisor","head","column","line"]) (caps:=[3,1,2,0]) ⟨rfl,by decide+kernel,by decide+kernel,(by show∀x:Str,x∈(["own","other"]:List Str)->_;decide+kernel),(by show∀p:Str×NameKind,p∈_->p.2=NameKind.free->List.lookup p.1 (θ dQ).names=some .cell;decide+kernel),by decide+kernel,(by show∀q:Str×Nat,q∈_->(["line","head","column","divisor"]:List Str)[q.2]? =some q.1/\List.lookup q.1 (θ dQ).names=some .cell/\_;decide+kernel),rfl⟩ (zT E.sJ (γ (jv 0) (γ (jv 1) η (hs:=μ)) (hs:=μ))) (λC s H fp=>(zx (qe (aw (Ι (jv 3) (jv 4)) (jv 0)) (aw (Ι (jv 5) (jv 4)) (jv 1))) (jv 2)))))),λds M q x h=> ?_⟩)
 ·obtain ⟨l,h',c,d,rfl,_⟩:=h;rfl
 ·obtain ⟨l,hd,c,d,rfl,hl,h30,hc,bl,bh,d0,bd,h⟩:=h;have cl:c < l.length:=by omega
  have g1:hd.getD c 0=hd[c]:=by rw [aab,aaa hc];rfl
  have g2':l.getD c 0=l[c]:=by rw [aab,aaa cl];rfl
  refine ⟨bM l,bM hd,l.map Dt.int,hd.map Dt.int,λ_=>True,λ_=>True,rfl,rfl,rfl, ?_⟩;have ez:oP (l.map Dt.int) (hd.map Dt.int)=(l.zip hd).map λp=> .tup [.int p.1, .int p.2]:=by unfold oP;rw [List.zip_map,aaE];rfl
  rw [ez];refine ⟨?_, ?_⟩
  ·rw [aae,abj];exact aaw (show _<=30 by omega) (by decide)
  refine nG ⟨trivial,trivial⟩ (λx=>match x with | .tup [.int a, .int b]=> .int ((hd.getD c 0 * a - l.getD c 0 * b).fdiv d) | _=> .br) _ _ (λx hx q' hq=> ?_) ?_
  ·obtain ⟨p,hp,rfl⟩:=aak.mp hx;have hq:q' (.int ((hd.getD c 0 * p.1 - l.getD c 0 * p.2).fdiv d)) M:=hq;have p1:=bl p.1 (abo hp).1;have p2:=bh p.2 (abo hp).2;rw [g1,g2'] at hq;have key:d7 (bM hd) (.int (c:Int)) M (λx M1=>IU x (.int p.1) M1 λy M2=>d7 (bM l) (.int (c:Int)) M2 λz M3=>IU z (.int p.2) M3 λu M4=>vm y u M4 λv M5=>Bq v (.int d) M5 q'):=by refine Ζ (d:=bM hd) rfl (ff hc) ⟨⟨bh _ (aaA hc),p1⟩, ?_⟩;refine Ζ (d:=bM l) rfl (ff cl) ⟨⟨bl _ (aaA cl),p2⟩, ?_⟩;exact ⟨⟨d0,bd⟩,hq⟩
   exact key
  ·rw [aaM,aaE];unfold cw Bz.cw at h;rw [show bM ((l.zip hd).map λp=>(hd.getD c 0 * p.1 - l.getD c 0 * p.2).fdiv d)= .lst ((l.zip hd).map λp=>Dt.int ((hd.getD c 0 * p.1 - l.getD c 0 * p.2).fdiv d)) by show Dt.lst _=_;rw [aaE];rfl] at h;exact h
theorem wZ{a b:Int}(h0:0<=a)(h:a<=b):∀n:Nat,a ^ n<=b ^ n
 | 0=>by rw [Int.pow_zero,Int.pow_zero];exact Int.le_refl _
 | n+1=>by rw [abD,abD];exact abn (wZ h0 h n) h h0 (abG (by omega))
theorem Au{x B:Int}{r:Nat}(h:Bz.Ab x (Bz.top B r))(h1:1<=B)(hB:B<=2 ^ 450)(hr:r<=12):gJ x:=by
 have e1:Bz.top B r<=(12 * B) ^ 15:=Bz.uL h1 (by omega);have e2:(12 * B) ^ 15<=(12 * 2 ^ 450) ^ 15:=wZ (by omega) (by omega) 15;have e3:((12 * 2 ^ 450) ^ 15:Int) < ((2 ^ 8000:Nat):Int):=by decide
 have:(x.natAbs:Int) < ((2 ^ 8000:Nat):Int):=by obtain ⟨a,b⟩:=h;omega
 exact abx.mp this
section
variable{A:Nat->Bz.Row}{n col:Nat}{ρ cols:List Nat}{qq:Nat->Nat}{d:Int}{W:Nat->Bz.Row}
theorem yc{m:Nat}{B:Int}(t:Bz.Turn A n col ρ cols qq d W)(b:Bz.Bd A n m B)(hB:B<=2 ^ 450)(hm:col<=m)(hr:ρ.length<=12):(∀i,i < n->∀x∈Bz.ak A n m (W i),gJ x)/\gJ d:=by
 obtain ⟨a1,a2,a3⟩:=t.st.abs b (λc hc=>aap (t.cl c hc) hm) hr;refine ⟨λi hi x hx=> ?_,Au a3 b.b1 hB hr⟩;unfold Bz.ak at hx;rcases aaN.mp hx with z | z
 ·obtain ⟨y,hy,rfl⟩:=aak.mp z;exact Au (a2 i y hi (abc.mp hy)) b.b1 hB hr
 ·obtain ⟨y,hy,rfl⟩:=aak.mp z;exact Au (a1 i y hi) b.b1 hB hr
end
def mn(n:Nat):Dt:= .int n
theorem BP{n:Nat}:∀(l:List Nat),Dt.bf n (l.map mn)
 | []=>trivial
 | _::l=>⟨trivial,BP l⟩
theorem ub{A:Nat->Bz.Row}{n m:Nat}{W:Nat->Bz.Row}{l:List Int}(h:l∈Bz.Χ A n m W):∃i,i < n/\l=Bz.ak A n m (W i):=by unfold Bz.Χ at h;obtain ⟨i,hi,e⟩:=aak.mp h;exact ⟨i,abc.mp hi,e.symm⟩
theorem pN{α:Type}(a:α):∀u:Nat,(List.replicate u [a]).flatten=List.replicate u a
 | 0=>rfl
 | u+1=>by rw [aa7,abm,pN a u];rfl
structure AK(rows:List (List Int))(u:Nat)(B:Int):Prop where
 n1:1<=rows.length
 zb:rows.length<=12
 O4:u<=12
 ml:∀r∈rows,r.length=u+1
 bd:Bz.Bd (Bz.arr rows) rows.length (u+1) B
 mv:B<=2 ^ 450
def yT:DF:=λas M q _=>∃(rows:List (List Int)) (u:Nat) (B:Int),as=[jn rows, .int (u:Int)]/\AK rows u B/\
 ∀ρ cols qq d W,Bz.Turn (Bz.arr rows) rows.length u ρ cols qq d W->q (.tup [jn (Bz.Χ (Bz.arr rows) rows.length (u+1) W), .loc M.length]) (M++[.lst (cols.map mn)])
theorem aY:Γ ["rows","unknowns","lines","columns","divisor","column","rank","number","head","above","below"] ["rows","unknowns"] (θ fX):=⟨rfl,rfl,rfl,by decide+kernel,rfl,by decide+kernel,by decide+kernel⟩
theorem Ad{f:Addr}{fd:FuncData}(F:cH K "cleared" "cleared" fX f fd)(E:Ev K mg w Cm){uC:Addr}{vV:FuncData}(g8:aj P w K mg base 1 "with_weights" ["rows"] LW uC vV){sf:Addr}{si:FuncData}(gx:aj P w K mg base 1 "number_of_head" ["lines","first","column"] Qh sf si){xG:Addr}{yD:FuncData}(i8:aj P w K mg base 1 "moved_ahead" ["lines","first","number"] GX xG yD){vS:Addr}{wb:FuncData}(eV:aj P w K mg base 1 "cleared_line" ["line","head","column","divisor"] Bl vS wb):af P w K mg base (bX P w) 2 f fd ["rows","unknowns"] (cn K yT):=by
 refine F.dF aY (λds M q x h=> ?_) (λaV A outer s H E' hr=>⟨_,(ζ (ω (i:=2) aY.nd rfl (Or.inl rfl) (bL (aa g8 hr ν (γ (jv 0) η (hs:=μ)))))
   (ζ (ω (i:=3) aY.nd rfl (Or.inl rfl) (lh η))
   (ζ (ω (i:=4) aY.nd rfl (Or.inr rfl) υ)
   (ζ (hG (cv E.bG (γ (jv 1) η (hs:=μ))) (ag (i:=5) aY.nd rfl (Or.inr rfl)) aP (ζ (ω (i:=6) aY.nd rfl (Or.inl rfl) (bK E.aZ (γ (jv 3) η (hs:=μ))))
   (ζ (ω (i:=7) aY.nd rfl (Or.inl rfl) (aa gx hr ν (γ (jv 2) (γ (jv 6) (γ (jv 5) η (hs:=μ)) (hs:=μ)) (hs:=μ))))
   (ζ (aB (MP (jv 7) Mq) (ι oz) Τ)
   (ζ (ω (i:=2) aY.nd rfl (Or.inl rfl) (aa i8 hr ν (γ (jv 2) (γ (jv 6) (γ (jv 7) η (hs:=μ)) (hs:=μ)) (hs:=μ))))
   (ζ (ω (i:=8) aY.nd rfl (Or.inr rfl) (Ι (jv 2) (jv 6)))
   (ζ (jE (i:=9) aY.nd rfl (Or.inl rfl) (ys:=["head","column","divisor"]) (caps:=[8,5,4]) ⟨rfl,by decide+kernel,by decide+kernel,rfl,(by show∀p:Str×NameKind,p∈_->p.2=NameKind.free->List.lookup p.1 (θ fX).names=some .cell;decide+kernel),by decide+kernel,(by show∀q:Str×Nat,q∈_->(["rows","unknowns","lines","columns","divisor","column","rank","number","head","above","below"]:List Str)[q.2]? =some q.1/\List.lookup q.1 (θ fX).names=some .cell/\_;decide+kernel),rfl⟩ (bA (bL (vE (jv 2) (jv 6)))) (λC s H fp=>(aa eV hr (i6 (P:=P) (w:=w)) (γ (jv 0) (γ (jv 1) (γ (jv 2) (γ (jv 3) η (hs:=μ)) (hs:=μ)) (hs:=μ)) (hs:=μ)))))
   (ζ (jE (i:=10) aY.nd rfl (Or.inl rfl) (ys:=["head","column","divisor"]) (caps:=[8,5,4]) ⟨rfl,by decide+kernel,by decide+kernel,rfl,(by show∀p:Str×NameKind,p∈_->p.2=NameKind.free->List.lookup p.1 (θ fX).names=some .cell;decide+kernel),by decide+kernel,(by show∀q:Str×Nat,q∈_->(["rows","unknowns","lines","columns","divisor","column","rank","number","head","above","below"]:List Str)[q.2]? =some q.1/\List.lookup q.1 (θ fX).names=some .cell/\_;decide+kernel),rfl⟩ (bA (bL (nz (jv 2) (cf (jv 6) υ)))) (λC s H fp=>(aa eV hr (i6 (P:=P) (w:=w)) (γ (jv 0) (γ (jv 1) (γ (jv 2) (γ (jv 3) η (hs:=μ)) (hs:=μ)) (hs:=μ)) (hs:=μ)))))
   (ζ (ω (i:=2) aY.nd rfl (Or.inl rfl) (k4 (k4 (jv 9) (kH (γ (jv 8) η (hs:=μ)))) (jv 10)))
   (ζ (ω (i:=4) aY.nd rfl (Or.inr rfl) (Ι (jv 8) (jv 5)))
   (ι (fB (gf (jv 3) (γ (jv 5) η (hs:=μ)))))))))))))))
   (ι (Β (gh (γ (jv 2) (γ (jv 3) η (hs:=μ)) (hs:=μ))))))))),λds M q x h=> ?_⟩)
 ·obtain ⟨rows,u,B,rfl,_⟩:=h;rfl
 ·obtain ⟨rows,u,B,rfl,ro,h⟩:=h;have n1:=ro.n1;have zb:=ro.zb;have O4:=ro.O4;refine ⟨rows,rfl,zb,λr dX=>by rw [ro.ml r dX];omega,λE0'=> ?_⟩;rw [Bz.xu ro.ml];refine jS (d':=jn (Bz.Χ (Bz.arr rows) rows.length (u+1) λi=>Bz.ind i)) (.DB (Nat.le_refl _) (by simp) (iu.old (iL _))) ?_;generalize hA:Bz.arr rows=A at *
  generalize hn:rows.length=n at *
  refine ⟨by decide, ?_⟩;walk_at "vc";refine ⟨⟨by omega,by omega⟩, ?_⟩;refine cq (λzs ρ' M'=>∃(c k:Nat) (ρ cols:List Nat) (qq:Nat->Nat) (d:Int) (W:Nat->Bz.Row) (o1 o2 o3 o4 o5 o6:Option Dt),zs=dc k c/\k+c=u/\Bz.Turn A n k ρ cols qq d W/\M'=M++[MO.lst (cols.map mn)]/\ρ'=[some (jn rows),some (.int (u:Int)),some (jn (Bz.Χ A n (u+1) W)),some (.loc M.length),some (.int d),o1,o2,o3,o4,o5,o6]) (λx zs ρ' M' hj fe=> ?_) (λρ' M' hj=> ?_) _ _ _ ⟨u,0,[],[],id,1,_,none,none,none,none,none,none,by simp,by simp,Bz.Turn.start,rfl,rfl⟩
  ·obtain ⟨c,k,ρ,cols,qq,d,W,o1,o2,o3,o4,o5,o6,ex,hkc,t,rfl,rfl⟩:=hj;obtain ⟨m,rfl,rfl,rfl⟩:=b8 ex;have lc:cols.length=ρ.length:=t.st.lc;have rn:ρ.length<=n:=t.st.rn;have Zy:kC (M++[MO.lst (cols.map mn)]) (.loc M.length)=some (cols.map mn):=FL (pE aq);walk_at "vc";refine (ae (d:= .loc M.length) Zy ?_:fb [.loc M.length] _ _);rw [aae,lc];refine ⟨Bz.Χ A n (u+1) W,ρ.length,k,rfl,by rw [Bz.cI];exact rn,by rw [Bz.cI];exact zb,λl hl=> ?_,λhz=> ?_,λk' h1 h2 h0=> ?_⟩
   ·obtain ⟨i,_,rfl⟩:=ub hl;rw [Bz.dM];omega
   ·refine ⟨λ_=> ?_,λz=>(nomatch z)⟩;refine fe _ _ ⟨m,k+1,ρ,cols,qq,d,W,_,_,_,_,_,_,by simp,by omega,t.skip λi a b=> ?_,rfl,rfl⟩;have:=hz i a (by rw [Bz.cI];exact b);rw [Bz.jR b,Bz.gT (by omega)] at this;exact this
   ·rw [Bz.cI] at h2;rw [Bz.jR h2,Bz.gT (show k < u+1 by omega)] at h0;refine ⟨λz=>(nomatch z),λ_=> ?_⟩;refine ⟨Bz.Χ A n (u+1) W,ρ.length,k',rfl,h1,by rw [Bz.cI];exact h2,by rw [Bz.cI];exact zb, ?_⟩;rw [show jM (Bz.Χ A n (u+1) W) ρ.length k'=_ from Bz.yi h1 h2];have t1:=t.move h1 h2;have O6:ρ.length < n:=by omega
    have XD:Bz.rv A n (W (Bz.iF ρ.length k' ρ.length)) k≠0:=by
     have:Bz.iF ρ.length k' ρ.length=k':=by unfold Bz.iF;rw [if_neg (Nat.lt_irrefl _),if_pos rfl]
     rw [this];exact h0
    clear h0 h1 h2 t;generalize ZZ:(λi=>W (Bz.iF ρ.length k' i))=W1 at *
    generalize Rj:(λi=>qq (Bz.iF ρ.length k' i))=q1 at *
    have e1:W (Bz.iF ρ.length k' ρ.length)=W1 ρ.length:=by rw [<-ZZ]
    rw [e1] at XD;obtain ⟨bl,bd⟩:=yc t1 (m:=u+1) (by subst hA hn;exact ro.bd) ro.mv (by omega) (by omega);obtain ⟨W',t2,el⟩:=t1.step (m:=u+1) O6 (by omega) XD;have Og:(Bz.Χ A n (u+1) W1).length=n:=Bz.cI;have hdg:(Bz.Χ A n (u+1) W1)[ρ.length]'(by rw [Og];exact O6)=Bz.ak A n (u+1) (W1 ρ.length):=by have:=Bz.jR (A:=A) (m:=u+1) (W:=W1) O6;rw [aab,aaa (by rw [Og];exact O6)] at this;exact this
    have XS:∀l∈Bz.Χ A n (u+1) W1,∀q':DQ,q' (bM (cw l (Bz.ak A n (u+1) (W1 ρ.length)) k d)) (M++[MO.lst (cols.map mn)])->Bl [bM l,bM (Bz.ak A n (u+1) (W1 ρ.length)), .int (k:Int), .int d] (M++[MO.lst (cols.map mn)]) q' (λC fs M'=>mQ [] C fs M'):=λl hl q' wK=>by obtain ⟨i,hi,rfl⟩:=ub hl;exact ⟨_,_,k,d,rfl,by rw [Bz.dM,Bz.dM],by rw [Bz.dM];omega,by rw [Bz.dM];omega,bl i hi,bl _ O6,t1.d0,bd,wK⟩
    walk_at "vc";refine (Ζ (d:=jn (Bz.Χ A n (u+1) W1)) rfl (Cc (by rw [Og];exact O6)) ?_:d7 (jn (Bz.Χ A n (u+1) W1)) (.int (ρ.length:Int)) _ _);rw [hdg];have sz:∀{z:Nat},z<=40->z<=sizeLine:=λh=>aaw h (by decide);refine ⟨(Bz.Χ A n (u+1) W1).map bM,ρ.length,rfl,rfl, ?_⟩;rw [<-ab5];refine cG (iL _) ⟨sz (by rw [aae,abV];omega), ?_⟩;refine c_ (F:=λx a=>x=bM a/\a∈Bz.Χ A n (u+1) W1) (f:=λl=>bM (cw l (Bz.ak A n (u+1) (W1 ρ.length)) k d)) trivial (λx a ha q' wK=>by obtain ⟨rfl,ha⟩:=ha;exact XS a ha q' wK) (j4 bM _ _ λ_ h=>List.mem_of_mem_take h) ?_;rw [aaM];refine ⟨(Bz.Χ A n (u+1) W1).map bM,ρ.length+1,rfl,rfl, ?_⟩;rw [<-ab6];refine cG (iL _) ⟨sz (by rw [aae,abu];omega), ?_⟩;refine c_ (F:=λx a=>x=bM a/\a∈Bz.Χ A n (u+1) W1) (f:=λl=>bM (cw l (Bz.ak A n (u+1) (W1 ρ.length)) k d)) trivial (λx a ha q' wK=>by obtain ⟨rfl,ha⟩:=ha;exact XS a ha q' wK) (j4 bM _ _ λ_ h=>List.mem_of_mem_drop h) ?_;rw [aaM];refine ⟨by show 1<=sizeLine;decide,_,_,rfl,rfl,sz (by simp;omega),_,_,rfl,rfl,sz (by simp;omega), ?_⟩;have ek:k < (Bz.ak A n (u+1) (W1 ρ.length)).length:=by rw [Bz.dM];omega
    have ev:(Bz.ak A n (u+1) (W1 ρ.length))[k]=Bz.rv A n (W1 ρ.length) k:=by have:=Bz.gT (A:=A) (n:=n) (m:=u+1) (x:=k) (w:=W1 ρ.length) (by omega);rw [aab,aaa ek] at this;exact this
    refine Ζ (d:=bM (Bz.ak A n (u+1) (W1 ρ.length))) rfl (ff ek) ?_;rw [ev];refine ⟨⟨M.length,_,rfl,aq⟩,M.length,_,_,rfl,rfl,aq, ?_, ?_⟩
    ·rw [aae,lc];exact aaR (show _<=12 by omega) (by decide)
    rw [cU];have ee:=congrArg (List.map bM) el;rw [aaS,aaS,aaE,aaE] at ee;refine fe _ _ ⟨m,k+1,ρ++[q1 ρ.length],cols++[k],q1,_,W',some (.int (k:Int)),some (.int (ρ.length:Int)),some (.int (k':Int)),some (bM (Bz.ak A n (u+1) (W1 ρ.length))),some (.lst (((Bz.Χ A n (u+1) W1).take ρ.length).map λl=>bM (cw l (Bz.ak A n (u+1) (W1 ρ.length)) k d))),some (.lst (((Bz.Χ A n (u+1) W1).drop (ρ.length+1)).map λl=>bM (cw l (Bz.ak A n (u+1) (W1 ρ.length)) k d))),by simp,by omega,t2,by simp [mn], ?_⟩;show _=[some (jn rows),some (Dt.int (u:Int)),some (Dt.lst ((Bz.Χ A n (u+1) W').map bM)),some (Dt.loc M.length),some (Dt.int _),_,_,_,_,_,_];rw [<-ee];rfl
  ·obtain ⟨c,k,ρ,cols,qq,d,W,o1,o2,o3,o4,o5,o6,ex,hkc,t,rfl,rfl⟩:=hj;have SG:c=0:=by have:=congrArg List.length ex;unfold dc at this;simpa using this.symm
   have:k=u:=by omega
   subst this;exact ⟨by show 2<=sizeLine;decide,h _ _ _ _ _ t⟩
def Ll:DF:=λas M q _=>∃(rows:List (List Int)) (u:Nat) (B:Int) (ρ cols:List Nat) (qq:Nat->Nat) (d:Int) (W:Nat->Bz.Row),as=[jn (Bz.Χ (Bz.arr rows) rows.length (u+1) W), .lst (cols.map mn), .int (u:Int), .int (u:Int)]/\AK rows u B/\Bz.Turn (Bz.arr rows) rows.length u ρ cols qq d W/\cols=List.range u/\
 q (.loc M.length) (M++[.lst ((List.range u).map λi=>Υ (ah (Bz.rv (Bz.arr rows) rows.length (W i) u) d))])
theorem gK:Γ ["lines","columns","unknowns","source","told","line","column"] ["lines","columns","unknowns","source"] (θ lO):=⟨rfl,rfl,rfl,by decide+kernel,rfl,by decide+kernel,by decide+kernel⟩
theorem uk{f:Addr}{fd:FuncData}(F:cH K "quotients" "quotients" lO f fd)(E:Ev K mg w Cm){eD:Addr}{eI:FuncData}(aR:aj P w K mg base 2 "fraction" ["top","bottom"] rL eD eI):af P w K mg base (bX P w) 3 f fd ["lines","columns","unknowns","source"] (cn K Ll):=by
 refine F.dF gK (λds M q x h=> ?_) (λaV A outer s H E' hr=>⟨_,(ζ (ω (i:=4) gK.nd rfl (Or.inl rfl) (zF (cJ 3 (d:= .lst [.tup [.int 0, .int 1]]) (by rfl)) (jv 2)))
   (ζ (cT (zT E.sJ (γ (jv 0) (γ (jv 1) η (hs:=μ)) (hs:=μ))) (nP rfl (bY (ag (i:=5) gK.nd rfl (Or.inl rfl)) (bY (ag (i:=6) gK.nd rfl (Or.inl rfl)) kq))) nu (ι (mh (jv 4) (jv 6) (aa aR hr ν (γ (Ι (jv 5) (jv 3)) (γ (Ι (jv 5) (jv 6)) η (hs:=aU)) (hs:=aU))))))
   (ι (Β (jv 4))))),λds M q x h=> ?_⟩)
 ·obtain ⟨rows,u,B,ρ,cols,qq,d,W,rfl,_⟩:=h;rfl
 ·obtain ⟨rows,u,B,ρ,cols,qq,d,W,rfl,ro,t,hc,h⟩:=h;have O4:=ro.O4;have zb:=ro.zb;have hl:ρ.length=u:=by rw [<-t.st.lc,hc,aaU]
  have un:u<=rows.length:=by rw [<-hl];exact t.st.rn
  obtain ⟨bl,bd⟩:=yc t (m:=u+1) ro.bd ro.mv (by omega) (by omega);have d0:=t.d0;have one:∀i,i < u->Bz.rv (Bz.arr rows) rows.length (W i) i=d:=λi hi=>by have:=t.st.one i i (by omega) (by omega);rw [if_pos rfl,hc,aab,aaI hi] at this;exact this
  generalize hA:Bz.arr rows=A at *
  generalize hn:rows.length=n at *
  let tl:Nat->List Dt:=λk=>(List.range u).map λi=>if i < k then Υ (ah (Bz.rv A n (W i) u) d) else Υ (0,1)
  have t0:(List.replicate (u:Int).toNat [Υ (0,1)]).flatten=tl 0:=by
   show _=(List.range u).map λi=>if i < 0 then _ else Υ (0,1)
   rw [show ((u:Int)).toNat=u by omega];apply abe
   ·simp
   ·intro j h1 h2;have e:(List.replicate u [Υ (0,1)]).flatten=List.replicate u (Υ (0,1)):=pN _ u;simp [e]
  have ts:∀k,k < u->(tl k).set k (Υ (ah (Bz.rv A n (W k) u) d))=tl (k+1):=λk hk=>by
   apply abe
   ·simp [tl]
   ·intro j h1 h2;rw [List.getElem_set];simp only [tl,List.getElem_map,List.getElem_range];by_cases e:k=j
    ·subst e;rw [if_pos rfl,if_pos (by omega)]
    ·rw [if_neg e];by_cases f:j < k
     ·rw [if_pos f,if_pos (by omega)]
     ·rw [if_neg f,if_neg (by omega)]
  refine ⟨[Υ (0,1)],u,rfl,rfl,by omega,by omega, ?_, ?_⟩
  ·show 1 * ((u:Int)).toNat<=sizeLine;exact aaw (show _<=12 by omega) (by decide)
  rw [t0];refine ⟨jn (Bz.Χ A n (u+1) W), .lst (cols.map mn),_,_,λ_=>True,λ_=>True,rfl,rfl,rfl, ?_⟩;have ez:oP ((Bz.Χ A n (u+1) W).map bM) (cols.map mn)=(List.range u).map λi=> .tup [bM (Bz.ak A n (u+1) (W i)),mn i]:=by
   unfold oP Bz.Χ;rw [hc];apply abe
   ·simp;omega
   ·intro j h1 h2;simp
  rw [ez];refine bJ (λzs ρ' M'=>∃(k:Nat) (o1 o2:Option Dt),k<=u/\zs=((List.range u).drop k).map (λi=> .tup [bM (Bz.ak A n (u+1) (W i)),mn i])/\M'=M++[MO.lst (tl k)]/\ρ'=[some (jn (Bz.Χ A n (u+1) W)),some (.lst (cols.map mn)),some (.int (u:Int)),some (.int (u:Int)),some (.loc M.length),o1,o2]) (λzs ρ' M' hj=>⟨trivial,trivial⟩) (λx zs ρ' M' hj fe=> ?_) (λρ' M' hj=> ?_) _ _ _ ⟨0,none,none,abE _,rfl,rfl,rfl⟩
  ·obtain ⟨k,o1,o2,hk,ex,rfl,rfl⟩:=hj;have rO:k < u:=by
    rcases Nat.lt_or_ge k u with z | z
    ·exact z
    ·rw [List.drop_of_length_le (by simpa using z)] at ex;cases ex
   rw [List.drop_eq_getElem_cons (by simpa using rO),List.map_cons,List.getElem_range] at ex;cases ex;have ek:k < (Bz.ak A n (u+1) (W k)).length:=by rw [Bz.dM];omega
   have eu:u < (Bz.ak A n (u+1) (W k)).length:=by rw [Bz.dM];omega
   have v1:(Bz.ak A n (u+1) (W k))[k]=d:=by have:=Bz.gT (A:=A) (n:=n) (m:=u+1) (x:=k) (w:=W k) (by omega);rw [aab,aaa ek] at this;rw [<-one k rO];exact this
   have v2:(Bz.ak A n (u+1) (W k))[u]=Bz.rv A n (W k) u:=by have:=Bz.gT (A:=A) (n:=n) (m:=u+1) (x:=u) (w:=W k) (by omega);rw [aab,aaa eu] at this;exact this
   dsimp only [g2,wy];walk_at "vc";refine Ζ (d:=bM (Bz.ak A n (u+1) (W k))) rfl (ff eu) ?_;refine Ζ (d:=bM (Bz.ak A n (u+1) (W k))) rfl (ff ek) ?_;rw [v1,v2];refine ⟨bd,λz=>absurd z d0,λ_=> ?_⟩;refine ⟨M.length,k,_,k,rfl,rfl,aq, ?_, ?_⟩
   ·rw [show (tl k).length=u by simp [tl]];exact vz rO
   rw [cU];refine fe _ _ ⟨k+1,_,_,rO,rfl, ?_,rfl⟩;rw [<-ts k rO];rfl
  ·obtain ⟨k,o1,o2,hk,ex,rfl,rfl⟩:=hj;have:k=u:=by have:=congrArg List.length ex;simp at this;omega
   subst this;have e:tl k=(List.range k).map λi=>Υ (ah (Bz.rv A n (W i) k) d):=aaW λi hi=>by rw [if_pos (abc.mp hi)]
   rw [e];exact h
def vp:DF:=λas M q _=>∃(rows:List (List Int)) (u:Nat) (B:Int) (B8:List Fr) (z:Bz.Row) (N:Int),as=[jn rows]/\AK rows u B/\1<=u/\B8.length=u/\Bz.OV (Bz.arr rows) rows.length u z N/\N≠0/\
 (∀i,i < u->0 < (B8.getD i (0,1)).2/\Int.gcd (B8.getD i (0,1)).1 (B8.getD i (0,1)).2=1/\N * (B8.getD i (0,1)).1=z i * (B8.getD i (0,1)).2)/\
 (∀y:Bz.Row,(∀k,k < rows.length->Bz.Α (λx=>Bz.arr rows k x * y x) u=0)->∀x,x < u->y x=0)/\q (.loc M.length) (M++[.lst (B8.map Υ)])
theorem c8:Γ ["rows","unknowns","found","lines","columns","line","answer"] ["rows"] (θ n6):=⟨rfl,rfl,rfl,by decide+kernel,rfl,by decide+kernel,by decide+kernel⟩
theorem y8{f:Addr}{fd:FuncData}(F:cH K "answer_of" "answer_of" n6 f fd)(E:Ev K mg w Cm){FI:Addr}{Iv:FuncData}(nv:aj P w K mg base 2 "cleared" ["rows","unknowns"] yT FI Iv){Aw:Addr}{Ae:FuncData}(jC:aj P w K mg base 3 "quotients" ["lines","columns","unknowns","source"] Ll Aw Ae):af P w K mg base (bX P w) 4 f fd ["rows"] (cn K vp):=by
 refine F.dF c8 (λds M q x h=> ?_) (λaV A outer s H E' hr=>⟨_,(ζ (ω (i:=1) c8.nd rfl (Or.inl rfl) (qe (bK E.aZ (γ (Ι (jv 0) υ) η (hs:=aU))) υ))
   (ζ (ω (i:=2) c8.nd rfl (Or.inl rfl) (bL (aa nv hr ν (γ (jv 0) (γ (jv 1) η (hs:=μ)) (hs:=μ)))))
   (ζ (ω (i:=3) c8.nd rfl (Or.inl rfl) (Ι (jv 2) υ))
   (ζ (ω (i:=4) c8.nd rfl (Or.inl rfl) (Ι (jv 2) υ))
   (ζ (cT (bA (bL (nz (jv 3) (bK E.aZ (γ (jv 4) η (hs:=μ)))))) (ag (i:=5) c8.nd rfl (Or.inl rfl)) aP (ι (aB (rC hr (Ι (jv 5) (jv 1)) υ) (ι fU) Τ)))
   (ζ (ω (i:=6) c8.nd rfl (Or.inl rfl) (aa jC hr ν (γ (jv 3) (γ (jv 4) (γ (jv 1) (γ (jv 1) η (hs:=μ)) (hs:=μ)) (hs:=μ)) (hs:=μ))))
   (ζ (aB (qY (bK E.aZ (γ (jv 4) η (hs:=μ))) (jv 1)) (ι fU) Τ)
   (ι (Β (jv 6)))))))))),λds M q x h=> ?_⟩)
 ·obtain ⟨rows,u,B,B8,z,N,rfl,_⟩:=h;rfl
 ·obtain ⟨rows,u,B,B8,z,N,rfl,ro,u1,dl,sol,hN,Uw,UL,h⟩:=h;have n1:=ro.n1;have zb:=ro.zb;have O4:=ro.O4;have r0:0 < rows.length:=by omega
  have m0:rows[0].length=u+1:=ro.ml _ (aaA r0);walk_at "vc";refine (Ζ (d:=jn rows) rfl (Cc r0) ?_:d7 (jn rows) (.int 0) _ _);refine (ae (d:=bM rows[0]) (xs:=rows[0].map Dt.int) rfl ?_:fb [bM rows[0]] _ _);rw [aae,m0];dsimp only [vm];rw [show (((u+1:Nat):Int) - 1)=(u:Int) by omega];refine ⟨rows,u,B,rfl,ro,λρ cols qq d W t=> ?_⟩;have Bw:cols=List.range u:=by
   rcases t.all with e | ⟨x,hx,hf⟩
   ·exact e
   ·obtain ⟨y,y1,y2⟩:=t.kernel hx hf;have:=UL y y2 x hx;rw [this] at y1;exact absurd (by omega) t.d0
  have hl:ρ.length=u:=by rw [<-t.st.lc,Bw,aaU]
  have un:u<=rows.length:=by rw [<-hl];exact t.st.rn
  refine jS (d':= .tup [jn (Bz.Χ (Bz.arr rows) rows.length (u+1) W), .lst (cols.map mn)]) (.tup (.cons (.old (iL _)) (.cons (.DB (Nat.le_refl _) (by simp) (iu.old (BP _))) .nil))) ?_;have told:(List.range u).map (λi=>Υ (ah (Bz.rv (Bz.arr rows) rows.length (W i) u) d))=B8.map Υ:=by
   apply abe
   ·simp [dl]
   ·intro i h1 h2;have hi:i < u:=by simpa using h1
    simp only [List.getElem_map,List.getElem_range];obtain ⟨p0,p1,p2⟩:=Uw i hi;have gi:B8.getD i (0,1)=B8[i]:=by rw [aab,aaa (by omega)];rfl
    rw [gi] at p0 p1 p2;have e:=t.told Bw sol hi
    congr 1
    have:ah (Bz.rv (Bz.arr rows) rows.length (W i) u) d=(B8[i].1,B8[i].2):=uy t.d0 p0 p1 (by
     refine aaH hN ?_
     grind)
    exact this
  refine (Ζ (d:= .tup [jn (Bz.Χ (Bz.arr rows) rows.length (u+1) W), .lst (cols.map mn)]) rfl aO ?_:d7 (.tup [jn (Bz.Χ (Bz.arr rows) rows.length (u+1) W), .lst (cols.map mn)]) (.int 0) _ _);refine (Ζ (d:= .tup [jn (Bz.Χ (Bz.arr rows) rows.length (u+1) W), .lst (cols.map mn)]) rfl (Η (j:=1) rfl) ?_:d7 (.tup [jn (Bz.Χ (Bz.arr rows) rows.length (u+1) W), .lst (cols.map mn)]) (.int 1) _ _);have XT:(cols.map mn).length=u:=by rw [aae,Bw,aaU]
  dsimp only [tD,gy,Rp,SA];walk_at "vc";refine (ae (d:= .lst (cols.map mn)) (xs:=cols.map mn) rfl ?_:fb [.lst (cols.map mn)] _ _);refine ⟨(Bz.Χ (Bz.arr rows) rows.length (u+1) W).map bM,(cols.map mn).length,rfl,rfl, ?_⟩;rw [XT,<-ab6];refine cG (iL _) ?_;have hz:∀l∈(Bz.Χ (Bz.arr rows) rows.length (u+1) W).drop u,u < l.length/\l.getD u 0=0:=λl T'=>by
   obtain ⟨j,hj,e⟩:=aa2 T';rw [List.getElem_drop] at e;rw [abu,Bz.cI] at hj;have hu:u+j < rows.length:=by omega
   have el:l=Bz.ak (Bz.arr rows) rows.length (u+1) (W (u+j)):=by have:=Bz.jR (A:=Bz.arr rows) (m:=u+1) (W:=W) hu;rw [aab,aaa (by rw [Bz.cI];exact hu)] at this;rw [<-e];exact this
   rw [el];refine ⟨by rw [Bz.dM];omega, ?_⟩;rw [Bz.gT (by omega)];exact t.rest sol hN (by omega) hu
  refine bJ (λzs ρ' M'=>M'=M/\∃(rest:List (List Int)) (o:Option Dt),zs=rest.map bM/\(∀l∈rest,u < l.length/\l.getD u 0=0)/\ρ'=[some (jn rows),some (.int (u:Int)),some (.tup [jn (Bz.Χ (Bz.arr rows) rows.length (u+1) W), .lst (cols.map mn)]),some (jn (Bz.Χ (Bz.arr rows) rows.length (u+1) W)),some (.lst (cols.map mn)),o,none]) (λzs ρ' M' hj=>trivial) (λx zs ρ' M' hj fe=> ?_) (λρ' M' hj=> ?_) _ _ _ ⟨rfl,_,none,rfl,hz,rfl⟩
  ·obtain ⟨rfl,rest,o,ex,dX,rfl⟩:=hj;cases rest with
   | nil=>cases ex
   | cons l rest=>
    cases ex;obtain ⟨l1,l2⟩:=dX l aaf;have lv:l[u]=0:=by rw [aab,aaa l1] at l2;exact l2
    walk_at "vc";refine (Ζ (d:=bM l) rfl (ff l1) ?_:d7 (bM l) (.int (u:Int)) _ _);rw [lv];exact ⟨λz=>(nomatch z),λ_=>fe _ _ ⟨rfl,rest,_,rfl,λy hy=>dX y (aad _ hy),rfl⟩⟩
  ·obtain ⟨rfl,rest,o,ex,dX,rfl⟩:=hj;refine ⟨rows,u,B,ρ,cols,qq,d,W,rfl,ro,t,Bw, ?_⟩;rw [told];walk_at "vc";refine (ae (d:= .lst (cols.map mn)) (xs:=cols.map mn) rfl ?_:fb [.lst (cols.map mn)] _ _);rw [XT];refine ⟨λz=> ?_,λ_=>h⟩;have z:(u:Int) < u:=of_decide_eq_true z;omega
theorem GB(cs ns:List Fr):oP (cs.map Υ) (ns.map Υ)=(cs.zip ns).map λp=> .tup [Υ p.1,Υ p.2]:=by unfold oP;rw [List.zip_map,aaE];rfl
structure Ch(B:Int)(c:Fr):Prop where
 pos:0 < c.2
 he:gH c B
 u:gz c
 sz:Sz 300 c
theorem ql{E B C:Int}(b0:0 < B)(e0:0 < E)(be:B * E < 2 ^ 2200)(c0:0<=C)(c1:C < 2 ^ 300):∀(ps:List (Fr×Fr)) (w:Fr) (j:Nat),j+ps.length<=6->Nb (B * E) (j * C) w->(∀p∈ps,Ch B p.1/\Nb E C p.2)->Nb (B * E) ((j+ps.length:Nat) * C) (ps.foldl (λw p=>fg w (aL p.1 p.2)) w)
 | [],w,j,_,hw,_=>hw
 | p::ps,w,j,hj,hw,h=>by
  rw [aau] at hj;obtain ⟨h1,h2⟩:=h p aaf;have jc:((j:Int)+1) * C=j * C+C:=by rw [Int.add_mul,Int.one_mul]
  have jm:((j:Int)+1) * C<=6 * C:=aaC (by omega) c0;have j0:0<=(j:Int) * C:=aa3 (by omega) c0;have ht:=xn h1.pos h1.he h1.u h2 ⟨aaJ b0 e0,be,c0,ab2 c1 (by decide)⟩;have hp:=Kb hw ht ⟨aaJ b0 e0,be,by omega,by omega⟩;rw [<-jc] at hp;have:=ql b0 e0 be c0 c1 ps _ (j+1) (by omega) (by exact_mod_cast hp) (λq hq=>h q (aad _ hq));rw [abp,aau,show j+(ps.length+1)=j+1+ps.length by omega];exact this
def rB:DF:=λas M q _=>∃(cs ns:List Fr) (E B C:Int),as=[.lst (cs.map Υ), .lst (ns.map Υ)]/\cs.length<=6/\0 < B/\0 < E/\B * E < 2 ^ 2200/\0<=C/\C < 2 ^ 300/\(∀c∈cs,Ch B c)/\(∀n∈ns,Nb E C n)/\q (Υ (hJ (cs.zip ns))) M
theorem iq:Γ ["chances","numbers","whole","chance","number"] ["chances","numbers"] (θ pJ):=⟨rfl,rfl,rfl,by decide+kernel,rfl,by decide+kernel,by decide+kernel⟩
theorem A_{f:Addr}{fd:FuncData}(F:cH K "weighed" "weighed" pJ f fd)(E:Ev K mg w Cm){FE:Addr}{Gr:FuncData}(og:aj P w K mg base 3 "plus" ["one","other"] HZ FE Gr){pP:Addr}{qx:FuncData}(fq:aj P w K mg base 3 "times" ["one","other"] ui pP qx):af P w K mg base (bX P w) 4 f fd ["chances","numbers"] (cn K rB):=by
 refine F.dF iq (λds M q x h=> ?_) (λaV A outer s H E' hr=>⟨_,(ζ (ω (i:=2) iq.nd rfl (Or.inl rfl) (gh (γ υ (γ υ η (hs:=dR)) (hs:=dR))))
   (ζ (cT (zT E.sJ (γ (jv 0) (γ (jv 1) η (hs:=μ)) (hs:=μ))) (nP rfl (bY (ag (i:=3) iq.nd rfl (Or.inl rfl)) (bY (ag (i:=4) iq.nd rfl (Or.inl rfl)) kq))) nu (ι (ω (i:=2) iq.nd rfl (Or.inl rfl) (aa og hr ν (γ (jv 2) (γ (aa fq hr ν (γ (jv 3) (γ (jv 4) η (hs:=μ)) (hs:=μ))) η (hs:=aA)) (hs:=μ))))))
   (ι (Β (jv 2))))),λds M q x h=> ?_⟩)
 ·obtain ⟨cs,ns,E,B,C,rfl,_⟩:=h;rfl
 ·obtain ⟨cs,ns,Ep,B,C,rfl,hz,b0,e0,be,c0,c1,hc,hn,h⟩:=h;refine ⟨by show 2<=sizeLine;decide, ?_⟩;refine ⟨.lst (cs.map Υ), .lst (ns.map Υ),cs.map Υ,ns.map Υ,λ_=>True,λ_=>True,rfl,rfl,rfl, ?_⟩;rw [GB];refine bJ (λxs ρ M'=>M'=M/\∃(rest:List (Fr×Fr)) (w:Fr) (a b:Option Dt) (j:Nat),xs=rest.map (λp=> .tup [Υ p.1,Υ p.2])/\(∀p∈rest,Ch B p.1/\Nb Ep C p.2)/\Nb (B * Ep) (j * C) w/\j+rest.length<=6/\rest.foldl (λw p=>fg w (aL p.1 p.2)) w=hJ (cs.zip ns)/\ρ=[some (.lst (cs.map Υ)),some (.lst (ns.map Υ)),some (Υ w),a,b]) (λxs ρ M' hj=>⟨trivial,trivial⟩) (λx xs ρ M' hj fe=> ?_) (λρ M' hj=> ?_) _ _ _ ⟨rfl,cs.zip ns,(0,1),none,none,0,rfl,λp hp=>⟨hc _ (abo hp).1,hn _ (abo hp).2⟩,by rw [Int.natCast_zero,Int.zero_mul];exact RX, ?_,rfl,rfl⟩
  ·obtain ⟨rfl,rest,w,a,b,j,ex,wJ,hw,hj,hf,rfl⟩:=hj;cases rest with
   | nil=>cases ex
   | cons p rest=>
    cases ex;obtain ⟨h1,h2⟩:=wJ p aaf;rw [aau] at hj;have ht:=xn h1.pos h1.he h1.u h2 ⟨aaJ b0 e0,be,c0,ab2 c1 (by decide)⟩;refine ⟨p.1,p.2,300,2600,rfl,h1.sz,h2.sz,by decide,w,aL p.1 p.2,2600,2600,rfl,hw.sz,ht.sz,by decide, ?_⟩;refine fe _ _ ⟨rfl,rest,_,_,_,j+1,rfl,λp hp=>wJ p (aad _ hp), ?_,by omega,hf,rfl⟩;exact ql b0 e0 be c0 c1 [p] w j (by simp;omega) hw (λq hq=>by rw [List.mem_singleton.mp hq];exact ⟨h1,h2⟩)
  ·obtain ⟨rfl,rest,w,a,b,j,ex,wJ,hw,hj,hf,rfl⟩:=hj;cases rest with
   | nil=>rw [<-hf] at h;exact h
   | cons p rest=>cases ex
  ·rw [abj];omega
def oq:List Int->Int
 | []=>1
 | a::l=>a * oq l
theorem qA:∀{l:List Int},(∀a∈l,0 < a)->0 < oq l
 | [],_=>by decide
 | a::l,h=>aaJ (h a aaf) (qA λb hb=>h b (aad _ hb))
theorem BI:∀{l:List Int},(∀a∈l,0 < a/\a<=1000000)->oq l<=1000000 ^ l.length
 | [],_=>by decide
 | a::l,h=>by have i:=BI λb hb=>h b (aad _ hb);have p:=qA (l:=l) λb hb=>(h b (aad _ hb)).1;have h0:=h a aaf;show a * oq l<=_;rw [aau,abD,aaQ a];exact abn i h0.2 (aah h0.1) (abG (by decide))
theorem ya:∀{l:List Int} {a:Int},a∈l->a∣oq l
 | b::l,a,h=>by
  rcases aay.mp h with e | e
  ·rw [e];exact ⟨oq l,rfl⟩
  ·obtain ⟨c,hc⟩:=ya e;exact ⟨b * c,by show b * oq l=_;rw [hc];grind⟩
theorem xp{p:Fr}{E:Int}(h:p.2∣E):gH p E:=by obtain ⟨k,e⟩:=h;exact ⟨p.1 * k,by rw [e];grind⟩
theorem qR:∀{l:List Int} {a:Int},(∀b∈l,0 < b)->a∈l->a<=l.sum
 | b::l,a,h,ha=>by
  have ih:∀{l:List Int},(∀b∈l,0 < b)->0<=l.sum:=λ{l}=>by
   induction l with
   | nil=>intro _;exact Int.le_refl _
   | cons c l ih=>
    intro h;have:=ih λd hd=>h d (aad _ hd);have:=h c aaf;rw [List.sum_cons];omega
  rw [List.sum_cons];have h0:=h b aaf;rcases aay.mp ha with e | e
  ·have:=ih λd hd=>h d (aad _ hd);omega
  ·have:=qR (λd hd=>h d (aad _ hd)) e;omega
theorem Jy{cs:List Fr}(o:Ht cs){c:Fr}(hc:c∈cs):0 < c.2/\c.2∣bj cs/\gz c/\Sz 300 c:=by
 obtain ⟨a,b,d⟩:=o.Ja.2 c hc;have B0:=o.b0;obtain ⟨_,_,hB⟩:=ir cs 1 0 (by decide) (ab8 _) λc hc=>⟨(o.Ja.2 c hc).1,ab8 _⟩;have dv:c.2∣bj cs:=hB c hc
 have le:=qR (l:=cs.map (lX (bj cs))) (λb hb=>by
  obtain ⟨x,hx,rfl⟩:=aak.mp hb
  exact o.pos x hx) (aak.mpr ⟨c,hc,rfl⟩)
 rw [o.sum] at le;have wp:=o.pos c hc;unfold lX at le wp;obtain ⟨m,em⟩:=dv;have ZR:bj cs / c.2=m:=by rw [em];exact abg m (by omega)
 rw [ZR] at le wp;have m0:0 < m:=by
  rw [em] at B0;rcases ab1 0 m with z | z
  ·exact z
  ·have:=aav z (aah a);omega
 have c0:0<=c.1:=by
  rcases ab1 c.1 0 with z | z
  ·have:=aaC (aah z) (aah m0);omega
  ·exact z
 have c1:c.1<=c.2:=by rw [em] at le;exact Int.le_of_mul_le_mul_right le m0
 refine ⟨a,⟨m,em⟩,⟨c0,c1⟩,pw (k:=200) ⟨d,a, ?_⟩ (by decide)⟩;have:(c.2.natAbs:Int) < ((2 ^ 200:Nat):Int):=by rw [aa4 (aah a)];exact b
 exact abx.mp this
abbrev Pl:=List (Int×Int)
def kP(pl:Pl):List Key:=pl.map λp=>Sum.inl p.1
def vP(pl:Pl):List Dt:=pl.map λp=>Dt.int p.2
abbrev dP(pl:Pl):MO:= .cW (kP pl) (vP pl)
def Ξ:Pl->Int->Option Int
 | [],_=>none
 | p::r,i=>if p.1=i then some p.2 else Ξ r i
def dZ(pl:Pl)(i v:Int):Pl:=if (Ξ pl i).isSome=true then pl.map (λp=>if p.1=i then (p.1,v) else p) else pl++[(i,v)]
theorem HP{a b:Int}:(decide ((Sum.inl a:Key)=Sum.inl b))=decide (a=b):=by
 by_cases h:a=b
 ·rw [decide_eq_true h,decide_eq_true (congrArg Sum.inl h)]
 ·rw [decide_eq_false h,decide_eq_false λz=>h (Sum.inl.inj z)]
theorem xU{i:Int}:∀{pl:Pl},b_ (kP pl) (vP pl) (Sum.inl i)=(Ξ pl i).map Dt.int
 | []=>rfl
 | p::r=>by
  have ih:=xU (i:=i) (pl:=r);unfold b_ at ih⊢;show (List.find? (λq:Key×Dt=>decide (q.1=Sum.inl i)) ((Sum.inl p.1,Dt.int p.2)::(kP r).zip (vP r))).map (·.2)=Option.map Dt.int (if p.1=i then some p.2 else Ξ r i);rw [List.find?_cons,HP];by_cases h:p.1=i
  ·rw [decide_eq_true h,if_pos h];rfl
  ·rw [decide_eq_false h,if_neg h];exact ih
theorem KS{i:Int}:∀{pl:Pl},Ip (kP pl) (Sum.inl i)=(Ξ pl i).isSome
 | []=>rfl
 | p::r=>by
  have ih:=KS (i:=i) (pl:=r);unfold Ip at ih⊢;show (decide ((Sum.inl p.1:Key)=Sum.inl i) || (kP r).any λc=>decide (c=Sum.inl i))=(if p.1=i then some p.2 else Ξ r i).isSome;rw [HP,ih];by_cases h:p.1=i
  ·rw [decide_eq_true h,if_pos h];rfl
  ·rw [decide_eq_false h,if_neg h,Bool.false_or]
theorem Ct{i v:Int}:∀{pl:Pl},kK (Sum.inl i:Key) (Dt.int v) (kP pl) (vP pl)=vP (pl.map λp=>if p.1=i then (p.1,v) else p)
 | []=>rfl
 | p::r=>by
  show (if (Sum.inl p.1:Key)=Sum.inl i then Dt.int v else Dt.int p.2)::kK (Sum.inl i:Key) (Dt.int v) (kP r) (vP r)=Dt.int (if p.1=i then (p.1,v) else p).2::vP (r.map λp=>if p.1=i then (p.1,v) else p);rw [Ct];by_cases h:p.1=i
  ·rw [if_pos h,if_pos (congrArg Sum.inl h)]
  ·rw [if_neg h,if_neg λz=>h (Sum.inl.inj z)]
theorem y_{i v:Int}:∀{pl:Pl},kP (pl.map λp=>if p.1=i then (p.1,v) else p)=kP pl
 | []=>rfl
 | p::r=>by show (Sum.inl (if p.1=i then (p.1,v) else p).1:Key)::kP (r.map λp=>if p.1=i then (p.1,v) else p)=Sum.inl p.1::kP r;rw [y_];split <;> rfl
theorem tU{pl:Pl}{i v:Int}:fh (kP pl) (Sum.inl i)=kP (dZ pl i v):=by
 unfold fh dZ;rw [KS];split
 ·exact y_.symm
 ·unfold kP;rw [List.map_append];rfl
theorem yQ{pl:Pl}{i v:Int}:dU (kP pl) (Sum.inl i) (vP pl) (Dt.int v)=vP (dZ pl i v):=by
 unfold dU dZ;rw [KS];split
 ·exact Ct
 ·unfold vP;rw [List.map_append];rfl
theorem pG{i v j:Int}:∀{pl:Pl},Ξ (pl.map λp=>if p.1=i then (p.1,v) else p) j=if j=i then (Ξ pl j).map λ_=>v else Ξ pl j
 | []=>by split <;> rfl
 | p::r=>by
  have ih:=pG (i:=i) (v:=v) (j:=j) (pl:=r);rw [aaF];unfold Ξ;by_cases h:p.1=i
  ·rw [if_pos h];by_cases hj:p.1=j
   ·rw [if_pos hj,if_pos hj,if_pos (by omega)];rfl
   ·rw [if_neg hj,if_neg hj];exact ih
  ·rw [if_neg h];by_cases hj:p.1=j
   ·rw [if_pos hj,if_pos hj,if_neg (by omega)]
   ·rw [if_neg hj,if_neg hj];exact ih
theorem BV{i j v:Int}:∀{pl:Pl},Ξ (pl++[(i,v)]) j=if (Ξ pl j).isSome=true then Ξ pl j else if i=j then some v else none
 | []=>rfl
 | p::r=>by
  have ih:=BV (i:=i) (j:=j) (v:=v) (pl:=r);rw [List.cons_append];unfold Ξ;by_cases hj:p.1=j
  ·rw [if_pos hj,if_pos hj];rfl
  ·rw [if_neg hj,if_neg hj];exact ih
theorem pv{pl:Pl}{i v j:Int}:Ξ (dZ pl i v) j=if j=i then some v else Ξ pl j:=by
 unfold dZ;split
 ·rename_i h;rw [pG];split
  ·rename_i e;subst e;obtain ⟨x,hx⟩:=aaT.mp h;rw [hx];rfl
  ·rfl
 ·rename_i h;rw [BV];by_cases e:j=i
  ·subst e;rw [if_neg h,if_pos rfl,if_pos rfl]
  ·rw [if_neg e];cases hj:Ξ pl j with
   | none=>rw [if_neg (by simp),if_neg (by omega)]
   | some x=>rfl
def vq(pl:Pl):Prop:=(pl.map (·.1)).Nodup
theorem CF{i v:Int}:∀{pl:Pl},Ξ pl i=some v->(i,v)∈pl
 | [],h=>by cases h
 | p::r,h=>by
  unfold Ξ at h;split at h
  ·rename_i e;have:p=(i,v):=by rw [<-e,<-aar h]
   rw [this];exact aaf
  ·exact aad _ (CF h)
theorem IX{i:Int}{pl:Pl}(h:Ξ pl i=none):i∉pl.map (·.1):=λz=>by
 obtain ⟨p,hp,e⟩:=aak.mp z;have:∀{pl:Pl},p∈pl->Ξ pl i≠none:=λ{pl}=>by
  induction pl with
  | nil=>intro h;cases h
  | cons q r ih=>
   intro h;unfold Ξ;rcases aay.mp h with e' | e'
   ·rw [if_pos (by rw [<-e'];exact e)];simp
   ·split
    ·simp
    ·exact ih e'
 exact this hp h
theorem M9{pl:Pl}{i v:Int}(h:vq pl):vq (dZ pl i v):=by
 unfold vq dZ;split
 ·have e:(pl.map λp=>if p.1=i then (p.1,v) else p).map (·.1)=pl.map (·.1):=by rw [aaE];refine aaW λp _=> ?_;show (if p.1=i then (p.1,v) else p).1=p.1;split <;> rfl
  rw [e];exact h
 ·rename_i hn;have hn:Ξ pl i=none:=by
   cases hg:Ξ pl i with
   | none=>rfl
   | some x=>rw [hg] at hn;exact absurd rfl hn
  rw [aaS];refine List.nodup_append.mpr ⟨h,by simp,λa ha b hb z=> ?_⟩;have:b=i:=by simpa using hb
  exact IX hn (by rw [<-this,<-z];exact ha)
structure SI(M:Ms)(k:Nat)(p1 p2:Pl):Prop where
 ex:∃k1 k2,M[k]? =some (.cW [Sum.inr "one",Sum.inr "other"] [.loc k1, .loc k2])/\M[k1]? =some (dP p1)/\M[k2]? =some (dP p2)
theorem dq{M E:Ms}{k:Nat}{m:MO}(h:M[k]? =some m):(M++E)[k]? =some m:=by rw [aat (aag.mp h).1];exact h
def dj(pl:Pl)(i:Nat)(n:Nat):Bool:=match Ξ pl i with
 | some v=>decide (0<=v)&&decide (v < n)
 | none=>false
def aM(p1 p2:Pl)(k:Str):Option Pl:=if k="one" then some p1 else if k="other" then some p2 else none
def i_(pf:Str->Option Pl)(i:Nat)(r:Rw):Bool:=match pf (kindOf r) with
 | some pl=>dj pl i (Ν r).length
 | none=>true
def eG(rows:List Rw)(pf:Str->Option Pl)(i:Nat):Bool:=match rows[i]? with
 | some r=>i_ pf i r
 | none=>true
def eB(rows:List Rw)(pf:Str->Option Pl):Nat->Pl
 | 0=>[]
 | n+1=>match (rows[n]?).bind λr=>pf (kindOf r) with
  | some pl=>dZ (eB rows pf n) n ((Ξ pl n).getD 0)
  | none=>eB rows pf n
theorem uz(rows:List Rw)(pf:Str->Option Pl):∀n,(eB rows pf n).length<=n
 | 0=>aaj _
 | n+1=>by
  have ih:=uz rows pf n;unfold eB;split
  ·unfold dZ;split
   ·rw [aae];omega
   ·rw [aai];exact Nat.succ_le_succ ih
  ·omega
theorem iH(rows:List Rw)(pf:Str->Option Pl):∀(n i:Nat),Ξ (eB rows pf n) i=if i < n then ((rows[i]?).bind λr=>pf (kindOf r)).map λpl=>(Ξ pl i).getD 0 else none
 | 0,i=>by rw [if_neg (abq _)];rfl
 | n+1,i=>by
  have ih:=iH rows pf n i;have step:Ξ (eB rows pf (n+1)) i=if i=n then (match (rows[n]?).bind λr=>pf (kindOf r) with | some pl=>some ((Ξ pl n).getD 0) | none=>Ξ (eB rows pf n) i) else Ξ (eB rows pf n) i:=by
   rw [eB];cases hb:(rows[n]?).bind λr=>pf (kindOf r) with
   | none=>dsimp only;split <;> rfl
   | some pl=>
    dsimp only;rw [pv];by_cases e:i=n
    ·rw [if_pos e,if_pos (by omega)]
    ·rw [if_neg e,if_neg (by omega)]
  rw [step,ih];by_cases e:i=n
  ·subst e;rw [if_pos rfl,if_neg (aaY _),if_pos (aa8 _)];cases (rows[i]?).bind λr=>pf (kindOf r) with
   | none=>rfl
   | some pl=>rfl
  ·rw [if_neg e];by_cases h:i < n
   ·rw [if_pos h,if_pos (by omega)]
   ·rw [if_neg h,if_neg (by omega)]
theorem J6(k:Str):Ip [Sum.inr "one",Sum.inr "other"] (Sum.inr k)=Δ k:=by
 have e:∀z:Str,decide ((Sum.inr z:Key)=Sum.inr k)=(k==z):=λz=>by
  by_cases h:z=k
  ·rw [decide_eq_true (congrArg Sum.inr h),h];simp
  ·rw [decide_eq_false λy=>h (Sum.inr.inj y)];simp;exact λy=>h y.symm
 show (decide ((Sum.inr (Str.ofString "one"):Key)=Sum.inr k) || (decide ((Sum.inr (Str.ofString "other"):Key)=Sum.inr k) || false))=Δ k;rw [e,e,Bool.or_false];rfl
theorem m7{p1 p2:Pl}{k:Str}(h:Δ k=false):aM p1 p2 k=none:=by unfold Δ at h;rw [Bool.or_eq_false_iff,beq_eq_false_iff_ne,beq_eq_false_iff_ne] at h;unfold aM;rw [if_neg h.1,if_neg h.2]
theorem BE{M:Ms}{k:Nat}{p1 p2:Pl}(h:SI M k p1 p2){z:Str}(hz:Δ z=true):∃ks ds k' pl,M[k]? =some (.cW ks ds)/\b_ ks ds (Sum.inr z)=some (.loc k')/\aM p1 p2 z=some pl/\M[k']? =some (dP pl):=by
 obtain ⟨k1,k2,a,b,c⟩:=h;unfold Δ at hz;rw [Bool.or_eq_true,beq_iff_eq,beq_iff_eq] at hz;rcases hz with rfl | rfl
 ·exact ⟨_,_,k1,p1,a,rfl,rfl,b⟩
 ·exact ⟨_,_,k2,p2,a,rfl,rfl,c⟩
def Nv(M:Ms)(k:Nat)(pf:Str->Option Pl):Prop:=∃ks ds,M[k]? =some (.cW ks ds)/\∀z:Str,Ip ks (Sum.inr z)=(pf z).isSome/\∀pl,pf z=some pl->∃k',b_ ks ds (Sum.inr z)=some (.loc k')/\M[k']? =some (dP pl)
theorem Nv.app{M E:Ms}{k:Nat}{pf:Str->Option Pl}(h:Nv M k pf):Nv (M++E) k pf:=by obtain ⟨ks,ds,a,b⟩:=h;refine ⟨ks,ds,dq a,λz=>⟨(b z).1,λpl e=> ?_⟩⟩;obtain ⟨k',c,d⟩:=(b z).2 pl e;exact ⟨k',c,dq d⟩
theorem SI.Y7{M:Ms}{k:Nat}{p1 p2:Pl}(h:SI M k p1 p2):Nv M k (aM p1 p2):=by
 obtain ⟨k1,k2,a,b,c⟩:=id h;refine ⟨_,_,a,λz=>⟨?_,λpl e=> ?_⟩⟩
 ·rw [J6];cases hz:Δ z with
  | false=>rw [m7 hz];rfl
  | true=>
   obtain ⟨_,_,_,_,_,_,g3,_⟩:=BE h hz;rw [g3];rfl
 ·cases hz:Δ z with
  | false=>rw [m7 hz] at e;cases e
  | true=>
   obtain ⟨ks,ds,k',wL,g1,g2,g3,g4⟩:=BE h hz;rw [a] at g1;cases g1;rw [g3] at e;cases e;exact ⟨k',g2,g4⟩
def R3(A:Addr):DF:=λas M q _=>∃share rows i r k pl,as=[av A share rows, .loc k, .int (i:Nat)]/\M[k]? =some (dP pl)/\rows[i]? =some r/\fj r/\q (.bl (dj pl i (Ν r).length)) M
theorem EE:Γ ["floor","plan","place"] ["floor","plan","place"] (θ pV):=⟨rfl,rfl,rfl,by decide+kernel,rfl,by decide+kernel,by decide+kernel⟩
theorem zZ{f:Addr}{fd:FuncData}(F:cH K "has_door" "has_door" pV f fd)(E:Ev K mg w Cm){cB:Addr}{cC:FuncData}(az:cE P w K mg base 2 Cm "doors" ["self","place"] (pQ Cm) cB cC):af P w K mg base (bX P w) 3 f fd ["floor","plan","place"] (cn K (R3 Cm)):=by
 refine F.dF EE (λds M q x h=> ?_) (λaV A outer s H E' hr=>⟨_,(ι (Β (g7 (Q1 hr (jv 2) (jv 1)) (g7 (yj υ (jG hr (jv 1) (jv 2))) (k8 (KC (jG hr (jv 1) (jv 2)) (bK E.aZ (γ (bL (bt az hr ν (jv 0) (γ (jv 2) η (hs:=μ)))) η (hs:=aA))))))))),λds M q x h=> ?_⟩)
 ·obtain ⟨share,rows,i,r,k,pl,rfl,_⟩:=h;rfl
 ·obtain ⟨share,rows,i,r,k,pl,rfl,hk,hi,ro,h⟩:=h;unfold dj at h;have gi:(Sum.inl (i:Int):Key)=Sum.inl ((i:Nat):Int):=rfl;refine ⟨k,_,_,Sum.inl (i:Int),rfl,hk,rfl, ?_⟩;rw [KS];cases hg:Ξ pl i with
  | none=>
   rw [hg] at h;exact ⟨λz=>(nomatch z),λ_=>h⟩
  | some v=>
   rw [hg] at h;have h:q (.bl (decide (0<=v)&&decide (v < ((Ν r).length:Int)))) M:=h;have dg:b_ (kP pl) (vP pl) (Sum.inl (i:Int))=some (.int v):=by rw [xU,hg];rfl
   refine ⟨λ_=> ?_,λz=>(nomatch z)⟩;refine ⟨k,_,_,Sum.inl (i:Int),_,rfl,hk,rfl,dg, ?_⟩;refine ⟨λz=> ?_,λz=> ?_⟩
   ·have z:0<=v:=of_decide_eq_true z;rw [decide_eq_true z,Bool.true_and] at h;refine ⟨k,_,_,Sum.inl (i:Int),_,rfl,hk,rfl,dg, ?_⟩;refine ⟨⟨_,_, .inl rfl,rfl⟩,share,rows,i,r,rfl,hi,ro,cG (gP _) ?_⟩;walk_at "vc";refine (ae (d:= .lst ((Ν r).map ef)) (xs:=(Ν r).map ef) rfl ?_:fb [.lst ((Ν r).map ef)] _ _);rw [aae];exact h
   ·have z:¬0<=v:=of_decide_eq_false z;rw [decide_eq_false z,Bool.false_and] at h;have key:decide (0<=v)=false:=decide_eq_false z;exact h
def qN(A:Addr):DF:=λas M q _=>∃share rows k pf,as=[av A share rows, .loc k]/\Nv M k pf/\N_ share rows/\(∀i,i < rows.length->eG rows pf i=true)/\q (.loc M.length) (M++[dP (eB rows pf rows.length)])
theorem ki:Γ ["floor","plans","doors","place","hand"] ["floor","plans"] (θ pH):=⟨rfl,rfl,rfl,by decide+kernel,rfl,by decide+kernel,by decide+kernel⟩
theorem Ay{f:Addr}{fd:FuncData}(F:cH K "doors_of" "doors_of" pH f fd)(E:Ev K mg w Cm){dh:Addr}{de:FuncData}(aJ:cE P w K mg base 1 Cm "size" ["self"] (yz Cm) dh de){aE:Addr}{aC:FuncData}(Μ:cE P w K mg base 1 Cm "kind" ["self","place"] (mM Cm) aE aC){Iy:Addr}{Gm:FuncData}(nO:aj P w K mg base 3 "has_door" ["floor","plan","place"] (R3 Cm) Iy Gm):af P w K mg base (bX P w) 4 f fd ["floor","plans"] (cn K (qN Cm)):=by
 refine F.dF ki (λds M q x h=> ?_) (λaV A outer s H E' hr=>⟨_,(ζ (ω (i:=2) ki.nd rfl (Or.inl rfl) uj)
   (ζ (hG (cv E.bG (γ (j7 aJ hr ν (jv 0)) η (hs:=aA))) (ag (i:=3) ki.nd rfl (Or.inl rfl)) aP (ζ (ω (i:=4) ki.nd rfl (Or.inl rfl) (bt Μ hr ν (jv 0) (γ (jv 3) η (hs:=μ))))
   (ζ (aB (CV hr (jv 4) (jv 1)) (ι oz) Τ)
   (ζ (aB (f_ (bW (aa nO hr ν (γ (jv 0) (γ (jG hr (jv 1) (jv 4)) (γ (jv 3) η (hs:=μ)) (hs:=aU)) (hs:=μ))))) (ι fU) Τ)
   (ι (o7 hr (jv 2) (jv 3) (jG hr (jG hr (jv 1) (jv 4)) (jv 3))))))))
   (ι (Β (jv 2))))),λds M q x h=> ?_⟩)
 ·obtain ⟨share,rows,k,pf,rfl,_⟩:=h;rfl
 ·obtain ⟨share,rows,k,pf,rfl,tw,pl,YR,hg⟩:=h;have oE:=pl.len;have km:k≠M.length:=λe=>by obtain ⟨ks,ds,a,_⟩:=tw;rw [e,List.getElem?_eq_none (aaj _)] at a;cases a
  walk_at "vc";refine ⟨⟨_,_, .inl rfl,rfl⟩,share,rows,rfl, ?_⟩;refine ⟨by omega, ?_⟩;rw [show ((rows.length:Int)).toNat=rows.length by omega];refine cq (λzs ρ' M'=>∃(i m:Nat) (o3 o4:Option Dt),zs=dc (i:Int) m/\i+m=rows.length/\M'=M++[dP (eB rows pf i)]/\ρ'=[some (av Cm share rows),some (.loc k),some (.loc M.length),o3,o4]) (λx zs ρ' M' hj fe=> ?_) (λρ' M' hj=> ?_) _ _ _ ⟨0,rows.length,none,none,rfl,by omega,rfl,rfl⟩
  ·obtain ⟨i,m,o3,o4,ex,im,rfl,rfl⟩:=hj;obtain ⟨m',rfl,rfl,rfl⟩:=b8 ex;have il:i < rows.length:=by omega
   have hi:rows[i]? =some rows[i]:=aaa il;generalize hr0:rows[i]=r at *
   have rm:r∈rows:=aal hi;have ro:=(pl.row r rm).1;have ga:eG rows pf i=i_ pf i r:=by unfold eG;rw [hi]
   have ac:∀wL,pf (kindOf r)=some wL->eB rows pf (i+1)=dZ (eB rows pf i) i ((Ξ wL i).getD 0):=λwL e=>by rw [eB,hi];show (match pf (kindOf r) with | some pl=>_ | none=>_)=_;rw [e]
   have an:pf (kindOf r)=none->eB rows pf (i+1)=eB rows pf i:=λe=>by rw [eB,hi];show (match pf (kindOf r) with | some pl=>_ | none=>_)=_;rw [e]
   obtain ⟨ks,ds,ca,cb⟩:=(tw.app:Nv (M++[dP (eB rows pf i)]) k pf);refine ⟨⟨_,_, .inl rfl,rfl⟩,share,rows,i,r,rfl,hi, ?_⟩;refine ⟨k,_,_,Sum.inr (kindOf r),rfl,ca,rfl, ?_⟩;rw [(cb (kindOf r)).1];cases hh:pf (kindOf r) with
   | none=>
    refine ⟨λ_=> ?_,λz=>(nomatch z)⟩;have e:=hh;refine fe _ _ ⟨i+1,m',_,_,by rw [abL];rfl,by omega,by rw [an e],rfl⟩
   | some wL=>
    refine ⟨λz=>(nomatch z),λ_=> ?_⟩;obtain ⟨k',g2,g4⟩:=(cb (kindOf r)).2 wL hh;have g1:=ca;have g3:=hh;refine ⟨k,ks,ds,Sum.inr (kindOf r),_,rfl,g1,rfl,g2, ?_⟩;have gr:i_ pf i r=dj wL i (Ν r).length:=by unfold i_;rw [g3]
    refine ⟨share,rows,i,r,k',wL,rfl,g4,hi,ro,λz=> ?_,λz=> ?_⟩
    ·have z:dj wL i (Ν r).length=false:=by simpa using z
     have:=YR i il;rw [ga,gr,z] at this;cases this
    ·have z:dj wL i (Ν r).length=true:=by simpa using z
     obtain ⟨v,hv⟩:∃v,Ξ wL i=some v:=by
      unfold dj at z;cases hv:Ξ wL i with
      | none=>rw [hv] at z;cases z
      | some v=>exact ⟨v,rfl⟩
     have dg:b_ (kP wL) (vP wL) (Sum.inl (i:Int))=some (.int v):=by rw [xU,hv];rfl
     dsimp only [uP,Ir];walk_at "vc";refine ⟨k,ks,ds,Sum.inr (kindOf r),_,rfl,g1,rfl,g2, ?_⟩;refine ⟨k',_,_,Sum.inl (i:Int),_,rfl,g4,rfl,dg, ?_⟩;refine ⟨M.length,_,_,Sum.inl (i:Int),rfl,aq,rfl, ?_, ?_⟩
     ·unfold kP;rw [List.length_map];have:=uz rows pf i;omega
     rw [tU (v:=v),yQ,cU];have e:=ac wL g3;rw [hv] at e;have e:eB rows pf (i+1)=dZ (eB rows pf i) i v:=e;refine fe _ _ ⟨i+1,m',_,_,by rw [abL];rfl,by omega,by rw [e],rfl⟩
  ·obtain ⟨i,m,o3,o4,ex,im,rfl,rfl⟩:=hj;have m0:m=0:=by have:=congrArg List.length ex;rw [fQ] at this;exact this.symm
   have:i=rows.length:=by omega
   subst this;exact hg
structure iQ(rows:List Rw)(Ε:Pl):Prop where
 hand:∀(i:Nat) (r:Rw),rows[i]? =some r->Δ (kindOf r)=true->∃j:Nat,Ξ Ε i=some (j:Int)/\j < (Ν r).length
 Jg:∀(i:Nat) (r:Rw),rows[i]? =some r->Δ (kindOf r)=false->Ξ Ε i=none
theorem Lo{rows:List Rw}{p1 p2:Pl}(h:∀i,i < rows.length->eG rows (aM p1 p2) i=true):iQ rows (eB rows (aM p1 p2) rows.length):=by
 refine ⟨λi r hi hk=> ?_,λi r hi hk=> ?_⟩
 ·have il:=(aag.mp hi).1;have g:=h i il;unfold eG at g;rw [hi] at g;have g:i_ (aM p1 p2) i r=true:=g;obtain ⟨pl,e⟩:∃pl,aM p1 p2 (kindOf r)=some pl:=by
   unfold Δ at hk;rw [Bool.or_eq_true,beq_iff_eq,beq_iff_eq] at hk;rcases hk with e | e <;> rw [e]
   ·exact ⟨p1,rfl⟩
   ·exact ⟨p2,rfl⟩
  unfold i_ at g;rw [e] at g;have g:dj pl i (Ν r).length=true:=g;unfold dj at g;cases hv:Ξ pl i with
  | none=>rw [hv] at g;cases g
  | some v=>
   rw [hv] at g;have g:(decide (0<=v)&&decide (v < ((Ν r).length:Int)))=true:=g;rw [aas,decide_eq_true_iff,decide_eq_true_iff] at g;refine ⟨v.toNat, ?_,by omega⟩;rw [iH,if_pos il,hi];show Option.map (λpl=>(Ξ pl i).getD 0) (aM p1 p2 (kindOf r))=_;rw [e];show some ((Ξ pl i).getD 0)=_;rw [hv,abY g.1];rfl
 ·have il:=(aag.mp hi).1;rw [iH,if_pos il,hi];show Option.map (λpl=>(Ξ pl i).getD 0) (aM p1 p2 (kindOf r))=_;rw [m7 hk];rfl
def ay(Ε:Pl)(i:Nat)(r:Rw):List bQ:=match Ξ Ε i with
 | some j=>let d:=(Ν r).getD j.toNat d0;[(d.1,d.2.1,d.2.2++[(1,1)])]
 | none=>Ν r
def LI(A:Addr):DF:=λas M q _=>∃share rows i r k Ε,as=[av A share rows, .int (i:Nat), .loc k]/\M[k]? =some (dP Ε)/\rows[i]? =some r/\fj r/\iQ rows Ε/\q (.lst ((ay Ε i r).map ef)) M
theorem p_:Γ ["floor","place","doors","ways"] ["floor","place","doors"] (θ oa):=⟨rfl,rfl,rfl,by decide+kernel,rfl,by decide+kernel,by decide+kernel⟩
theorem yL{f:Addr}{fd:FuncData}(F:cH K "ways_from" "ways_from" oa f fd)(E:Ev K mg w Cm){cB:Addr}{cC:FuncData}(az:cE P w K mg base 2 Cm "doors" ["self","place"] (pQ Cm) cB cC){aE:Addr}{aC:FuncData}(Μ:cE P w K mg base 1 Cm "kind" ["self","place"] (mM Cm) aE aC):af P w K mg base (bX P w) 3 f fd ["floor","place","doors"] (cn K (LI Cm)):=by
 refine F.dF p_ (λds M q x h=> ?_) (λaV A outer s H E' hr=>⟨_,(ζ (ω (i:=3) p_.nd rfl (Or.inl rfl) (bL (bt az hr ν (jv 0) (γ (jv 1) η (hs:=μ)))))
   (ζ (aB (IC (bt Μ hr ν (jv 0) (γ (jv 1) η (hs:=μ))) (Gj E.vU)) (ι (Β (kH (γ (cf (Ι (jv 3) (jG hr (jv 2) (jv 1))) (cJ 3 (d:= .tup [.tup [.int 1, .int 1]]) (by rfl))) η (hs:=bC))))) Τ)
   (ι (Β (jv 3))))),λds M q x h=> ?_⟩)
 ·obtain ⟨share,rows,i,r,k,Ε,rfl,_⟩:=h;rfl
 ·obtain ⟨share,rows,i,r,k,Ε,rfl,hk,hi,ro,dk,h⟩:=h;refine ⟨⟨_,_, .inl rfl,rfl⟩,share,rows,i,r,rfl,hi,ro,cG (gP _) ?_⟩;refine ⟨⟨_,_, .inl rfl,rfl⟩,share,rows,i,r,rfl,hi, ?_⟩;refine ⟨_,_,_,rfl,rfl,rfl, ?_⟩;rw [qg];cases hh:Δ (kindOf r) with
  | true=>
   refine ⟨λ_=> ?_,λz=>(nomatch z)⟩;obtain ⟨j,hj,jl⟩:=dk.hand i r hi hh;have dg:b_ (kP Ε) (vP Ε) (Sum.inl (i:Int))=some (.int (j:Int)):=by rw [xU,hj];rfl
   have e:ay Ε i r=[(((Ν r).getD j d0).1,((Ν r).getD j d0).2.1,((Ν r).getD j d0).2.2++[(1,1)])]:=by unfold ay;rw [hj];rfl
   rw [e] at h;have gd:(Ν r).getD j d0=(Ν r)[j]:=by rw [aab,aaa jl];rfl
   have dm:(Ν r)[j].2.2.length<=1:=by
    cases r with
    | fin p=>exact absurd jl (abq _)
    | τ k' ds=>exact (ro.2.2.2 _ (aaA jl)).1
   rw [gd] at h;obtain ⟨d,hd⟩:∃d,d=(Ν r)[j]:=⟨_,rfl⟩;rw [<-hd] at h dm;walk_at "vc";refine ⟨k,_,_,Sum.inl (i:Int),_,rfl,hk,rfl,dg, ?_⟩;refine (Ζ (d:= .lst ((Ν r).map ef)) rfl (RM jl) ?_:d7 (.lst ((Ν r).map ef)) (.int (j:Int)) _ _);rw [<-hd];have sz:∀{z:Nat},z<=1000->z<=sizeLine:=λh=>aaw h (by decide);refine ⟨⟨λz=>(nomatch z),sz ?_⟩,sz (by decide), ?_⟩
   ·simp;omega
   have e2:ef (d.1,d.2.1,d.2.2++[(1,1)])= .tup ((.int d.1::Υ d.2.1::d.2.2.map Υ)++[.tup [.int 1, .int 1]]):=by unfold ef;rw [List.map_append];rfl
   have h:q (.lst [ef (d.1,d.2.1,d.2.2++[(1,1)])]) M:=h;rw [e2] at h;exact h
  | false=>
   refine ⟨λz=>(nomatch z),λ_=> ?_⟩;have e:ay Ε i r=Ν r:=by unfold ay;rw [dk.Jg i r hi hh]
   rw [e] at h;exact h
def dI(f:Nat->Rat):Nat->Rat
 | 0=>0
 | n+1=>dI f n+f n
def aI(f:bQ->Rat):List bQ->Rat
 | []=>0
 | d::ds=>f d+aI f ds
theorem c7{f g:Nat->Rat}:∀{n:Nat},(∀i,i < n->f i=g i)->dI f n=dI g n
 | 0,_=>rfl
 | n+1,h=>by show dI f n+f n=dI g n+g n;rw [c7 λi hi=>h i (abK hi),h n (aa8 _)]
theorem rF(a b:Rat)(f g:Nat->Rat):∀n,dI (λi=>a * f i - b * g i) n=a * dI f n - b * dI g n
 | 0=>by show (0:Rat)=a * 0 - b * 0;grind
 | n+1=>by show dI (λi=>a * f i - b * g i) n+(a * f n - b * g n)=a * (dI f n+f n) - b * (dI g n+g n);rw [rF a b f g n];grind
theorem xw{t:Nat}(y:Nat->Rat):∀{n:Nat},n<=t->dI (λx=>(if x=t then 1 else 0) * y x) n=0
 | 0,_=>rfl
 | n+1,h=>by show dI (λx=>(if x=t then 1 else 0) * y x) n+(if n=t then 1 else 0) * y n=0;rw [xw y (by omega),if_neg (by omega)];grind
theorem pU{t:Nat}(y:Nat->Rat):∀{n:Nat},t < n->dI (λx=>(if x=t then 1 else 0) * y x) n=y t
 | 0,h=>absurd h (abq _)
 | n+1,h=>by
  show dI (λx=>(if x=t then 1 else 0) * y x) n+(if n=t then 1 else 0) * y n=y t;by_cases e:n=t
  ·subst e;rw [xw y (Nat.le_refl _),if_pos rfl];grind
  ·rw [pU y (by omega),if_neg e];grind
theorem nH(f:Nat->Int):∀n,((Bz.Α f n:Int):Rat)=dI (λi=>(f i:Rat)) n
 | 0=>rfl
 | n+1=>by show ((Bz.Α f n+f n:Int):Rat)=dI (λi=>(f i:Rat)) n+f n;rw [Rat.intCast_add,nH f n]
def ab(q:Rat):Rat:=if q < 0 then -q else q
theorem kL{x m:Rat}:ab x<=m↔ -m<=x/\x<=m:=by unfold ab;split <;> grind
theorem NI(x:Rat):0<=ab x:=by unfold ab;split <;> grind
theorem Hw(x:Nat->Rat):∀n,∃i,i < n+1/\∀j,j < n+1->ab (x j)<=ab (x i)
 | 0=>⟨0,by omega,λj hj=>by rw [show j=0 by omega];grind⟩
 | n+1=>by
  obtain ⟨i,hi,h⟩:=Hw x n;by_cases c:ab (x i)<=ab (x (n+1))
  ·refine ⟨n+1,by omega,λj hj=> ?_⟩;by_cases e:j=n+1
   ·subst e;grind
   ·have:=h j (by omega);grind
  ·refine ⟨i,by omega,λj hj=> ?_⟩;by_cases e:j=n+1
   ·subst e;grind
   ·exact h j (by omega)
theorem IY{n:Nat}{x:Nat->Rat}{s c:Rat}(s1:s < 1)(h:∀i,i < n->∀m,(∀j,j < n->ab (x j)<=m)->ab (x i)<=c+s * m):∀i,i < n->ab (x i) * (1 - s)<=c:=λi hi=>by obtain ⟨k,rfl⟩:∃k,n=k+1:=⟨n - 1,by omega⟩;obtain ⟨t,ht,Sh⟩:=Hw x k;have h1:=h t ht _ Sh;have h2:=Sh i hi;have:=Rat.mul_le_mul_of_nonneg_right h2 (show 0<=1 - s by grind);grind
theorem lD{f g:bQ->Rat}:∀{ds:List bQ},(∀d∈ds,f d=g d)->aI f ds=aI g ds
 | [],_=>rfl
 | d::ds,h=>by show f d+aI f ds=g d+aI g ds;rw [h d aaf,lD λx hx=>h x (aad _ hx)]
theorem rq(f g:bQ->Rat):∀ds:List bQ,aI (λd=>f d - g d) ds=aI f ds - aI g ds
 | []=>by show (0:Rat)=0 - 0;grind
 | d::ds=>by show (f d - g d)+aI (λd=>f d - g d) ds=(f d+aI f ds) - (g d+aI g ds);rw [rq f g ds];grind
abbrev cV(d:bQ):Rat:=val (χ d)
structure zS(n:Nat)(ways:List bQ):Prop where
 to:∀d∈ways,0<=d.1/\d.1 < n
 c0:∀d∈ways,0<=cV d
 one:aI cV ways<=1
theorem BO{n:Nat}{y:Nat->Rat}{m:Rat}(hm:∀j,j < n->ab (y j)<=m):∀{ways:List bQ},(∀d∈ways,0<=d.1/\d.1 < n)->(∀d∈ways,0<=cV d)->ab (aI (λd=>cV d * y d.1.toNat) ways)<=aI cV ways * m
 | [],_,_=>by show ab 0<=0 * m;unfold ab;rw [if_neg (by grind)];grind
 | d::ways,h1,h2=>by have i:=BO hm (λx hx=>h1 x (aad _ hx)) (λx hx=>h2 x (aad _ hx));obtain ⟨a,b⟩:=h1 d aaf;have c:=h2 d aaf;have y1:=kL.mp (hm d.1.toNat (by omega));show ab (cV d * y d.1.toNat+aI (λd=>cV d * y d.1.toNat) ways)<=(cV d+aI cV ways) * m;have e1:=aaK y1.1 c;have e2:=aaK y1.2 c;have i:=kL.mp i;refine kL.mpr ⟨?_, ?_⟩ <;> grind
theorem Cv{n:Nat}{ways:List bQ}(w:zS n ways)(n0:0 < n){y:Nat->Rat}{m:Rat}(hm:∀j,j < n->ab (y j)<=m):ab (aI (λd=>cV d * y d.1.toNat) ways)<=m:=by
 have:=BO hm w.to w.c0;have m0:0<=m:=by have:=hm 0 n0;have:=NI (y 0);grind
 have:=abt w.one m0;grind
theorem IS{B:Int}{c:Fr}(h:0 < c.2)(hd:c.2∣B):((lX B c:Int):Rat)=val c * B:=by
 obtain ⟨k,rfl⟩:=hd;unfold lX val;rw [abg _ (by omega),aaG,aaG];have:=aQ (show c.2≠0 by omega);generalize (c.1:Rat)=a at *
 generalize (c.2:Rat)=b at *
 generalize (k:Rat)=e at *
 grind
theorem GK{B:Int}:∀{ds:List bQ},(∀d∈ds,0 < (χ d).2/\(χ d).2∣B)->((((ds.map χ).map (lX B)).sum:Int):Rat)=aI cV ds * B
 | [],_=>by show ((0:Int):Rat)=0 * B;grind
 | d::ds,h=>by have i:=GK (ds:=ds) λx hx=>h x (aad _ hx);obtain ⟨a,b⟩:=h d aaf;show (((lX B (χ d)+((ds.map χ).map (lX B)).sum:Int)):Rat)=(cV d+aI cV ds) * B;rw [Rat.intCast_add,i,IS a b];grind
theorem p8{c:Fr}(h:0 < c.2)(h0:0<=c.1):0<=val c:=by
 have e:val c * (c.2:Rat)=c.1:=by
  have:=aQ (show c.2≠0 by omega);unfold val;generalize (c.1:Rat)=x at *
  generalize (c.2:Rat)=y at *
  grind
 have p:(0:Rat) < (c.2:Rat):=abl.mpr h;have q:(0:Rat)<=(c.1:Rat):=aaX.mpr h0;by_cases z:0<=val c
 ·exact z
 ·have:=Rat.mul_pos (show 0 < -val c by grind) p;grind
theorem JL{ds:List bQ}(o:Ht (ds.map χ)):aI cV ds=1/\∀d∈ds,0<=cV d:=by
 obtain ⟨_,_,hB⟩:=ir (ds.map χ) 1 0 (by decide) (ab8 _) λc hc=>⟨(o.Ja.2 c hc).1,ab8 _⟩;have hm:∀d∈ds,χ d∈ds.map χ:=λd hd=>aak.mpr ⟨d,hd,rfl⟩;have e:=GK (B:=bj (ds.map χ)) (ds:=ds) λd hd=>⟨(o.Ja.2 _ (hm d hd)).1,hB _ (hm d hd)⟩;rw [o.sum] at e;have b0:=aQ (show bj (ds.map χ)≠0 by have:=o.b0;omega);refine ⟨?_,λd hd=> ?_⟩
 ·generalize ((bj (ds.map χ):Int):Rat)=b at *
  grind
 ·refine p8 (o.Ja.2 _ (hm d hd)).1 ?_;have p:=o.pos _ (hm d hd);unfold lX at p;have q0:0<=bj (ds.map χ) / (χ d).2:=Int.ediv_nonneg (aah o.b0) (aah (o.Ja.2 _ (hm d hd)).1);rcases ab1 (χ d).1 0 with z | z
  ·have:=Int.mul_nonpos_of_nonpos_of_nonneg (aah z) q0;omega
  ·exact z
theorem D7{p q:Fr}(hp:0 < p.2)(hq:0 < q.2):val (hU p q)=val p - val q:=by
 unfold hU;rw [jw (abh (aaJ hp hq))];have h1:=aQ (show p.2≠0 by omega);have h2:=aQ (show q.2≠0 by omega);rw [Rat.intCast_sub,aaG,aaG,aaG];unfold val;generalize (p.1:Rat)=a at *
 generalize (p.2:Rat)=b at *
 generalize (q.1:Rat)=c at *
 generalize (q.2:Rat)=d at *
 grind
theorem AZ{p q:Fr}{E:Int}(hp:0 < p.2)(hq:0 < q.2)(h:gH p E)(h':gH q E):gH (hU p q) E:=by obtain ⟨N,e⟩:=h;obtain ⟨N',e'⟩:=h';unfold hU;exact nK (N:=N - N') (Int.ne_of_gt (Int.mul_pos hp hq)) (by grind)
theorem Ek{p q:Fr}{C D:Int}(hp:0 < p.2)(hq:0 < q.2)(h:dG p C)(h':dG q D):dG (hU p q) (C+D):=by
 unfold hU;have a:=bH h.1 (aah hq);have b:=bH h'.1 (aah hp);have c:=bH h.2 (aah hq);have d:=bH h'.2 (aah hp);refine mf (aaJ hp hq) ?_ ?_
 ·have e:p.2 * q.2 * (C+D)=p.2 * C * q.2+q.2 * D * p.2:=by grind
  have e2: -(q.2 * D) * p.2= -(q.2 * D * p.2):=by grind
  omega
 ·have e: -(p.2 * q.2 * (C+D))= -(p.2 * C) * q.2+ -(q.2 * D * p.2):=by grind
  omega
structure Nr(E C:Int)(p:Fr):Prop where
 red:Red p
 he:gH p E
 ab:dG p C
structure lM(n:Nat)(E C:Int)(v:Nat->Rat)(ns:List Fr):Prop where
 len:ns.length=n
 nr:∀x,x < n->Nr E C (ns.getD x (0,1))
 val:∀x,x < n->val (ns.getD x (0,1))=v x
def qa(share:Fr)(ns:List Fr)(d:bQ):List Fr:=ns.set d.1.toNat (hU (ns.getD d.1.toNat (0,1)) (aL share (χ d)))
def fZ(share:Fr)(n i:Nat)(ways:List bQ):List Fr:=ways.foldl (qa share) ((List.replicate n ((0,1):Fr)).set i (1,1))
theorem V_{E C:Int}(c:0<=C):Nr E C (0,1):=⟨⟨by decide,by decide⟩,⟨0,by simp⟩,⟨by show (0:Int)<=1 * C;omega,by show -(1 * C)<=(0:Int);omega⟩⟩
theorem Tz{E:Int}:Nr E 1 (1,1):=⟨⟨by decide,by decide⟩,⟨E,by simp⟩,⟨by decide,by decide⟩⟩
theorem yZ{ns:List Fr}{t x:Nat}{a:Fr}(h:t < ns.length):(ns.set t a).getD x (0,1)=if x=t then a else ns.getD x (0,1):=by
 rw [aab,List.getElem?_set];by_cases e:x=t
 ·subst e;rw [if_pos rfl,if_pos h,if_pos rfl];rfl
 ·rw [if_neg (Ne.symm e),if_neg e,<-aab]
theorem HN{n i:Nat}{E:Int}(hi:i < n):lM n E 1 (λx=>if x=i then 1 else 0) ((List.replicate n ((0,1):Fr)).set i (1,1)):=by
 have g:∀x,((List.replicate n ((0,1):Fr)).set i (1,1)).getD x (0,1)=if x=i then (1,1) else (0,1):=λx=>by
  rw [yZ (by simpa using hi)]
  congr 1
  rw [aab,abw];split <;> rfl
 refine ⟨by simp,λx _=> ?_,λx _=> ?_⟩
 ·rw [g];split
  ·exact Tz
  ·exact V_ (by decide)
 ·rw [g];show Pg.val (if x=i then (1,1) else (0,1))=if x=i then 1 else 0
  unfold Pg.val;split
  ·show ((1:Int):Rat) / ((1:Int):Rat)=1;grind
  ·show ((0:Int):Rat) / ((1:Int):Rat)=0;grind
structure O_(share:Fr)(E:Int)(d:bQ):Prop where
 s0:0 < share.2
 su:gz share
 c0:0 < (χ d).2
 cu:gz (χ d)
 he:gH (aL share (χ d)) E
theorem O_.nr{share:Fr}{E:Int}{d:bQ}(h:O_ share E d):Nr E 1 (aL share (χ d)):=by have p:=aaJ h.s0 h.c0;have u:=AD h.s0 h.c0 h.su h.cu;have r:Red (aL share (χ d)):=bZ (abh p);have rp:=r.pos;obtain ⟨u1,u2⟩:=u;exact ⟨r,h.he,⟨by omega,by omega⟩⟩
theorem wQ{n:Nat}{share:Fr}{E C:Int}{v:Nat->Rat}{ns:List Fr}{d:bQ}(h:lM n E C v ns)(c:0<=C)(hd:0<=d.1/\d.1 < n)(sc:O_ share E d):lM n E (C+1) (λx=>v x - Pg.val share * ((if d.1.toNat=x then 1 else 0) * cV d)) (qa share ns d):=by
 have ht:d.1.toNat < ns.length:=by rw [h.len];omega
 have k:=sc.nr;have g:=λx=>yZ (x:=x) (a:=hU (ns.getD d.1.toNat (0,1)) (aL share (χ d))) ht;refine ⟨by unfold qa;rw [List.length_set];exact h.len,λx hx=> ?_,λx hx=> ?_⟩
 ·unfold qa;rw [g];have a:=h.nr x hx;split
  ·rename_i e;rw [<-e];have p:=aaJ a.red.pos k.red.pos;exact ⟨bZ (abh p),AZ a.red.pos k.red.pos a.he k.he,Ek a.red.pos k.red.pos a.ab k.ab⟩
  ·have:=aav (show C<=C+1 by omega) (aah a.red.pos);exact ⟨a.red,a.he,⟨abr a.ab.1 this,by have:=a.ab.2;omega⟩⟩
 ·unfold qa;rw [g];have a:=h.nr x hx;have b:=h.val x hx;split
  ·rename_i e;rw [<-e,D7 a.red.pos k.red.pos,b,nh sc.s0 sc.c0,if_pos rfl];grind
  ·rename_i e;rw [b,if_neg (Ne.symm e)];grind
theorem tM{n:Nat}{share:Fr}{E:Int}:∀{ways:List bQ} {ns:List Fr} {v:Nat->Rat} {C:Int},(∀d∈ways,(0<=d.1/\d.1 < n)/\O_ share E d)->0<=C->lM n E C v ns->lM n E (C+ways.length) (λx=>v x - Pg.val share * aI (λd=>(if d.1.toNat=x then 1 else 0) * cV d) ways) (ways.foldl (qa share) ns)
 | [],ns,v,C,_,_,h=>by
  refine ⟨h.len,λx hx=> ?_,λx hx=> ?_⟩
  ·rw [List.length_nil,Int.natCast_zero,Int.add_zero];exact h.nr x hx
  ·show _=v x - Pg.val share * 0;rw [show v x - Pg.val share * 0=v x by grind];exact h.val x hx
 | d::ways,ns,v,C,hw,c,h=>by obtain ⟨h1,h2⟩:=hw d aaf;have i:=tM (ways:=ways) (λx hx=>hw x (aad _ hx)) (by omega) (wQ h c h1 h2);rw [abp,aau,show C+((ways.length+1:Nat):Int)=C+1+ways.length by omega];refine ⟨i.len,i.nr,λx hx=> ?_⟩;rw [i.val x hx];show v x - Pg.val share * ((if d.1.toNat=x then 1 else 0) * cV d) - Pg.val share * aI (λd=>(if d.1.toNat=x then 1 else 0) * cV d) ways=v x - Pg.val share * ((if d.1.toNat=x then 1 else 0) * cV d+aI (λd=>(if d.1.toNat=x then 1 else 0) * cV d) ways);grind
def vW(s:Rat)(i:Nat)(ways:List bQ)(x:Nat):Rat:=(if x=i then 1 else 0) - s * aI (λd=>(if d.1.toNat=x then 1 else 0) * cV d) ways
theorem J0{n i:Nat}{share:Fr}{E:Int}{ways:List bQ}(hi:i < n)(hw:∀d∈ways,(0<=d.1/\d.1 < n)/\O_ share E d):lM n E (1+ways.length) (vW (Pg.val share) i ways) (fZ share n i ways):=tM hw (by decide) (HN hi)
theorem IQ{n i:Nat}{s:Rat}(hi:i < n)(y:Nat->Rat):∀{ways:List bQ},(∀d∈ways,0<=d.1/\d.1 < n)->dI (λx=>vW s i ways x * y x) n=y i - s * aI (λd=>cV d * y d.1.toNat) ways
 | [],_=>by rw [c7 (g:=λx=>(if x=i then 1 else 0) * y x) λx _=>by show ((if x=i then 1 else 0) - s * 0) * y x=_;grind];rw [pU y hi];show y i=y i - s * 0;grind
 | d::ways,h=>by
  obtain ⟨a,b⟩:=h d aaf;have ih:=IQ (s:=s) hi y (ways:=ways) λx hx=>h x (aad _ hx)
  rw [c7 (g:=λx=>1 * (vW s i ways x * y x) - (s * cV d) * ((if x=d.1.toNat then 1 else 0) * y x)) λx _=>by
   show ((if x=i then 1 else 0) - s * ((if d.1.toNat=x then 1 else 0) * cV d+aI (λd=>(if d.1.toNat=x then 1 else 0) * cV d) ways)) * y x=1 * (((if x=i then 1 else 0) - s * aI (λd=>(if d.1.toNat=x then 1 else 0) * cV d) ways) * y x) - (s * cV d) * ((if x=d.1.toNat then 1 else 0) * y x);by_cases e:x=d.1.toNat
   ·rw [if_pos e,if_pos e.symm];grind
   ·rw [if_neg e,if_neg (Ne.symm e)];grind]
  rw [rF,ih,pU y (show d.1.toNat < n by omega)];show _=y i - s * (cV d * y d.1.toNat+aI (λd=>cV d * y d.1.toNat) ways);grind
def lN(ns:List Fr):List Int:=ns.map λc=>c.1 * (bj ns / c.2)
theorem w4{ns:List Fr}{E C:Int}(h:∀c∈ns,Nr E C c)(e0:0 < E)(c0:0<=C):0 < bj ns/\bj ns<=E/\∀c∈ns,((lX (bj ns) c:Int):Rat)=val c * (bj ns:Int)/\ -(C * E)<=lX (bj ns) c/\lX (bj ns) c<=C * E:=by
 have b0:0 < bj ns:=eW ns 1 (by decide) λc hc=>(h c hc).red.pos;obtain ⟨d1,_,d3⟩:=ir ns 1 E (by decide) (Int.one_dvd _) λc hc=>⟨(h c hc).red.pos,wA (h c hc).red (h c hc).he⟩;have le:=abP e0 d1;refine ⟨b0,le,λc hc=>⟨IS (h c hc).red.pos (d3 c hc), ?_⟩⟩;have hd:=d3 c hc;have cp:=(h c hc).red.pos;obtain ⟨a1,a2⟩:=(h c hc).ab;have le:bj ns<=E:=le;have b0:0 < bj ns:=b0;generalize hL:bj ns=L at *
 have hd:c.2∣L:=by rw [<-hL];exact hd
 obtain ⟨k,rfl⟩:=hd;unfold lX;rw [abg _ (by omega)];have k0:0<=k:=by
  rcases ab1 k 0 with z | z
  ·have:=abH cp z;omega
  ·exact z
 have m1:=bH a1 k0;have m2:=bH a2 k0;have m3:=aav le c0;have e1:c.2 * C * k=C * (c.2 * k):=by grind
 have e2: -(c.2 * C) * k= -(C * (c.2 * k)):=by grind
 exact ⟨by omega,by omega⟩
def lI(share:Fr)(n i:Nat)(ways:List bQ)(given:Fr):List Int:=lN (fZ share n i ways++[given])
structure tQ(share:Fr)(n:Nat)(E C:Int)(ways:List bQ)(given:Fr):Prop where
 wo:zS n ways
 sc:∀d∈ways,O_ share E d
 gn:Nr E C given
 e0:0 < E
 cl:1+(ways.length:Int)<=C
theorem xP{E C D:Int}{p:Fr}(h:Nr E C p)(l:C<=D):Nr E D p:=by have:=aav l (aah h.red.pos);obtain ⟨a,b⟩:=h.ab;exact ⟨h.red,h.he,⟨by omega,by omega⟩⟩
theorem CG{ns:List Fr}{x:Nat}(h:x < ns.length):ns.getD x (0,1)∈ns:=by rw [aab,aaa h];exact aaA h
theorem AR{share:Fr}{n i:Nat}{E C:Int}{ways:List bQ}{given:Fr}(hi:i < n)(p:tQ share n E C ways given):(lI share n i ways given).length=n+1/\(∀x∈lI share n i ways given, -(C * E)<=x/\x<=C * E)/\∃L:Rat,0 < L/\(∀y:Nat->Rat,dI (λx=>((lI share n i ways given).getD x 0:Rat) * y x) n=L * (y i - Pg.val share * aI (λd=>cV d * y d.1.toNat) ways))/\((lI share n i ways given).getD n 0:Rat)=L * Pg.val given:=by
 have no:=J0 hi λd hd=>⟨p.wo.to d hd,p.sc d hd⟩;have c0:0<=C:=by have:=p.cl;omega
 have all:∀c∈fZ share n i ways++[given],Nr E C c:=λc hc=>by
  rcases aaN.mp hc with z | z
  ·obtain ⟨x,hx,e⟩:=aa2 z;have PF:x < n:=by rw [<-no.len];exact hx
   have:=no.nr x PF;rw [aab,aaa hx] at this;rw [<-e];exact xP this p.cl
  ·rw [aba.mp z];exact p.gn
 obtain ⟨b0,bE,hb⟩:=w4 all p.e0 c0;have ln:(fZ share n i ways).length=n:=no.len;have at_:∀x,x < n+1->(lI share n i ways given).getD x 0=lX (bj (fZ share n i ways++[given])) ((fZ share n i ways++[given]).getD x (0,1)):=λx hx=>by
  unfold lI lN;have hx:x < (fZ share n i ways++[given]).length:=by simp [ln];exact hx
  rw [aab,aao,aab,aaa hx];rfl
 have X2:∀x,x < n+1->(fZ share n i ways++[given]).getD x (0,1)∈fZ share n i ways++[given]:=λx hx=>CG (by simp [ln];exact hx);refine ⟨by unfold lI lN;simp [ln],λx hx=> ?_,((bj (fZ share n i ways++[given]):Int):Rat), ?_,λy=> ?_, ?_⟩
 ·unfold lI lN at hx;obtain ⟨c,hc,rfl⟩:=aak.mp hx;exact (hb c hc).2
 ·exact abl.mpr b0
 ·rw [c7 (g:=λx=>((bj (fZ share n i ways++[given]):Int):Rat) * (vW (Pg.val share) i ways x * y x) - 0 * 0) λx hx=>by
   rw [at_ x (by omega),(hb _ (X2 x (by omega))).1];have:(fZ share n i ways++[given]).getD x (0,1)=(fZ share n i ways).getD x (0,1):=by rw [aab,aat (by rw [ln];exact hx),<-aab]
   rw [this,no.val x hx];grind]
  rw [rF _ 0 (λx=>vW (Pg.val share) i ways x * y x) (λ_=>0),IQ hi y p.wo.to];grind
 ·rw [at_ n (by omega),(hb _ (X2 n (by omega))).1];have:(fZ share n i ways++[given]).getD n (0,1)=given:=by rw [aab,aaq (by rw [ln];exact aaj _),ln,Nat.sub_self];rfl
  rw [this];grind
structure Sys(share:Fr)(n:Nat)(B:Int)(ws:Nat->List bQ)(gv:Nat->Fr):Prop where
 n1:1<=n
 s0:0<=Pg.val share
 s1:Pg.val share < 1
 b1:1<=B
 EW:∀i,i < n->∃E C,tQ share n E C (ws i) (gv i)/\C * E<=B
def gG(share:Fr)(n:Nat)(ws:Nat->List bQ)(gv:Nat->Fr):List (List Int):=(List.range n).map λi=>lI share n i (ws i) (gv i)
section
variable{share:Fr}{n:Nat}{B:Int}{ws:Nat->List bQ}{gv:Nat->Fr}
theorem Bk{k x:Nat}(h:k < n):Bz.arr (gG share n ws gv) k x=(lI share n k (ws k) (gv k)).getD x 0:=by
 unfold Bz.arr gG
 congr 1
 rw [aab,aao,aaI h];rfl
theorem j6:(gG share n ws gv).length=n:=by unfold gG;simp
theorem Sys.eq(S:Sys share n B ws gv){k:Nat}(hk:k < n):∃L:Rat,0 < L/\(∀y:Nat->Rat,dI (λx=>(Bz.arr (gG share n ws gv) k x:Rat) * y x) n=L * (y k - Pg.val share * aI (λd=>cV d * y d.1.toNat) (ws k)))/\(Bz.arr (gG share n ws gv) k n:Rat)=L * Pg.val (gv k):=by
 obtain ⟨E,C,p,_⟩:=S.EW k hk;obtain ⟨_,_,L,l0,l1,l2⟩:=AR hk p;refine ⟨L,l0,λy=> ?_, ?_⟩
 ·rw [<-l1 y];exact c7 λx _=>by rw [Bk hk]
 ·rw [Bk hk];exact l2
theorem Sys.zero(S:Sys share n B ws gv){y:Nat->Rat}(h:∀k,k < n->y k=Pg.val share * aI (λd=>cV d * y d.1.toNat) (ws k)):∀k,k < n->y k=0:=λk hk=>by
 have:=IY (n:=n) (x:=y) (c:=0) S.s1 (λi hi m hm=>by
  obtain ⟨E,C,p,_⟩:=S.EW i hi;have w:=kL.mp (Cv p.wo (by omega) hm);have a:=aaK w.1 S.s0;have b:=aaK w.2 S.s0;rw [h i hi]
  refine kL.mpr ⟨?_, ?_⟩ <;> grind) k hk
 have a0:=NI (y k);have s1:=S.s1;have:ab (y k)=0:=by
  by_cases e:ab (y k)=0
  ·exact e
  ·have p:=Rat.mul_pos (show 0 < ab (y k) by grind) (show 0 < 1 - Pg.val share by grind);grind
 unfold ab at this;split at this <;> grind
theorem Sys.Xp(S:Sys share n B ws gv)(y:Bz.Row)(h:∀k,k < n->Bz.Α (λx=>Bz.arr (gG share n ws gv) k x * y x) n=0):∀x,x < n->y x=0:=λx hx=>by
 have:=S.zero (y:=λx=>(y x:Rat)) (λk hk=>by
  obtain ⟨L,l0,l1,_⟩:=S.eq hk;have e:=congrArg (λz:Int=>(z:Rat)) (h k hk);rw [nH,c7 (g:=λx=>(Bz.arr (gG share n ws gv) k x:Rat) * (y x:Rat)) λx _=>aaG _ _,l1 λx=>(y x:Rat)] at e;have e:L * ((y k:Rat) - Pg.val share * aI (λd=>cV d * (y d.1.toNat:Rat)) (ws k))=0:=e;rcases Rat.mul_eq_zero.mp e with z | z
  ·grind
  ·grind) x hx
 exact Rat.intCast_eq_zero_iff.mp this
theorem Sys.bd(S:Sys share n B ws gv):Bz.Bd (Bz.arr (gG share n ws gv)) n (n+1) B:=⟨S.b1,λk c hk hc=>by
 obtain ⟨E,C,p,hB⟩:=S.EW k hk;obtain ⟨ln,hb,_⟩:=AR hk p;rw [Bk hk];have:=hb ((lI share n k (ws k) (gv k)).getD c 0) (by rw [aab,aaa (by omega)];exact aaA _)
 exact ⟨by omega,by omega⟩⟩
structure Tab(share:Fr)(n:Nat)(ws:Nat->List bQ)(gv:Nat->Fr)(tb:List Fr):Prop where
 len:tb.length=n
 red:∀i,i < n->Red (tb.getD i (0,1))
 eq:∀i,i < n->Pg.val (tb.getD i (0,1))=Pg.val (gv i)+Pg.val share * aI (λd=>cV d * Pg.val (tb.getD d.1.toNat (0,1))) (ws i)
theorem Sys.uniq(S:Sys share n B ws gv){t t':List Fr}(h:Tab share n ws gv t)(h':Tab share n ws gv t'):t=t':=by
 have z:=S.zero (y:=λx=>Pg.val (t.getD x (0,1)) - Pg.val (t'.getD x (0,1))) (λk hk=>by
  rw [h.eq k hk,h'.eq k hk];rw [show (λd:bQ=>cV d * (Pg.val (t.getD d.1.toNat (0,1)) - Pg.val (t'.getD d.1.toNat (0,1))))=λd=>cV d * Pg.val (t.getD d.1.toNat (0,1)) - cV d * Pg.val (t'.getD d.1.toNat (0,1)) by funext d;grind,rq]
  grind)
 apply abe
 ·rw [h.len,h'.len]
 ·intro i h1 h2;have hi:i < n:=by rw [<-h.len];exact h1
  have a:=h.red i hi;have b:=h'.red i hi;have c:=z i hi;rw [aab,aaa h1] at a c;rw [aab,aaa h2] at b c;exact CD a b (by have c:Pg.val t[i] - Pg.val t'[i]=0:=c;grind)
theorem Sys.ex(S:Sys share n B ws gv)(zb:n<=12):∃(tb:List Fr) (z:Bz.Row) (N:Int),Bz.OV (Bz.arr (gG share n ws gv)) n n z N/\N≠0/\(∀i,i < n->N * (tb.getD i (0,1)).1=z i * (tb.getD i (0,1)).2)/\Tab share n ws gv tb/\∀i,i < n->(tb.getD i (0,1)).2<=(12 * B) ^ n:=by
 obtain ⟨ρ,cols,q,d,W,t⟩:=Bz.Turn.exists (A:=Bz.arr (gG share n ws gv)) (n:=n) n;have hc:cols=List.range n:=by
  rcases t.all with e | ⟨x,h1,h2⟩
  ·exact e
  ·obtain ⟨z,z1,z2⟩:=t.kernel h1 h2;have:=S.Xp z z2 x h1;rw [z1] at this;exact absurd (by omega) t.d0
 have lr:ρ.length=n:=by rw [<-t.st.lc,hc,aaU]
 have sol:=t.PM λi h1 h2=>absurd h1 (by omega);have d0:=t.d0;generalize hz:Bz.Je (Bz.arr (gG share n ws gv)) n W cols n cols.length=z at *
 have g:∀i,i < n->((List.range n).map λi=>ah (z i) d).getD i (0,1)=ah (z i) d:=λi hi=>by rw [aab,aao,aaI hi];rfl
 refine ⟨(List.range n).map λi=>ah (z i) d,z,d,sol,d0,λi hi=> ?_,⟨by simp,λi hi=> ?_,λi hi=> ?_⟩,λi hi=> ?_⟩
 ·rw [g i hi,<-bU d0]
 ·rw [g i hi];exact bZ d0
 ·obtain ⟨L,l0,l1,l2⟩:=S.eq hi;obtain ⟨E,C,p,_⟩:=S.EW i hi;have e:=congrArg (λz:Int=>(z:Rat)) (sol i hi);rw [nH,c7 (g:=λx=>(Bz.arr (gG share n ws gv) i x:Rat) * (z x:Rat)) λx _=>aaG _ _,l1 λx=>(z x:Rat),aaG,l2] at e;rw [g i hi,jw d0]
  rw [lD (g:=λdd=>(1 / (d:Rat)) * (cV dd * (z dd.1.toNat:Rat)) - 0) λdd hdd=>by
   obtain ⟨a,b⟩:=p.wo.to dd hdd;rw [g _ (by omega),jw d0];have:=aQ d0
   grind]
  have sc:∀(k:Rat) (ds:List bQ),aI (λdd=>k * (cV dd * (z dd.1.toNat:Rat)) - 0) ds=k * aI (λdd=>cV dd * (z dd.1.toNat:Rat)) ds:=λk ds=>by
   induction ds with
   | nil=>show (0:Rat)=k * 0;grind
   | cons a ds ih=>
    show k * (cV a * (z a.1.toNat:Rat)) - 0+aI (λdd=>k * (cV dd * (z dd.1.toNat:Rat)) - 0) ds=k * (cV a * (z a.1.toNat:Rat)+aI (λdd=>cV dd * (z dd.1.toNat:Rat)) ds);rw [ih];grind
  rw [sc];have:=aQ d0;have e:L * ((z i:Rat) - Pg.val share * aI (λdd=>cV dd * (z dd.1.toNat:Rat)) (ws i))=(d:Rat) * (L * Pg.val (gv i)):=e;have e2:(z i:Rat) - Pg.val share * aI (λdd=>cV dd * (z dd.1.toNat:Rat)) (ws i)=(d:Rat) * Pg.val (gv i):=by
   have:L * ((z i:Rat) - Pg.val share * aI (λdd=>cV dd * (z dd.1.toNat:Rat)) (ws i) - (d:Rat) * Pg.val (gv i))=0:=by grind
   rcases Rat.mul_eq_zero.mp this with y | y
   ·grind
   ·grind
  grind
 ·rw [g i hi];have ad:=t.st.Ua S.bd (λc uX=>aap (t.cl c uX) (Nat.le_succ _)) (by omega);rw [lr] at ad;have l:=jB (t:=z i) d0;have q0:=b7 (t:=z i) d0;obtain ⟨a1,a2⟩:=ad;omega
end
theorem Lw{d:bQ}{c:Fr}{M:Ms}{q:DQ}(e:d.2.2=[c])(h:q (Υ c) M):d7 (ef d) (.int 2) M q:=by unfold ef;rw [e];exact Ζ (xs:=[.int d.1,Υ d.2.1,Υ c]) rfl (Η (j:=2) rfl) h
theorem Ie{M:Ms}{k:Nat}{xs:List Dt}(h:M[k]? =some (MO.lst xs)):kC M (.loc k)=some xs:=by show (match M[k]? with | some (MO.lst xs)=>some xs | _=>none)=some xs;rw [h]
theorem GV{E C:Int}{p:Fr}(h:Nr E C p)(e0:0 < E)(e1:E < 2 ^ 190)(c0:0<=C)(c1:C < 2 ^ 110):Sz 300 p:=Ly (k:=190) (m:=110) h.red h.he e0 e1 h.ab c0 c1
def G7:DF:=λas M q _=>∃(ns:List Fr) (E C:Int),as=[.lst (ns.map Υ)]/\ns.length<=13/\(∀c∈ns,Nr E C c)/\0 < E/\E < 2 ^ 190/\0<=C/\C < 2 ^ 110/\q (bM (lN ns)) M
theorem p7:Γ ["numbers","bottom"] ["numbers"] (θ h_):=⟨rfl,rfl,rfl,by decide+kernel,rfl,by decide+kernel,by decide+kernel⟩
theorem xX{f:Addr}{fd:FuncData}(F:cH K "whole_row" "whole_row" h_ f fd)(E:Ev K mg w Cm){g_:Addr}{hZ:FuncData}(bI:aj P w K mg base 2 "common_bottom" ["chances"] hV g_ hZ):af P w K mg base (bX P w) 3 f fd ["numbers"] (cn K G7):=by
 refine F.dF p7 (λds M q x h=> ?_) (λaV A outer s H E' hr=>⟨_,(ζ (ω (i:=1) p7.nd rfl (Or.inr rfl) (aa bI hr ν (γ (jv 0) η (hs:=μ))))
   (ι (Β (fo (ys:=["bottom"]) (caps:=[1]) ⟨rfl,by decide+kernel,by decide+kernel,rfl,(by show∀p:Str×NameKind,p∈_->p.2=NameKind.free->List.lookup p.1 (θ h_).names=some .cell;decide+kernel),by decide+kernel,(by show∀q:Str×Nat,q∈_->(["numbers","bottom"]:List Str)[q.2]? =some q.1/\List.lookup q.1 (θ h_).names=some .cell/\_;decide+kernel),rfl⟩ (bA (jv 0)) (λC s H fp=>(aw (Ι (jv 0) υ) (je (jv 1) (Ι (jv 0) υ)))))))),λds M q x h=> ?_⟩)
 ·obtain ⟨ns,E,C,rfl,_⟩:=h;rfl
 ·obtain ⟨ns,Ep,C,rfl,hz,hn,e0,e1,c0,c1,h⟩:=h;obtain ⟨b0,bE,_⟩:=w4 hn e0 c0;have Uk:∀c∈ns,Sz 300 c:=λc hc=>GV (hn c hc) e0 e1 c0 c1;have b2:∀c∈ns,c.2 < 2 ^ 200:=λc hc=>by have:=abP e0 (wA (hn c hc).red (hn c hc).he);exact aaB this (ab2 e1 (by decide))
  refine ⟨ns,rfl,⟨hz,λc hc=>⟨(hn c hc).red.pos,b2 c hc⟩⟩, ?_⟩;walk_at "vc";refine dD (i:=0) rfl rfl ⟨by rw [aae];exact aaw hz (by decide), ?_⟩;refine fH (f:=λd=> .int (match d with | .tup [.int a, .int b]=>a * (bj ns / b) | _=>0)) trivial (λx hx q hq=> ?_) ?_
  ·obtain ⟨y,hy,rfl⟩:=aak.mp hx;have s:=Uk y hy;have y0:=(hn y hy).red.pos;refine ⟨⟨y0,cL s (by decide)⟩,⟨fE s (by decide), ?_⟩,hq⟩;exact oM (k:=190) (Int.ediv_nonneg (aah b0) (aah y0)) (aaB (abW _ (aah b0)) (aaB bE e1)) (by decide)
  ·rw [aaM,aaE];have e:ns.map ((λd=>Dt.int (match d with | .tup [.int a, .int b]=>a * (bj ns / b) | _=>0)) ∘ Υ)=(lN ns).map Dt.int:=by unfold lN;rw [aaE];rfl
   rw [e];exact h
structure V6(E C:Int):Prop where
 e1:E < 2 ^ 190
 c1:C < 2 ^ 110
def Sk(A:Addr):DF:=λas M q _=>∃(share:Fr) (rows:List Rw) (i:Nat) (ways:List bQ) (given:Fr) (E C:Int),as=[av A share rows, .int (i:Nat), .lst (ways.map ef),Υ share,Υ given]/\i < rows.length/\rows.length<=12/\aH share=true/\(∀d∈ways,∃c,d.2.2=[c])/\tQ share rows.length E C ways given/\V6 E C/\(∀d∈ways,Sz 300 (χ d))/\∀E',q (bM (lI share rows.length i ways given)) (M++E')
theorem pL:Γ ["floor","place","ways","share","given","numbers","way"] ["floor","place","ways","share","given"] (θ vC):=⟨rfl,rfl,rfl,by decide+kernel,rfl,by decide+kernel,by decide+kernel⟩
theorem Di{f:Addr}{fd:FuncData}(F:cH K "led_row" "led_row" vC f fd)(E:Ev K mg w Cm){dh:Addr}{de:FuncData}(aJ:cE P w K mg base 1 Cm "size" ["self"] (yz Cm) dh de){OP:Addr}{MJ:FuncData}(vI:aj P w K mg base 3 "minus" ["one","other"] HF OP MJ){pP:Addr}{qx:FuncData}(fq:aj P w K mg base 3 "times" ["one","other"] ui pP qx){C8:Addr}{Du:FuncData}(lW:aj P w K mg base 3 "whole_row" ["numbers"] G7 C8 Du):af P w K mg base (bX P w) 5 f fd ["floor","place","ways","share","given"] (cn K (Sk Cm)):=by
 refine F.dF pL (λds M q x h=> ?_) (λaV A outer s H E' hr=>⟨_,(ζ (ω (i:=5) pL.nd rfl (Or.inl rfl) (zF (cJ 3 (d:= .lst [.tup [.int 0, .int 1]]) (by rfl)) (j7 aJ hr ν (jv 0))))
   (ζ (mh (jv 5) (jv 1) (gh (γ υ (γ υ η (hs:=dR)) (hs:=dR))))
   (ζ (cT (bA (jv 2)) (ag (i:=6) pL.nd rfl (Or.inl rfl)) aP (ι (mh (jv 5) (Ι (jv 6) υ) (aa vI hr ν (γ (Ι (jv 5) (Ι (jv 6) υ)) (γ (aa fq hr ν (γ (jv 3) (γ (Ι (jv 6) υ) η (hs:=aU)) (hs:=μ))) η (hs:=aA)) (hs:=aU))))))
   (ι (Β (aa lW hr ν (γ (k4 (jv 5) (kH (γ (jv 4) η (hs:=μ)))) η (hs:=bC)))))))),λds M q x h=> ?_⟩)
 ·obtain ⟨share,rows,i,ways,given,E,C,rfl,_⟩:=h;rfl
 ·obtain ⟨share,rows,i,ways,given,Ep,C,rfl,il,oE,hs,Kj,p,sz,hcs,h⟩:=h;have szs:=mG hs;have e0:=p.e0;have c0:0<=C:=by have:=p.cl;omega
  generalize hn:rows.length=n at *
  refine ⟨⟨_,_, .inl rfl,rfl⟩,share,rows,rfl, ?_⟩;rw [hn];refine ⟨[Υ (0,1)],n,rfl,rfl,by omega,by omega, ?_, ?_⟩
  ·show 1 * ((n:Int)).toNat<=sizeLine;exact aaw (show _<=12 by omega) (by decide)
  rw [show ((n:Int)).toNat=n by omega,pN];dsimp only [wy];walk_at "vc";refine ⟨by show 2<=sizeLine;decide, ?_⟩;refine ⟨M.length,(i:Nat),_,i,rfl,rfl,aq,by rw [aaD];exact vz il, ?_⟩;rw [cU];have ZE:(List.replicate n (Υ (0,1))).set i (.tup [.int 1, .int 1])=((List.replicate n ((0,1):Fr)).set i (1,1)).map Υ:=by rw [List.map_set,List.map_replicate];rfl
  rw [ZE];dsimp only [tD,gy];walk_at "vc";refine bJ (λzs ρ' M'=>∃(fG rest:List bQ) (ns:List Fr) (v:Nat->Rat) (o:Option Dt),ways=fG++rest/\zs=rest.map ef/\ns=fG.foldl (qa share) ((List.replicate n ((0,1):Fr)).set i (1,1))/\lM n Ep (1+fG.length) v ns/\M'=M++[MO.lst (ns.map Υ)]/\ρ'=[some (av Cm share rows),some (.int (i:Int)),some (.lst (ways.map ef)),some (Υ share),some (Υ given),some (.loc M.length),o]) (λzs ρ' M' hj=>trivial) (λx zs ρ' M' hj fe=> ?_) (λρ' M' hj=> ?_) _ _ _ ⟨[],ways,_,_,none,rfl,rfl,rfl,HN il,rfl,rfl⟩
  ·obtain ⟨fG,rest,ns,v,o,ew,ex,en,no,rfl,rfl⟩:=hj;cases rest with
   | nil=>cases ex
   | cons d rest=>
    cases ex;have dm:d∈ways:=by rw [ew];exact aan _ aaf
    obtain ⟨t0,t1⟩:=p.wo.to d dm;obtain ⟨c,hc⟩:=Kj d dm;have ec:χ d=c:=by unfold χ;rw [hc];rfl
    have sc:=p.sc d dm;have Ph:=hcs d dm;have dl:1+(fG.length:Int)<=C:=by have:=congrArg List.length ew;rw [aai,aau] at this;have:=p.cl;omega
    have tl:d.1.toNat < ns.length:=by rw [no.len];omega
    have Uk:=GV (xP (no.nr d.1.toNat (by omega)) dl) e0 sz.e1 c0 sz.c1;have szt:=GV (xP sc.nr (show (1:Int)<=C by omega)) e0 sz.e1 c0 sz.c1;have at_:lY (ns.map Υ) d.1=some (Υ (ns.getD d.1.toNat (0,1))):=by have:=Ls tl;rw [show ((d.1.toNat:Nat):Int)=d.1 by omega] at this;rw [this,aab,aaa tl];rfl
    have nx:∀o,_:=λo=>fe [some (av Cm share rows),some (.int (i:Int)),some (.lst (ways.map ef)),some (Υ share),some (Υ given),some (.loc M.length),o] (M++[MO.lst ((qa share ns d).map Υ)]) ⟨fG++[d],rest,qa share ns d,_,o,by rw [ew];simp,rfl,by rw [List.foldl_append,<-en];rfl,by
     have:=wQ no (by omega) ⟨t0,t1⟩ sc;rw [show 1+((fG++[d]).length:Int)=1+(fG.length:Int)+1 by simp;omega]
     exact this,rfl,rfl⟩
    dsimp only [gN,wy];walk_at "vc";refine Gk ?_;refine (Ζ (d:= .loc M.length) (Ie aq) at_ ?_:d7 (.loc M.length) (.int d.1) _ _);refine Lw hc ?_;rw [<-ec];refine ⟨share,χ d,11,300,rfl,szs,Ph,by decide, ?_⟩;refine ⟨_,_,300,300,rfl,Uk,szt,by decide, ?_⟩;refine Gk ?_;refine ⟨M.length,d.1,_,d.1.toNat,rfl,rfl,aq,by rw [aae];have:=vz tl;rwa [show ((d.1.toNat:Nat):Int)=d.1 by omega] at this, ?_⟩;rw [cU];have:(ns.map Υ).set d.1.toNat (Υ (hU (ns.getD d.1.toNat (0,1)) (aL share (χ d))))=(qa share ns d).map Υ:=by unfold qa;rw [List.map_set]
    rw [this];exact nx _
  ·obtain ⟨fG,rest,ns,v,o,ew,ex,en,no,rfl,rfl⟩:=hj;cases rest with
   | cons d rest=>cases ex
   | nil=>
    rw [aaZ] at ew;subst ew;have en:ns=fZ share n i ways:=en;walk_at "vc";refine ⟨by show 1<=sizeLine;decide,ns.map Υ,[Υ given],pE aq,rfl, ?_, ?_⟩
    ·rw [aae,no.len];exact aaw (show n+1<=13 by omega) (by decide)
    refine ⟨ns++[given],Ep,C,by rw [aaS];rfl,by rw [aai,no.len];show n+1<=13;omega,λc hc=> ?_,e0,sz.e1,c0,sz.c1, ?_⟩
    ·rcases aaN.mp hc with z | z
     ·obtain ⟨x,hx,e⟩:=aa2 z;have:=no.nr x (by rw [<-no.len];exact hx);rw [aab,aaa hx] at this;rw [<-e];exact xP this p.cl
     ·rw [aba.mp z];exact p.gn
    rw [en];exact h _
theorem x8:∀(ps:List (Fr×Fr)) (w:Fr),Red w->(∀p∈ps,0 < p.1.2/\0 < p.2.2)->Red (ps.foldl (λw p=>fg w (aL p.1 p.2)) w)
 | [],w,h,_=>h
 | p::ps,w,h,hp=>by obtain ⟨a,b⟩:=hp p aaf;have t:Red (aL p.1 p.2):=bZ (abh (aaJ a b));exact x8 ps _ (bZ (abh (aaJ h.pos t.pos))) λx hx=>hp x (aad _ hx)
structure FW(share:Fr)(rows:List Rw)(X C:Int):Prop where
 pl:N_ share rows
 n1:1<=rows.length
 XR:∀k ds,Rw.τ k ds∈rows->Δ k=true->∀d∈ds,d.2.2=[]
 pay:∀k ds,Rw.τ k ds∈rows->∃E,0 < E/\E<=X/\∀d∈ds,Nr E C d.2.1
 fin:∀p,Rw.fin p∈rows->∃E,0 < E/\E<=X/\Nr E C p
 x1:X<=10 ^ 36
 c9:9<=C
 c1:C<=10 ^ 30
def ow(X C:Int):Int:=6 * C * (1000000000 * X)
def Ny(Ε:Pl)(i:Nat):Rw->List bQ
 | .fin _=>[]
 | .τ k ds=>ay Ε i (.τ k ds)
def Pa(Ε:Pl)(i:Nat):Rw->Fr
 | .fin p=>p
 | .τ k ds=>hJ (((ay Ε i (.τ k ds)).map χ).zip ((ay Ε i (.τ k ds)).map (·.2.1)))
def ix(rows:List Rw)(i:Nat):Rw:=rows.getD i (.fin (0,1))
structure U_(n:Nat)(B E C:Int)(d:bQ):Prop where
 to:0<=d.1/\d.1 < n
 one:d.2.2=[χ d]
 ch:Ch B (χ d)
 py:Nr E C d.2.1
section
variable{share:Fr}{rows:List Rw}{X C:Int}{Ε:Pl}
theorem FW.ways(fw:FW share rows X C)(dk:iQ rows Ε){i:Nat}{k:Str}{ds:List bQ}(hi:rows[i]? =some (.τ k ds)):(ay Ε i (.τ k ds)).length<=6/\aI cV (ay Ε i (.τ k ds))=1/\(∀d∈ay Ε i (.τ k ds),0<=cV d)/\∃B E,0 < B/\B<=1000000/\0 < E/\E<=X/\∀d∈ay Ε i (.τ k ds),U_ rows.length B E C d:=by
 have rm:Rw.τ k ds∈rows:=aal hi;have dr:=fc fw.pl rm;obtain ⟨E,e0,eX,hp⟩:=fw.pay k ds rm;cases hh:Δ k with
 | true=>
  obtain ⟨j,hj,jl⟩:=dk.hand i _ hi hh;have jl:j < ds.length:=jl;have gd:ds.getD j d0=ds[j]:=by rw [aab,aaa jl];rfl
  have dm:=aaA jl;have e:ay Ε i (.τ k ds)=[(ds[j].1,ds[j].2.1,[(1,1)])]:=by unfold ay;rw [hj];show [((ds.getD ((j:Int)).toNat d0).1,(ds.getD ((j:Int)).toNat d0).2.1,(ds.getD ((j:Int)).toNat d0).2.2++[(1,1)])]=_;rw [abJ,gd,fw.XR k ds rm hh _ dm];rfl
  have v1:cV (ds[j].1,ds[j].2.1,[((1,1):Fr)])=1:=by show ((1:Int):Rat) / ((1:Int):Rat)=1;grind
  rw [e];refine ⟨by simp, ?_,λd hd=> ?_,1,E,by decide,by decide,e0,eX,λd hd=> ?_⟩
  ·show cV (ds[j].1,ds[j].2.1,[(1,1)])+0=1;rw [v1];grind
  ·rw [List.mem_singleton.mp hd,v1];grind
  ·rw [aba.mp hd];refine ⟨dr.to ds[j] dm,rfl, ?_,hp ds[j] dm⟩;show Ch 1 ((1,1):Fr);exact ⟨by decide,⟨1,by decide⟩,⟨by decide,by decide⟩,pw (k:=2) ⟨by decide,by decide,by decide⟩ (by decide)⟩
 | false=>
  have hc:k="chance"/\Ht (ds.map χ):=by
   rcases dr.kd with z | ⟨_,z⟩
   ·rw [z] at hh;cases hh
   ·exact z
  obtain ⟨rfl,co⟩:=hc;have e:ay Ε i (.τ "chance" ds)=ds:=by unfold ay;rw [dk.Jg i _ hi hh];rfl
  obtain ⟨s1,s2⟩:=JL co;rw [e];refine ⟨dr.l6,s1,s2,bj (ds.map χ),E,co.b0,co.b1,e0,eX,λd hd=> ?_⟩;obtain ⟨a,b,c,f⟩:=Jy co (aak.mpr ⟨d,hd,rfl⟩);exact ⟨dr.to d hd,(dr.ro.2.2.1 rfl).1 d hd,⟨a,xp b,c,f⟩,hp d hd⟩
theorem LP{E C:Int}{p:Fr}(h:Nr E C p)(e0:0 < E)(e1:E<=10 ^ 36)(c0:0<=C)(c1:C<=10 ^ 30):Nb E C p:=G8 h.red h.he h.ab ⟨e0,aaB e1 (by decide),c0,aaB c1 (by decide)⟩
theorem FW.sh(fw:FW share rows X C):0 < share.2/\share.2<=1000/\gz share/\0<=val share/\val share < 1/\1<=1000 * (1 - val share):=by
 have h:=fw.pl.sh;obtain ⟨a,b,c⟩:=IB h;unfold aH at h;rw [aas,aas,decide_eq_true_iff,decide_eq_true_iff,decide_eq_true_iff] at h;obtain ⟨h1,h2,h3⟩:=h;have ev:val share * (share.2:Rat)=share.1:=by
  have:=aQ (show share.2≠0 by omega);unfold val;generalize (share.1:Rat)=x at *
  generalize (share.2:Rat)=y at *
  grind
 have p:(0:Rat) < (share.2:Rat):=abl.mpr a;have q:(share.2:Rat)<=((1000:Int):Rat):=aaX.mpr b;have r:(share.1:Rat)+((1:Int):Rat)<=(share.2:Rat):=by rw [<-Rat.intCast_add];exact aaX.mpr (by omega)
 have q:(share.2:Rat)<=1000:=q;have r:(share.1:Rat)+1<=(share.2:Rat):=r;have lt:val share < 1:=by
  by_cases z:val share < 1
  ·exact z
  ·have:=Rat.mul_le_mul_of_nonneg_right (show 1<=val share by grind) (Rat.le_of_lt p);grind
 refine ⟨a,b,c,p8 a h1,lt, ?_⟩;have:=Rat.mul_le_mul_of_nonneg_right q (show 0<=1 - val share by grind);grind
theorem FW.EW(fw:FW share rows X C)(dk:iQ rows Ε){i:Nat}{r:Rw}(hi:rows[i]? =some r):∃E,tQ share rows.length E (6 * C) (Ny Ε i r) (Pa Ε i r)/\6 * C * E<=ow X C/\V6 E (6 * C)/\(∀d∈Ny Ε i r,∃c,d.2.2=[c])/\∀d∈Ny Ε i r,Sz 300 (χ d):=by
 obtain ⟨s0,s1,su,_⟩:=fw.sh;have c9:=fw.c9;have c1:=fw.c1;have x1:=fw.x1;have rm:r∈rows:=aal hi;have RC:∀E,E<=1000000000 * X->6 * C * E<=ow X C:=λE h=>aav h (by omega);cases r with
 | fin p=>
  obtain ⟨E,e0,eX,hp⟩:=fw.fin p rm;exact ⟨E,⟨⟨λ_ z=>(nomatch z),λ_ z=>(nomatch z),by show (0:Rat)<=1;grind⟩,λ_ z=>(nomatch z),xP hp (by omega),e0,by show 1+0<=6 * C;omega⟩,RC E (by omega),⟨Int.lt_of_le_of_lt eX (by omega),by omega⟩,λ_ z=>(nomatch z),λ_ z=>(nomatch z)⟩
 | τ k ds=>
  obtain ⟨l6,one,pos,B,E,b0,b1,e0,eX,hw⟩:=fw.ways dk hi;show∃E,tQ share rows.length E (6 * C) (ay Ε i (.τ k ds)) (hJ (((ay Ε i (.τ k ds)).map χ).zip ((ay Ε i (.τ k ds)).map (·.2.1))))/\6 * C * E<=ow X C/\V6 E (6 * C)/\(∀d∈ay Ε i (.τ k ds),∃c,d.2.2=[c])/\∀d∈ay Ε i (.τ k ds),Sz 300 (χ d);generalize Ry:ay Ε i (.τ k ds)=ws at *
  have XM:0 < B * E:=aaJ b0 e0;have Xl:B * E<=1000000 * X:=abn b1 eX (aah e0) (by decide);have se0:0 < share.2 * (B * E):=aaJ s0 XM;have se1:share.2 * (B * E)<=1000 * (1000000 * X):=abn s1 Xl (aah XM) (by decide)
  have nb:=ql (E:=E) (B:=B) (C:=C) b0 e0 (aaB Xl (by omega)) (by omega) (by omega) ((ws.map χ).zip (ws.map (·.2.1))) (0,1) 0 (by rw [abj,aae,aae];omega) (by rw [Int.natCast_zero,Int.zero_mul];exact RX) (λp hp=>by
   obtain ⟨q1,q2⟩:=abo hp;obtain ⟨d1,m1,x1⟩:=aak.mp q1;obtain ⟨d2,m2,x2⟩:=aak.mp q2
   exact ⟨by rw [<-x1];exact (hw d1 m1).ch,by rw [<-x2];exact LP (hw d2 m2).py e0 (by omega) (by omega) c1⟩)
  have red:Red (hJ ((ws.map χ).zip (ws.map (·.2.1)))):=x8 _ _ ⟨by decide,by decide⟩ λp hp=>by obtain ⟨q1,q2⟩:=abo hp;obtain ⟨d1,m1,x1⟩:=aak.mp q1;obtain ⟨d2,m2,x2⟩:=aak.mp q2;exact ⟨by rw [<-x1];exact (hw d1 m1).ch.pos,by rw [<-x2];exact (hw d2 m2).py.red.pos⟩
  refine ⟨share.2 * (B * E),⟨⟨λd hd=>(hw d hd).to,pos,by rw [one];grind⟩,λd hd=>⟨s0,su,(hw d hd).ch.pos,(hw d hd).ch.u, ?_⟩,⟨red, ?_, ?_⟩,se0,by omega⟩,RC _ (by omega),⟨Int.lt_of_le_of_lt se1 (by omega),by omega⟩,λd hd=>⟨_,(hw d hd).one⟩,λd hd=>(hw d hd).ch.sz⟩
  ·have:=yw E (qi s0 (hw d hd).ch.pos (D4 share) (hw d hd).ch.he);rwa [Int.mul_assoc] at this
  ·have:=yw share.2 nb.he;rwa [aaQ] at this
  ·refine N4 red.pos nb.ab ?_;refine aaC ?_ (by omega);rw [abj,aae,aae];omega
theorem rw_at{i:Nat}(h:i < rows.length):rows[i]? =some (ix rows i):=by unfold ix;rw [aab,aaa h];rfl
abbrev vw(rows:List Rw)(Ε:Pl)(i:Nat):List bQ:=Ny Ε i (ix rows i)
abbrev uR(rows:List Rw)(Ε:Pl)(i:Nat):Fr:=Pa Ε i (ix rows i)
theorem FW.sys(fw:FW share rows X C)(dk:iQ rows Ε)(b1:1<=ow X C):Sys share rows.length (ow X C) (vw rows Ε) (uR rows Ε):=by obtain ⟨_,_,_,v0,v1,_⟩:=fw.sh;refine ⟨fw.n1,v0,v1,b1,λi hi=> ?_⟩;obtain ⟨E,p,l,_⟩:=fw.EW dk (rw_at hi);exact ⟨E,_,p,l⟩
structure oO(share:Fr)(rows:List Rw)(Ε:Pl)(tb:List Fr):Prop where
 tab:Tab share rows.length (vw rows Ε) (uR rows Ε) tb
 bot:∀i,i < rows.length->(tb.getD i (0,1)).2 < 2 ^ 1030
end
def Im(A:Addr):DF:=λas M q _=>∃share rows i r k Ε X C,as=[av A share rows, .int (i:Nat), .loc k]/\M[k]? =some (dP Ε)/\rows[i]? =some r/\iQ rows Ε/\FW share rows X C/\∀E',q (bM (lI share rows.length i (Ny Ε i r) (Pa Ε i r))) (M++E')
theorem vG:Γ ["floor","place","doors","ways","paid"] ["floor","place","doors"] (θ lE):=⟨rfl,rfl,rfl,by decide+kernel,rfl,by decide+kernel,by decide+kernel⟩
theorem HL{f:Addr}{fd:FuncData}(F:cH K "row_of" "row_of" lE f fd)(E:Ev K mg w Cm){aE:Addr}{aC:FuncData}(Μ:cE P w K mg base 1 Cm "kind" ["self","place"] (mM Cm) aE aC){KY:Addr}{KZ:FuncData}(mD:aj P w K mg base 5 "led_row" ["floor","place","ways","share","given"] (Sk Cm) KY KZ){mV:Addr}{nF:FuncData}(eF:cE P w K mg base 2 Cm "pay" ["self","place"] (OS Cm) mV nF){wU:Addr}{xB:FuncData}(fC:cE P w K mg base 1 Cm "share" ["self"] (HR Cm) wU xB){Dk:Addr}{Dv:FuncData}(kZ:aj P w K mg base 3 "ways_from" ["floor","place","doors"] (LI Cm) Dk Dv){qd:Addr}{qo:FuncData}(fL:aj P w K mg base 4 "weighed" ["chances","numbers"] rB qd qo):af P w K mg base (bX P w) 6 f fd ["floor","place","doors"] (cn K (Im Cm)):=by
 refine F.dF vG (λds M q x h=> ?_) (λaV A outer s H E' hr=>⟨_,(ζ (aB (d_ hr (bt Μ hr ν (jv 0) (γ (jv 1) η (hs:=μ))) jo) (ι (Β (aa mD hr ν (γ (jv 0) (γ (jv 1) (γ (kH η) (γ (j7 fC hr ν (jv 0)) (γ (bt eF hr ν (jv 0) (γ (jv 1) η (hs:=μ))) η (hs:=aA)) (hs:=aA))) (hs:=μ)) (hs:=μ))))) Τ)
   (ζ (ω (i:=3) vG.nd rfl (Or.inl rfl) (aa kZ hr ν (γ (jv 0) (γ (jv 1) (γ (jv 2) η (hs:=μ)) (hs:=μ)) (hs:=μ))))
   (ζ (ω (i:=4) vG.nd rfl (Or.inl rfl) (aa fL hr ν (γ (fo (ys:=[]) (caps:=[]) ⟨rfl,by decide+kernel,by decide+kernel,rfl,(by show∀p:Str×NameKind,p∈_->p.2=NameKind.free->List.lookup p.1 (θ lE).names=some .cell;decide+kernel),by decide+kernel,(by show∀q:Str×Nat,q∈_->(["floor","place","doors","ways","paid"]:List Str)[q.2]? =some q.1/\List.lookup q.1 (θ lE).names=some .cell/\_;decide+kernel),rfl⟩ (bA (jv 3)) (λC s H fp=>(Ι (jv 0) υ))) (γ (fo (ys:=[]) (caps:=[]) ⟨rfl,by decide+kernel,by decide+kernel,rfl,(by show∀p:Str×NameKind,p∈_->p.2=NameKind.free->List.lookup p.1 (θ lE).names=some .cell;decide+kernel),by decide+kernel,(by show∀q:Str×Nat,q∈_->(["floor","place","doors","ways","paid"]:List Str)[q.2]? =some q.1/\List.lookup q.1 (θ lE).names=some .cell/\_;decide+kernel),rfl⟩ (bA (jv 3)) (λC s H fp=>(Ι (jv 0) υ))) η))))
   (ι (Β (aa mD hr ν (γ (jv 0) (γ (jv 1) (γ (jv 3) (γ (j7 fC hr ν (jv 0)) (γ (jv 4) η (hs:=μ)) (hs:=aA)) (hs:=μ)) (hs:=μ)) (hs:=μ)))))))),λds M q x h=> ?_⟩)
 ·obtain ⟨share,rows,i,r,k,Ε,X,C,rfl,_⟩:=h;rfl
 ·obtain ⟨share,rows,i,r,k,Ε,X,C,rfl,hk,hi,dk,fw,h⟩:=h;have il:=(aag.mp hi).1;have oE:=fw.pl.len;have rm:r∈rows:=aal hi;have ro:=(fw.pl.row r rm).1;obtain ⟨Ep,p,_,sz,one,Ph⟩:=fw.EW dk hi;have sl:∀{z:Nat},z<=1000->z<=sizeLine:=λh=>aaw h (by decide);refine ⟨⟨_,_, .inl rfl,rfl⟩,share,rows,i,r,rfl,hi, ?_⟩;cases r with
  | fin pp=>
   refine ⟨λ_=> ?_,λz=>(nomatch z)⟩;walk_at "vc";refine ⟨sl (by decide), ?_⟩;refine ⟨⟨_,_, .inl rfl,rfl⟩,share,rows,rfl, ?_⟩;refine ⟨⟨_,_, .inl rfl,rfl⟩,share,rows,i, .fin pp,rfl,hi,ro, ?_⟩;exact ⟨share,rows,i,[],pp,Ep,6 * C,rfl,il,oE,fw.pl.sh,one,p,sz,Ph,h⟩
  | τ kd ds=>
   refine ⟨λz=>absurd (of_decide_eq_true z) ro.1,λ_=> ?_⟩;obtain ⟨l6,_,_,B,E,b0,b1,e0,eX,hw⟩:=fw.ways dk hi;have c9:=fw.c9;have c1:=fw.c1;have x1:=fw.x1;have h:∀E',q (bM (lI share rows.length i (ay Ε i (.τ kd ds)) (hJ (((ay Ε i (.τ kd ds)).map χ).zip ((ay Ε i (.τ kd ds)).map (·.2.1)))))) (M++E'):=h;have p:tQ share rows.length Ep (6 * C) (ay Ε i (.τ kd ds)) (hJ (((ay Ε i (.τ kd ds)).map χ).zip ((ay Ε i (.τ kd ds)).map (·.2.1)))):=p;have one:∀d∈ay Ε i (.τ kd ds),∃c,d.2.2=[c]:=one;have Ph:∀d∈ay Ε i (.τ kd ds),Sz 300 (χ d):=Ph;refine ⟨share,rows,i, .τ kd ds,k,Ε,rfl,hk,hi,ro,dk, ?_⟩;generalize ay Ε i (.τ kd ds)=ws at *
   dsimp only [wc,gy];walk_at "vc";refine ⟨by rw [aae];exact sl (by omega), ?_⟩;refine c_ (F:=λx d=>x=ef d/\d∈ws) (f:=λd=>Υ (χ d)) (as:=ws) trivial (λx d hx qq hq=> ?_) (j4 ef ws ws λx hx=>hx) ?_
   ·obtain ⟨rfl,hd⟩:=hx;walk_at "vc";exact Lw (hw d hd).one hq
   rw [aaM];refine ⟨by rw [aae];exact sl (by omega), ?_⟩;refine c_ (F:=λx d=>x=ef d/\d∈ws) (f:=λd=>Υ d.2.1) (as:=ws) trivial (λx d hx qq hq=> ?_) (j4 ef ws ws λx hx=>hx) ?_
   ·obtain ⟨rfl,hd⟩:=hx;walk_at "vc";exact LY hq
   rw [aaM];refine ⟨ws.map χ,ws.map (·.2.1),E,B,C,by rw [aaE,aaE];rfl,by rw [aae];exact l6,b0,e0, ?_,by omega,by omega,λc hc=> ?_,λc hc=> ?_, ?_⟩
   ·have:B * E<=1000000 * X:=abn b1 eX (aah e0) (by decide);exact aaB this (by omega)
   ·obtain ⟨d,hd,rfl⟩:=aak.mp hc;exact (hw d hd).ch
   ·obtain ⟨d,hd,rfl⟩:=aak.mp hc;exact LP (hw d hd).py e0 (by omega) (by omega) c1
   refine ⟨⟨_,_, .inl rfl,rfl⟩,share,rows,rfl, ?_⟩;exact ⟨share,rows,i,ws,_,Ep,6 * C,rfl,il,oE,fw.pl.sh,one,p,sz,Ph,h⟩
def OK(A:Addr):DF:=λas M q _=>∃share rows k Ε X C,as=[av A share rows, .loc k]/\M[k]? =some (dP Ε)/\iQ rows Ε/\FW share rows X C/\ow X C<=2 ^ 450/\(12 * ow X C) ^ rows.length < 2 ^ 1030/\∀tb,oO share rows Ε tb->q (.loc M.length) (M++[.lst (tb.map Υ)])
theorem An:Γ ["floor","doors"] ["floor","doors"] (θ iy):=⟨rfl,rfl,rfl,by decide+kernel,rfl,by decide+kernel,by decide+kernel⟩
theorem y4{f:Addr}{fd:FuncData}(F:cH K "worths_by" "worths_by" iy f fd)(E:Ev K mg w Cm){DD:Addr}{ED:FuncData}(lG:aj P w K mg base 4 "answer_of" ["rows"] vp DD ED){dh:Addr}{de:FuncData}(aJ:cE P w K mg base 1 Cm "size" ["self"] (yz Cm) dh de){N3:Addr}{Ni:FuncData}(uW:aj P w K mg base 6 "row_of" ["floor","place","doors"] (Im Cm) N3 Ni):af P w K mg base (bX P w) 7 f fd ["floor","doors"] (cn K (OK Cm)):=by
 refine F.dF An (λds M q x h=> ?_) (λaV A outer s H E' hr=>⟨_,(ι (Β (aa lG hr ν (γ (IM (ys:=["floor","doors"]) (caps:=[0,1]) ⟨rfl,by decide+kernel,by decide+kernel,rfl,(by show∀p:Str×NameKind,p∈_->p.2=NameKind.free->List.lookup p.1 (θ iy).names=some .cell;decide+kernel),by decide+kernel,(by show∀q:Str×Nat,q∈_->(["floor","doors"]:List Str)[q.2]? =some q.1/\List.lookup q.1 (θ iy).names=some .cell/\_;decide+kernel),rfl⟩ (cv E.bG (γ (j7 aJ hr ν (jv 0)) η (hs:=aA))) (λC s H fp=>(bL (aa uW hr (i6 (P:=P) (w:=w)) (γ (jv 1) (γ (jv 0) (γ (jv 2) η (hs:=μ)) (hs:=μ)) (hs:=μ)))))) η)))),λds M q x h=> ?_⟩)
 ·obtain ⟨share,rows,k,Ε,X,C,rfl,_⟩:=h;rfl
 ·obtain ⟨share,rows,k,Ε,X,C,rfl,hk,dk,fw,mv,sW,h⟩:=h;have oE:=fw.pl.len;have n1:=fw.n1;have b1:1<=ow X C:=by obtain ⟨E,p,l,_⟩:=fw.EW dk (rw_at (show 0 < rows.length by omega));have c9:=fw.c9;have:=aav (show 1<=E by have:=p.e0;omega) (show 0<=6 * C by omega);omega
  have S:=fw.sys dk b1;obtain ⟨tb,z,N,sol,n0,QG,tab,bot⟩:=S.ex oE;have sl:∀{z:Nat},z<=1000->z<=sizeLine:=λh=>aaw h (by decide);walk_at "vc";dsimp only [Lq];walk_at "vc";refine ⟨⟨_,_, .inl rfl,rfl⟩,share,rows,rfl, ?_⟩;refine ⟨⟨by omega,by omega⟩,by rw [fQ];exact sl (by omega), ?_⟩;refine nV (f:=λx=>match x with | .int j=>bM ((gG share rows.length (vw rows Ε) (uR rows Ε)).getD j.toNat []) | _=> .br) _ _ (λx Ur q' hq=> ?_) ?_
  ·obtain ⟨j,hj,rfl⟩:=qE Ur;have hj:j < rows.length:=by omega
   rw [Int.zero_add] at hq⊢;have hq:q' (bM ((gG share rows.length (vw rows Ε) (uR rows Ε)).getD j [])) M:=hq;have e:(gG share rows.length (vw rows Ε) (uR rows Ε)).getD j []=lI share rows.length j (vw rows Ε j) (uR rows Ε j):=by unfold gG;rw [aab,aao,aaI hj];rfl
   rw [e] at hq;exact ⟨share,rows,j,ix rows j,k,Ε,X,C,rfl,hk,rw_at hj,dk,fw,λE'=>jS (.old (ft _)) hq⟩
  have er:=BS (gG share rows.length (vw rows Ε) (uR rows Ε)) [] bM;rw [j6] at er;rw [aaM,show ((rows.length:Int)).toNat=rows.length by omega];refine (λ(key:∀l,l=(gG share rows.length (vw rows Ε) (uR rows Ε)).map bM->vp [.lst l] M q _)=>key _ er) λl hl=> ?_;subst hl;have ln:∀r∈gG share rows.length (vw rows Ε) (uR rows Ε),r.length=rows.length+1:=λr dX=>by unfold gG at dX;obtain ⟨i,hi,rfl⟩:=aak.mp dX;obtain ⟨E,p,_⟩:=fw.EW dk (rw_at (abc.mp hi));exact (AR (abc.mp hi) p).1
  have bd:=S.bd;refine ⟨gG share rows.length (vw rows Ε) (uR rows Ε),rows.length,ow X C,tb,z,N,rfl,⟨by rw [j6];exact n1,by rw [j6];exact oE,oE,ln,by rw [j6];exact bd,mv⟩,n1,tab.len,by rw [j6];exact sol,n0,λi hi=>⟨(tab.red i hi).pos,(tab.red i hi).low,QG i hi⟩,by rw [j6];exact S.Xp, ?_⟩;exact h tb ⟨tab,λi hi=>aaB (bot i hi) sW⟩
def Bt(A:Addr):DF:=λas M q _=>∃share rows k1 k2 p1 p2 X C,as=[av A share rows, .loc k1, .loc k2]/\M[k1]? =some (dP p1)/\M[k2]? =some (dP p2)/\FW share rows X C/\ow X C<=2 ^ 450/\(12 * ow X C) ^ rows.length < 2 ^ 1030/\(∀i,i < rows.length->eG rows (aM p1 p2) i=true)/\∀tb,oO share rows (eB rows (aM p1 p2) rows.length) tb->∀m1 m2,q (.loc (M.length+2)) (M++[m1,m2, .lst (tb.map Υ)])
theorem Aa:Γ ["floor","plan_one","plan_other"] ["floor","plan_one","plan_other"] (θ nZ):=⟨rfl,rfl,rfl,by decide+kernel,rfl,by decide+kernel,by decide+kernel⟩
theorem xa{f:Addr}{fd:FuncData}(F:cH K "worths_of" "worths_of" nZ f fd)(E:Ev K mg w Cm){oh:Addr}{mW:FuncData}(et:aj P w K mg base 7 "worths_by" ["floor","doors"] (OK Cm) oh mW){rj:Addr}{qm:FuncData}(fJ:aj P w K mg base 4 "doors_of" ["floor","plans"] (qN Cm) rj qm):af P w K mg base (bX P w) 8 f fd ["floor","plan_one","plan_other"] (cn K (Bt Cm)):=by
 refine F.dF Aa (λds M q x h=> ?_) (λaV A outer s H E' hr=>⟨_,(ι (Β (aa et hr ν (γ (jv 0) (γ (aa fJ hr ν (γ (jv 0) (γ (J7 (jv 1) (jv 2)) η) (hs:=μ))) η (hs:=aA)) (hs:=μ))))),λds M q x h=> ?_⟩)
 ·obtain ⟨share,rows,k1,k2,p1,p2,X,C,rfl,_⟩:=h;rfl
 ·obtain ⟨share,rows,k1,k2,p1,p2,X,C,rfl,h1,h2,fw,mv,sW,gd,h⟩:=h;refine ⟨share,rows,M.length,aM p1 p2,rfl,SI.Y7 ⟨k1,k2,aq,dq h1,dq h2⟩,fw.pl,gd, ?_⟩;refine ⟨share,rows,_,_,X,C,rfl,aq,Lo gd,fw,mv,sW,λtb wt=> ?_⟩;have:=h tb wt (.cW [Sum.inr "one",Sum.inr "other"] [.loc k1, .loc k2]) (dP (eB rows (aM p1 p2) rows.length));simpa [List.append_assoc] using this
theorem HW(x:Nat->Rat):∀n,∃i,i < n+1/\∀j,j < n+1->x i<=x j
 | 0=>⟨0,by omega,λj hj=>by rw [show j=0 by omega];grind⟩
 | n+1=>by
  obtain ⟨i,hi,h⟩:=HW x n;by_cases c:x (n+1)<=x i
  ·refine ⟨n+1,by omega,λj hj=> ?_⟩;by_cases e:j=n+1
   ·rw [e];grind
   ·have:=h j (by omega);grind
  ·refine ⟨i,by omega,λj hj=> ?_⟩;by_cases e:j=n+1
   ·rw [e];grind
   ·exact h j (by omega)
theorem wd{n:Nat}{y:Nat->Rat}{m:Rat}(hm:∀j,j < n->m<=y j):∀{ways:List bQ},(∀d∈ways,0<=d.1/\d.1 < n)->(∀d∈ways,0<=cV d)->aI cV ways * m<=aI (λd=>cV d * y d.1.toNat) ways
 | [],_,_=>by show (0:Rat) * m<=0;grind
 | d::ways,h1,h2=>by have i:=wd hm (λx hx=>h1 x (aad _ hx)) (λx hx=>h2 x (aad _ hx));have t:=h1 d aaf;have:=aaK (hm d.1.toNat (by omega)) (h2 d aaf);show (cV d+aI cV ways) * m<=cV d * y d.1.toNat+aI (λd=>cV d * y d.1.toNat) ways;grind
theorem OR{n:Nat}{s:Rat}{ws:Nat->List bQ}{δ r:Nat->Rat}(s0:0<=s)(s1:s < 1)(wo:∀i,i < n->zS n (ws i))(h:∀i,i < n->δ i=r i+s * aI (λd=>cV d * δ d.1.toNat) (ws i))(r0:∀i,i < n->0<=r i):∀i,i < n->r i<=δ i:=λi hi=>by
 obtain ⟨k,rfl⟩:∃k,n=k+1:=⟨n - 1,by omega⟩;obtain ⟨t,ht,Sh⟩:=HW δ k;have nn:0<=δ t:=by
  by_cases c:0<=δ t
  ·exact c
  ·have g:=wd Sh (wo t ht).to (wo t ht).c0;have o:=Rat.mul_le_mul_of_nonneg_right (wo t ht).one (show 0<= -δ t by grind);have g2:δ t<=aI (λd=>cV d * δ d.1.toNat) (ws t):=by grind
   have g3:=aaK g2 s0;have e:=h t ht;have r:=r0 t ht;have:=Rat.mul_pos (show 0 < 1 - s by grind) (show 0 < -δ t by grind);grind
 have g:=wd (y:=δ) (m:=0) (λj hj=>by have:=Sh j hj;grind) (wo i hi).to (wo i hi).c0;have:=Rat.mul_nonneg s0 (show 0<=aI (λd=>cV d * δ d.1.toNat) (ws i) by grind);have e:=h i hi;grind
theorem t_(c:Rat)(f:bQ->Rat):∀ds:List bQ,aI (λd=>c * f d) ds=c * aI f ds
 | []=>by show (0:Rat)=c * 0;grind
 | d::ds=>by show c * f d+aI (λd=>c * f d) ds=c * (f d+aI f ds);rw [t_ c f ds];grind
section
variable{share:Fr}{n:Nat}{B:Int}{ws:Nat->List bQ}{gv:Nat->Fr}{tb:List Fr}
def h9(share:Fr)(ws:Nat->List bQ)(gv:Nat->Fr)(x:Nat->Rat)(i:Nat):Rat:=val (gv i)+val share * aI (λd=>cV d * x d.1.toNat) (ws i)
theorem Tab.cmp(S:Sys share n B ws gv)(h:Tab share n ws gv tb){x:Nat->Rat}{sg:Rat}(hr:∀i,i < n->0<=sg * (h9 share ws gv x i - x i)):∀i,i < n->sg * (h9 share ws gv x i - x i)<=sg * (val (tb.getD i (0,1)) - x i):=by
 refine OR (δ:=λi=>sg * (val (tb.getD i (0,1)) - x i)) (r:=λi=>sg * (h9 share ws gv x i - x i)) S.s0 S.s1 (ws:=ws) (λi hi=> ?_) (λi hi=> ?_) hr
 ·obtain ⟨E,C,p,_⟩:=S.EW i hi;exact p.wo
 ·have e:=h.eq i hi;have l:aI (λd=>cV d * (sg * (val (tb.getD d.1.toNat (0,1)) - x d.1.toNat))) (ws i)=sg * (aI (λd=>cV d * val (tb.getD d.1.toNat (0,1))) (ws i) - aI (λd=>cV d * x d.1.toNat) (ws i)):=by rw [<-rq,<-t_];exact lD λd _=>by grind
  show sg * (val (tb.getD i (0,1)) - x i)=sg * (h9 share ws gv x i - x i)+val share * aI (λd=>cV d * (sg * (val (tb.getD d.1.toNat (0,1)) - x d.1.toNat))) (ws i);rw [l,e];unfold h9;grind
end
def a_:List (Int×Nat)->Pl->Prop
 | [],[]=>True
 | (k,c)::r,(k',v)::p=>k=k'/\0<=v/\v < c/\a_ r p
 | _,_=>False
def MZ:List (Int×Nat)->List Pl
 | []=>[[]]
 | (k,c)::r=>(List.range c).flatMap λj:Nat=>(MZ r).map λp=>(k,(j:Int))::p
theorem xV:∀{kc:List (Int×Nat)} {p:Pl},a_ kc p->p∈MZ kc
 | [],[],_=>aba.mpr rfl
 | (k,c)::r,(k',v)::p,h=>by obtain ⟨rfl,v0,v1,h⟩:=h;refine List.mem_flatMap.mpr ⟨v.toNat,abc.mpr (by omega),aak.mpr ⟨p,xV h, ?_⟩⟩;rw [abY v0]
 | [],_::_,h=>h.elim
 | _::_,[],h=>h.elim
theorem b9:∀{kc:List (Int×Nat)} {p:Pl},a_ kc p->p.map (·.1)=kc.map (·.1)
 | [],[],_=>rfl
 | (k,c)::r,(k',v)::p,h=>by obtain ⟨rfl,_,_,h⟩:=h;rw [aaF,aaF,b9 h]
 | [],_::_,h=>h.elim
 | _::_,[],h=>h.elim
theorem xb:∀{kc:List (Int×Nat)} {p:Pl} {i v:Int},a_ kc p->Ξ p i=some v->∃c,(i,c)∈kc/\0<=v/\v < (c:Int)
 | [],[],_,_,_,h=>by cases h
 | (k,c)::r,(k',v')::p,i,v,h,g=>by
  obtain ⟨rfl,v0,v1,h⟩:=h;unfold Ξ at g;split at g
  ·rename_i e;have e:k=i:=e;cases g;exact ⟨c,by rw [<-e];exact aaf,v0,v1⟩
  ·obtain ⟨c',m,a⟩:=xb h g;exact ⟨c',aad _ m,a⟩
 | [],_::_,_,_,h,_=>h.elim
 | _::_,[],_,_,h,_=>h.elim
theorem wV:∀{kc:List (Int×Nat)} {p:Pl} {i v:Int},a_ kc p->(∀c,(i,c)∈kc->0<=v/\v < (c:Int))->a_ kc (p.map λq=>if q.1=i then (q.1,v) else q)
 | [],[],_,_,_,_=>trivial
 | (k,c)::r,(k',v')::p,i,v,h,g=>by
  obtain ⟨rfl,v0,v1,h⟩:=h;have ih:=wV h λc hc=>g c (aad _ hc);show a_ ((k,c)::r) ((if k=i then (k,v) else (k,v'))::p.map λq=>if q.1=i then (q.1,v) else q);by_cases e:k=i
  ·rw [if_pos e];have:=g c (by rw [<-e];exact aaf);exact ⟨rfl,this.1,this.2,ih⟩
  ·rw [if_neg e];exact ⟨rfl,v0,v1,ih⟩
 | [],_::_,_,_,h,_=>h.elim
 | _::_,[],_,_,h,_=>h.elim
theorem mS{i:Int}:∀{p:Pl},i∈p.map (·.1)->(Ξ p i).isSome=true
 | q::p,h=>by
  unfold Ξ;split
  ·rfl
  ·rcases aay.mp h with e | e
   ·rename_i ne;exact absurd e.symm ne
   ·exact mS e
theorem GY{kc:List (Int×Nat)}{p:Pl}{i v:Int}(h:a_ kc p)(hk:i∈kc.map (·.1))(g:∀c,(i,c)∈kc->0<=v/\v < (c:Int)):a_ kc (dZ p i v):=by unfold dZ;rw [if_pos (mS (by rw [b9 h];exact hk))];exact wV h g
theorem FY{α:Type}{P Q:α->Bool}:∀{l:List α},(∀a∈l,P a=true->Q a=true)->∀{b:α},b∈l->Q b=true->P b=false->l.countP P < l.countP Q
 | a::l,h,b,hb,hq,hp=>by
  have le:l.countP P<=l.countP Q:=List.countP_mono_left λx hx=>h x (aad _ hx);rw [List.countP_cons,List.countP_cons];rcases aay.mp hb with e | e
  ·subst e;rw [hq,hp];show l.countP P+0 < l.countP Q+1;omega
  ·have:=FY (λx hx=>h x (aad _ hx)) e hq hp;have ha:=h a aaf;cases hP:P a with
   | false=>rw [if_neg (by decide)];split <;> omega
   | true=>rw [ha hP,if_pos rfl];omega
noncomputable def T7(share:Fr)(rows:List Rw)(Ε:Pl)(i:Nat):Rat:=open Classical in if h:∃tb,oO share rows Ε tb then val (h.choose.getD i (0,1)) else 0
noncomputable def AJ(share:Fr)(rows:List Rw)(sg:Rat)(Ε:Pl):Rat:=dI (λi=>sg * T7 share rows Ε i) rows.length
theorem uG{share:Fr}{rows:List Rw}{Ε:Pl}{X C:Int}{tb:List Fr}(fw:FW share rows X C)(dk:iQ rows Ε)(b1:1<=ow X C)(h:oO share rows Ε tb)(i:Nat):T7 share rows Ε i=val (tb.getD i (0,1)):=by have ex:∃tb,oO share rows Ε tb:=⟨tb,h⟩;unfold T7;rw [dif_pos ex,(fw.sys dk b1).uniq ex.choose_spec.tab h.tab]
theorem B6{f g:Nat->Rat}:∀{n:Nat},(∀i,i < n->f i<=g i)->∀{k:Nat},k < n->f k < g k->dI f n < dI g n
 | n+1,h,k,hk,hl=>by
  have le:∀{m:Nat},(∀i,i < m->f i<=g i)->dI f m<=dI g m:=λ{m}=>by
   induction m with
   | zero=>intro _;show (0:Rat)<=0;grind
   | succ m ih=>
    intro h;have:=ih λi hi=>h i (abK hi);have:=h m (aa8 _);show dI f m+f m<=dI g m+g m;grind
  show dI f n+f n < dI g n+g n;by_cases e:k=n
  ·subst e;have:=le λi hi=>h i (abK hi);grind
  ·have:=B6 (λi hi=>h i (abK hi)) (show k < n by omega) hl;have:=h n (aa8 _);grind
noncomputable def above(share:Fr)(rows:List Rw)(sg:Rat)(mk:Pl->Pl)(kc:List (Int×Nat))(p:Pl):Nat:=open Classical in (MZ kc).countP λq=>decide (AJ share rows sg (mk p) < AJ share rows sg (mk q))
theorem IL{share:Fr}{rows:List Rw}{sg:Rat}{mk:Pl->Pl}{kc:List (Int×Nat)}{p q:Pl}(hq:a_ kc q)(lt:AJ share rows sg (mk p) < AJ share rows sg (mk q)):above share rows sg mk kc q < above share rows sg mk kc p:=by unfold above;refine FY (λa _ ha=> ?_) (xV hq) (decide_eq_true lt) (decide_eq_false (by grind));have:=of_decide_eq_true ha;exact decide_eq_true (by grind)
def lJ(ns:List Fr):Fr:=ns.foldl (λf n=>if cy f n then n else f) (ns.headD (0,1))
def kW(ns:List Fr):Fr:=ns.foldl (λf n=>if cy n f then n else f) (ns.headD (0,1))
def Bj:DF:=λas M q _=>∃p r k l,as=[Υ p,Υ r]/\Sz k p/\Sz l r/\k+l+1<=8000/\q (.bl (cy p r)) M
theorem JU:Γ ["one","other"] ["one","other"] (θ Bg):=⟨rfl,rfl,rfl,by decide+kernel,rfl,by decide+kernel,by decide+kernel⟩
theorem Hh{f:Addr}{fd:FuncData}(F:cH K "under" "under" Bg f fd)(E:Ev K mg w Cm):af P w K mg base (bX P w) 1 f fd ["one","other"] (cn K Bj):=by
 refine F.dF JU (λds M q x h=> ?_) (λaV A outer s H E' hr=>⟨_,(ι (Β (KC (aw (Ι (jv 0) υ) (Ι (jv 1) υ)) (aw (Ι (jv 1) υ) (Ι (jv 0) υ))))),λds M q x h=> ?_⟩)
 ·obtain ⟨p,r,k,l,rfl,_⟩:=h;rfl
 ·obtain ⟨p,r,k,l,rfl,hp,dX,hk,h⟩:=h;exact ⟨⟨fE hp (by omega),cL dX (by omega)⟩,⟨fE dX (by omega),cL hp (by omega)⟩,h⟩
def vZ(f:List Fr->Fr):DF:=λas M q _=>∃ns:List Fr,as=[.lst (ns.map Υ)]/\ns≠[]/\(∀n∈ns,Sz 1300 n)/\q (Υ (f ns)) M
theorem iS:Γ ["numbers","found","number"] ["numbers"] (θ mX):=⟨rfl,rfl,rfl,by decide+kernel,rfl,by decide+kernel,by decide+kernel⟩
theorem xK{f:Addr}{fd:FuncData}(F:cH K "greatest" "greatest" mX f fd)(E:Ev K mg w Cm){A0:Addr}{Ah:FuncData}(kg:aj P w K mg base 1 "under" ["one","other"] Bj A0 Ah):af P w K mg base (bX P w) 2 f fd ["numbers"] (cn K (vZ lJ)):=by
 refine F.dF iS (λds M q x h=> ?_) (λaV A outer s H E' hr=>⟨_,(ζ (ω (i:=1) iS.nd rfl (Or.inl rfl) (Ι (jv 0) υ))
   (ζ (cT (bA (jv 0)) (ag (i:=2) iS.nd rfl (Or.inl rfl)) aP (ι (aB (bW (aa kg hr ν (γ (jv 1) (γ (jv 2) η (hs:=μ)) (hs:=μ)))) (ι (ω (i:=1) iS.nd rfl (Or.inl rfl) (jv 2))) Τ)))
   (ι (Β (jv 1))))),λds M q x h=> ?_⟩)
 ·obtain ⟨ns,rfl,_⟩:=h;rfl
 ·obtain ⟨ns,rfl,h0,hn,h⟩:=h;obtain ⟨n0,ns',rfl⟩:=aa9 h0;walk_at "vc";refine Ζ (d:= .lst ((n0::ns').map Υ)) rfl aO ?_;refine dD (i:=0) (d:= .lst ((n0::ns').map Υ)) rfl rfl ?_;refine bJ (λxs ρ M'=>M'=M/\∃(rest:List Fr) (f:Fr) (a:Option Dt),xs=rest.map Υ/\(∀p∈rest,Sz 1300 p)/\Sz 1300 f/\rest.foldl (λf n=>if cy f n then n else f) f=lJ (n0::ns')/\ρ=[some (.lst ((n0::ns').map Υ)),some (Υ f),a]) (λxs ρ M' hj=>trivial) (λx xs ρ M' hj fe=> ?_) (λρ M' hj=> ?_) _ _ _ ⟨rfl,n0::ns',n0,none,rfl,hn,hn n0 aaf,rfl,rfl⟩
  ·obtain ⟨rfl,rest,f,a,ex,wJ,hw,hf,rfl⟩:=hj;cases rest with
   | nil=>cases ex
   | cons p rest=>
    cases ex;have hp:=wJ p aaf;rw [abp] at hf;refine ⟨f,p,1300,1300,rfl,hw,hp,by decide,λz=> ?_,λz=> ?_⟩
    ·rw [z,if_pos rfl] at hf;exact fe _ _ ⟨rfl,rest,p,_,rfl,λp hp=>wJ p (aad _ hp),hp,hf,rfl⟩
    ·rw [z,if_neg (by decide)] at hf;exact fe _ _ ⟨rfl,rest,f,_,rfl,λp hp=>wJ p (aad _ hp),hw,hf,rfl⟩
  ·obtain ⟨rfl,rest,f,a,ex,wJ,hw,hf,rfl⟩:=hj;cases rest with
   | nil=>rw [<-hf] at h;exact h
   | cons p rest=>cases ex
theorem pD:Γ ["numbers","found","number"] ["numbers"] (θ zM):=⟨rfl,rfl,rfl,by decide+kernel,rfl,by decide+kernel,by decide+kernel⟩
theorem Fq{f:Addr}{fd:FuncData}(F:cH K "least" "least" zM f fd)(E:Ev K mg w Cm){A0:Addr}{Ah:FuncData}(kg:aj P w K mg base 1 "under" ["one","other"] Bj A0 Ah):af P w K mg base (bX P w) 2 f fd ["numbers"] (cn K (vZ kW)):=by
 refine F.dF pD (λds M q x h=> ?_) (λaV A outer s H E' hr=>⟨_,(ζ (ω (i:=1) pD.nd rfl (Or.inl rfl) (Ι (jv 0) υ))
   (ζ (cT (bA (jv 0)) (ag (i:=2) pD.nd rfl (Or.inl rfl)) aP (ι (aB (bW (aa kg hr ν (γ (jv 2) (γ (jv 1) η (hs:=μ)) (hs:=μ)))) (ι (ω (i:=1) pD.nd rfl (Or.inl rfl) (jv 2))) Τ)))
   (ι (Β (jv 1))))),λds M q x h=> ?_⟩)
 ·obtain ⟨ns,rfl,_⟩:=h;rfl
 ·obtain ⟨ns,rfl,h0,hn,h⟩:=h;obtain ⟨n0,ns',rfl⟩:=aa9 h0;walk_at "vc";refine Ζ (d:= .lst ((n0::ns').map Υ)) rfl aO ?_;refine dD (i:=0) (d:= .lst ((n0::ns').map Υ)) rfl rfl ?_;refine bJ (λxs ρ M'=>M'=M/\∃(rest:List Fr) (f:Fr) (a:Option Dt),xs=rest.map Υ/\(∀p∈rest,Sz 1300 p)/\Sz 1300 f/\rest.foldl (λf n=>if cy n f then n else f) f=kW (n0::ns')/\ρ=[some (.lst ((n0::ns').map Υ)),some (Υ f),a]) (λxs ρ M' hj=>trivial) (λx xs ρ M' hj fe=> ?_) (λρ M' hj=> ?_) _ _ _ ⟨rfl,n0::ns',n0,none,rfl,hn,hn n0 aaf,rfl,rfl⟩
  ·obtain ⟨rfl,rest,f,a,ex,wJ,hw,hf,rfl⟩:=hj;cases rest with
   | nil=>cases ex
   | cons p rest=>
    cases ex;have hp:=wJ p aaf;rw [abp] at hf;refine ⟨p,f,1300,1300,rfl,hp,hw,by decide,λz=> ?_,λz=> ?_⟩
    ·rw [z,if_pos rfl] at hf;exact fe _ _ ⟨rfl,rest,p,_,rfl,λp hp=>wJ p (aad _ hp),hp,hf,rfl⟩
    ·rw [z,if_neg (by decide)] at hf;exact fe _ _ ⟨rfl,rest,f,_,rfl,λp hp=>wJ p (aad _ hp),hw,hf,rfl⟩
  ·obtain ⟨rfl,rest,f,a,ex,wJ,hw,hf,rfl⟩:=hj;cases rest with
   | nil=>rw [<-hf] at h;exact h
   | cons p rest=>cases ex
structure FJ(share:Fr)(rows:List Rw)(tb:List Fr):Prop where
 sh:aH share=true
 len:rows.length<=12
 row:∀r∈rows,fj r/\eQ r rows.length=true
 tl:tb.length=rows.length
 ts:∀t∈tb,Sz 1150 t
def fk(share:Fr)(tb:List Fr):Rw->Fr
 | .fin p=>p
 | .τ k ds=>if k="one" then lJ (ds.map (Φ share tb)) else kW (ds.map (Φ share tb))
def cz(share:Fr)(tb:List Fr):Rw->List Nat
 | .fin _=>[]
 | .τ k ds=>if Δ k then (List.range ds.length).filter λj=>decide (Φ share tb (ds.getD j d0)=fk share tb (.τ k ds)) else []
theorem xJ{share:Fr}{rows:List Rw}{tb:List Fr}{k:Str}{ds:List bQ}(f:FJ share rows tb)(h:Rw.τ k ds∈rows):Ψ ds rows.length=true/\(Δ k=true\/k="chance"):=by
 have h2:=(f.row _ h).2;have h2:(if Δ k then Ψ ds rows.length else if k="chance" then Ψ ds rows.length&&Ω (ds.map χ) else false)=true:=h2;by_cases hk:Δ k=true
 ·rw [if_pos hk] at h2;exact ⟨h2, .inl hk⟩
 ·rw [if_neg hk] at h2;by_cases hc:k="chance"
  ·rw [if_pos hc,aas] at h2;exact ⟨h2.1, .inr hc⟩
  ·rw [if_neg hc] at h2;cases h2
theorem Bo{share:Fr}{rows:List Rw}{tb:List Fr}{k:Str}{ds:List bQ}{d:bQ}(f:FJ share rows tb)(h:Rw.τ k ds∈rows)(hd:d∈ds):0<=d.1/\d.1 < rows.length/\Sz 101 d.2.1:=by have h2:=(xJ f h).1;unfold Ψ at h2;rw [aas,aas] at h2;have h3:=List.all_eq_true.mp h2.2 d hd;unfold ax at h3;rw [aas,aas,decide_eq_true_iff,decide_eq_true_iff] at h3;exact ⟨h3.1,h3.2.1,Nl h3.2.2 ((f.row _ h).1.2.2.2 d hd).2⟩
theorem Hu{share:Fr}{rows:List Rw}{tb:List Fr}{k:Str}{ds:List bQ}(f:FJ share rows tb)(h:Rw.τ k ds∈rows):1<=ds.length/\ds.length<=6:=by have h2:=(xJ f h).1;unfold Ψ at h2;rw [aas,aas,decide_eq_true_iff,decide_eq_true_iff] at h2;exact h2.1
theorem Cb{share:Fr}{rows:List Rw}{tb:List Fr}{t:Int}(f:FJ share rows tb)(h0:0<=t)(h1:t < rows.length):lY (tb.map Υ) t=some (Υ (rN tb t))/\Sz 1150 (rN tb t):=by
 have hl:t.toNat < tb.length:=by rw [f.tl];omega
 have e:rN tb t=tb[t.toNat]:=by unfold rN;rw [List.getD_eq_getElem?_getD,List.getElem?_eq_getElem hl];rfl
 refine ⟨?_,by rw [e];exact f.ts _ (aaA hl)⟩;have e2:(tb.map Υ)[t.toNat]? =some (Υ (rN tb t)):=by rw [aao,aaa hl,e];rfl
 have:=Η e2;rwa [show ((t.toNat:Nat):Int)=t by omega] at this
theorem IE{share:Fr}{rows:List Rw}{tb:List Fr}{k:Str}{ds:List bQ}{d:bQ}(f:FJ share rows tb)(h:Rw.τ k ds∈rows)(hd:d∈ds):Sz 1300 (Φ share tb d):=by obtain ⟨a,b,c⟩:=Bo f h hd;exact pw (JV c (yC (mG f.sh) (Cb f a b).2)) (by decide)
theorem RQ(p q:Fr):me [.int p.1, .int p.2] [.int q.1, .int q.2]=decide (p=q):=by
 obtain ⟨a,b⟩:=p;obtain ⟨c,d⟩:=q;show ((a==c)&&((b==d)&&true))=_;rw [Bool.and_true];by_cases h1:a=c
 ·by_cases h2:b=d
  ·subst h1 h2;simp
  ·have:¬((a,b)=(c,d)):=λz=>h2 (Prod.mk.inj z).2;rw [decide_eq_false this];simp [h2]
 ·have:¬((a,b)=(c,d)):=λz=>h1 (Prod.mk.inj z).1;rw [decide_eq_false this];simp [h1]
theorem Qs{p r:Fr}{M:Ms}{k:Bool->Ms->Prop}(h:k (decide (p=r)) M):Aj (Υ p) (Υ r) M (λd M1=>match d with | .bl b=>k b M1 | _=>False):=by show k (me [.int p.1, .int p.2] [.int r.1, .int r.2]) M;rw [RQ];exact h
theorem oI(p:Fr->Bool):∀(xs:List Fr) (n:Nat),((iw n (xs.map Υ)).filter (λx=>match x with | .tup [_, .tup [.int a, .int b]]=>p (a,b) | _=>false)).map (λx=>match x with | .tup [i,_]=>i | _=> .br)=((List.range xs.length).filter λj=>p (xs.getD j (0,1))).map λj:Nat=>Dt.int ((n+j:Nat):Int)
 | [],n=>rfl
 | x::xs,n=>by
  have ih:=oI p xs (n+1);rw [aau,abz,aaF];show (List.filter _ (.tup [.int n,Υ x]::iw (n+1) (xs.map Υ))).map _=_;have e1:((List.map Nat.succ (List.range xs.length)).filter λj=>p ((x::xs).getD j (0,1)))=((List.range xs.length).filter λj=>p (xs.getD j (0,1))).map Nat.succ:=by rw [List.filter_map];rfl
  by_cases hp:p x=true
  ·have h1:(match Dt.tup [.int n,Υ x] with | .tup [_, .tup [.int a, .int b]]=>p (a,b) | _=>false)=true:=hp;rw [List.filter_cons_of_pos (by exact h1),List.filter_cons_of_pos (by exact hp),aaF,aaF,ih,e1,aaE]
   congr 1
   apply aaW;intro j _;show Dt.int _=Dt.int _
   congr 2;omega
  ·have h1:¬(match Dt.tup [.int n,Υ x] with | .tup [_, .tup [.int a, .int b]]=>p (a,b) | _=>false)=true:=hp;rw [List.filter_cons_of_neg (by exact h1),List.filter_cons_of_neg (by exact hp),ih,e1,aaE];apply aaW;intro j _;show Dt.int _=Dt.int _
   congr 2;omega
def FH(C:Addr):DF:=λas M q _=>∃share rows tb i j k ds d,as=[av C share rows, .int (i:Nat), .int (j:Nat), .lst (tb.map Υ)]/\rows[i]? =some (.τ k ds)/\ds[j]? =some d/\FJ share rows tb/\q (Υ (Φ share tb d)) M
theorem mq:Γ ["self","place","door","table","taken"] ["self","place","door","table"] (θ jF):=⟨rfl,rfl,rfl,by decide+kernel,rfl,by decide+kernel,by decide+kernel⟩
theorem rP{f:Addr}{fd:FuncData}(F:cH K "shown" "Floor.shown" jF f fd)(E:Ev K mg w Cm){FE:Addr}{Gr:FuncData}(og:aj P w K mg base 3 "plus" ["one","other"] HZ FE Gr){pP:Addr}{qx:FuncData}(fq:aj P w K mg base 3 "times" ["one","other"] ui pP qx):af P w K mg base (bX P w) 4 f fd ["self","place","door","table"] (cn K (FH Cm)):=by
 refine F.dF mq (λds M q x h=> ?_) (λaV A outer s H E' hr=>⟨_,(ζ (ω (i:=4) mq.nd rfl (Or.inl rfl) (Ι (Ι (Ι (pO E.cQ E.bP (jv 0)) (jv 1)) υ) (jv 2)))
   (ι (Β (aa og hr ν (γ (Ι (jv 4) υ) (γ (aa fq hr ν (γ (pO E.cQ E.eN (jv 0)) (γ (Ι (jv 3) (Ι (jv 4) υ)) η (hs:=aU)))) η (hs:=aA)) (hs:=aU)))))),λds M q x h=> ?_⟩)
 ·obtain ⟨share,rows,tb,i,j,k,ds,d,rfl,_⟩:=h;rfl
 ·obtain ⟨share,rows,tb,i,j,k,ds,d,rfl,hi,hj,f,h⟩:=h;have hm:Rw.τ k ds∈rows:=aal hi;have hd:d∈ds:=aal hj;obtain ⟨a,b,c⟩:=Bo f hm hd;obtain ⟨t1,t2⟩:=Cb f a b;have ZH:(ds.map ef)[j]? =some (ef d):=by rw [aao,hj];rfl
  refine ⟨_,_,_, .inl rfl,rfl, ?_⟩;walk_at "vc";refine Ζ (xs:=rows.map aN) rfl (Η (mI hi)) (LD (Ζ (d:= .lst (ds.map ef)) rfl (Η ZH) ?_));refine LY ⟨_,_,_, .inl rfl,rfl,Gk (Ζ (d:= .lst (tb.map Υ)) rfl t1 ⟨share,rN tb d.1,11,1150,rfl,mG f.sh,t2,by decide,d.2.1,_,101,1161,rfl,c,yC (mG f.sh) t2,by decide,h⟩)⟩
def n_(C:Addr):DF:=λas M q _=>∃share rows tb i k ds,as=[av C share rows, .int (i:Nat), .lst (tb.map Υ)]/\rows[i]? =some (.τ k ds)/\FJ share rows tb/\q (.lst (ds.map λd=>Υ (Φ share tb d))) M
theorem oX:Γ ["self","place","table"] ["self","place","table"] (θ cD):=⟨rfl,rfl,rfl,by decide+kernel,rfl,by decide+kernel,by decide+kernel⟩
theorem ny{f:Addr}{fd:FuncData}(F:cH K "all_shown" "Floor.all_shown" cD f fd)(E:Ev K mg w Cm){cB:Addr}{cC:FuncData}(az:cE P w K mg base 2 Cm "doors" ["self","place"] (pQ Cm) cB cC){xN:Addr}{wY:FuncData}(iX:cE P w K mg base 4 Cm "shown" ["self","place","door","table"] (FH Cm) xN wY):af P w K mg base (bX P w) 5 f fd ["self","place","table"] (cn K (n_ Cm)):=by
 refine F.dF oX (λds M q x h=> ?_) (λaV A outer s H E' hr=>⟨_,(ι (Β (IM (ys:=["place","table","self"]) (caps:=[1,2,0]) ⟨rfl,by decide+kernel,by decide+kernel,rfl,(by show∀p:Str×NameKind,p∈_->p.2=NameKind.free->List.lookup p.1 (θ cD).names=some .cell;decide+kernel),by decide+kernel,(by show∀q:Str×Nat,q∈_->(["self","place","table"]:List Str)[q.2]? =some q.1/\List.lookup q.1 (θ cD).names=some .cell/\_;decide+kernel),rfl⟩ (cv E.bG (γ (bK E.aZ (γ (bL (bt az hr ν (jv 0) (γ (jv 1) η (hs:=μ)))) η (hs:=aA))) η (hs:=aA))) (λC s H fp=>(bt iX hr (i6 (P:=P) (w:=w)) (jv 3) (γ (jv 1) (γ (jv 0) (γ (jv 2) η (hs:=μ)) (hs:=μ)) (hs:=μ))))))),λds M q x h=> ?_⟩)
 ·obtain ⟨share,rows,tb,i,k,ds,rfl,_⟩:=h;rfl
 ·obtain ⟨share,rows,tb,i,k,ds,rfl,hi,f,h⟩:=h;have hm:Rw.τ k ds∈rows:=aal hi;have ro:=(f.row _ hm).1;have l6:=Hu f hm;refine ⟨⟨_,_, .inl rfl,rfl⟩,share,rows,i, .τ k ds,rfl,hi,ro,cG (ds:=ds.map ef) (gP ds) ?_⟩;walk_at "vc";refine ae (d:= .lst (ds.map ef)) (xs:=ds.map ef) rfl ?_;rw [aae];refine ⟨⟨by omega,by omega⟩,by rw [fQ];exact aaw (show _<=6 by omega) (by decide), ?_⟩;refine nV (f:=λx=>match x with | .int j=>Υ (Φ share tb (ds.getD j.toNat d0)) | _=> .br) _ _ (λx Ur q' hq=> ?_) ?_
  ·obtain ⟨j,hj,rfl⟩:=qE Ur;have hj:j < ds.length:=by omega
   have e:ds.getD (0+(j:Int)).toNat d0=ds[j]:=by rw [show (0+(j:Int)).toNat=j by omega,aab,aaa hj];rfl
   have hq:q' (Υ (Φ share tb (ds.getD (0+(j:Int)).toNat d0))) M:=hq;rw [e] at hq;refine ⟨⟨_,_, .inl rfl,rfl⟩,share,rows,tb,i,j,k,ds,ds[j],by rw [Int.zero_add],hi,aaa hj,f,hq⟩
  ·rw [aaM,show ((ds.length:Int)).toNat=ds.length by omega];exact (λ(key:∀l,l=ds.map (λd=>Υ (Φ share tb d))->q (.lst l) M)=>key _ (BS ds d0 (λd=>Υ (Φ share tb d)))) λl hl=>by rw [hl];exact h
def Lr(C:Addr):DF:=λas M q _=>∃share rows tb i r,as=[av C share rows, .int (i:Nat), .lst (tb.map Υ)]/\rows[i]? =some r/\Δ (kindOf r)=true/\FJ share rows tb/\q (Υ (fk share tb r)) M
theorem oj:Γ ["self","place","table","kind"] ["self","place","table"] (θ gq):=⟨rfl,rfl,rfl,by decide+kernel,rfl,by decide+kernel,by decide+kernel⟩
theorem wu{f:Addr}{fd:FuncData}(F:cH K "look" "Floor.look" gq f fd)(E:Ev K mg w Cm){aE:Addr}{aC:FuncData}(Μ:cE P w K mg base 1 Cm "kind" ["self","place"] (mM Cm) aE aC){mV:Addr}{nF:FuncData}(eF:cE P w K mg base 2 Cm "pay" ["self","place"] (OS Cm) mV nF){qd:Addr}{qo:FuncData}(fL:aj P w K mg base 4 "weighed" ["chances","numbers"] rB qd qo){gE:Addr}{gw:FuncData}(aK:cE P w K mg base 5 Cm "all_shown" ["self","place","table"] (n_ Cm) gE gw){cB:Addr}{cC:FuncData}(az:cE P w K mg base 2 Cm "doors" ["self","place"] (pQ Cm) cB cC){D1:Addr}{CK:FuncData}(k9:aj P w K mg base 2 "greatest" ["numbers"] (vZ lJ) D1 CK){Mo:Addr}{Om:FuncData}(uN:aj P w K mg base 2 "least" ["numbers"] (vZ kW) Mo Om):af P w K mg base (bX P w) 6 f fd ["self","place","table"] (cn K (Lr Cm)):=by
 refine F.dF oj (λds M q x h=> ?_) (λaV A outer s H E' hr=>⟨_,(ζ (ω (i:=3) oj.nd rfl (Or.inl rfl) (bt Μ hr ν (jv 0) (γ (jv 1) η (hs:=μ))))
   (ζ (aB (d_ hr (jv 3) jo) (ι (Β (bt eF hr ν (jv 0) (γ (jv 1) η (hs:=μ))))) Τ)
   (ζ (aB (d_ hr (jv 3) jo) (ι (Β (aa fL hr ν (γ (fo (ys:=[]) (caps:=[]) ⟨rfl,by decide+kernel,by decide+kernel,rfl,(by show∀p:Str×NameKind,p∈_->p.2=NameKind.free->List.lookup p.1 (θ gq).names=some .cell;decide+kernel),by decide+kernel,(by show∀q:Str×Nat,q∈_->(["self","place","table","kind"]:List Str)[q.2]? =some q.1/\List.lookup q.1 (θ gq).names=some .cell/\_;decide+kernel),rfl⟩ (bA (bL (bt az hr ν (jv 0) (γ (jv 1) η (hs:=μ))))) (λC s H fp=>(Ι (jv 0) υ))) (γ (bt aK hr ν (jv 0) (γ (jv 1) (γ (jv 2) η (hs:=μ)) (hs:=μ))) η (hs:=aA)))))) Τ)
   (ζ (aB (d_ hr (jv 3) jo) (ι (Β (aa k9 hr ν (γ (bt aK hr ν (jv 0) (γ (jv 1) (γ (jv 2) η (hs:=μ)) (hs:=μ))) η (hs:=aA))))) Τ)
   (ι (Β (aa uN hr ν (γ (bt aK hr ν (jv 0) (γ (jv 1) (γ (jv 2) η (hs:=μ)) (hs:=μ))) η (hs:=aA))))))))),λds M q x h=> ?_⟩)
 ·obtain ⟨share,rows,tb,i,r,rfl,_⟩:=h;rfl
 ·obtain ⟨share,rows,tb,i,r,rfl,hi,hand,f,h⟩:=h;have hm:r∈rows:=aal hi;have ro:=(f.row _ hm).1;refine ⟨⟨_,_, .inl rfl,rfl⟩,share,rows,i,r,rfl,hi, ?_⟩;cases r with
  | fin p=>exact ⟨λ_=>⟨⟨_,_, .inl rfl,rfl⟩,share,rows,i, .fin p,rfl,hi,ro,h⟩,λz=>(nomatch z)⟩
  | τ k ds=>
   have l6:=Hu f hm;have eS:ds.map (λd=>Υ (Φ share tb d))=(ds.map (Φ share tb)).map Υ:=by rw [aaE];rfl
   have hS:∀n∈ds.map (Φ share tb),Sz 1300 n:=λn hn=>by obtain ⟨d,hd,rfl⟩:=aak.mp hn;exact IE f hm hd
   have hN:ds.map (Φ share tb)≠[]:=λz=>by have:=congrArg List.length z;rw [aae] at this;simp at this;rw [this] at l6;exact absurd l6.1 (by decide)
   refine ⟨λz=>absurd (of_decide_eq_true z) ro.1,λ_=>⟨λz=> ?_,λz=> ?_⟩⟩
   ·have z:k="chance":=of_decide_eq_true z;rw [z] at hand;exact absurd hand (by show¬Δ (Str.ofString "chance")=true;decide)
   ·have z:k≠"chance":=of_decide_eq_false z;refine ⟨λz1=> ?_,λz1=> ?_⟩
    ·have z1:k="one":=of_decide_eq_true z1;have e1:fk share tb (.τ k ds)=lJ (ds.map (Φ share tb)):=if_pos z1;rw [e1] at h;refine ⟨⟨_,_, .inl rfl,rfl⟩,share,rows,tb,i,k,ds,rfl,hi,f, ?_⟩;rw [eS];exact ⟨_,rfl,hN,hS,h⟩
    ·have z1:k≠"one":=of_decide_eq_false z1;have e1:fk share tb (.τ k ds)=kW (ds.map (Φ share tb)):=if_neg z1;rw [e1] at h;refine ⟨⟨_,_, .inl rfl,rfl⟩,share,rows,tb,i,k,ds,rfl,hi,f, ?_⟩;rw [eS];exact ⟨_,rfl,hN,hS,h⟩
def Lv(C:Addr):DF:=λas M q _=>∃share rows tb i r,as=[av C share rows, .int (i:Nat), .lst (tb.map Υ)]/\rows[i]? =some r/\FJ share rows tb/\q (.lst ((cz share tb r).map λj:Nat=>Dt.int j)) M
theorem om:Γ ["self","place","table","look"] ["self","place","table"] (θ gu):=⟨rfl,rfl,rfl,by decide+kernel,rfl,by decide+kernel,by decide+kernel⟩
theorem vX{f:Addr}{fd:FuncData}(F:cH K "best" "Floor.best" gu f fd)(E:Ev K mg w Cm){aE:Addr}{aC:FuncData}(Μ:cE P w K mg base 1 Cm "kind" ["self","place"] (mM Cm) aE aC){zI:Addr}{zJ:FuncData}(jU:cE P w K mg base 6 Cm "look" ["self","place","table"] (Lr Cm) zI zJ){gE:Addr}{gw:FuncData}(aK:cE P w K mg base 5 Cm "all_shown" ["self","place","table"] (n_ Cm) gE gw):af P w K mg base (bX P w) 7 f fd ["self","place","table"] (cn K (Lv Cm)):=by
 refine F.dF om (λds M q x h=> ?_) (λaV A outer s H E' hr=>⟨_,(ζ (aB (sP (bt Μ hr ν (jv 0) (γ (jv 1) η (hs:=μ))) (Gj E.vU)) (ι (Β (kH η))) Τ)
   (ζ (ω (i:=3) om.nd rfl (Or.inr rfl) (bt jU hr ν (jv 0) (γ (jv 1) (γ (jv 2) η (hs:=μ)) (hs:=μ))))
   (ι (Β (Hg (ys:=["look"]) (caps:=[3]) ⟨rfl,by decide+kernel,by decide+kernel,(by show∀x:Str,x∈(["door","told"]:List Str)->_;decide+kernel),(by show∀p:Str×NameKind,p∈_->p.2=NameKind.free->List.lookup p.1 (θ gu).names=some .cell;decide+kernel),by decide+kernel,(by show∀q:Str×Nat,q∈_->(["self","place","table","look"]:List Str)[q.2]? =some q.1/\List.lookup q.1 (θ gu).names=some .cell/\_;decide+kernel),rfl⟩ (uH E.dz (γ (bt aK hr ν (jv 0) (γ (jv 1) (γ (jv 2) η (hs:=μ)) (hs:=μ))) η (hs:=aA))) (λC s H fp=>(d_ hr (jv 1) (jv 2))) (λC s H fp=>(jv 0))))))),λds M q x h=> ?_⟩)
 ·obtain ⟨share,rows,tb,i,r,rfl,_⟩:=h;rfl
 ·obtain ⟨share,rows,tb,i,r,rfl,hi,f,h⟩:=h;have hm:r∈rows:=aal hi;have ro:=(f.row _ hm).1;refine ⟨⟨_,_, .inl rfl,rfl⟩,share,rows,i,r,rfl,hi, .str (kindOf r),[.str "one", .str "other"],[.str "one", .str "other"],rfl,rfl,rfl, ?_⟩;rw [qg];cases r with
  | fin p=>exact ⟨λ_=>⟨by decide,h⟩,λz=>(nomatch (show (!Δ "end")=false from z))⟩
  | τ k ds=>
   have l6:=Hu f hm;refine ⟨λz=> ?_,λz=> ?_⟩
   ·have z:Δ k=false:=by have:(!Δ k)=true:=z;simpa using this
    have e1:cz share tb (.τ k ds)=[]:=if_neg (by rw [z];decide);rw [e1] at h;exact ⟨by decide,h⟩
   ·have z:Δ k=true:=by have:(!Δ k)=false:=z;simpa using this
    have e1:cz share tb (.τ k ds)=(List.range ds.length).filter λj=>decide (Φ share tb (ds.getD j d0)=fk share tb (.τ k ds)):=if_pos z;rw [e1] at h;refine ⟨⟨_,_, .inl rfl,rfl⟩,share,rows,tb,i, .τ k ds,rfl,hi,z,f, ?_⟩;refine ⟨⟨_,_, .inl rfl,rfl⟩,share,rows,tb,i,k,ds,rfl,hi,f, ?_⟩;generalize fk share tb (.τ k ds)=lk at *
    have eS:ds.map (λd=>Υ (Φ share tb d))=(ds.map (Φ share tb)).map Υ:=by rw [aaE];rfl
    rw [eS];refine ⟨_,_,_,rfl,rfl,by rw [iK,aae,aae];exact aaw l6.2 (by decide), ?_⟩;refine fv trivial (λx=>match x with | .tup [_, .tup [.int a, .int b]]=>decide ((a,b)=lk) | _=>false) (λx=>match x with | .tup [i,_]=>i | _=> .br) _ _ (λx hx q' p' h1 h2=> ?_) ?_
    ·obtain ⟨j,hj,ej⟩:=aa2 hx;obtain ⟨y,hy,rfl⟩:=nE (n:=0) (i:=j) (aag.mpr ⟨hj,ej⟩);rw [aao] at hy;obtain ⟨s0,hs0,rfl⟩:=Option.map_eq_some_iff.mp hy;have h1:decide (s0=lk)=true->q' (.int ((0+j:Nat):Int)) M:=h1;have h2:decide (s0=lk)=false->p' M:=h2;clear hx hj ej hy;have key:Aj (Υ s0) (Υ lk) M (λd M1=>match d with | .bl b=>(match b with | true=>q' (.int ((0+j:Nat):Int)) M1 | false=>p' M1) | _=>False):=by
      refine Qs (k:=λb M1=>match b with | true=>q' (.int ((0+j:Nat):Int)) M1 | false=>p' M1) ?_;cases hb:decide (s0=lk) with
      | true=>exact h1 hb
      | false=>exact h2 hb
     exact key
    ·rw [aaM,oI (λs0=>decide (s0=lk)) (ds.map (Φ share tb)) 0,aae];have e3:∀j∈List.range ds.length,decide ((ds.map (Φ share tb)).getD j (0,1)=lk)=decide (Φ share tb (ds.getD j d0)=lk):=λj hj=>by have hj:=abc.mp hj;rw [aab,aao,aab,aaa hj];rfl
     rw [List.filter_congr e3];have e4:∀l:List Nat,(l.map λj:Nat=>Dt.int ((0+j:Nat):Int))=l.map λj:Nat=>Dt.int j:=λl=>aaW λj _=>by rw [Nat.zero_add]
     rw [e4];exact h
end
end Pg
namespace L2
open PySem
theorem xZ{g:Dt->En->(En->Prop)->Prop}{tb:DS}{Dn:kG}{k:Nat}{u:Addr->HO}{m:MO}(J:List Key->En->Ms->Prop)(aG:∀xs ρ M,J xs ρ M->M[k]? =some (.raw u))
  (step:∀x xs ρ M,J (x::xs) ρ M->(∀ρ M,J xs ρ M->r6 g tb Dn k u m xs ρ M)->g (FX x) ρ λρ'=>tb {Dn with nx:=r6 g tb Dn k u m xs,ct:=r6 g tb Dn k u m xs,bk:=λρ M=>M[k]? =some (.raw u)/\Dn.nx ρ (M.set k m)} ρ' M)
  (fin:∀ρ M,J [] ρ M->Dn.nx ρ (M.set k m)):∀(xs:List Key) (ρ:En) (M:Ms),J xs ρ M->r6 g tb Dn k u m xs ρ M
 | [],ρ,M,h=>⟨aG _ _ _ h,fin _ _ h⟩
 | x::xs,ρ,M,h=>⟨aG _ _ _ h,step x xs ρ M h λρ' M' h'=>xZ J aG step fin xs ρ' M' h'⟩
end L2
namespace Pg
open PySem L2 Fr0 Tx
def h8(share:Fr)(rows:List Rw)(tb:List Fr)(i:Int):List Nat:=match rows[i.toNat]? with
 | some r=>cz share tb r
 | none=>[]
def zd(l:List Nat)(v:Int):Bool:=Nd (.int v) (l.map λj:Nat=>V.int j)
def oS(share:Fr)(rows:List Rw)(tb:List Fr)(p:Int×Int):Pl:=if zd (h8 share rows tb p.1) p.2 then [] else [(p.1,((h8 share rows tb p.1).headD 0:Nat))]
def Θ(share:Fr)(rows:List Rw)(tb:List Fr)(pl:Pl):Pl:=pl.flatMap (oS share rows tb)
theorem sQ:∀l:List Nat,gD (l.map λj:Nat=>Dt.int j)=some (l.map λj:Nat=>V.int j)
 | []=>rfl
 | j::l=>by have ih:=sQ l;rw [aaF,aaF];unfold gD;rw [ih];rfl
theorem IZ{M:Ms}{k:Nat}{m:MO}(h:M[k]? =some m):M.set k m=M:=by
 apply List.ext_getElem?;intro i;rw [List.getElem?_set];split
 ·rename_i e;subst e;rw [if_pos (aag.mp h).1,h]
 ·rfl
theorem uv(pl:Pl):vP pl=(pl.map (·.2)).map Dt.int:=by unfold vP;rw [List.map_map];rfl
theorem e_{share:Fr}{rows:List Rw}{tb:List Fr}{i:Int}:∀{pl:Pl},i∈(Θ share rows tb pl).map (·.1)->i∈pl.map (·.1)
 | p::r,h=>by
  unfold Θ at h;rw [List.flatMap_cons,aaS] at h;rcases aaN.mp h with z | z
  ·unfold oS at z;split at z
   ·cases z
   ·rw [aaF];exact aay.mpr (.inl (aba.mp z))
  ·exact aad _ (e_ z)
theorem lH{share:Fr}{rows:List Rw}{tb:List Fr}:∀pl:Pl,(Θ share rows tb pl).length<=pl.length
 | []=>aaj _
 | p::r=>by
  have ih:=lH (share:=share) (rows:=rows) (tb:=tb) r;unfold Θ at ih⊢;rw [List.flatMap_cons,aai,aau];have:(oS share rows tb p).length<=1:=by
   unfold oS;split
   ·exact abE _
   ·exact aaj _
  omega
theorem my{i:Int}:∀{pl:Pl},i∉pl.map (·.1)->Ξ pl i=none
 | [],_=>rfl
 | p::r,h=>by unfold Ξ;rw [if_neg λz=>h (by rw [<-z];exact aaf)];exact my λz=>h (aad _ z)
section
variable{P:Program}{w:World}{K:PySem.W.Frag}{mg:Str->Option Value}{base:Heap}{Cm:Addr}
def CC(A:Addr):DF:=λas M q _=>∃(share:Fr) (rows:List Rw) (tb:List Fr) (k:Nat) (pl:Pl),as=[av A share rows, .loc k, .lst (tb.map Υ)]/\M[k]? =some (dP pl)/\FJ share rows tb/\vq pl/\pl.length<=12/\(∀p∈pl,0<=p.1/\∃r,rows[p.1.toNat]? =some r/\Δ (kindOf r)=true/\cz share tb r≠[])/\q (.loc M.length) (M++[dP (Θ share rows tb pl)])
theorem eK:Γ ["floor","plan","table","better","place","best"] ["floor","plan","table"] (θ iJ):=⟨rfl,rfl,rfl,by decide+kernel,rfl,by decide+kernel,by decide+kernel⟩
theorem qG{f:Addr}{fd:FuncData}(F:cH K "better_doors" "better_doors" iJ f fd)(E:Ev K mg w Cm){Aq:Addr}{zX:FuncData}(jP:cE P w K mg base 7 Cm "best" ["self","place","table"] (Lv Cm) Aq zX):af P w K mg base (bX P w) 8 f fd ["floor","plan","table"] (cn K (CC Cm)):=by
 refine F.dF eK (λds M q x h=> ?_) (λaV A outer s H E' hr=>⟨_,(ζ (ω (i:=3) eK.nd rfl (Or.inl rfl) uj)
   (ζ (KL (jv 1) (ag (i:=4) eK.nd rfl (Or.inl rfl)) aP (ζ (ω (i:=5) eK.nd rfl (Or.inl rfl) (bt jP hr ν (jv 0) (γ (jv 4) (γ (jv 2) η (hs:=μ)) (hs:=μ))))
   (ι (aB (sP (Kn (jv 1) (jv 4)) (jv 5)) (ι (o7 hr (jv 3) (jv 4) (Ι (jv 5) υ))) Τ))))
   (ι (Β (jv 3))))),λds M q x h=> ?_⟩)
 ·obtain ⟨share,rows,tb,k,pl,rfl,_⟩:=h;rfl
 ·obtain ⟨share,rows,tb,k,pl,rfl,hk,f,nd,oE,hp,h⟩:=h;have kl:k < M.length:=(aag.mp hk).1;walk_at "vc";refine ⟨k,kP pl,pl.map (·.2),rfl,by rw [<-uv];exact dq hk,λep=> ?_⟩;show r6 _ _ _ k (LH P w (kP pl) (pl.map (·.2)) ep) _ _ _ ((M++[MO.cW [] []]).set k (.raw (LH P w (kP pl) (pl.map (·.2)) ep)));have Oe:∀p∈pl,b_ (kP pl) ((pl.map (·.2)).map Dt.int) (Sum.inl p.1)=some (.int p.2):=λp hm=>by
   rw [<-uv,xU];have:∀{l:Pl},vq l->p∈l->Ξ l p.1=some p.2:=λ{l}=>by
    induction l with
    | nil=>intro _ z;cases z
    | cons a l ih=>
     intro nl hm;unfold vq at nl;rw [aaF,aby] at nl;unfold Ξ;rcases aay.mp hm with e | e
     ·rw [if_pos (by rw [e]),e]
     ·rw [if_neg λz=>nl.1 (by rw [z];exact aak.mpr ⟨p,e,rfl⟩)];exact ih nl.2 e
   rw [this nd hm];rfl
  generalize hu:LH P w (kP pl) (pl.map (·.2)) ep=u;have TK:(M++[MO.cW [] []]).set k (.raw u)=M.set k (.raw u)++[dP []]:=by rw [abI _ _ kl];rfl
  have hb:∀Ε,((M.set k (.raw u)++[dP Ε]).set k (.cW (kP pl) (vP pl)))=M++[dP Ε]:=λΕ=>by
   rw [abI _ _ (by rw [aa6];exact kl),List.set_set]
   congr 1
   exact IZ hk
  rw [TK];refine xZ (λxs ρ' M'=>∃(fG rest:Pl) (o4 o5:Option Dt),pl=fG++rest/\xs=kP rest/\M'=M.set k (.raw u)++[dP (Θ share rows tb fG)]/\ρ'=[some (av Cm share rows),some (.loc k),some (.lst (tb.map Υ)),some (.loc M.length),o4,o5]) (λxs ρ' M' hj=> ?_) (λx xs ρ' M' hj fe=> ?_) (λρ' M' hj=> ?_) _ _ _ ⟨[],pl,none,none,rfl,rfl,rfl,rfl⟩
  ·obtain ⟨fG,rest,o4,o5,e,rfl,rfl,rfl⟩:=hj;exact dq (by rw [aa5 kl])
  ·obtain ⟨fG,rest,o4,o5,e,ex,rfl,rfl⟩:=hj;cases rest with
   | nil=>cases ex
   | cons p rest=>
    cases ex;have pm:p∈pl:=by rw [e];simp
    obtain ⟨p0,r,Tj,wJ,hr3⟩:=hp p pm;obtain ⟨p1,v⟩:=p;obtain ⟨i,rfl⟩:∃i:Nat,p1=(i:Int):=⟨p1.toNat,by have:0<=p1:=p0;omega⟩;have Tj:rows[i]? =some r:=Tj;have XI:h8 share rows tb (i:Int)=cz share tb r:=by unfold h8;rw [abJ,Tj]
    have J5:(M.set k (.raw u)++[dP (Θ share rows tb fG)])[k]? =some (.raw u):=dq (by rw [aa5 kl]);have Rf:(M.set k (.raw u)++[dP (Θ share rows tb fG)])[M.length]? =some (dP (Θ share rows tb fG)):=by have:=aq (M:=M.set k (.raw u)) (o:=dP (Θ share rows tb fG));rwa [aa6] at this
    have XY:Θ share rows tb (fG++[((i:Int),v)])=Θ share rows tb fG++oS share rows tb ((i:Int),v):=by unfold Θ;rw [List.flatMap_append];simp
    have Rb:∀Ε o5,Ε=Θ share rows tb (fG++[((i:Int),v)])->_:=λΕ o5 ea=>fe [some (av Cm share rows),some (.loc k),some (.lst (tb.map Υ)),some (.loc M.length),some (.int (i:Int)),o5] (M.set k (.raw u)++[dP Ε]) ⟨fG++[((i:Int),v)],rest,_,o5,by rw [e,abf];rfl,rfl,by rw [ea],rfl⟩;have hg:=Oe _ pm;rw [<-hu] at J5 Rf Rb⊢;walk_at "vc";refine ⟨⟨_,_, .inl rfl,rfl⟩,share,rows,tb,i,r,rfl,Tj,f, ?_⟩;generalize cz share tb r=bl at *
    refine ⟨k,kP pl,(pl.map λx:Int×Int=>x.2),ep,Sum.inl (i:Int),v,rfl,J5,rfl,hg, ?_⟩;refine ⟨.int v,_,_,rfl,rfl,sQ bl,λz=> ?_,λz=> ?_⟩
    ·have z:(!zd bl v)=true:=z;have z:¬zd bl v=true:=by simpa using z
     obtain ⟨j,XW,rfl⟩:=aa9 hr3;dsimp only [uP];walk_at "vc";refine (Ζ (d:= .lst ((j::XW).map λj:Nat=>Dt.int j)) rfl aO ?_:d7 (.lst ((j::XW).map λj:Nat=>Dt.int j)) (.int 0) _ _);have ll:=lH (share:=share) (rows:=rows) (tb:=tb) fG;have dl:fG.length<=12:=by have:=congrArg List.length e;rw [aai] at this;omega
     refine ⟨M.length,_,_,Sum.inl (i:Int),rfl,Rf,rfl,by unfold kP;rw [List.length_map];omega, ?_⟩;rw [tU (v:=(j:Int)),yQ];have gn:Ξ (Θ share rows tb fG) (i:Int)=none:=my λy=>by have y:=e_ y;rw [e] at nd;unfold vq at nd;rw [aaS,ab7] at nd;exact nd.2.2 _ y _ aaf rfl
     have e1:dZ (Θ share rows tb fG) (i:Int) (j:Int)=Θ share rows tb (fG++[((i:Int),v)]):=by rw [XY];unfold dZ oS;rw [gn,XI,if_neg z,if_neg (by decide)];rfl
     rw [e1,List.set_append_right (h:=by rw [aa6];exact aaj _),aa6,Nat.sub_self];exact Rb _ _ rfl
    ·have z:(!zd bl v)=false:=z;have z:zd bl v=true:=by simpa using z
     exact Rb _ _ (by rw [XY];unfold oS;rw [XI,if_pos z,List.append_nil])
  ·obtain ⟨fG,rest,o4,o5,e,ex,rfl,rfl⟩:=hj;have:rest=[]:=by cases rest with | nil=>rfl | cons p r=>cases ex
   subst this;rw [aaZ] at e;rw [uv] at hb;rw [hb,<-e];exact h
def gc(rows:List Rw)(i:Nat):Str:=match rows[i]? with
 | some r=>kindOf r
 | none=>""
def iU(rows:List Rw)(hand:Str):List Nat:=(List.range rows.length).filter λi=>decide (gc rows i=hand)
def As(rows:List Rw)(hand:Str):Pl:=(iU rows hand).map λi:Nat=>((i:Int),0)
theorem Be(p:Nat->Bool)(n:Nat):((dc 0 n).filter λx=>match x with | .int j=>p j.toNat | _=>false)=((List.range n).filter p).map λi:Nat=>Dt.int i:=by
 unfold dc;rw [List.filter_map];have e:((λx:Dt=>match x with | .int j=>p j.toNat | _=>false) ∘ λi:Nat=>Dt.int (0+(i:Int)))=p:=funext λi=>by show p (0+(i:Int)).toNat=p i;rw [show (0+(i:Int)).toNat=i by omega]
 rw [e];exact aaW λi _=>by show Dt.int (0+(i:Int))=Dt.int i;rw [Int.zero_add]
def B4(A:Addr):DF:=λas M q _=>∃(share:Fr) (rows:List Rw) (hand:Str),as=[av A share rows, .str hand]/\rows.length<=12/\q (.lst ((iU rows hand).map λi:Nat=>Dt.int i)) M
theorem zm:Γ ["floor","hand"] ["floor","hand"] (θ iB):=⟨rfl,rfl,rfl,by decide+kernel,rfl,by decide+kernel,by decide+kernel⟩
theorem yV{f:Addr}{fd:FuncData}(F:cH K "places_of" "places_of" iB f fd)(E:Ev K mg w Cm){dh:Addr}{de:FuncData}(aJ:cE P w K mg base 1 Cm "size" ["self"] (yz Cm) dh de){aE:Addr}{aC:FuncData}(Μ:cE P w K mg base 1 Cm "kind" ["self","place"] (mM Cm) aE aC):af P w K mg base (bX P w) 2 f fd ["floor","hand"] (cn K (B4 Cm)):=by
 refine F.dF zm (λds M q x h=> ?_) (λaV A outer s H E' hr=>⟨_,(ι (Β (Gv (ys:=["hand","floor"]) (caps:=[1,0]) ⟨rfl,by decide+kernel,by decide+kernel,(by show∀x:Str,x∈(["place"]:List Str)->_;decide+kernel),(by show∀p:Str×NameKind,p∈_->p.2=NameKind.free->List.lookup p.1 (θ iB).names=some .cell;decide+kernel),by decide+kernel,(by show∀q:Str×Nat,q∈_->(["floor","hand"]:List Str)[q.2]? =some q.1/\List.lookup q.1 (θ iB).names=some .cell/\_;decide+kernel),rfl⟩ (Qe (cv E.bG (γ (j7 aJ hr ν (jv 0)) η (hs:=aA)))) (λC s H fp=>(d_ hr (bt Μ hr (i6 (P:=P) (w:=w)) (jv 2) (γ (jv 0) η (hs:=μ))) (jv 1))) (λC s H fp=>(jv 0))))),λds M q x h=> ?_⟩)
 ·obtain ⟨share,rows,hand,rfl,_⟩:=h;rfl
 ·obtain ⟨share,rows,hand,rfl,oE,h⟩:=h;have sl:∀{z:Nat},z<=1000->z<=sizeLine:=λh=>aaw h (by decide);walk_at "vc";dsimp only [Af,XZ];walk_at "vc";refine ⟨⟨_,_, .inl rfl,rfl⟩,share,rows,rfl, ?_⟩;refine ⟨by omega,by rw [fQ];exact sl (by omega), ?_⟩;rw [show ((rows.length:Int)).toNat=rows.length by omega];refine fv trivial (λx=>match x with | .int j=>decide (gc rows j.toNat=hand) | _=>false) (λx=>x) _ _ (λx hx q' p' h1 h2=> ?_) ?_
  ·obtain ⟨j,hj,rfl⟩:=qE hx;rw [Int.zero_add] at h1 h2⊢;have hr:rows[j]? =some rows[j]:=aaa hj;have MQ:gc rows j=kindOf rows[j]:=by unfold gc;rw [hr]
   have h1:decide (gc rows j=hand)=true->q' (.int (j:Int)) M:=h1;have h2:decide (gc rows j=hand)=false->p' M:=h2;rw [MQ] at h1 h2;refine ⟨⟨_,_, .inl rfl,rfl⟩,share,rows,j,rows[j],rfl,hr, ?_⟩;show (match decide (kindOf rows[j]=hand) with | true=>q' (.int (j:Int)) M | false=>p' M);cases hb:decide (kindOf rows[j]=hand) with
   | true=>exact h1 hb
   | false=>exact h2 hb
  ·rw [aaM,List.map_id'];exact (λ(key:∀l,l=(iU rows hand).map (λi:Nat=>Dt.int i)->q (.lst l) M)=>key _ (Be (λi=>decide (gc rows i=hand)) rows.length)) λl hl=>by rw [hl];exact h
def Cs(A:Addr):DF:=λas M q _=>∃(share:Fr) (rows:List Rw) (hand:Str),as=[av A share rows, .str hand]/\rows.length<=12/\q (.loc M.length) (M++[dP (As rows hand)])
theorem jQ:Γ ["floor","hand","plan","place"] ["floor","hand"] (θ lR):=⟨rfl,rfl,rfl,by decide+kernel,rfl,by decide+kernel,by decide+kernel⟩
theorem vi{f:Addr}{fd:FuncData}(F:cH K "first_plan" "first_plan" lR f fd)(E:Ev K mg w Cm){Eg:Addr}{D0:FuncData}(kS:aj P w K mg base 2 "places_of" ["floor","hand"] (B4 Cm) Eg D0):af P w K mg base (bX P w) 3 f fd ["floor","hand"] (cn K (Cs Cm)):=by
 refine F.dF jQ (λds M q x h=> ?_) (λaV A outer s H E' hr=>⟨_,(ζ (ω (i:=2) jQ.nd rfl (Or.inl rfl) uj)
   (ζ (cT (bA (aa kS hr ν (γ (jv 0) (γ (jv 1) η (hs:=μ)) (hs:=μ)))) (ag (i:=3) jQ.nd rfl (Or.inl rfl)) aP (ι (o7 hr (jv 2) (jv 3) υ)))
   (ι (Β (jv 2))))),λds M q x h=> ?_⟩)
 ·obtain ⟨share,rows,hand,rfl,_⟩:=h;rfl
 ·obtain ⟨share,rows,hand,rfl,oE,h⟩:=h;have aam:(iU rows hand).length<=12:=by have:=List.length_filter_le (λi=>decide (gc rows i=hand)) (List.range rows.length);rw [aaU] at this;unfold iU;omega
  have Yg:(iU rows hand).Nodup:=List.nodup_range.filter _;walk_at "vc";dsimp only [tD,gy];walk_at "vc";refine ⟨share,rows,hand,rfl,oE, ?_⟩;refine bJ (λxs ρ' M'=>∃(fG rest:List Nat) (o3:Option Dt),iU rows hand=fG++rest/\xs=rest.map (λi:Nat=>Dt.int i)/\M'=M++[dP (fG.map λi:Nat=>((i:Int),0))]/\ρ'=[some (av Cm share rows),some (.str hand),some (.loc M.length),o3]) (λxs ρ' M' hj=>trivial) (λx xs ρ' M' hj fe=> ?_) (λρ' M' hj=> ?_) _ _ _ ⟨[],iU rows hand,none,rfl,rfl,rfl,rfl⟩
  ·obtain ⟨fG,rest,o3,e,ex,rfl,rfl⟩:=hj;cases rest with
   | nil=>cases ex
   | cons i rest=>
    cases ex;have dl:fG.length<=12:=by have:=congrArg List.length e;rw [aai] at this;omega
    dsimp only [uP];walk_at "vc";refine ⟨M.length,_,_,Sum.inl (i:Int),rfl,aq,rfl,by unfold kP;rw [List.length_map,List.length_map];omega, ?_⟩;rw [tU (v:=0),yQ,cU];have gn:Ξ (fG.map λi:Nat=>((i:Int),0)) (i:Int)=none:=my λy=>by
     rw [aaE] at y;obtain ⟨j,hj,ej⟩:=aak.mp y;have ej:(j:Int)=(i:Int):=ej;have:j=i:=by omega
     subst this;rw [e,ab7] at Yg;exact Yg.2.2 _ hj _ aaf rfl
    refine fe _ _ ⟨fG++[i],rest,_,by rw [e,abf];rfl,rfl, ?_,rfl⟩;unfold dZ;rw [gn,if_neg (by decide),aaS];rfl
  ·obtain ⟨fG,rest,o3,e,ex,rfl,rfl⟩:=hj;have:rest=[]:=by cases rest with | nil=>rfl | cons p r=>cases ex
   subst this;rw [aaZ] at e;rw [<-e];exact h
def dt:Pl->Pl->Pl
 | p,[]=>p
 | p,e::r=>dt (dZ p e.1 e.2) r
theorem IK:∀{r p:Pl},oH (kP p) (kP r)=kP (dt p r)
 | [],p=>rfl
 | e::r,p=>by show oH (fh (kP p) (Sum.inl e.1)) (kP r)=kP (dt (dZ p e.1 e.2) r);rw [tU (v:=e.2)];exact IK
theorem EZ:∀{r p:Pl},rH (kP p) (vP p) (kP r) (vP r)=vP (dt p r)
 | [],p=>rfl
 | e::r,p=>by show rH (fh (kP p) (Sum.inl e.1)) (dU (kP p) (Sum.inl e.1) (vP p) (.int e.2)) (kP r) (vP r)=vP (dt (dZ p e.1 e.2) r);rw [tU (v:=e.2),yQ];exact EZ
theorem eY{i:Int}:∀{r p:Pl},vq r->Ξ (dt p r) i=match Ξ r i with | some v=>some v | none=>Ξ p i
 | [],p,_=>rfl
 | e::r,p,nd=>by
  unfold vq at nd;rw [aaF,aby] at nd;have ih:=eY (i:=i) (r:=r) (p:=dZ p e.1 e.2) nd.2;show Ξ (dt (dZ p e.1 e.2) r) i=match (if e.1=i then some e.2 else Ξ r i) with | some v=>some v | none=>Ξ p i
  rw [ih,pv];by_cases h:e.1=i
  ·have hn:Ξ r i=none:=by
    cases hg:Ξ r i with
    | none=>rfl
    | some v=>exact absurd (aak.mpr ⟨_,CF hg,h.symm⟩) nd.1
   rw [hn,if_pos h,if_pos h.symm]
  ·rw [if_neg h,if_neg (Ne.symm h)]
def Qw(A:Addr):DF:=λas M q _=>∃(share:Fr) (rows:List Rw) (kh ka:Nat) (ph pa:Pl) (X C:Int),as=[av A share rows, .loc kh, .loc ka]/\M[kh]? =some (dP ph)/\M[ka]? =some (dP pa)/\ph.length+pa.length<=1000/\iQ rows (dt ph pa)/\FW share rows X C/\ow X C<=2 ^ 450/\(12 * ow X C) ^ rows.length < 2 ^ 1030/\∀tb,oO share rows (dt ph pa) tb->q (.loc (M.length+1)) (M++[dP (dt ph pa), .lst (tb.map Υ)])
theorem jd:Γ ["floor","held","answer","doors"] ["floor","held","answer"] (θ gs):=⟨rfl,rfl,rfl,by decide+kernel,rfl,by decide+kernel,by decide+kernel⟩
theorem nM{f:Addr}{fd:FuncData}(F:cH K "worths_against" "worths_against" gs f fd)(E:Ev K mg w Cm){oh:Addr}{mW:FuncData}(et:aj P w K mg base 7 "worths_by" ["floor","doors"] (OK Cm) oh mW):af P w K mg base (bX P w) 8 f fd ["floor","held","answer"] (cn K (Qw Cm)):=by
 refine F.dF jd (λds M q x h=> ?_) (λaV A outer s H E' hr=>⟨_,(ζ (ω (i:=3) jd.nd rfl (Or.inl rfl) (Ba E.n8 (γ (jv 1) η (hs:=μ))))
   (ζ (fB (Fb (jv 3) (jv 2)))
   (ι (Β (aa et hr ν (γ (jv 0) (γ (jv 3) η (hs:=μ)) (hs:=μ))))))),λds M q x h=> ?_⟩)
 ·obtain ⟨share,rows,kh,ka,ph,pa,X,C,rfl,_⟩:=h;rfl
 ·obtain ⟨share,rows,kh,ka,ph,pa,X,C,rfl,hh,ha,lz,dk,fw,mv,sW,h⟩:=h;walk_at "vc";refine ⟨kh,_,_,rfl,hh, ?_⟩;dsimp only [GP];walk_at "vc";have kl:ka < M.length:=(aag.mp ha).1;refine ⟨⟨M.length,_,_,rfl,aq⟩,M.length,ka,_,_,_,_,rfl,rfl,by omega,aq,dq ha,by unfold kP;rw [List.length_map,List.length_map];exact lz, ?_⟩;rw [IK,EZ,cU];refine ⟨share,rows,_,_,X,C,rfl,aq,dk,fw,mv,sW,λtb wt=> ?_⟩;have:=h tb wt;simpa [List.append_assoc] using this
theorem rD{a b:Fr}(ha:0 < a.2)(hb:0 < b.2):a.1 * b.2<=b.1 * a.2↔val a<=val b:=by
 have e1:val a * (a.2:Rat)=a.1:=by
  have:=aQ (show a.2≠0 by omega);unfold val;generalize (a.1:Rat)=x at *
  generalize (a.2:Rat)=y at *
  grind
 have e2:val b * (b.2:Rat)=b.1:=by
  have:=aQ (show b.2≠0 by omega);unfold val;generalize (b.1:Rat)=x at *
  generalize (b.2:Rat)=y at *
  grind
 have p1:(0:Rat) < (a.2:Rat):=abl.mpr ha;have p2:(0:Rat) < (b.2:Rat):=abl.mpr hb;have pp:=Rat.mul_pos p1 p2;rw [<-aaX,aaG,aaG,<-e1,<-e2];generalize (a.2:Rat)=y at *
 generalize (b.2:Rat)=z at *
 generalize val a=u at *
 generalize val b=v at *
 constructor
 ·intro h;by_cases c:u<=v
  ·exact c
  ·have:=Rat.mul_pos (show 0 < u - v by grind) pp;grind
 ·intro h;have:=abt h (Rat.le_of_lt pp);grind
theorem tP{f n:Fr}(h1:0 < f.2)(h2:0 < n.2):cy f n=true↔val f < val n:=by
 unfold cy;rw [decide_eq_true_iff];have:=rD h2 h1;constructor
 ·intro h;by_cases c:val n<=val f
  ·have:=this.mpr c;omega
  ·grind
 ·intro h;by_cases c:n.1 * f.2<=f.1 * n.2
  ·have:=this.mp c;grind
  ·omega
theorem lT:∀(ns:List Fr) (f:Fr),0 < f.2->(∀n∈ns,0 < n.2)->(ns.foldl (λf n=>if cy f n then n else f) f∈f::ns)/\val f<=val (ns.foldl (λf n=>if cy f n then n else f) f)/\∀n∈ns,val n<=val (ns.foldl (λf n=>if cy f n then n else f) f)
 | [],f,_,_=>⟨List.mem_cons_self,by show val f<=val f;grind,λ_ z=>nomatch z⟩
 | a::ns,f,h,hn=>by
  have ha:=hn a aaf;have u:=tP h ha;rw [abp];by_cases c:cy f a=true
  ·rw [if_pos c];obtain ⟨m,l,al⟩:=lT ns a ha λn z=>hn n (aad _ z);have:=u.mp c;refine ⟨List.mem_cons_of_mem _ m,by grind,λn z=> ?_⟩;rcases aay.mp z with e | e
   ·rw [e];exact l
   ·exact al n e
  ·rw [if_neg c];obtain ⟨m,l,al⟩:=lT ns f h λn z=>hn n (aad _ z);have c2:¬val f < val a:=λz=>c (u.mpr z);refine ⟨?_,l,λn z=> ?_⟩
   ·rcases aay.mp m with e | e
    ·rw [e];exact aaf
    ·exact aad _ (aad _ e)
   ·rcases aay.mp z with e | e
    ·rw [e];grind
    ·exact al n e
theorem lA:∀(ns:List Fr) (f:Fr),0 < f.2->(∀n∈ns,0 < n.2)->(ns.foldl (λf n=>if cy n f then n else f) f∈f::ns)/\val (ns.foldl (λf n=>if cy n f then n else f) f)<=val f/\∀n∈ns,val (ns.foldl (λf n=>if cy n f then n else f) f)<=val n
 | [],f,_,_=>⟨List.mem_cons_self,by show val f<=val f;grind,λ_ z=>nomatch z⟩
 | a::ns,f,h,hn=>by
  have ha:=hn a aaf;have u:=tP ha h;rw [abp];by_cases c:cy a f=true
  ·rw [if_pos c];obtain ⟨m,l,al⟩:=lA ns a ha λn z=>hn n (aad _ z);have:=u.mp c;refine ⟨List.mem_cons_of_mem _ m,by grind,λn z=> ?_⟩;rcases aay.mp z with e | e
   ·rw [e];exact l
   ·exact al n e
  ·rw [if_neg c];obtain ⟨m,l,al⟩:=lA ns f h λn z=>hn n (aad _ z);have c2:¬val a < val f:=λz=>c (u.mpr z);refine ⟨?_,l,λn z=> ?_⟩
   ·rcases aay.mp m with e | e
    ·rw [e];exact aaf
    ·exact aad _ (aad _ e)
   ·rcases aay.mp z with e | e
    ·rw [e];grind
    ·exact al n e
def mT(k:Str):Rat:=if k="one" then 1 else -1
section
variable{share:Fr}{rows:List Rw}{tb:List Fr}{k:Str}{ds:List bQ}
theorem sS(h0:ds≠[])(hp:∀d∈ds,0 < (Φ share tb d).2):fk share tb (.τ k ds)∈ds.map (Φ share tb)/\∀d∈ds,mT k * val (Φ share tb d)<=mT k * val (fk share tb (.τ k ds)):=by
 obtain ⟨d1,mH,rfl⟩:=aa9 h0;have hn:∀n∈(d1::mH).map (Φ share tb),0 < n.2:=λn hn=>by obtain ⟨d,hd,rfl⟩:=aak.mp hn;exact hp d hd
 have h1:=hp d1 aaf;unfold mT;by_cases e:k="one"
 ·have e1:fk share tb (.τ k (d1::mH))=lJ ((d1::mH).map (Φ share tb)):=if_pos e;obtain ⟨m,l,al⟩:=lT ((d1::mH).map (Φ share tb)) (Φ share tb d1) h1 hn;have e2:lJ ((d1::mH).map (Φ share tb))=((d1::mH).map (Φ share tb)).foldl (λf n=>if cy f n then n else f) (Φ share tb d1):=rfl;rw [e1,e2,if_pos e];refine ⟨?_,λd hd=> ?_⟩
  ·rcases aay.mp m with y | y
   ·rw [y];exact aaf
   ·exact y
  ·have:=al _ (aak.mpr ⟨d,hd,rfl⟩);grind
 ·have e1:fk share tb (.τ k (d1::mH))=kW ((d1::mH).map (Φ share tb)):=if_neg e;obtain ⟨m,l,al⟩:=lA ((d1::mH).map (Φ share tb)) (Φ share tb d1) h1 hn;have e2:kW ((d1::mH).map (Φ share tb))=((d1::mH).map (Φ share tb)).foldl (λf n=>if cy n f then n else f) (Φ share tb d1):=rfl;rw [e1,e2,if_neg e];refine ⟨?_,λd hd=> ?_⟩
  ·rcases aay.mp m with y | y
   ·rw [y];exact aaf
   ·exact y
  ·have:=al _ (aak.mpr ⟨d,hd,rfl⟩);grind
end
theorem uo{l:List Nat}{v:Int}:zd l v=true↔∃j∈l,(j:Int)=v:=by
 unfold zd Nd;rw [List.any_eq_true];constructor
 ·rintro ⟨u,hu,e⟩;obtain ⟨j,hj,rfl⟩:=aak.mp hu;refine ⟨j,hj, ?_⟩;unfold zc at e;simpa using e
 ·rintro ⟨j,hj,e⟩;refine ⟨.int j,aak.mpr ⟨j,hj,rfl⟩, ?_⟩;unfold zc;simpa using e
section
variable{share:Fr}{rows:List Rw}{X C:Int}{Ε cN:Pl}{tb:List Fr}{k:Str}{ds:List bQ}{i j:Nat}
theorem wa{r:Rw}(hi:rows[i]? =some r):ix rows i=r:=by unfold ix;rw [aab,hi];rfl
theorem jV(hh:Δ k=true):j∈cz share tb (.τ k ds)↔j < ds.length/\Φ share tb (ds.getD j d0)=fk share tb (.τ k ds):=by have e:cz share tb (.τ k ds)=(List.range ds.length).filter λj=>decide (Φ share tb (ds.getD j d0)=fk share tb (.τ k ds)):=if_pos hh;rw [e,List.mem_filter,abc,decide_eq_true_iff]
theorem K'(hh:Δ k=true)(h0:ds≠[])(hp:∀d∈ds,0 < (Φ share tb d).2):cz share tb (.τ k ds)≠[]:=by obtain ⟨m,_⟩:=sS (k:=k) h0 hp;obtain ⟨d,hd,e⟩:=aak.mp m;obtain ⟨j,jl,ej⟩:=aa2 hd;have:j∈cz share tb (.τ k ds):=(jV hh).mpr ⟨jl,by rw [aab,aaa jl];show Φ share tb ds[j]=_;rw [ej,e]⟩;exact List.ne_nil_of_mem this
theorem mP(fw:FW share rows X C)(hm:Rw.τ k ds∈rows){d:bQ}(hd:d∈ds)(hp:∀t,t < rows.length->0 < (tb.getD t (0,1)).2):val (Φ share tb d)=val d.2.1+val share * val (tb.getD d.1.toNat (0,1))/\Red (Φ share tb d):=by have s0:=fw.sh.1;have dr:=fc fw.pl hm;obtain ⟨t0,t1⟩:=dr.to d hd;have tp:0 < (tb.getD d.1.toNat (0,1)).2:=hp _ (by omega);have p0:=(dr.py d hd).2;have t:Red (aL share (tb.getD d.1.toNat (0,1))):=bZ (abh (aaJ s0 tp));refine ⟨?_,bZ (abh (aaJ p0 t.pos))⟩;show val (fg d.2.1 (aL share (tb.getD d.1.toNat (0,1))))=_;rw [yq p0 t.pos,nh s0 tp]
theorem mC(fw:FW share rows X C)(hi:rows[i]? =some (.τ k ds))(hh:Δ k=true)(gj:Ξ Ε i=some (j:Int))(jl:j < ds.length)(hp:∀t,t < rows.length->0 < (tb.getD t (0,1)).2):h9 share (vw rows Ε) (uR rows Ε) (λx=>val (tb.getD x (0,1))) i=val (Φ share tb (ds.getD j d0)):=by
 have rm:Rw.τ k ds∈rows:=aal hi;have gd:ds.getD j d0=ds[j]:=by rw [aab,aaa jl];rfl
 have dm:=aaA jl;have e:ay Ε i (.τ k ds)=[(ds[j].1,ds[j].2.1,[(1,1)])]:=by unfold ay;rw [gj];show [((ds.getD ((j:Int)).toNat d0).1,(ds.getD ((j:Int)).toNat d0).2.1,(ds.getD ((j:Int)).toNat d0).2.2++[(1,1)])]=_;rw [abJ,gd,fw.XR k ds rm hh _ dm];rfl
 have v1:val ((1,1):Fr)=1:=by show ((1:Int):Rat) / ((1:Int):Rat)=1;grind
 have v0:val ((0,1):Fr)=0:=by show ((0:Int):Rat) / ((1:Int):Rat)=0;grind
 have p0:=((fc fw.pl rm).py ds[j] dm).2;have eg:val (Pa Ε i (.τ k ds))=val ds[j].2.1:=by show val (hJ (((ay Ε i (.τ k ds)).map χ).zip ((ay Ε i (.τ k ds)).map (·.2.1))))=_;rw [e];show val (fg (0,1) (aL (1,1) ds[j].2.1))=_;have t:Red (aL ((1,1):Fr) ds[j].2.1):=bZ (abh (aaJ (by decide) p0));rw [yq (by decide) t.pos,nh (by decide) p0,v0,v1];grind
 unfold h9 vw uR;rw [wa hi,eg,gd,(mP fw rm dm hp).1];show _+val share * aI (λd=>cV d * val (tb.getD d.1.toNat (0,1))) (ay Ε i (.τ k ds))=_;rw [e];show _+val share * (cV (ds[j].1,ds[j].2.1,[((1,1):Fr)]) * val (tb.getD ds[j].1.toNat (0,1))+0)=_;have:cV (ds[j].1,ds[j].2.1,[((1,1):Fr)])=1:=v1;rw [this];grind
theorem qy{x:Nat->Rat}(h:Ξ Ε i=Ξ cN i):h9 share (vw rows Ε) (uR rows Ε) x i=h9 share (vw rows cN) (uR rows cN) x i:=by
 have e:∀r,ay Ε i r=ay cN i r:=λr=>by unfold ay;rw [h]
 have e1:Ny Ε i (ix rows i)=Ny cN i (ix rows i):=by
  cases ix rows i with
  | fin p=>rfl
  | τ k ds=>exact e _
 have e2:Pa Ε i (ix rows i)=Pa cN i (ix rows i):=by
  cases ix rows i with
  | fin p=>rfl
  | τ k ds=>
   show hJ (((ay Ε i (.τ k ds)).map χ).zip ((ay Ε i (.τ k ds)).map (·.2.1)))=hJ (((ay cN i (.τ k ds)).map χ).zip ((ay cN i (.τ k ds)).map (·.2.1)));rw [e]
 unfold h9 vw uR;rw [e1,e2]
theorem oO.h9(h:oO share rows Ε tb)(il:i < rows.length):h9 share (vw rows Ε) (uR rows Ε) (λx=>val (tb.getD x (0,1))) i=val (tb.getD i (0,1)):=(h.tab.eq i il).symm
end
section
variable{share:Fr}{rows:List Rw}{X C:Int}{Ε cN:Pl}{tb Jd:List Fr}{ξ:Str}
def NQ(share:Fr)(rows:List Rw)(tb:List Fr)(ξ:Str)(Ε cN:Pl)(i:Nat):Prop:=∃ds j j',rows[i]? =some (.τ ξ ds)/\Ξ Ε i=some ((j:Nat):Int)/\Ξ cN i=some ((j':Nat):Int)/\j < ds.length/\j∉cz share tb (.τ ξ ds)/\j'∈cz share tb (.τ ξ ds)
theorem wX(fw:FW share rows X C){k:Str}{ds:List bQ}(hm:Rw.τ k ds∈rows)(hp:∀t,t < rows.length->0 < (tb.getD t (0,1)).2):Red (fk share tb (.τ k ds))/\∀d∈ds,mT k * val (Φ share tb d)<=mT k * val (fk share tb (.τ k ds)):=by have l1:=(fc fw.pl hm).l1;obtain ⟨m,al⟩:=sS (share:=share) (tb:=tb) (k:=k) (ds:=ds) (λz=>by rw [z] at l1;exact absurd l1 (by decide)) λd hd=>(mP fw hm hd hp).2.pos;refine ⟨?_,al⟩;obtain ⟨d,hd,e⟩:=aak.mp m;rw [<-e];exact (mP fw hm hd hp).2
theorem NO{k:Str}{a b:Rat}(h:mT k * a=mT k * b):a=b:=by unfold mT at h;split at h <;> grind
theorem Dd(fw:FW share rows X C)(hh:Δ ξ=true)(dk:iQ rows Ε)(Oa:iQ rows cN)(b1:1<=ow X C)(h:oO share rows Ε tb)(h':oO share rows cN Jd)(hd:∀i,i < rows.length->Ξ cN i=Ξ Ε i\/NQ share rows tb ξ Ε cN i):(∀i,i < rows.length->mT ξ * val (tb.getD i (0,1))<=mT ξ * val (Jd.getD i (0,1)))/\∀i,i < rows.length->NQ share rows tb ξ Ε cN i->mT ξ * val (tb.getD i (0,1)) < mT ξ * val (Jd.getD i (0,1)):=by
 have hp:∀t,t < rows.length->0 < (tb.getD t (0,1)).2:=λt ht=>(h.tab.red t ht).pos;have chg:∀i,i < rows.length->NQ share rows tb ξ Ε cN i->0 < mT ξ * (h9 share (vw rows cN) (uR rows cN) (λx=>val (tb.getD x (0,1))) i - val (tb.getD i (0,1))):=λi il ⟨ds,j,j',hi,g,g',jl,nb,b⟩=>by
  have rm:Rw.τ ξ ds∈rows:=aal hi;obtain ⟨Ng,e'⟩:=(jV hh).mp b;obtain ⟨lr,al⟩:=wX (tb:=tb) fw rm hp;have gd:ds.getD j d0=ds[j]:=by rw [aab,aaa jl];rfl
  have dm:=aaA jl;rw [mC fw hi hh g' Ng hp,<-h.h9 il,mC fw hi hh g jl hp,e',gd];have le:=al _ dm;have ne:val (Φ share tb ds[j])≠val (fk share tb (.τ ξ ds)):=λz=>nb ((jV hh).mpr ⟨jl,by rw [gd];exact CD (mP fw rm dm hp).2 lr z⟩);have ne2:mT ξ * val (Φ share tb ds[j])≠mT ξ * val (fk share tb (.τ ξ ds)):=λz=>ne (NO z);grind
 have key:=Tab.cmp (fw.sys Oa b1) h'.tab (x:=λx=>val (tb.getD x (0,1))) (sg:=mT ξ) λi il=>by
  rcases hd i il with e | e
  ·rw [qy e,h.h9 il];show 0<=mT ξ * (val (tb.getD i (0,1)) - val (tb.getD i (0,1)));grind
  ·exact Rat.le_of_lt (chg i il e)
 refine ⟨λi il=> ?_,λi il e=> ?_⟩
 ·have k:=key i il;have:0<=mT ξ * (h9 share (vw rows cN) (uR rows cN) (λx=>val (tb.getD x (0,1))) i - val (tb.getD i (0,1))):=by
   rcases hd i il with e | e
   ·rw [qy e,h.h9 il];grind
   ·exact Rat.le_of_lt (chg i il e)
  grind
 ·have k:=key i il;have:=chg i il e;grind
theorem A8(fw:FW share rows X C)(hh:Δ ξ=true)(dk:iQ rows Ε)(Oa:iQ rows cN)(b1:1<=ow X C)(h:oO share rows Ε tb)(h':oO share rows cN Jd)(hd:∀i,i < rows.length->Ξ cN i=Ξ Ε i\/NQ share rows tb ξ Ε cN i){i:Nat}(il:i < rows.length)(hc:NQ share rows tb ξ Ε cN i):AJ share rows (mT ξ) Ε < AJ share rows (mT ξ) cN:=by
 obtain ⟨a,b⟩:=Dd fw hh dk Oa b1 h h' hd;unfold AJ;refine B6 (λj hj=> ?_) il ?_
 ·rw [uG fw dk b1 h,uG fw Oa b1 h'];exact a j hj
 ·rw [uG fw dk b1 h,uG fw Oa b1 h'];exact b i il hc
theorem xg(fw:FW share rows X C)(hh:Δ ξ=true)(Oa:iQ rows cN)(b1:1<=ow X C)(h:oO share rows Ε tb)(h':oO share rows cN Jd)(hd:∀i,i < rows.length->Ξ cN i=Ξ Ε i\/∃ds j j',rows[i]? =some (.τ ξ ds)/\Ξ Ε i=some ((j:Nat):Int)/\Ξ cN i=some ((j':Nat):Int)/\j' < ds.length/\j∈cz share tb (.τ ξ ds)):∀i,i < rows.length->mT ξ * val (Jd.getD i (0,1))<=mT ξ * val (tb.getD i (0,1)):=λi il=>by
 have hp:∀t,t < rows.length->0 < (tb.getD t (0,1)).2:=λt ht=>(h.tab.red t ht).pos;have r0:∀i,i < rows.length->0<= -mT ξ * (h9 share (vw rows cN) (uR rows cN) (λx=>val (tb.getD x (0,1))) i - val (tb.getD i (0,1))):=λi il=>by
  rcases hd i il with e | ⟨ds,j,j',hi,g,g',Ng,b⟩
  ·rw [qy e,h.h9 il];grind
  ·have rm:Rw.τ ξ ds∈rows:=aal hi;obtain ⟨jl,e⟩:=(jV hh).mp b;obtain ⟨lr,al⟩:=wX (tb:=tb) fw rm hp;have Y9:ds.getD j' d0=ds[j']:=by rw [aab,aaa Ng];rfl
   have le:=al _ (aaA Ng);rw [mC fw hi hh g' Ng hp,<-h.h9 il,mC fw hi hh g jl hp,e,Y9];grind
 have k:=Tab.cmp (fw.sys Oa b1) h'.tab (x:=λx=>val (tb.getD x (0,1))) (sg:= -mT ξ) r0 i il;have:=r0 i il;grind
end
theorem JP{p:Fr}{C:Int}(h:0 < p.2)(a:dG p C):ab (val p)<=(C:Rat):=by
 have e:val p * (p.2:Rat)=p.1:=by
  have:=aQ (show p.2≠0 by omega);unfold val;generalize (p.1:Rat)=x at *
  generalize (p.2:Rat)=y at *
  grind
 have p0:(0:Rat) < (p.2:Rat):=abl.mpr h;have a1:(p.1:Rat)<=(p.2:Rat) * (C:Rat):=by rw [<-aaG];exact aaX.mpr a.1
 have a2: -((p.2:Rat) * (C:Rat))<=(p.1:Rat):=by rw [<-aaG,<-Rat.intCast_neg];exact aaX.mpr a.2
 refine kL.mpr ⟨?_, ?_⟩
 ·by_cases z: -(C:Rat)<=val p
  ·exact z
  ·have:=Rat.mul_pos (show 0 < -(C:Rat) - val p by grind) p0;grind
 ·by_cases z:val p<=(C:Rat)
  ·exact z
  ·have:=Rat.mul_pos (show 0 < val p - (C:Rat) by grind) p0;grind
theorem JB{p:Fr}{C:Int}(h:0 < p.2)(a:ab (val p)<=(C:Rat)):dG p C:=by
 have e:val p * (p.2:Rat)=p.1:=by
  have:=aQ (show p.2≠0 by omega);unfold val;generalize (p.1:Rat)=x at *
  generalize (p.2:Rat)=y at *
  grind
 have p0:(0:Rat)<=(p.2:Rat):=aaX.mpr (aah h);obtain ⟨a1,a2⟩:=kL.mp a;have b1:=abt a1 p0;have b2:=abt a2 p0;constructor
 ·apply aaX.mp;rw [Rat.intCast_mul];grind
 ·apply aaX.mp;rw [Rat.intCast_neg,Rat.intCast_mul];grind
theorem Sys.abs{share:Fr}{n:Nat}{B:Int}{ws:Nat->List bQ}{gv:Nat->Fr}{tb:List Fr}{c:Rat}(S:Sys share n B ws gv)(h:Tab share n ws gv tb)(s3:1<=1000 * (1 - val share))(hg:∀i,i < n->ab (val (gv i))<=c):∀i,i < n->ab (val (tb.getD i (0,1)))<=1000 * c:=λi hi=>by
 have s0:=S.s0;have s1:=S.s1
 have:=IY (n:=n) (x:=λx=>val (tb.getD x (0,1))) (c:=c) s1 (λi hi m hm=>by
  obtain ⟨E,C,p,_⟩:=S.EW i hi;have w:=kL.mp (Cv p.wo (by omega) hm);have a:=aaK w.1 s0;have b:=aaK w.2 s0;have g:=kL.mp (hg i hi);rw [h.eq i hi]
  refine kL.mpr ⟨?_, ?_⟩ <;> grind) i hi
 have a0:=NI (val (tb.getD i (0,1)));have:=aaK s3 a0;grind
structure HK(tb:List Fr)(n:Nat):Prop where
 len:tb.length=n
 red:∀t∈tb,Red t
 sz:∀t∈tb,t.2 < 2 ^ 1030/\t.1.natAbs < 2 ^ 1150
theorem oO.ok{share:Fr}{rows:List Rw}{Ε:Pl}{tb:List Fr}{X C:Int}(fw:FW share rows X C)(dk:iQ rows Ε)(b1:1<=ow X C)(h:oO share rows Ε tb):HK tb rows.length:=by
 have S:=fw.sys dk b1;obtain ⟨_,_,_,_,_,s3⟩:=fw.sh;have c1:=fw.c1;have ln:=h.tab.len;have g:∀t∈tb,∃i,i < rows.length/\tb.getD i (0,1)=t:=λt ht=>by obtain ⟨i,hi,e⟩:=aa2 ht;exact ⟨i,by omega,by rw [aab,aaa hi,e];rfl⟩
 have ab:=S.abs h.tab s3 (c:=((6 * C:Int):Rat)) λi hi=>by obtain ⟨E,p,_⟩:=fw.EW dk (rw_at hi);exact JP p.gn.red.pos p.gn.ab
 refine ⟨ln,λt ht=> ?_,λt ht=> ?_⟩
 ·obtain ⟨i,hi,e⟩:=g t ht;rw [<-e];exact h.tab.red i hi
 ·obtain ⟨i,hi,e⟩:=g t ht;have r:=h.tab.red i hi;have b:=h.bot i hi;have a:=ab i hi;rw [e] at r b a;have r0:=r.pos;have a:Pg.ab (val t)<=((1000 * (6 * C):Int):Rat):=by rw [aaG];exact a
  obtain ⟨v1,v2⟩:=JB r0 a;refine ⟨b, ?_⟩;have m:t.2 * (1000 * (6 * C))<=2 ^ 1030 * (1000 * (6 * 10 ^ 30)):=abn (aah b) (by omega) (by have:=fw.c9;omega) (by decide);have:(t.1.natAbs:Int) < ((2 ^ 1150:Nat):Int):=aaB (show _<=(2:Int) ^ 1030 * (1000 * (6 * 10 ^ 30)) by omega) (by decide);exact abx.mp this
def tE(hand:Str)(pl:Pl):Str->Option Pl:=λz=>if z=hand then some pl else none
abbrev jf(rows:List Rw)(hand:Str)(pl:Pl):Pl:=eB rows (tE hand pl) rows.length
def pR(rows:List Rw)(ξ:Str):List (Int×Nat):=(iU rows ξ).map λi:Nat=>((i:Int),(Ν (ix rows i)).length)
theorem CH{rows:List Rw}:∀{l:List Nat},(∀i∈l,1<=(Ν (ix rows i)).length)->a_ (l.map λi:Nat=>((i:Int),(Ν (ix rows i)).length)) (l.map λi:Nat=>((i:Int),(0:Int)))
 | [],_=>trivial
 | i::l,h=>⟨rfl,Int.le_refl _,by have:=h i aaf;omega,CH λj hj=>h j (aad _ hj)⟩
section
variable{share:Fr}{rows:List Rw}{X C:Int}{tb:List Fr}{hand ξ:Str}{pl p:Pl}{i:Nat}
theorem iz:i∈iU rows ξ↔i < rows.length/\gc rows i=ξ:=by unfold iU;rw [List.mem_filter,abc,decide_eq_true_iff]
theorem yM(fw:FW share rows X C)(hh:Δ ξ=true)(h:i∈iU rows ξ):∃ds,rows[i]? =some (.τ ξ ds)/\Ν (ix rows i)=ds/\1<=ds.length:=by
 obtain ⟨il,e⟩:=iz.mp h;have hi:rows[i]? =some rows[i]:=aaa il;unfold gc at e;rw [hi] at e;have e:kindOf rows[i]=ξ:=e;cases hr:rows[i] with
 | fin p=>
  rw [hr] at e;rw [<-e] at hh;exact absurd hh (by show¬Δ (Str.ofString "end")=true;decide)
 | τ k ds=>
  rw [hr] at e hi;have e:k=ξ:=e;subst e;exact ⟨ds,hi,by rw [wa hi];rfl,(fc fw.pl (aal hi)).l1⟩
theorem zK(fw:FW share rows X C)(hh:Δ ξ=true):a_ (pR rows ξ) (As rows ξ):=CH λi hi=>by obtain ⟨ds,_,e,l⟩:=yM fw hh hi;rw [e];exact l
theorem iR:(pR rows ξ).map (·.1)=(iU rows ξ).map λi:Nat=>(i:Int):=by unfold pR;rw [List.map_map];rfl
theorem bF(h:a_ (pR rows ξ) p):vq p:=by unfold vq;rw [b9 h,iR];have nd:(iU rows ξ).Nodup:=List.nodup_range.filter _;exact List.Pairwise.map _ (λa b VJ z=>VJ (by have z:(a:Int)=(b:Int):=z;omega)) nd
theorem iN(fw:FW share rows X C)(hh:Δ ξ=true)(h:a_ (pR rows ξ) p):(∀ds,rows[i]? =some (.τ ξ ds)->∃j:Nat,Ξ p i=some (j:Int)/\j < ds.length)/\(∀r,rows[i]? =some r->kindOf r≠ξ->Ξ p i=none):=by
 refine ⟨λds hi=> ?_,λr hi hk=> ?_⟩
 ·have il:=(aag.mp hi).1;have m:i∈iU rows ξ:=iz.mpr ⟨il,by unfold gc;rw [hi];rfl⟩;have s:=mS (i:=(i:Int)) (p:=p) (by rw [b9 h,iR];exact aak.mpr ⟨i,m,rfl⟩);obtain ⟨v,hv⟩:=aaT.mp s;obtain ⟨c,hc,v0,v1⟩:=xb h hv;unfold pR at hc;obtain ⟨i',_,e⟩:=aak.mp hc;have e1:(i':Int)=(i:Int):=congrArg Prod.fst e;have e2:(Ν (ix rows i')).length=c:=congrArg Prod.snd e;have:i'=i:=by omega
  subst this;rw [wa hi] at e2;have e2:ds.length=c:=e2;exact ⟨v.toNat,by rw [hv,abY v0],by omega⟩
 ·refine my λz=> ?_;rw [b9 h,iR] at z;obtain ⟨i',m,e⟩:=aak.mp z;have:i'=i:=by have e:(i':Int)=(i:Int):=e;omega
  subst this;have:=(iz.mp m).2;unfold gc at this;rw [hi] at this;exact hk this
theorem HD(fw:FW share rows X C)(h1:Δ hand=true)(h2:Δ ξ=true)(iT:hand≠ξ)(two:∀k:Str,Δ k=true->k=hand\/k=ξ)(gd:∀i,i < rows.length->eG rows (tE hand pl) i=true)(h:a_ (pR rows ξ) p):iQ rows (dt (jf rows hand pl) p):=by
 have Oe:∀(i:Nat) (r:Rw),rows[i]? =some r->kindOf r≠hand->Ξ (jf rows hand pl) i=none:=λi r hi hk=>by have il:=(aag.mp hi).1;rw [iH,if_pos il,hi];show Option.map _ (tE hand pl (kindOf r))=none;unfold tE;rw [if_neg hk];rfl
 refine ⟨λi r hi hk=> ?_,λi r hi hk=> ?_⟩
 ·rw [eY (bF h)];rcases two _ hk with e | e
  ·have il:=(aag.mp hi).1;rw [(iN (i:=i) fw h2 h).2 r hi (λz=>iT (e.symm.trans z))];dsimp only;have g:=gd i il;unfold eG at g;rw [hi] at g;have g:i_ (tE hand pl) i r=true:=g;have ep:tE hand pl (kindOf r)=some pl:=by unfold tE;rw [if_pos e]
   unfold i_ at g;rw [ep] at g;have g:dj pl i (Ν r).length=true:=g;rw [iH,if_pos il,hi];show∃j:Nat,Option.map (λpl=>(Ξ pl i).getD 0) (tE hand pl (kindOf r))=some (j:Int)/\_;rw [ep];unfold dj at g;cases hv:Ξ pl i with
   | none=>rw [hv] at g;cases g
   | some v=>
    rw [hv] at g;have g:(decide (0<=v)&&decide (v < ((Ν r).length:Int)))=true:=g;rw [aas,decide_eq_true_iff,decide_eq_true_iff] at g;refine ⟨v.toNat, ?_,by omega⟩;show some ((Ξ pl i).getD 0)=_;rw [hv,abY g.1];rfl
  ·cases r with
   | fin q=>exact absurd hk (by show¬Δ (Str.ofString "end")=true;decide)
   | τ k ds=>
    have e:k=ξ:=e;subst e;obtain ⟨j,gj,jl⟩:=(iN (i:=i) fw h2 h).1 ds hi;rw [gj];exact ⟨j,rfl,jl⟩
 ·rw [eY (bF h),(iN (i:=i) fw h2 h).2 r hi (λz=>by rw [z,h2] at hk;cases hk)];exact Oe i r hi λz=>by rw [z,h1] at hk;cases hk
end
section
variable{share:Fr}{rows:List Rw}{X C:Int}{tb:List Fr}{hand ξ:Str}{pl p:Pl}{i:Nat}
theorem qk:∀pl:Pl,((Θ share rows tb pl).map (·.1)).Sublist (pl.map (·.1))
 | []=>List.Sublist.refl _
 | a::r=>by
  have ih:=qk r;have e:Θ share rows tb (a::r)=oS share rows tb a++Θ share rows tb r:=by unfold Θ;rw [List.flatMap_cons]
  rw [e,aaS,aaF];unfold oS;split
  ·exact List.Sublist.cons _ ih
  ·exact List.Sublist.cons₂ _ ih
theorem nJ(h:vq pl):vq (Θ share rows tb pl):=(qk pl).nodup h
theorem fP{i:Int}:∀{pl:Pl},vq pl->Ξ (Θ share rows tb pl) i=(match Ξ pl i with
 | some v=>if zd (h8 share rows tb i) v then none else some (((h8 share rows tb i).headD 0:Nat):Int)
 | none=>none)
 | [],_=>rfl
 | a::r,nd=>by
  unfold vq at nd;rw [aaF,aby] at nd;have ih:=fP (i:=i) (pl:=r) nd.2;have e:Θ share rows tb (a::r)=oS share rows tb a++Θ share rows tb r:=by unfold Θ;rw [List.flatMap_cons]
  rw [e];by_cases ei:a.1=i
  ·have e2:Ξ (a::r) i=some a.2:=by unfold Ξ;rw [if_pos ei]
   have hn:Ξ (Θ share rows tb r) i=none:=my λz=>nd.1 (by rw [ei];exact e_ z);rw [e2];dsimp only;unfold oS;rw [ei];by_cases c:zd (h8 share rows tb i) a.2=true
   ·rw [if_pos c,if_pos c,aaM,hn]
   ·rw [if_neg c,if_neg c];show Ξ ((i,(((h8 share rows tb i).headD 0:Nat):Int))::Θ share rows tb r) i=_;unfold Ξ;rw [if_pos rfl]
  ·have e2:Ξ (a::r) i=Ξ r i:=by rw [Ξ,if_neg ei]
   rw [e2,<-ih];unfold oS;split
   ·rfl
   ·show Ξ ((a.1,_)::Θ share rows tb r) i=_;rw [Ξ,if_neg ei]
theorem x5{kc:List (Int×Nat)}:∀(q s:Pl),a_ kc s->(∀e∈q,e.1∈kc.map (·.1)/\∀c,(e.1,c)∈kc->0<=e.2/\e.2 < (c:Int))->a_ kc (dt s q)
 | [],s,h,_=>h
 | e::q,s,h,hq=>by obtain ⟨a,b⟩:=hq e aaf;exact x5 q (dZ s e.1 e.2) (GY h a b) λx hx=>hq x (aad _ hx)
theorem jy(fw:FW share rows X C)(hh:Δ ξ=true)(h:a_ (pR rows ξ) p)(hp:∀t,t < rows.length->0 < (tb.getD t (0,1)).2)(hm:i∈iU rows ξ):∃ds j,rows[i]? =some (.τ ξ ds)/\Ν (ix rows i)=ds/\Ξ p i=some ((j:Nat):Int)/\j < ds.length/\h8 share rows tb i=cz share tb (.τ ξ ds)/\cz share tb (.τ ξ ds)≠[]/\(cz share tb (.τ ξ ds)).headD 0∈cz share tb (.τ ξ ds):=by obtain ⟨ds,hi,ed,l1⟩:=yM fw hh hm;obtain ⟨j,gj,jl⟩:=(iN (i:=i) fw hh h).1 ds hi;have rm:Rw.τ ξ ds∈rows:=aal hi;have ne:cz share tb (.τ ξ ds)≠[]:=K' hh (λz=>by rw [z] at l1;exact absurd l1 (by decide)) λd hd=>(mP fw rm hd hp).2.pos;refine ⟨ds,j,hi,ed,gj,jl,by unfold h8;rw [Int.toNat_natCast,hi],ne, ?_⟩;obtain ⟨b,bs,e⟩:=aa9 ne;rw [e];exact aaf
theorem jN(fw:FW share rows X C)(hh:Δ ξ=true)(h:a_ (pR rows ξ) p)(hp:∀t,t < rows.length->0 < (tb.getD t (0,1)).2):a_ (pR rows ξ) (dt p (Θ share rows tb p)):=by
 refine x5 _ _ h λe he=> ?_;have ke:e.1∈p.map (·.1):=e_ (aak.mpr ⟨e,he,rfl⟩);have kk:=ke;rw [b9 h] at kk;rw [b9 h,iR] at ke;obtain ⟨i,hm,ei⟩:=aak.mp ke;obtain ⟨ds,j,hi,ed,gj,jl,eb,ne,hd⟩:=jy fw hh h hp hm;refine ⟨kk,λc hc=> ?_⟩;have c1:c=ds.length:=by
  unfold pR at hc;obtain ⟨i',_,e'⟩:=aak.mp hc;have e1:(i':Int)=e.1:=congrArg Prod.fst e';have e2:(Ν (ix rows i')).length=c:=congrArg Prod.snd e';have:i'=i:=by have ei:(i:Int)=e.1:=ei;omega
  subst this;rw [<-e2,ed]
 have gb:=fP (share:=share) (rows:=rows) (tb:=tb) (i:=e.1) (bF h);have nb:=nJ (share:=share) (rows:=rows) (tb:=tb) (bF h);have ge:Ξ (Θ share rows tb p) e.1=some e.2:=by
  have:∀{l:Pl},vq l->e∈l->Ξ l e.1=some e.2:=λ{l}=>by
   induction l with
   | nil=>intro _ z;cases z
   | cons a l ih=>
    intro nl hm;unfold vq at nl;rw [aaF,aby] at nl;unfold Ξ;rcases aay.mp hm with y | y
    ·rw [if_pos (by rw [y]),y]
    ·rw [if_neg λz=>nl.1 (by rw [z];exact aak.mpr ⟨e,y,rfl⟩)];exact ih nl.2 y
  exact this nb he
 have ei:e.1=(i:Int):=ei.symm;rw [ge,ei,gj,eb] at gb;dsimp only at gb;split at gb
 ·cases gb
 ·have gb:=aar gb;have:=((jV hh).mp hd).1;omega
theorem Dg(fw:FW share rows X C)(hh:Δ ξ=true)(h:a_ (pR rows ξ) p)(hp:∀t,t < rows.length->0 < (tb.getD t (0,1)).2)(hb:Pl):∀i,i < rows.length->Ξ (dt hb (dt p (Θ share rows tb p))) i=Ξ (dt hb p) i\/NQ share rows tb ξ (dt hb p) (dt hb (dt p (Θ share rows tb p))) i:=λi il=>by
 have h':=jN (tb:=tb) fw hh h hp;have gb:=fP (share:=share) (rows:=rows) (tb:=tb) (i:=(i:Int)) (bF h);have g1:=eY (i:=(i:Int)) (p:=p) (nJ (share:=share) (rows:=rows) (tb:=tb) (bF h));have g2:=eY (i:=(i:Int)) (p:=hb) (bF h');have g3:=eY (i:=(i:Int)) (p:=hb) (bF h);by_cases hm:i∈iU rows ξ
 ·obtain ⟨ds,j,hi,ed,gj,jl,eb,ne,hd⟩:=jy fw hh h hp hm;rw [gj,eb] at gb;dsimp only at gb;by_cases c:zd (cz share tb (.τ ξ ds)) (j:Int)=true
  ·rw [if_pos c] at gb;rw [gb] at g1;left;rw [g2,g3,g1]
  ·rw [if_neg c] at gb;rw [gb] at g1;right;refine ⟨ds,j,_,hi,by rw [g3,gj],by rw [g2,g1],jl,λz=>c (uo.mpr ⟨j,z,rfl⟩),hd⟩
 ·have hi:rows[i]? =some rows[i]:=aaa il;have gn:=(iN (i:=i) fw hh h).2 rows[i] hi λz=>hm (iz.mpr ⟨il,by unfold gc;rw [hi];exact z⟩);rw [gn] at gb;have gb:Ξ (Θ share rows tb p) i=none:=gb;rw [gb] at g1;left;rw [g2,g3,g1]
theorem yR(fw:FW share rows X C)(hh:Δ ξ=true)(h:a_ (pR rows ξ) p)(hp:∀t,t < rows.length->0 < (tb.getD t (0,1)).2)(hb:Pl)(ne:Θ share rows tb p≠[]):∃i,i < rows.length/\NQ share rows tb ξ (dt hb p) (dt hb (dt p (Θ share rows tb p))) i:=by
 obtain ⟨e,r,er⟩:=aa9 ne;have he:e∈Θ share rows tb p:=by rw [er];exact aaf
 have ke:e.1∈p.map (·.1):=e_ (aak.mpr ⟨e,he,rfl⟩);rw [b9 h,iR] at ke;obtain ⟨i,hm,ei⟩:=aak.mp ke;have ei:(i:Int)=e.1:=ei;have il:=(iz.mp hm).1;refine ⟨i,il, ?_⟩;have h':=jN (tb:=tb) fw hh h hp;obtain ⟨ds,j,hi,ed,gj,jl,eb,ne',hd⟩:=jy fw hh h hp hm;have gb:=fP (share:=share) (rows:=rows) (tb:=tb) (i:=(i:Int)) (bF h);have s:(Ξ (Θ share rows tb p) (i:Int)).isSome=true:=mS (aak.mpr ⟨e,he,ei.symm⟩);rw [gj,eb] at gb;dsimp only at gb;by_cases c:zd (cz share tb (.τ ξ ds)) (j:Int)=true
 ·rw [if_pos c] at gb;rw [gb] at s;cases s
 ·rw [if_neg c] at gb;have g1:=eY (i:=(i:Int)) (p:=p) (nJ (share:=share) (rows:=rows) (tb:=tb) (bF h));rw [gb] at g1;refine ⟨ds,j,_,hi,by rw [eY (bF h),gj],by rw [eY (bF h'),g1],jl,λz=>c (uo.mpr ⟨j,z,rfl⟩),hd⟩
theorem zQ(fw:FW share rows X C)(hh:Δ ξ=true)(h:a_ (pR rows ξ) p)(hp:∀t,t < rows.length->0 < (tb.getD t (0,1)).2)(e:Θ share rows tb p=[]){ds:List bQ}{j:Nat}(hi:rows[i]? =some (.τ ξ ds))(gj:Ξ p i=some (j:Int)):j∈cz share tb (.τ ξ ds):=by
 have il:=(aag.mp hi).1;have hm:i∈iU rows ξ:=iz.mpr ⟨il,by unfold gc;rw [hi];rfl⟩;obtain ⟨mH,j',tm,_,Xu,_,eb,_,_⟩:=jy (tb:=tb) fw hh h hp hm;rw [hi] at tm;cases tm;have gb:=fP (share:=share) (rows:=rows) (tb:=tb) (i:=(i:Int)) (bF h);rw [e,gj,eb] at gb;dsimp only at gb;split at gb
 ·rename_i c;obtain ⟨b,hb,y⟩:=uo.mp c;have:b=j:=by omega
  rw [<-this];exact hb
 ·cases gb
end
theorem oO.Yd{share:Fr}{rows:List Rw}{Ε:Pl}{tb:List Fr}{X C:Int}(fw:FW share rows X C)(dk:iQ rows Ε)(b1:1<=ow X C)(h:oO share rows Ε tb):FJ share rows tb:=by
 have ok:=h.ok fw dk b1;refine ⟨fw.pl.sh,fw.pl.len,fw.pl.row,ok.len,λt ht=>⟨(ok.sz t ht).2,(ok.red t ht).pos, ?_⟩⟩;have:(t.2.natAbs:Int) < ((2 ^ 1150:Nat):Int):=by rw [aa4 (aah (ok.red t ht).pos)];exact ab2 (ok.sz t ht).1 (by decide)
 exact abx.mp this
theorem Jm{M:Ms}{k:Nat}{hand:Str}{pl:Pl}(h:M[k]? =some (dP pl)):Nv (M++[.cW [Sum.inr hand] [.loc k]]) M.length (tE hand pl):=by
 refine ⟨_,_,aq,λz=>⟨?_,λq e=> ?_⟩⟩
 ·unfold tE;show (decide ((Sum.inr hand:Key)=Sum.inr z) || false)=_;rw [Bool.or_false];by_cases y:z=hand
  ·rw [if_pos y,decide_eq_true (by rw [y])];rfl
  ·rw [if_neg y,decide_eq_false λx=>y (Sum.inr.inj x).symm];rfl
 ·unfold tE at e;split at e
  ·rename_i y;cases e;subst y;refine ⟨k, ?_,dq h⟩;show ((List.zip [Sum.inr z] [Dt.loc k]).find? _).map _=_;simp [List.zip]
  ·cases e
theorem Gy{n:Nat}:∀tb:List Fr,Dt.bf n (tb.map Υ)
 | []=>trivial
 | t::tb=>⟨lB t,Gy tb⟩
theorem Ft{S:Ms}{q:DQ}{m:MO}{tb:List Fr}(h:q (.lst (tb.map Υ)) S):q_ S q (.loc (S.length+1)) (S++[m, .lst (tb.map Υ)]):=
 jS (d':= .lst (tb.map Υ)) (.DB (Nat.le_succ _) (by rw [abk];rfl) (iu.old (Gy tb))) h
def yW(A:Addr):DF:=λas M q _=>∃(share:Fr) (rows:List Rw) (hand ξ:Str) (k:Nat) (pl:Pl) (X C:Int),as=[av A share rows, .str hand, .loc k]/\M[k]? =some (dP pl)/\(hand="one"/\ξ="other"\/hand="other"/\ξ="one")/\FW share rows X C/\ow X C<=2 ^ 450/\(12 * ow X C) ^ rows.length < 2 ^ 1030/\1<=ow X C/\(∀i,i < rows.length->eG rows (tE hand pl) i=true)/\∀(p:Pl) (tb:List Fr) (E':Ms),a_ (pR rows ξ) p->oO share rows (dt (jf rows hand pl) p) tb->Θ share rows tb p=[]->q (.tup [.loc (M.length+2), .lst (tb.map Υ)]) (M++[.cW [Sum.inr hand] [.loc k],dP (jf rows hand pl),dP p]++E')
theorem eA:Γ ["floor","hand","plan","held","answer","table","better"] ["floor","hand","plan"] (θ rA):=⟨rfl,rfl,rfl,by decide+kernel,rfl,by decide+kernel,by decide+kernel⟩
theorem Ar{f:Addr}{fd:FuncData}(F:cH K "against" "against" rA f fd)(E:Ev K mg w Cm){rj:Addr}{qm:FuncData}(fJ:aj P w K mg base 4 "doors_of" ["floor","plans"] (qN Cm) rj qm){zE:Addr}{Bc:FuncData}(jz:aj P w K mg base 3 "first_plan" ["floor","hand"] (Cs Cm) zE Bc){qF:Addr}{pT:FuncData}(cR:aj P w K mg base 8 "worths_against" ["floor","held","answer"] (Qw Cm) qF pT){uS:Addr}{uu:FuncData}(eO:aj P w K mg base 8 "better_doors" ["floor","plan","table"] (CC Cm) uS uu):af P w K mg base (bX P w) 9 f fd ["floor","hand","plan"] (cn K (yW Cm)):=by
 refine F.dF eA (λds M q x h=> ?_) (λaV A outer s H E' hr=>⟨_,(ζ (ω (i:=3) eA.nd rfl (Or.inl rfl) (aa fJ hr ν (γ (jv 0) (γ (Gx (jv 1) (jv 2)) η) (hs:=μ))))
   (ζ (ω (i:=4) eA.nd rfl (Or.inl rfl) (aa jz hr ν (γ (jv 0) (γ (Qo E.kM (jv 1)) η (hs:=aU)) (hs:=μ))))
   (ζ (ω (i:=5) eA.nd rfl (Or.inl rfl) (bL (aa cR hr ν (γ (jv 0) (γ (jv 3) (γ (jv 4) η (hs:=μ)) (hs:=μ)) (hs:=μ)))))
   (ζ (ω (i:=6) eA.nd rfl (Or.inl rfl) (aa eO hr ν (γ (jv 0) (γ (jv 4) (γ (jv 5) η (hs:=μ)) (hs:=μ)) (hs:=μ))))
   (ζ (qM (BC (Ot E.aZ (γ (jv 6) η (hs:=μ))) υ) (ζ (fB (Fb (jv 4) (jv 6)))
   (ζ (ω (i:=5) eA.nd rfl (Or.inl rfl) (bL (aa cR hr ν (γ (jv 0) (γ (jv 3) (γ (jv 4) η (hs:=μ)) (hs:=μ)) (hs:=μ)))))
   (ι (ω (i:=6) eA.nd rfl (Or.inl rfl) (aa eO hr ν (γ (jv 0) (γ (jv 4) (γ (jv 5) η (hs:=μ)) (hs:=μ)) (hs:=μ))))))))
   (ι (Β (gh (γ (jv 4) (γ (jv 5) η (hs:=μ)) (hs:=μ)))))))))),λds M q x h=> ?_⟩)
 ·obtain ⟨share,rows,hand,ξ,k,pl,X,C,rfl,_⟩:=h;rfl
 ·obtain ⟨share,rows,hand,ξ,k,pl,X,C,rfl,hk,dX,fw,mv,sW,b1,gd,h⟩:=h;have oE:=fw.pl.len;have lk:List.lookup hand [(Str.ofString "one",Str.ofString "other"),(Str.ofString "other",Str.ofString "one"),(Str.ofString "chance",Str.ofString "chance")]=some ξ:=by rcases dX with ⟨rfl,rfl⟩ | ⟨rfl,rfl⟩ <;> decide
  have h1:Δ hand=true:=by rcases dX with ⟨rfl,rfl⟩ | ⟨rfl,rfl⟩ <;> decide
  have h2:Δ ξ=true:=by rcases dX with ⟨rfl,rfl⟩ | ⟨rfl,rfl⟩ <;> decide
  have iT:hand≠ξ:=by rcases dX with ⟨rfl,rfl⟩ | ⟨rfl,rfl⟩ <;> decide
  have two:∀z:Str,Δ z=true->z=hand\/z=ξ:=λz hz=>by
   unfold Δ at hz;rw [Bool.or_eq_true,beq_iff_eq,beq_iff_eq] at hz;rcases dX with ⟨rfl,rfl⟩ | ⟨rfl,rfl⟩
   ·exact hz
   ·exact hz.symm
  have Mi:∀{p},a_ (pR rows ξ) p->iQ rows (dt (jf rows hand pl) p):=λhp=>HD fw h1 h2 iT two gd hp;have EA:∀{p},a_ (pR rows ξ) p->p.length<=12:=λ{p} hp=>by have:=congrArg List.length (b9 hp);rw [aae,iR,aae] at this;have l:=List.length_filter_le (λi=>decide (gc rows i=ξ)) (List.range rows.length);rw [aaU] at l;have l:(iU rows ξ).length<=rows.length:=l;omega
  have hlen:(jf rows hand pl).length<=12:=aaw (uz rows _ _) oE;walk_at "vc";dsimp only [GW,Qk];walk_at "vc";refine ⟨Sum.inr hand,rfl, ?_⟩;refine ⟨share,rows,M.length,tE hand pl,rfl,Jm hk,fw.pl,gd, ?_⟩;refine ⟨hand,ξ,rfl,lk, ?_⟩;refine ⟨share,rows,ξ,rfl,oE, ?_⟩;obtain ⟨ES,hd0⟩:∃d:MO,d=MO.cW [Sum.inr hand] [Dt.loc k]:=⟨_,rfl⟩;rw [<-hd0] at h⊢;dsimp only [jf] at h Mi hlen;generalize X8:eB rows (tE hand pl) rows.length=held at *
  have B3:∀p:Pl,M++[ES]++[dP held]++[dP p]=M++[ES,dP held,dP p]:=λp=>by simp
  have kh1:(M++[ES]).length=M.length+1:=by simp
  have ka1:(M++[ES]++[dP held]).length=M.length+2:=by simp
  rw [kh1,ka1,B3];have Xa:∀(p:Pl) (E:Ms),(M++[ES,dP held,dP p]++E)[M.length+1]? =some (dP held):=λp E=>dq (by rw [aaq (by omega),show M.length+1 - M.length=1 by omega];rfl);have O8:∀(p:Pl) (E:Ms),(M++[ES,dP held,dP p]++E)[M.length+2]? =some (dP p):=λp E=>dq (by rw [aaq (by omega),show M.length+2 - M.length=2 by omega];rfl);have f0:=zK fw h2;generalize As rows ξ=p0 at *
  have gp:∀{p:Pl} {tb:List Fr},oO share rows (dt held p) tb->∀t,t < rows.length->0 < (tb.getD t (0,1)).2:=λwt t ht=>(wt.tab.red t ht).pos;have Yn:∀{p:Pl} {tb:List Fr},a_ (pR rows ξ) p->oO share rows (dt held p) tb->∀e∈p,0<=e.1/\∃r,rows[e.1.toNat]? =some r/\Δ (kindOf r)=true/\cz share tb r≠[]:=λ{p tb} hp wt e he=>by have ke:e.1∈p.map (·.1):=aak.mpr ⟨e,he,rfl⟩;rw [b9 hp,iR] at ke;obtain ⟨i,hm,ei⟩:=aak.mp ke;have ei:(i:Int)=e.1:=ei;obtain ⟨ds,j,hi,_,_,_,_,ne,_⟩:=jy fw h2 hp (gp wt) hm;exact ⟨by omega, .τ ξ ds,by rw [<-ei,abJ];exact hi,h2,ne⟩
  have e0:M++[ES,dP held,dP p0]=M++[ES,dP held,dP p0]++[]:=(aaZ _).symm;rw [e0];refine ⟨share,rows,M.length+1,M.length+2,held,p0,X,C,rfl,Xa p0 [],O8 p0 [],by have:=EA f0;omega,Mi f0,fw,mv,sW,λU4 U6=>Ft ?_⟩;refine ⟨share,rows,U4,M.length+2,p0,rfl,O8 p0 [],U6.Yd fw (Mi f0) b1,bF f0,EA f0,Yn f0 U6, ?_⟩;have Wb:∀(p p':Pl) (E:Ms),(M++[ES,dP held,dP p]++E).set (M.length+2) (dP p')=M++[ES,dP held,dP p']++E:=λp p' E=>by rw [abf,abf,List.set_append_right (h:=by omega),show M.length+2 - M.length=2 by omega];rfl
  have l3:∀(p:Pl) (E:Ms),M.length+3<=(M++[ES,dP held,dP p]++E).length:=λp E=>by rw [aai,aai];show M.length+3<=M.length+3+E.length;omega
  have Tq:∀{p:Pl} {tb:List Fr},a_ (pR rows ξ) p->(Θ share rows tb p).length<=12:=λhp=>aaw (lH _) (EA hp);refine ⟨λm ρ' M'=>∃(p:Pl) (tb:List Fr) (E1:Ms) (kb:Nat),a_ (pR rows ξ) p/\oO share rows (dt held p) tb/\above share rows (mT ξ) (dt held) (pR rows ξ) p=m/\M'=M++[ES,dP held,dP p]++E1/\M'[kb]? =some (dP (Θ share rows tb p))/\M.length+3<=kb/\ρ'=[some (av Cm share rows),some (.str hand),some (.loc k),some (.loc (M.length+1)),some (.loc (M.length+2)),some (.lst (tb.map Υ)),some (.loc kb)],⟨_,p0,U4,[dP (Θ share rows U4 p0)],_,f0,U6,rfl,by rw [aaZ],aq,l3 p0 [],rfl⟩,λm ρ' M' hw=> ?_⟩;obtain ⟨p,tb,E1,kb,fp,wt,hm,rfl,Q5,kb3,rfl⟩:=hw;walk_at "vc";refine ⟨kb,_,_,rfl,Q5, ?_⟩;have kl:(kP (Θ share rows tb p)).length=(Θ share rows tb p).length:=by unfold kP;rw [List.length_map]
  rw [kl];refine ⟨λz=>⟨_,λρ2 M2 hn=>hn, ?_⟩,λz=> ?_⟩
  ·have z:(0:Int) < ((Θ share rows tb p).length:Int):=of_decide_eq_true z;have ne:Θ share rows tb p≠[]:=λy=>by rw [y] at z;exact absurd z (by decide)
   have Ki:=jN (tb:=tb) fw h2 fp (gp wt);have hd:=Dg fw h2 fp (gp wt) held;obtain ⟨i,il,hc⟩:=yR fw h2 fp (gp wt) held ne;dsimp only [Gf,GP];walk_at "vc";refine ⟨⟨M.length+2,_,_,rfl,O8 p E1⟩,M.length+2,kb,_,_,_,_,rfl,rfl,by omega,O8 p E1,Q5,by rw [kl];have:=EA fp;have:=Tq (tb:=tb) fp;unfold kP;rw [List.length_map];omega, ?_⟩;rw [IK,EZ,Wb];generalize dt p (Θ share rows tb p)=p' at *
   refine ⟨share,rows,M.length+1,M.length+2,held,p',X,C,rfl,Xa p' E1,O8 p' E1,by have:=EA Ki;omega,Mi Ki,fw,mv,sW,λJd Jb=>Ft ?_⟩;refine ⟨share,rows,Jd,M.length+2,p',rfl,O8 p' E1,Jb.Yd fw (Mi Ki) b1,bF Ki,EA Ki,Yn Ki Jb, ?_⟩;refine ⟨_, ?_,p',Jd,E1++[dP (Θ share rows Jd p')],_,Ki,Jb,rfl,by rw [<-abf],aq,l3 p' E1,rfl⟩;rw [<-hm];exact IL Ki (A8 fw h2 (Mi fp) (Mi Ki) b1 wt Jb hd il hc)
  ·have z:¬(0:Int) < ((Θ share rows tb p).length:Int):=of_decide_eq_false z;have e:Θ share rows tb p=[]:=List.length_eq_zero_iff.mp (by omega);exact ⟨by show 2<=sizeLine;decide,h p tb E1 fp wt e⟩
theorem Q8{a b:Int}(h1: -(10 ^ 30)<=a)(h2:a<=10 ^ 30)(h3:b<=1000000):aW (a,b)=true:=by
 unfold aW;have:(if a < 0 then -a else a)<=10 ^ 30:=by split <;> omega
 show (decide ((if a < 0 then -a else a)<=10 ^ 30)&&decide (b<=1000000))=true;rw [decide_eq_true this,decide_eq_true h3];rfl
theorem Bx{t b:Int}(h1: -(10 ^ 30)<=t)(h2:t<=10 ^ 30)(h0:0 < b)(h3:b<=1000000):aW (ah t b)=true:=by
 have l1:=pW (t:=t) (show b≠0 by omega);have l2:=jB (t:=t) (show b≠0 by omega);generalize ah t b=f at *
 obtain ⟨x,y⟩:=f;have l1:x.natAbs<=t.natAbs:=l1;have l2:y.natAbs<=b.natAbs:=l2;exact Q8 (by omega) (by omega) (by omega)
theorem Az{t b:Int}(t0:0<=t)(t1:t < b)(XB:b<=1000):aH (ah t b)=true:=by
 have Ji:0 < b:=by omega
 have l2:=jB (t:=t) (show b≠0 by omega);have q0:=b7 (t:=t) (show b≠0 by omega);have hc:=bU (t:=t) (show b≠0 by omega);generalize ah t b=f at *
 obtain ⟨x,y⟩:=f;have l2:y.natAbs<=b.natAbs:=l2;have q0:0 < y:=q0;have hc:t * y=b * x:=hc;have x0:0<=x:=by
  rcases ab1 x 0 with z | z
  ·have:=abH Ji z;have:=aa3 t0 (aah q0);omega
  ·exact z
 have x1:x < y:=by
  rcases ab1 x y with z | z
  ·exact z
  ·have h3:b * y<=b * x:=aav z (aah Ji);have h4:t * y < b * y:=Int.mul_lt_mul_of_pos_right t1 q0;omega
 unfold aH;show (decide (0<=x)&&(decide (x < y)&&decide (y<=1000)))=true;rw [decide_eq_true x0,decide_eq_true x1,decide_eq_true (show y<=1000 by omega)];rfl
def VF(ns:List Int)(k:Int):Int:=ns.getD k.toNat 0
theorem Oq{ns:List Int}{k:Int}(h0:0<=k)(h2:k < ns.length):lY (ns.map Dt.int) k=some (.int (VF ns k)):=by
 have e:(ns.map Dt.int)[k.toNat]? =some (.int (VF ns k)):=by rw [aao,aaa (show k.toNat < ns.length by omega)];unfold VF;rw [aab,aaa (show k.toNat < ns.length by omega)];rfl
 have:=Η e;rwa [show ((k.toNat:Nat):Int)=k by omega] at this
def Nm(n:Int):Prop:=0<=n/\n < 10 ^ 300
theorem P2:yv 10 60:=⟨by decide,by decide,by decide⟩
theorem Ui:yv 10 30:=⟨by decide,by decide,by decide⟩
theorem Zf:yv 10 18:=⟨by decide,by decide,by decide⟩
theorem p12:yv 10 12:=⟨by decide,by decide,by decide⟩
theorem p6:yv 10 6:=⟨by decide,by decide,by decide⟩
theorem qQ{n:Int}(h:Nm n):gJ n:=oM (k:=1000) h.1 (ab2 h.2 (by decide)) (by decide)
theorem HV{a b:Int}(h0:0 < b)(h1:b<=10 ^ 300):Nm (a % b):=⟨aaO _ (by omega),Int.lt_of_lt_of_le (aaL _ h0) h1⟩
theorem AM{n b:Int}(h:Nm n)(h0:0 < b):Nm (n / b):=⟨Int.ediv_nonneg h.1 (aah h0),aaB (abW _ h.1) h.2⟩
def Wv:DF:=λas M q _=>∃(ns:List Int) (k:Int),as=[.iV ns, .int k]/\ns.length<=63/\0<=k/\k<=200/\∀n,Nm n->q (.int n) M
theorem pC:Γ ["_law_script","_law_k","_law_mixed","_law_cell"] ["_law_script","_law_k"] (θ zk):=⟨rfl,rfl,rfl,by decide+kernel,rfl,by decide+kernel,by decide+kernel⟩
theorem Hl{f:Addr}{fd:FuncData}(F:cH K "_law_at" "_law_at" zk f fd)(E:Ev K mg w Cm):af P w K mg base (bX P w) 1 f fd ["_law_script","_law_k"] (cn K Wv):=by
 refine F.dF pC (λds M q x h=> ?_) (λaV A outer s H E' hr=>⟨_,(ζ (aB (qY (jv 1) (bK E.aZ (γ (jv 0) η (hs:=μ)))) (ι (Β (bB (Ι (jv 0) (jv 1)) (aw (aw (aw (aw (ig υ υ) (ig υ υ)) (ig υ υ)) (ig υ υ)) (ig υ υ))))) Τ)
   (ζ (ω (i:=2) pC.nd rfl (Or.inl rfl) (cf υ (aw υ (bK E.aZ (γ (jv 0) η (hs:=μ))))))
   (ζ (cT (bA (bL (vE (jv 0) υ))) (ag (i:=3) pC.nd rfl (Or.inl rfl)) aP (ι (ω (i:=2) pC.nd rfl (Or.inl rfl) (bB (cf (aw (jv 2) υ) (bB (jv 3) (ig υ υ))) υ))))
   (ι (Β (bB (aw (cf (jv 2) υ) (cf (aw (jv 1) (jv 1)) υ)) υ)))))),λds M q x h=> ?_⟩)
 ·obtain ⟨ns,k,rfl,_⟩:=h;rfl
 ·obtain ⟨ns,k,rfl,nl,hk,k2,h⟩:=h;have bk:gJ k:=bg (k:=40) (by omega);have bl:gJ (ns.length:Int):=bg (k:=40) (by omega);have b6:gJ ((10:Int) ^ (60:Int).toNat):=bg (k:=210) (by decide);walk_at "vc";refine (ae (d:= .iV ns) (xs:=ns.map .int) rfl ?_:fb [.iV ns] M _);rw [aae];refine ⟨λh1=> ?_,λh1=> ?_⟩
  ·have Ud:k < ns.length:=of_decide_eq_true h1;refine (Ζ (d:= .iV ns) rfl (Oq hk Ud) ?_:d7 (.iV ns) (.int k) M _);exact ⟨P2,P2,⟨b6,b6⟩,P2,⟨bg (k:=410) (by decide),b6⟩,P2,⟨bg (k:=610) (by decide),b6⟩,P2,⟨bg (k:=810) (by decide),b6⟩,by decide,h _ (HV (by decide) (by decide))⟩
  ·refine (ae (d:= .iV ns) (xs:=ns.map .int) rfl ?_:fb [.iV ns] M _);rw [aae];refine ⟨⟨bg (k:=40) (by decide),bl⟩, ?_⟩;dsimp only [tD,gy,Rp,He];walk_at "vc";refine ⟨ns.map .int,6,rfl,rfl, ?_⟩;rw [<-ab5];refine cG (ft _) ?_;refine bJ (λzs ρ' M'=>M'=M/\∃(rest:List Int) (m:Int) (o:Option Dt),zs=rest.map Dt.int/\0<=m/\m < 2147483647/\ρ'=[some (.iV ns),some (.int k),some (.int m),o]) (λzs ρ' M' hj=>trivial) (λx zs ρ' M' hj fe=> ?_) (λρ' M' hj=> ?_) _ _ _ ⟨rfl,_,_,none,rfl,by omega,by omega,rfl⟩
   ·obtain ⟨rfl,rest,m,o,ex,m0,m1,rfl⟩:=hj;cases rest with
    | nil=>cases ex
    | cons c rest=>
     cases ex;exact ⟨⟨bg (k:=40) (by omega),bg (k:=40) (by decide)⟩,p12,by decide,by decide,fe _ _ ⟨rfl,rest,_,_,rfl,aaO _ (by decide),aaL _ (by decide),rfl⟩⟩
   ·obtain ⟨rfl,rest,m,o,ex,m0,m1,rfl⟩:=hj;have kk:0<=k * k/\k * k<=200 * 200:=⟨aa3 hk hk,abn k2 k2 hk (by decide)⟩;exact ⟨⟨bk,bk⟩,⟨bg (k:=40) (by omega),bg (k:=40) (by omega)⟩,by decide,h _ (HV (by decide) (by decide))⟩
def Xs(x:Int):Prop:=0<=x/\x < 2 ^ 110
def wC:DF:=λas M q _=>∃(n:Int) (many:Nat),as=[.int n, .int (many:Nat)]/\gJ n/\many<=60/\∀xs:List Int,xs.length=many->(∀x∈xs,Xs x)->q (.loc M.length) (M++[.lst (xs.map Dt.int)])
theorem e9:Γ ["_law_number","_law_many","_law_some","_law_seed","_law_k"] ["_law_number","_law_many"] (θ lF):=⟨rfl,rfl,rfl,by decide+kernel,rfl,by decide+kernel,by decide+kernel⟩
theorem vx{f:Addr}{fd:FuncData}(F:cH K "_law_stream" "_law_stream" lF f fd)(E:Ev K mg w Cm):af P w K mg base (bX P w) 1 f fd ["_law_number","_law_many"] (cn K wC):=by
 refine F.dF e9 (λds M q x h=> ?_) (λaV A outer s H E' hr=>⟨_,(ζ (ω (i:=2) e9.nd rfl (Or.inl rfl) (lh η))
   (ζ (ω (i:=3) e9.nd rfl (Or.inl rfl) (cf (bB (aw (jv 0) υ) υ) υ))
   (ζ (hG (cv E.bG (γ (jv 1) η (hs:=μ))) (ag (i:=4) e9.nd rfl (Or.inl rfl)) aP (ζ (ω (i:=3) e9.nd rfl (Or.inl rfl) (bB (cf (cf (aw (jv 3) υ) (aw (jv 4) (jv 4))) υ) υ))
   (ι (fB (gf (jv 2) (γ (jv 3) η (hs:=μ)))))))
   (ι (Β (jv 2)))))),λds M q x h=> ?_⟩)
 ·obtain ⟨n,many,rfl,_⟩:=h;rfl
 ·obtain ⟨n,many,rfl,bn,m60,h⟩:=h;refine ⟨by decide,⟨bn,bg (k:=20) (by decide)⟩,by decide, ?_⟩;have s0:=aaO (n * 69621) (show (2147483629:Int)≠0 by decide);have s1:=aaL (n * 69621) (show (0:Int) < 2147483629 by decide);dsimp only [xo];generalize n * 69621 % 2147483629=sd at *
  refine ⟨⟨by omega,by omega⟩, ?_⟩;rw [show ((many:Int)).toNat=many by omega];refine cq (λzs ρ' M'=>∃(i c:Nat) (xs:List Int) (sd:Int) (o:Option Dt),zs=dc (i:Int) c/\i+c=many/\xs.length=i/\(∀x∈xs,Xs x)/\0<=sd/\sd<=2147483647/\M'=M++[.lst (xs.map Dt.int)]/\ρ'=[some (.int n),some (.int (many:Int)),some (.loc M.length),some (.int sd),o]) (λx zs ρ' M' hj fe=> ?_) (λρ' M' hj=> ?_) _ _ _ ⟨0,many,[],sd+1,none,rfl,by omega,rfl,λ_ z=>(nomatch z),by omega,by omega,rfl,rfl⟩
  ·obtain ⟨i,c,xs,sd,o,ex,ic,xl,hx,d0,d1,rfl,rfl⟩:=hj;obtain ⟨c',rfl,rfl,rfl⟩:=b8 ex;have i60:(i:Int) < 60:=by omega
   have ii:0<=(i:Int) * i/\(i:Int) * i<=60 * 60:=⟨aa3 (by omega) (by omega),abn (by omega) (by omega) (by omega) (by decide)⟩;refine ⟨⟨bg (k:=40) (by omega),bg (k:=20) (by decide)⟩,⟨bg (k:=20) (by omega),bg (k:=20) (by omega)⟩,by decide, ?_⟩;have t0:=aaO (sd * 48271+(i:Int) * i+7) (show (2147483647:Int)≠0 by decide);have t1:=aaL (sd * 48271+(i:Int) * i+7) (show (0:Int) < 2147483647 by decide);refine ⟨⟨_,_,rfl,aq⟩,M.length,_,_,rfl,rfl,aq, ?_, ?_⟩
   ·rw [aae,xl];exact aaR (show i<=60 by omega) (by decide)
   rw [cU];refine fe _ _ ⟨i+1,c',xs++[(sd * 48271+(i:Int) * i+7) % 2147483647],_,_,by rw [Int.natCast_add];rfl,by omega,by simp [xl],λy hy=> ?_,t0,Int.le_of_lt t1,by simp,rfl⟩;rcases aaN.mp hy with z | z
   ·exact hx y z
   ·rw [aba.mp z];exact ⟨t0,ab2 t1 (by decide)⟩
  ·obtain ⟨i,c,xs,sd,o,ex,ic,xl,hx,d0,d1,rfl,rfl⟩:=hj;have c0:c=0:=by have:=congrArg List.length ex;rw [fQ] at this;exact this.symm
   exact h xs (by omega) hx
def Ff:DF:=λas M q _=>∃t b:Int,as=[.int t, .int b]/\0 < b/\gJ b/\q (Υ (ah t b)) M
theorem jD:Γ ["_law_top","_law_bottom","_law_one","_law_two"] ["_law_top","_law_bottom"] (θ kY):=⟨rfl,rfl,rfl,by decide+kernel,rfl,by decide+kernel,by decide+kernel⟩
theorem vO{f:Addr}{fd:FuncData}(F:cH K "_law_lowest" "_law_lowest" kY f fd)(E:Ev K mg w Cm):af P w K mg base (bX P w) 1 f fd ["_law_top","_law_bottom"] (cn K Ff):=by
 refine F.dF jD (λds M q x h=> ?_) (λaV A outer s H E' hr=>⟨_,(ζ (E8 (i:=2) (j:=3) jD.nd rfl rfl (γ (Cg E.pZ (γ (jv 0) η (hs:=μ))) (γ (jv 1) η (hs:=μ)) (hs:=aA)))
   (ζ (qM (rC hr (jv 3) υ) (ι (E8 (i:=2) (j:=3) jD.nd rfl rfl (γ (jv 3) (γ (bB (jv 2) (jv 3)) η (hs:=bC)) (hs:=μ)))))
   (ι (Β (gh (γ (je (jv 0) (jv 2)) (γ (je (jv 1) (jv 2)) η (hs:=bC)) (hs:=bC))))))),λds M q x h=> ?_⟩)
 ·obtain ⟨t,b,rfl,_⟩:=h;rfl
 ·obtain ⟨t,b,rfl,h0,h1,h⟩:=h;have ga:g (if t < 0 then -t else t) b=g t b:=by have:=Lz t b;rwa [if_neg (show¬b < 0 by omega)] at this
  refine ⟨λm ρ M'=>M'=M/\∃(x y:Int),ρ=[some (.int t),some (.int b),some (.int x),some (.int y)]/\0<=x/\0<=y/\g x y=g t b/\m=y.toNat,⟨_,rfl,_,_,rfl,by split <;> omega,by omega,ga,rfl⟩, ?_⟩;rintro m ρ M' ⟨rfl,x,y,rfl,hx,hy,e,rfl⟩;refine ⟨λhb=> ?_,λhb=> ?_⟩
  ·have JZ:y≠0:=by simpa using hb
   refine ⟨_,λρ' M2 h2=>h2, ?_⟩;refine ⟨by omega,(x % y).toNat, ?_,rfl,y,x % y,rfl,hy,aaO _ JZ, ?_,rfl⟩
   ·have:=aaL x (show 0 < y by omega);have:=aaO x JZ;omega
   ·rw [<-abB x hy,H_ (by omega)];exact e
  ·have JZ:y=0:=by simpa using hb
   subst JZ;rw [Hx hx] at e;subst e;have hg:0 < g t b:=xR (by omega);have hle:g t b<=b:=abP h0 (Int.gcd_dvd_right ..);have hb:gJ (g t b):=aaR (show (g t b).natAbs<=b.natAbs by omega) h1;have e:ah t b=(t / g t b,b / g t b):=by rw [Ka h0,abR _ (aah hg),abR _ (aah hg)]
   rw [e] at h;exact ⟨⟨hg,hb⟩,⟨hg,hb⟩,(by show 2<=sizeLine;decide),h⟩
def Fe:DF:=λas M q _=>∃n:Int,as=[.int n]/\∀b,q (.bl b) M
theorem rW:Γ ["_law_number"] ["_law_number"] (θ iO):=⟨rfl,rfl,rfl,by decide+kernel,rfl,by decide+kernel,by decide+kernel⟩
theorem qz{f:Addr}{fd:FuncData}(F:cH K "_law_by_digits" "_law_by_digits" iO f fd)(E:Ev K mg w Cm):af P w K mg base (bX P w) 1 f fd ["_law_number"] (cn K Fe):=by
 refine F.dF rW (λds M q x h=> ?_) (λaV A outer s H E' hr=>⟨_,(ι (Β (UJ (jv 0) (ig υ υ)))),λds M q x h=> ?_⟩)
 ·obtain ⟨n,rfl,_⟩:=h;rfl
 ·obtain ⟨n,rfl,h⟩:=h;exact ⟨Zf,h _⟩
def zg(ss:List Int):Dt:= .lst (ss.map Dt.int)
structure Fl(ss:List Int):Prop where
 len:ss.length=5
 pos:∀s∈ss,0 < s/\s<=2 * 10 ^ 30+1
theorem QD{ss:List Int}(h:Fl ss){j:Int}:∃s,lY (ss.map Dt.int) (j % 5)=some (.int s)/\0 < s/\s<=2 * 10 ^ 30+1:=by
 have j0:=aaO j (show (5:Int)≠0 by decide);have j1:=aaL j (show (0:Int) < 5 by decide);have hl:(j % 5).toNat < ss.length:=by rw [h.len];omega
 have:=ff hl;rw [show (((j % 5).toNat:Nat):Int)=j % 5 by omega] at this;exact ⟨_,this,h.pos _ (aaA hl)⟩
def Ck:DF:=λas M q _=>∃(n k:Int) (many:Nat) (ss:List Int),as=[.int n, .int k, .int (many:Nat),zg ss]/\Nm n/\0<=k/\k<=12/\many<=30/\Fl ss/\∀xs:List Int,xs.length=many->(∀x∈xs,Xs x)->q (.loc M.length) (M++[.lst (xs.map Dt.int)])
theorem e6:Γ ["_law_number","_law_k","_law_many","_law_sizes","_law_some","_law_rest","_law_j"] ["_law_number","_law_k","_law_many","_law_sizes"] (θ ly):=⟨rfl,rfl,rfl,by decide+kernel,rfl,by decide+kernel,by decide+kernel⟩
theorem wg{f:Addr}{fd:FuncData}(F:cH K "_law_things" "_law_things" ly f fd)(E:Ev K mg w Cm){bN:Addr}{bT:FuncData}(ai:aj P w K mg base 1 "_law_by_digits" ["_law_number"] Fe bN bT){kT:Addr}{lS:FuncData}(dH:aj P w K mg base 1 "_law_stream" ["_law_number","_law_many"] wC kT lS):af P w K mg base (bX P w) 2 f fd ["_law_number","_law_k","_law_many","_law_sizes"] (cn K Ck):=by
 refine F.dF e6 (λds M q x h=> ?_) (λaV A outer s H E' hr=>⟨_,(ζ (aB (f_ (bW (aa ai hr ν (γ (jv 0) η (hs:=μ))))) (ι (Β (aa dH hr ν (γ (cf (aw (jv 0) υ) (jv 1)) (γ (jv 2) η (hs:=μ)) (hs:=bC))))) Τ)
   (ζ (ω (i:=4) e6.nd rfl (Or.inl rfl) (lh η))
   (ζ (ω (i:=5) e6.nd rfl (Or.inl rfl) (je (jv 0) υ))
   (ζ (hG (cv E.bG (γ (jv 2) η (hs:=μ))) (ag (i:=6) e6.nd rfl (Or.inl rfl)) aP (ζ (fB (gf (jv 4) (γ (bB (jv 5) (Ι (jv 3) (bB (jv 6) υ))) η (hs:=bC))))
   (ι (ω (i:=5) e6.nd rfl (Or.inl rfl) (je (jv 5) (Ι (jv 3) (bB (jv 6) υ)))))))
   (ι (Β (jv 4))))))),λds M q x h=> ?_⟩)
 ·obtain ⟨n,k,many,ss,rfl,_⟩:=h;rfl
 ·obtain ⟨n,k,many,ss,rfl,hn,k0,k1,VY,so,h⟩:=h;refine ⟨n,rfl,λb=>⟨λ_=> ?_,λ_=> ?_⟩⟩
  ·refine ⟨⟨qQ hn,bg (k:=10) (by decide)⟩, ?_⟩;refine ⟨n * 12+k,many,rfl, ?_,by omega,h⟩;obtain ⟨n0,n1⟩:=hn;refine oM (k:=1100) (by omega) ?_ (by decide);exact Int.lt_of_lt_of_le (show n * 12+k < 10 ^ 300 * 12+13 by omega) (by decide)
  ·refine ⟨by decide,⟨by decide,bg (k:=10) (by decide)⟩,⟨by omega,by omega⟩, ?_⟩;rw [show ((many:Int)).toNat=many by omega];refine cq (λzs ρ' M'=>∃(i c:Nat) (xs:List Int) (r:Int) (o:Option Dt),zs=dc (i:Int) c/\i+c=many/\xs.length=i/\(∀x∈xs,Xs x)/\Nm r/\M'=M++[.lst (xs.map Dt.int)]/\ρ'=[some (.int n),some (.int k),some (.int (many:Int)),some (zg ss),some (.loc M.length),some (.int r),o]) (λx zs ρ' M' hj fe=> ?_) (λρ' M' hj=> ?_) _ _ _ ⟨0,many,[],_,none,rfl,by omega,rfl,λ_ z=>(nomatch z),AM hn (by decide),rfl,rfl⟩
   ·obtain ⟨i,c,xs,r,o,ex,ic,xl,hx,dX,rfl,rfl⟩:=hj;obtain ⟨c',rfl,rfl,rfl⟩:=b8 ex;obtain ⟨sz,es,s0,s1⟩:=QD so (j:=(i:Int));have rd:∀(M':Ms) (q:DQ),q (.int sz) M'->d7 (zg ss) (.int ((i:Int) % 5)) M' q:=λM' q hq=>Ζ (d:=zg ss) rfl es hq;walk_at "vc";refine ⟨⟨_,_,rfl,aq⟩, ?_⟩;refine ⟨by decide,rd _ _ ⟨s0, ?_⟩⟩;refine ⟨M.length,_,_,rfl,rfl,aq, ?_, ?_⟩
    ·rw [aae,xl];exact aaR (show i<=60 by omega) (by decide)
    rw [cU];refine ⟨by decide,rd _ _ ⟨⟨s0,oM (k:=110) (aah s0) (aaB s1 (by decide)) (by decide)⟩, ?_⟩⟩;refine fe _ _ ⟨i+1,c',xs++[r % sz],_,_,by rw [Int.natCast_add];rfl,by omega,by simp [xl],λy hy=> ?_,AM dX s0,by simp,rfl⟩;rcases aaN.mp hy with z | z
    ·exact hx y z
    ·rw [aba.mp z];exact ⟨aaO _ (by omega),ab2 (aaL _ s0) (aaB s1 (by decide))⟩
   ·obtain ⟨i,c,xs,r,o,ex,ic,xl,hx,dX,rfl,rfl⟩:=hj;have c0:c=0:=by have:=congrArg List.length ex;rw [fQ] at this;exact this.symm
    exact h xs (by omega) hx
def yy:DF:=λas M q _=>∃n low:Int,as=[.int n, .int low]/\Nm n/\1<=low/\low<=1000/\∀p,aH p=true->q (Υ p) M
theorem iY:Γ ["_law_number","_law_low","_law_bottom","_law_top"] ["_law_number","_law_low"] (θ jT):=⟨rfl,rfl,rfl,by decide+kernel,rfl,by decide+kernel,by decide+kernel⟩
theorem sC{f:Addr}{fd:FuncData}(F:cH K "_law_share_of" "_law_share_of" jT f fd)(E:Ev K mg w Cm){bN:Addr}{bT:FuncData}(ai:aj P w K mg base 1 "_law_by_digits" ["_law_number"] Fe bN bT){cY:Addr}{cZ:FuncData}(aF:aj P w K mg base 1 "_law_lowest" ["_law_top","_law_bottom"] Ff cY cZ):af P w K mg base (bX P w) 2 f fd ["_law_number","_law_low"] (cn K yy):=by
 refine F.dF iY (λds M q x h=> ?_) (λaV A outer s H E' hr=>⟨_,(ζ (ω (i:=2) iY.nd rfl (Or.inl rfl) (cf υ (bB (jv 0) (jv 1))))
   (ζ (iZ (ω (i:=3) iY.nd rfl (Or.inl rfl) (tL (bW (aa ai hr ν (γ (jv 0) η (hs:=μ)))) (je (jv 0) (jv 1)) (bB (aw (jv 0) υ) υ))))
   (ι (Β (aa aF hr ν (γ (bB (jv 3) (jv 2)) (γ (jv 2) η (hs:=μ)) (hs:=bC))))))),λds M q x h=> ?_⟩)
 ·obtain ⟨n,low,rfl,_⟩:=h;rfl
 ·obtain ⟨n,low,rfl,hn,l1,l2,h⟩:=h;have b0:=aaO n (show low≠0 by omega);have b1:=aaL n (show 0 < low by omega);refine ⟨by omega, ?_⟩;dsimp only [xo];generalize n % low=r at *
  have fin:∀t:Int,aH (ah (t % (1+r)) (1+r))=true:=λt=>Az (aaO _ (by omega)) (aaL _ (by omega)) (by omega);refine ⟨λρ M'=>M'=M/\∃t:Int,ρ=[some (.int n),some (.int low),some (.int (1+r)),some (.int t)], ?_, ?_⟩
  ·refine ⟨n,rfl,λb=>⟨λ_=> ?_,λ_=> ?_⟩⟩
   ·exact ⟨⟨by omega,bg (k:=12) (by omega)⟩,rfl,_,rfl⟩
   ·exact ⟨⟨qQ hn,bg (k:=20) (by decide)⟩,by decide,rfl,_,rfl⟩
  ·rintro ρ M' ⟨rfl,t,rfl⟩;exact ⟨by omega,_,_,rfl,by omega,bg (k:=12) (by omega),h _ (fin t)⟩
structure sL(kd:Str)(size:Int)(cs:List Fr)(ds:List bQ):Prop where
 fit:∀d∈ds,ax d.1 d.2.1 size=true/\0 < d.2.1.2
 S9:kd="chance"->(∀d∈ds,d.2.2=[χ d])/\ds.map χ=cs.take ds.length
 Wo:kd≠"chance"->∀d∈ds,d.2.2=[]
theorem sL.more{kd:Str}{size:Int}{cs:List Fr}{ds:List bQ}{d:bQ}(h:sL kd size cs ds)(h1:ax d.1 d.2.1 size=true)(h2:0 < d.2.1.2)(hl:ds.length < cs.length)(h3:kd="chance"->d.2.2=[cs[ds.length]])(h4:kd≠"chance"->d.2.2=[]):sL kd size cs (ds++[d]):=by
 refine ⟨λe he=> ?_,λhc=>⟨λe he=> ?_, ?_⟩,λhc e he=> ?_⟩
 ·rcases aaN.mp he with he | he
  ·exact h.fit e he
  ·have:e=d:=by simpa using he
   subst this;exact ⟨h1,h2⟩
 ·rcases aaN.mp he with he | he
  ·exact (h.S9 hc).1 e he
  ·have:e=d:=by simpa using he
   subst this;unfold χ;rw [h3 hc];rfl
 ·rw [aaS,(h.S9 hc).2,aai];show cs.take ds.length++[χ d]=cs.take (ds.length+1);rw [List.take_succ,aaa hl];unfold χ;rw [h3 hc];rfl
 ·rcases aaN.mp he with he | he
  ·exact h.Wo hc e he
  ·have:e=d:=by simpa using he
   subst this;exact h4 hc
theorem sL.good{kd:Str}{size:Int}{cs:List Fr}{ds:List bQ}(h:sL kd size cs ds)(hk:Δ kd=true\/kd="chance")(h1:1<=ds.length)(h6:ds.length<=6)(hl:ds.length=cs.length)(hc:Ω cs=true)(ho:MS cs):pB size (.τ kd ds):=by
 by_cases za:kd="chance"
 ·subst za;have e:ds.map χ=cs:=by rw [(h.S9 rfl).2,hl,List.take_length]
  exact Eh h1 h6 (λd hd=>(h.fit d hd).1) (h.S9 rfl).1 (by rw [e];exact hc) (by rw [e];exact ho) λd hd=>(h.fit d hd).2
 ·exact Kv (hk.resolve_right za) h1 h6 (λd hd=>(h.fit d hd).1) λd hd=>⟨h.Wo za d hd,(h.fit d hd).2⟩
def RwG(size:Int)(r:Rw):Prop:=pB size r/\∀k ds,r= .τ k ds->Δ k=true->∀d∈ds,d.2.2=[]
theorem Kg{k:Str}(h:Δ k=true):k≠"chance":=λz=>by subst z;exact absurd h (by decide)
structure uE(far:Bool)(p:Fr):Prop where
 red:Red p
 fit:aW p=true
 near:far=false->p.2∣12/\dG p 9
theorem Kr{t b:Int}(h1: -(10 ^ 30)<=t)(h2:t<=10 ^ 30)(h0:0 < b)(h3:b<=1000000):uE true (ah t b):=⟨bZ (by omega),Bx h1 h2 h0 h3,λz=>(nomatch z)⟩
theorem Ho{x y:Int}:uE false (ah (x % 19 - 9) (1+y % 4)):=by
 have b0:0 < 1+y % 4:=by omega
 refine ⟨bZ (by omega),Bx (by omega) (by omega) b0 (by omega),λ_=>⟨?_,mf b0 (by omega) (by omega)⟩⟩;refine Int.dvd_trans (yP b0) ?_;have:y % 4=0\/y % 4=1\/y % 4=2\/y % 4=3:=by omega
 rcases this with e | e | e | e <;> rw [e] <;> decide
theorem Xs.big{x:Int}(h:Xs x):gJ x:=oM h.1 h.2 (by decide)
theorem FF{a b:Int}{j k:Nat}(a0:0<=a)(a1:a < 2 ^ j)(b0:0<=b)(b1:b < 2 ^ k):0<=a * b/\a * b < 2 ^ (j+k):=by refine ⟨aa3 a0 b0, ?_⟩;rw [Int.pow_add];exact aaB (aaC (aah a1) b0) (Int.mul_lt_mul_of_pos_left b1 (Int.pow_pos (by decide)))
def FO:DF:=λas M q _=>∃(xs:List Int) (far:Bool),as=[.lst (xs.map Dt.int), .bl far]/\3<=xs.length/\(∀x∈xs,Xs x)/\∀p,uE far p->q (Υ p) M
theorem xi:Γ ["_law_xs","_law_far","_law_top"] ["_law_xs","_law_far"] (θ uQ):=⟨rfl,rfl,rfl,by decide+kernel,rfl,by decide+kernel,by decide+kernel⟩
theorem C9{f:Addr}{fd:FuncData}(F:cH K "_law_pay" "_law_pay" uQ f fd)(E:Ev K mg w Cm){cY:Addr}{cZ:FuncData}(aF:aj P w K mg base 1 "_law_lowest" ["_law_top","_law_bottom"] Ff cY cZ):af P w K mg base (bX P w) 2 f fd ["_law_xs","_law_far"] (cn K FO):=by
 refine F.dF xi (λds M q x h=> ?_) (λaV A outer s H E' hr=>⟨_,(ζ (aB (bW (jv 1)) (ζ (iZ (ω (i:=2) xi.nd rfl (Or.inl rfl) (tL (BC (Ι (jv 0) υ) υ) (aw (aw (aw (Ι (jv 0) υ) (Ι (jv 0) υ)) (Ι (jv 0) υ)) (Ι (jv 0) υ)) (Ι (jv 0) υ))))
   (ι (Β (aa aF hr ν (γ (qe (bB (jv 2) (cf (aw υ (ig υ υ)) υ)) (ig υ υ)) (γ (cf υ (bB (Ι (jv 0) υ) (ig υ υ))) η (hs:=bC)) (hs:=bC)))))) Τ)
   (ι (Β (aa aF hr ν (γ (qe (bB (Ι (jv 0) υ) υ) υ) (γ (cf υ (bB (Ι (jv 0) υ) υ)) η (hs:=bC)) (hs:=bC)))))),λds M q x h=> ?_⟩)
 ·obtain ⟨xs,far,rfl,_⟩:=h;rfl
 ·obtain ⟨xs,far,rfl,l3,hx,h⟩:=h;have rd:∀(j:Nat) (hj:j < 3) (M':Ms) (q:DQ),q (.int (xs[j]'(by omega))) M'->d7 (.lst (xs.map Dt.int)) (.int (j:Int)) M' q:=λj hj M' q hq=>Ζ (d:= .lst (xs.map Dt.int)) rfl (ff (by omega)) hq;have x0:=hx _ (aaA (show 0 < xs.length by omega));have x1:=hx _ (aaA (show 1 < xs.length by omega));have x2:=hx _ (aaA (show 2 < xs.length by omega));walk_at "vc";refine ⟨λz=> ?_,λz=> ?_⟩
  ·subst z;refine ⟨λρ M'=>M'=M/\∃t:Int,ρ=[some (.lst (xs.map Dt.int)),some (.bl true),some (.int t)], ?_, ?_⟩
   ·walk_at "vc";refine rd 2 (by decide) _ _ ⟨λ_=> ?_,λ_=> ?_⟩
    ·obtain ⟨p0,p1⟩:=FF x0.1 x0.2 x1.1 x1.2;obtain ⟨q0,q1⟩:=FF p0 p1 x2.1 x2.2;refine rd 0 (by decide) _ _ ?_;refine rd 1 (by decide) _ _ ?_;refine ⟨⟨x0.big,x1.big⟩, ?_⟩;walk_at "vc";refine rd 2 (by decide) _ _ ?_;refine ⟨⟨oM p0 p1 (by decide),x2.big⟩, ?_⟩;walk_at "vc";refine rd 0 (by decide) _ _ ?_;exact ⟨⟨oM q0 q1 (by decide),x0.big⟩,rfl,_,rfl⟩
    ·refine rd 0 (by decide) _ _ ?_;exact ⟨rfl,_,rfl⟩
   ·rintro ρ M' ⟨rfl,t,rfl⟩;have U9:gJ ((10:Int) ^ (30:Int).toNat):=bg (k:=110) (by decide);have m0:(0:Int) < 2 * 10 ^ (30:Int).toNat+1:=by decide
    have XG:=aaO t (show (2 * 10 ^ (30:Int).toNat+1:Int)≠0 by decide);have Zm:=aaL t m0;have QR:0 < 1+xs[1] % 10 ^ (6:Int).toNat/\1+xs[1] % 10 ^ (6:Int).toNat<=1000000:=by show 0 < 1+xs[1] % 1000000/\1+xs[1] % 1000000<=1000000;omega
    have hb7:gJ (1+xs[1] % 10 ^ (6:Int).toNat):=oM (k:=20) (aah QR.1) (aaB QR.2 (by decide)) (by decide);walk_at "vc";refine ⟨Ui,⟨bg (k:=4) (by decide),U9⟩,m0,Ui, ?_⟩;dsimp only [vm];refine rd 1 (by decide) _ _ ?_;refine ⟨p6,(by show (0:Int) < 1000000;decide),_,_,rfl,QR.1,hb7,h _ (Kr ?_ ?_ QR.1 QR.2)⟩
    ·show -(10 ^ 30)<=t % (2 * 10 ^ (30:Int).toNat+1) - 10 ^ 30;omega
    ·have e:(10:Int) ^ (30:Int).toNat=10 ^ 30:=rfl;rw [e] at Zm;show t % (2 * 10 ^ 30+1) - 10 ^ 30<=10 ^ 30;omega
  ·subst z;refine rd 0 (by decide) _ _ ?_;refine ⟨by decide, ?_⟩;dsimp only [vm];refine (rd 1 (by decide) _ _ ?_:d7 (.lst (xs.map Dt.int)) (.int 1) _ _);exact ⟨by decide,_,_,rfl,by omega,bg (k:=10) (by omega),h _ Ho⟩
def Py(far:Bool)(size:Int)(r:Rw):Prop:=RwG size r/\(∀p,r= .fin p->uE far p)/\∀k ds,r= .τ k ds->∀d∈ds,uE far d.2.1
theorem Lp(c:Nat):sliceRange ((4:Nat):Int) ((5 * c:Nat):Int) ((5:Nat):Int)=(List.range c).map λk=>5 * k+4:=by
 unfold sliceRange;have hc:(if ((4:Nat):Int) < ((5 * c:Nat):Int) then (((5 * c:Nat):Int) - ((4:Nat):Int)+((5:Nat):Int) - 1) / ((5:Nat):Int) else 0)=c:=by split <;> omega
 simp only [show ((5:Nat):Int) > 0 by decide,if_true,hc,Int.toNat_natCast];apply aaW;intro k _;omega
theorem Sj{c:Nat}{ds:List Dt}{xs:List Int}(e:ds=xs.map Dt.int)(h:xs.length=5 * c):ij (sliceRange ((4:Nat):Int) (ds.length:Int) ((5:Nat):Int)) ds=((List.range c).map λk=>xs.getD (5 * k+4) 0).map Dt.int:=by
 subst e;rw [aae,h,Lp];unfold ij;rw [List.filterMap_map,aaE];have:∀l:List Nat,(∀k∈l,k < c)->l.filterMap ((λi=>(xs.map Dt.int)[i]?) ∘ λk=>5 * k+4)=l.map (Dt.int ∘ λk=>xs.getD (5 * k+4) 0):=λl=>by
  induction l with
  | nil=>intro _;rfl
  | cons k l ih=>
   intro hk;have kc:=hk k aaf;have e:((λi=>(xs.map Dt.int)[i]?) ∘ λk=>5 * k+4) k=some (Dt.int (xs.getD (5 * k+4) 0)):=by show (xs.map Dt.int)[5 * k+4]? =_;rw [aao,aab,aaa (by omega)];rfl
   rw [abX,e,aaF,<-ih λz hz=>hk z (aad _ hz)];rfl
 exact this _ λk hk=>abc.mp hk
def Bs:DF:=λas M q _=>∃(kd:Str) (xs:List Int) (many:Int) (far:Bool) (c:Nat),as=[.str kd, .lst (xs.map Dt.int), .int many, .bl far]/\xs.length=5 * c/\1<=c/\c<=6/\(∀x∈xs,Xs x)/\1<=many/\many<=12/\(Δ kd=true\/kd="chance")/\∀ds,ds.length=c->Py far many (.τ kd ds)->q (.loc M.length) (M++[.lst (ds.map ef)])
theorem eC:Γ ["_law_kind","_law_xs","_law_many","_law_far","_law_doors_here","_law_parts","_law_k","_law_door"] ["_law_kind","_law_xs","_law_many","_law_far"] (θ iC):=⟨rfl,rfl,rfl,by decide+kernel,rfl,by decide+kernel,by decide+kernel⟩
theorem yd{f:Addr}{fd:FuncData}(F:cH K "_law_doors" "_law_doors" iC f fd)(E:Ev K mg w Cm){vR:Addr}{wx:FuncData}(ip:aj P w K mg base 2 "_law_pay" ["_law_xs","_law_far"] FO vR wx){cY:Addr}{cZ:FuncData}(aF:aj P w K mg base 1 "_law_lowest" ["_law_top","_law_bottom"] Ff cY cZ):af P w K mg base (bX P w) 4 f fd ["_law_kind","_law_xs","_law_many","_law_far"] (cn K Bs):=by
 refine F.dF eC (λds M q x h=> ?_) (λaV A outer s H E' hr=>⟨_,(ζ (ω (i:=4) eC.nd rfl (Or.inl rfl) (lh η))
   (ζ (jE (i:=5) eC.nd rfl (Or.inl rfl) (ys:=["_law_far"]) (caps:=[3]) ⟨rfl,by decide+kernel,by decide+kernel,rfl,(by show∀p:Str×NameKind,p∈_->p.2=NameKind.free->List.lookup p.1 (θ iC).names=some .cell;decide+kernel),by decide+kernel,(by show∀q:Str×Nat,q∈_->(["_law_kind","_law_xs","_law_many","_law_far","_law_doors_here","_law_parts","_law_k","_law_door"]:List Str)[q.2]? =some q.1/\List.lookup q.1 (θ iC).names=some .cell/\_;decide+kernel),rfl⟩ (bA (bL (Oo (a:=4) (b:=5) (jv 1) υ υ))) (λC s H fp=>(cf υ (bB (jv 0) (Ι (cJ 3 (d:= .lst [.int 4, .int 150000]) (by rfl)) (Lu E.tq (γ (jv 1) η (hs:=μ))))))))
   (ζ (hG (cv E.bG (γ (bK E.aZ (γ (jv 5) η (hs:=μ))) η (hs:=aA))) (ag (i:=6) eC.nd rfl (Or.inl rfl)) aP (ζ (ω (i:=7) eC.nd rfl (Or.inl rfl) (gh (γ (bB (Ι (jv 1) (cf (aw υ (jv 6)) υ)) (jv 2)) (γ (aa ip hr ν (γ (bL (tO (jv 1) (aw υ (jv 6)) (cf (aw υ (jv 6)) υ))) (γ (jv 3) η (hs:=μ)) (hs:=aU))) η (hs:=aA)) (hs:=bC))))
   (ζ (iZ (aB (d_ hr (jv 0) jo) (ι (ω (i:=7) eC.nd rfl (Or.inl rfl) (cf (jv 7) (gh (γ (aa aF hr ν (γ (Ι (jv 5) (jv 6)) (γ (LL E.yf (γ (jv 5) η (hs:=μ))) η (hs:=aA)) (hs:=aU))) η (hs:=aA)))))) Τ))
   (ι (fB (gf (jv 4) (γ (jv 7) η (hs:=μ))))))))
   (ι (Β (jv 4)))))),λds M q x h=> ?_⟩)
 ·obtain ⟨kd,xs,many,far,c,rfl,_⟩:=h;rfl
 ·obtain ⟨kd,xs,many,far,c,rfl,xl,c1,c6,hx,s1,s12,MQ,h⟩:=h;have sl:∀{z:Nat},z<=1000->z<=sizeLine:=λh=>aaw h (by decide);refine ⟨by decide, ?_⟩;generalize hM0:M++[MO.lst []]=M0;dsimp only [wc,gy,Rp,LB];walk_at "vc";refine ⟨rfl,_,rfl,rfl,by rw [aae];omega, ?_, ?_⟩
  ·rw [aae,xl,Lp,aae,aaU];omega
  rw [Sj rfl xl];refine cG (ft _) ?_;obtain ⟨most,em,m0,m1⟩:∃most:Int,(∀(M':Ms) (q:DQ),q (.int most) M'->d7 (.lst [.int 4, .int 150000]) (.int (if far=true then 1 else 0)) M' q)/\0 < most/\most<=150000:=by
   cases far with
   | true=>exact ⟨150000,λM' q hq=>Ζ (d:= .lst [.int 4, .int 150000]) rfl (Η (j:=1) rfl) hq,by decide,by decide⟩
   | false=>exact ⟨4,λM' q hq=>Ζ (d:= .lst [.int 4, .int 150000]) rfl aO hq,by decide,by decide⟩
  refine ⟨by rw [aae,aae,aaU];exact sl (by omega), ?_⟩;refine c_ (F:=λx n=>x=Dt.int n) (f:=λn=> .int (1+n % most)) (as:=(List.range c).map λk=>xs.getD (5 * k+4) 0) trivial (λx n PF qq hq=> ?_) ?_ ?_
  ·subst PF;walk_at "vc";show wO [.bl far] M0 λd2 M2=>d7 (.lst [.int 4, .int 150000]) d2 M2 λd2 M2=>JD (.int n) d2 M2 λd2 M2=>xo (.int 1) d2 M2 qq;dsimp only [wO];refine em _ _ ?_;exact ⟨m0,hq⟩
  ·have:∀l:List Int,Paired (λx n=>x=Dt.int n) (l.map Dt.int) l:=λl=>by
    induction l with
    | nil=>exact .nil
    | cons a l ih=>exact .cons rfl ih
   exact this _
  rw [aaM,aaE];generalize Ry:((List.range c).map λk=>1+xs.getD (5 * k+4) 0 % most)=ws;have ew:(List.range c).map ((λn=>Dt.int (1+n % most)) ∘ λk=>xs.getD (5 * k+4) 0)=ws.map Dt.int:=by rw [<-Ry,aaE];rfl
  rw [ew];have wl:ws.length=c:=by rw [<-Ry,aae,aaU]
  have w0:∀w∈ws,0 < w/\w<=most:=λw hw=>by rw [<-Ry] at hw;obtain ⟨y,_,rfl⟩:=aak.mp hw;have e0:=aaO (xs.getD (5 * y+4) 0) (show most≠0 by omega);have e1:=aaL (xs.getD (5 * y+4) 0) m0;omega
  have hS:ws.sum<=1000000:=by have:=Fy λw T4=>(w0 w T4).2;rw [wl] at this;have:(c:Int) * most<=6 * 150000:=abn (by omega) m1 (by omega) (by decide);omega
  have iT:ws≠[]:=λz=>by rw [z] at wl;simp at wl;omega
  have Vw:=Cw (λw hw=>(w0 w hw).1) iT;obtain ⟨cc1,Y5⟩:=AG (S:=ws.sum) rfl (λw T4=>(w0 w T4).1) iT hS (by omega);have cl:(ws.map λw=>ah w ws.sum).length=c:=by rw [aae,wl]
  have bS:gJ ws.sum:=bg (k:=21) (by omega);clear Ry;refine (ae (d:= .lst (ws.map .int)) (xs:=ws.map .int) rfl ?_:fb [.lst (ws.map .int)] _ _);rw [aae,wl];refine ⟨⟨by omega,by omega⟩, ?_⟩;rw [show ((c:Int)).toNat=c by omega];subst hM0;refine cq (λzs ρ M'=>∃(n k:Nat) (ds:List bQ) (o1 o2:Option Dt),zs=dc k n/\k+n=c/\ds.length=k/\sL kd many (ws.map λw=>ah w ws.sum) ds/\(∀d∈ds,uE far d.2.1)/\M'=M++[MO.lst (ds.map ef)]/\ρ=[some (.str kd),some (.lst (xs.map Dt.int)),some (.int many),some (.bl far),some (.loc M.length),some (.lst (ws.map .int)),o1,o2]) (λx zs ρ M' hj fe=> ?_) (λρ M' hj=> ?_) _ _ _ ⟨c,0,[],none,none,by simp,by simp,rfl,⟨λ_ z=>(nomatch z),λ_=>⟨λ_ z=>(nomatch z),rfl⟩,λ_ _ z=>(nomatch z)⟩,λ_ z=>(nomatch z),rfl,rfl⟩
  ·obtain ⟨n,k,ds,o1,o2,ex,T3,hl,hd,hp,rfl,rfl⟩:=hj;obtain ⟨m,rfl,rfl,rfl⟩:=b8 ex;have k6:(k:Int) < 6:=by omega
   have kx:5 * k+3 < xs.length:=by omega
   have kw:k < ws.length:=by omega
   have O7:(M++[MO.lst (ds.map ef)])[M.length]? =some (.lst (ds.map ef)):=by simp
   have setM:∀y:bQ,(M++[MO.lst (ds.map ef)]).set M.length (.lst (ds.map ef++[ef y]))=M++[.lst ((ds++[y]).map ef)]:=λy=>by simp
   have lt:(ds.map ef).length < sizeLine:=by rw [aae,hl];exact aaR (show k<=12 by omega) (by decide)
   have e5:5 * (k:Int)+3=((5 * k+3:Nat):Int):=by omega
   have e50:5 * (k:Int)=((5 * k:Nat):Int):=by omega
   have b5:gJ (5:Int):=bg (k:=10) (by decide);have bk:gJ (k:Int):=bg (k:=10) (by omega);walk_at "vc";refine ⟨⟨b5,bk⟩, ?_⟩;dsimp only [xo];rw [e5];refine (Ζ (d:= .lst (xs.map .int)) rfl (ff kx) ?_:d7 (.lst (xs.map .int)) (.int ((5 * k+3:Nat):Int)) _ _);refine ⟨by omega,⟨b5,bk⟩,5 * k,by rw [e50],⟨b5,bk⟩,xs.map Dt.int,5 * k+3,rfl,by rw [<-e5], ?_⟩;rw [<-ab6,<-ab5];refine cG (ft _) ?_;refine ⟨(xs.drop (5 * k)).take (5 * k+3 - 5 * k),far,rfl,by rw [abV,abu];omega,λy hy=>hx y (List.mem_of_mem_drop (List.mem_of_mem_take hy)),λp pp=>⟨by show 2<=sizeLine;decide, ?_⟩⟩;have Yj:=pp.red.pos;have JY:ax (xs[5 * k+3] % many) p many=true:=Jn (aaO _ (by omega)) (aaL _ (by omega)) pp.fit;refine ⟨λρ M2=>M2=M++[MO.lst (ds.map ef)]/\∃d:bQ,(ax d.1 d.2.1 many=true/\0 < d.2.1.2/\(kd="chance"->d.2.2=[ah ws[k] ws.sum])/\(kd≠"chance"->d.2.2=[])/\uE far d.2.1)/\ρ=[some (.str kd),some (.lst (xs.map Dt.int)),some (.int many),some (.bl far),some (.loc M.length),some (.lst (ws.map .int)),some (.int (k:Int)),some (ef d)],⟨λhc=> ?_,λhc=> ?_⟩, ?_⟩
   ·have hc:kd="chance":=of_decide_eq_true hc;walk_at "vc";refine (Ζ (d:= .lst (ws.map .int)) rfl (ff kw) ?_:d7 (.lst (ws.map .int)) (.int (k:Int)) _ _);exact ⟨ws,rfl,⟨_,_,rfl⟩,_,_,rfl,Vw,bS,(by show 1<=sizeLine;decide),⟨by simp,by show 3<=sizeLine;decide⟩,rfl,(xs[5 * k+3] % many,p,[ah ws[k] ws.sum]),⟨JY,Yj,λ_=>rfl,λz=>absurd hc z,pp⟩,rfl⟩
   ·have hc:kd≠"chance":=of_decide_eq_false hc;exact ⟨rfl,(xs[5 * k+3] % many,p,[]),⟨JY,Yj,λz=>absurd z hc,λ_=>rfl,pp⟩,rfl⟩
   ·rintro ρ2 M2 ⟨rfl,d,⟨d1,d2,d3,d4,d5⟩,rfl⟩;refine ⟨⟨M.length,_,rfl,O7⟩,M.length,_,_,rfl,rfl,O7,lt, ?_⟩;rw [setM d];refine fe _ _ ⟨m,k+1,ds++[d],_,_,by simp,by omega,by simp [hl],hd.more d1 d2 (by rw [cl];omega) (λz=> ?_) d4,λy hy=> ?_,rfl,rfl⟩
    ·rw [d3 z];simp [hl]
    ·rcases aaN.mp hy with z | z
     ·exact hp y z
     ·rw [aba.mp z];exact d5
  ·obtain ⟨n,k,ds,o1,o2,ex,T3,hl,hd,hp,rfl,rfl⟩:=hj;have hn:n=0:=by have:=congrArg List.length ex;unfold dc at this;simpa using this.symm
   refine h ds (by omega) ⟨⟨hd.good MQ (by omega) (by omega) (by rw [cl];omega) cc1 Y5,λk' mH e hk d K5=>by cases e;exact hd.Wo (Kg hk) d K5⟩,λp e=>(nomatch e),λk' mH e d K5=>by cases e;exact hp d K5⟩
theorem OQ{n:Int}:∃kd:Str,lY [Dt.str "one",Dt.str "other",Dt.str "chance",Dt.str "end",Dt.str "one",Dt.str "other",Dt.str "chance",Dt.str "chance"] (n % 8)=some (.str kd)/\(Δ kd=true\/kd="chance"\/kd="end"):=by
 have:n % 8=0\/n % 8=1\/n % 8=2\/n % 8=3\/n % 8=4\/n % 8=5\/n % 8=6\/n % 8=7:=by omega
 rcases this with e | e | e | e | e | e | e | e <;> rw [e]
 ·exact ⟨_,aO, .inl (by decide)⟩
 ·exact ⟨_,Η (j:=1) rfl, .inl (by decide)⟩
 ·exact ⟨_,Η (j:=2) rfl, .inr (.inl rfl)⟩
 ·exact ⟨_,Η (j:=3) rfl, .inr (.inr rfl)⟩
 ·exact ⟨_,Η (j:=4) rfl, .inl (by decide)⟩
 ·exact ⟨_,Η (j:=5) rfl, .inl (by decide)⟩
 ·exact ⟨_,Η (j:=6) rfl, .inr (.inl rfl)⟩
 ·exact ⟨_,Η (j:=7) rfl, .inr (.inl rfl)⟩
theorem RO{n:Int}:∃m:Int,lY [Dt.int 4,Dt.int 4,Dt.int 4,Dt.int 4,Dt.int 4,Dt.int 4,Dt.int 6,Dt.int 12] (n % 8)=some (.int m)/\1<=m/\m<=12/\(n % 8=5->m=4):=by
 have:n % 8=0\/n % 8=1\/n % 8=2\/n % 8=3\/n % 8=4\/n % 8=5\/n % 8=6\/n % 8=7:=by omega
 rcases this with e | e | e | e | e | e | e | e <;> rw [e]
 ·exact ⟨_,aO,by decide,by decide,by decide⟩
 ·exact ⟨_,Η (j:=1) rfl,by decide,by decide,by decide⟩
 ·exact ⟨_,Η (j:=2) rfl,by decide,by decide,by decide⟩
 ·exact ⟨_,Η (j:=3) rfl,by decide,by decide,by decide⟩
 ·exact ⟨_,Η (j:=4) rfl,by decide,by decide,by decide⟩
 ·exact ⟨_,Η (j:=5) rfl,by decide,by decide,by decide⟩
 ·exact ⟨_,Η (j:=6) rfl,by decide,by decide,by decide⟩
 ·exact ⟨_,Η (j:=7) rfl,by decide,by decide,by decide⟩
theorem Wz{n:Int}:∃m:Int,lY [Dt.int 10,Dt.int 10,Dt.int 10,Dt.int 10,Dt.int 1,Dt.int 1000,Dt.int 10,Dt.int 10] (n % 8)=some (.int m)/\1<=m/\m<=1000:=by
 have:n % 8=0\/n % 8=1\/n % 8=2\/n % 8=3\/n % 8=4\/n % 8=5\/n % 8=6\/n % 8=7:=by omega
 rcases this with e | e | e | e | e | e | e | e <;> rw [e]
 ·exact ⟨_,aO,by decide,by decide⟩
 ·exact ⟨_,Η (j:=1) rfl,by decide,by decide⟩
 ·exact ⟨_,Η (j:=2) rfl,by decide,by decide⟩
 ·exact ⟨_,Η (j:=3) rfl,by decide,by decide⟩
 ·exact ⟨_,Η (j:=4) rfl,by decide,by decide⟩
 ·exact ⟨_,Η (j:=5) rfl,by decide,by decide⟩
 ·exact ⟨_,Η (j:=6) rfl,by decide,by decide⟩
 ·exact ⟨_,Η (j:=7) rfl,by decide,by decide⟩
structure LF(share:Fr)(rows:List Rw)(far:Bool):Prop where
 sh:aH share=true
 n1:1<=rows.length
 zb:rows.length<=12
 n4:far=true->rows.length<=4
 row:∀r∈rows,Py far rows.length r
def AN(far:Bool)(many:Int):List Int:=if far=true then [2 * 10 ^ (30:Int).toNat+1,10 ^ (6:Int).toNat,1,many,150000] else [19,4,1,many,4]
theorem Rh{far:Bool}{many:Int}(h1:1<=many)(h2:many<=12):Fl (AN far many):=by
 have VY:many<=2 * 10 ^ 30+1:=abr h2 (by decide);cases far with
 | true=>
  refine ⟨rfl,λs hs=> ?_⟩;have hs:s∈[2 * 10 ^ (30:Int).toNat+1,10 ^ (6:Int).toNat,1,many,150000]:=hs;simp only [List.mem_cons,List.not_mem_nil,or_false] at hs;rcases hs with e | e | e | e | e
  ·rw [e];decide
  ·rw [e];decide
  ·rw [e];decide
  ·rw [e];exact ⟨by omega,VY⟩
  ·rw [e];decide
 | false=>
  refine ⟨rfl,λs hs=> ?_⟩;have hs:s∈[19,4,1,many,4]:=hs;simp only [List.mem_cons,List.not_mem_nil,or_false] at hs;rcases hs with e | e | e | e | e
  ·rw [e];decide
  ·rw [e];decide
  ·rw [e];decide
  ·rw [e];exact ⟨by omega,VY⟩
  ·rw [e];decide
theorem QT{n:Int}:∃r:Int,lY [Dt.int 30,Dt.int 30,Dt.int 30,Dt.int 30,Dt.int 30,Dt.int 12,Dt.int 24,Dt.int 12] (n % 8)=some (.int r)/\1<=r/\r<=30:=by
 have:n % 8=0\/n % 8=1\/n % 8=2\/n % 8=3\/n % 8=4\/n % 8=5\/n % 8=6\/n % 8=7:=by omega
 rcases this with e | e | e | e | e | e | e | e <;> rw [e]
 ·exact ⟨_,aO,by decide,by decide⟩
 ·exact ⟨_,Η (j:=1) rfl,by decide,by decide⟩
 ·exact ⟨_,Η (j:=2) rfl,by decide,by decide⟩
 ·exact ⟨_,Η (j:=3) rfl,by decide,by decide⟩
 ·exact ⟨_,Η (j:=4) rfl,by decide,by decide⟩
 ·exact ⟨_,Η (j:=5) rfl,by decide,by decide⟩
 ·exact ⟨_,Η (j:=6) rfl,by decide,by decide⟩
 ·exact ⟨_,Η (j:=7) rfl,by decide,by decide⟩
def B':DF:=λas M q _=>∃ns:List Int,as=[.iV ns]/\ns.length<=63/\∀share rows far,LF share rows far->q (.tup [Υ share, .loc M.length]) (M++[.lst (rows.map aN)])
theorem ar:Γ ["_law_script","_law_begun","_law_how","_law_places","_law_many","_law_share","_law_sizes","_law_rows","_law_room","_law_k","_law_number","_law_kind","_law_count","_law_xs"] ["_law_script"] (θ nA):=⟨rfl,rfl,rfl,by decide+kernel,rfl,by decide+kernel,by decide+kernel⟩
theorem xY{f:Addr}{fd:FuncData}(F:cH K "_law_floor" "_law_floor" nA f fd)(E:Ev K mg w Cm){AH:Addr}{z6:FuncData}(eL:aj P w K mg base 1 "_law_at" ["_law_script","_law_k"] Wv AH z6){bN:Addr}{bT:FuncData}(ai:aj P w K mg base 1 "_law_by_digits" ["_law_number"] Fe bN bT){xc:Addr}{w_:FuncData}(i5:aj P w K mg base 2 "_law_share_of" ["_law_number","_law_low"] yy xc w_){vR:Addr}{wx:FuncData}(ip:aj P w K mg base 2 "_law_pay" ["_law_xs","_law_far"] FO vR wx){zi:Addr}{AO:FuncData}(gL:aj P w K mg base 2 "_law_things" ["_law_number","_law_k","_law_many","_law_sizes"] Ck zi AO){EI:Addr}{CO:FuncData}(k7:aj P w K mg base 4 "_law_doors" ["_law_kind","_law_xs","_law_many","_law_far"] Bs EI CO):af P w K mg base (bX P w) 5 f fd ["_law_script"] (cn K B'):=by
 refine F.dF ar (λds M q x h=> ?_) (λaV A outer s H E' hr=>⟨_,(ζ (ω (i:=1) ar.nd rfl (Or.inl rfl) (aa eL hr ν (γ (jv 0) (γ υ η (hs:=dR)) (hs:=μ))))
   (ζ (ω (i:=2) ar.nd rfl (Or.inl rfl) (bB (jv 1) υ))
   (ζ (iZ (ω (i:=3) ar.nd rfl (Or.inl rfl) (tL (bW (aa ai hr ν (γ (jv 1) η (hs:=μ)))) (je (jv 1) υ) (bB (aw (jv 1) υ) υ))))
   (ζ (ω (i:=4) ar.nd rfl (Or.inl rfl) (cf υ (bB (jv 3) (Ι (cJ 3 (d:= .lst [.int 4, .int 4, .int 4, .int 4, .int 4, .int 4, .int 6, .int 12]) (by rfl)) (jv 2)))))
   (ζ (ω (i:=5) ar.nd rfl (Or.inl rfl) (aa i5 hr ν (γ (aa eL hr ν (γ (jv 0) (γ υ η (hs:=dR)) (hs:=μ))) (γ (Ι (cJ 3 (d:= .lst [.int 10, .int 10, .int 10, .int 10, .int 1, .int 1000, .int 10, .int 10]) (by rfl)) (jv 2)) η (hs:=aU)) (hs:=aA))))
   (ζ (ω (i:=6) ar.nd rfl (Or.inl rfl) (Ι (kH (γ (kH (γ υ (γ υ (γ υ (γ (jv 4) (γ υ η (hs:=dR)) (hs:=μ)) (hs:=dR)) (hs:=dR)) (hs:=dR))) (γ (kH (γ (cf (aw υ (ig υ υ)) υ) (γ (ig υ υ) (γ υ (γ (jv 4) (γ υ η (hs:=dR)) (hs:=μ)) (hs:=dR)) (hs:=bC)) (hs:=bC))) η))) (Lu E.tq (γ (Jz hr (jv 2) υ) η (hs:=BU)))))
   (ζ (ω (i:=7) ar.nd rfl (Or.inl rfl) (lh η))
   (ζ (ω (i:=8) ar.nd rfl (Or.inl rfl) (Ι (cJ 3 (d:= .lst [.int 30, .int 30, .int 30, .int 30, .int 30, .int 12, .int 24, .int 12]) (by rfl)) (jv 2)))
   (ζ (hG (cv E.bG (γ (jv 4) η (hs:=μ))) (ag (i:=9) ar.nd rfl (Or.inl rfl)) aP (ζ (ω (i:=10) ar.nd rfl (Or.inl rfl) (aa eL hr ν (γ (jv 0) (γ (cf υ (jv 9)) η (hs:=bC)) (hs:=μ))))
   (ζ (ω (i:=11) ar.nd rfl (Or.inl rfl) (Ι (cJ 3 (d:= .lst [.str "one", .str "other", .str "chance", .str "end", .str "one", .str "other", .str "chance", .str "chance"]) (by rfl)) (bB (jv 10) υ)))
   (ζ (iZ (ω (i:=12) ar.nd rfl (Or.inl rfl) (cf υ (bB (tL (bW (aa ai hr ν (γ (jv 10) η (hs:=μ)))) (je (jv 10) υ) (bB (aw (jv 10) υ) υ)) υ))))
   (ζ (iZ (aB (JW.jt (ot (d_ hr (jv 11) jo) (mZ (d_ hr (jv 11) jo)))) (ζ (ω (i:=12) ar.nd rfl (Or.inl rfl) (L7 E.x6 (γ (jv 12) (γ (jv 8) η (hs:=μ)) (hs:=μ))))
   (ι (ω (i:=8) ar.nd rfl (Or.inl rfl) (je (jv 8) (jv 12))))) Τ))
   (ι (aB (d_ hr (jv 11) jo) (ι (fB (gf (jv 7) (γ (gh (γ (jv 11) (γ (aa ip hr ν (γ (bL (aa gL hr ν (γ (jv 10) (γ (jv 9) (γ υ (γ (jv 6) η (hs:=μ)) (hs:=dR)) (hs:=μ)) (hs:=μ)))) (γ (Jz hr (jv 2) υ) η (hs:=BU)) (hs:=aA))) η (hs:=aA)) (hs:=μ))) η (hs:=Ib))))) (ζ (ω (i:=13) ar.nd rfl (Or.inl rfl) (bL (aa gL hr ν (γ (jv 10) (γ (jv 9) (γ (aw υ (jv 12)) (γ (jv 6) η (hs:=μ)) (hs:=bC)) (hs:=μ)) (hs:=μ)))))
   (ι (fB (gf (jv 7) (γ (gh (γ (jv 11) (γ (bL (aa k7 hr ν (γ (jv 11) (γ (jv 13) (γ (jv 4) (γ (Jz hr (jv 2) υ) η (hs:=BU)) (hs:=μ)) (hs:=μ)) (hs:=μ)))) η (hs:=aA)) (hs:=μ))) η (hs:=Ib)))))))))))))
   (ι (Β (gh (γ (jv 5) (γ (jv 7) η (hs:=μ)) (hs:=μ)))))))))))))),λds M q x h=> ?_⟩)
 ·obtain ⟨ns,rfl,_⟩:=h;rfl
 ·obtain ⟨ns,rfl,nl,h⟩:=h;refine ⟨ns,0,rfl,nl,by decide,by decide,λb0 Ji=>⟨by decide, ?_⟩⟩;refine ⟨λρ M'=>M'=M/\∃t:Int,ρ=[some (.iV ns),some (.int b0),some (.int (b0 % 8)),some (.int t),none,none,none,none,none,none,none,none,none,none], ?_, ?_⟩
  ·refine ⟨b0,rfl,λb=>⟨λ_=> ?_,λ_=> ?_⟩⟩
   ·exact ⟨⟨by decide,bg (k:=10) (by decide)⟩,rfl,_,rfl⟩
   ·exact ⟨⟨qQ Ji,bg (k:=20) (by decide)⟩,by decide,rfl,_,rfl⟩
  rintro ρ M' ⟨rfl,t,rfl⟩;obtain ⟨mx,emx,mx1,aca,mx5⟩:=RO (n:=b0);obtain ⟨low,Vv,WA,VM⟩:=Wz (n:=b0);have t0:=aaO t (show mx≠0 by omega);have t1:=aaL t (show 0 < mx by omega);walk_at "vc";refine (Ζ rfl emx ?_:d7 (.lst [Dt.int 4,Dt.int 4,Dt.int 4,Dt.int 4,Dt.int 4,Dt.int 4,Dt.int 6,Dt.int 12]) (.int (b0 % 8)) _ _);refine ⟨by omega, ?_⟩;dsimp only [xo];obtain ⟨sz,hz,z1,z12,z4⟩:∃sz:Nat,1+t % mx=(sz:Int)/\1<=sz/\sz<=12/\(b0 % 8=5->sz<=4):=⟨(1+t % mx).toNat,by omega,by omega,by omega,λz=>by have:=mx5 z;omega⟩;rw [hz];refine ⟨ns,1,rfl,nl,by decide,by decide,λb1 XB=> ?_⟩;refine (Ζ rfl Vv ?_:d7 (.lst [Dt.int 10,Dt.int 10,Dt.int 10,Dt.int 10,Dt.int 1,Dt.int 1000,Dt.int 10,Dt.int 10]) (.int (b0 % 8)) _ _);refine ⟨b1,low,rfl,XB,WA,VM,λshare hs=> ?_⟩;obtain ⟨far,K8⟩:∃far,far=decide (b0 % 8=5):=⟨_,rfl⟩;have U9:gJ ((10:Int) ^ (30:Int).toNat):=bg (k:=110) (by decide);have sl:∀{z:Nat},z<=1000->z<=sizeLine:=λh=>aaw h (by decide);refine ⟨sl (by decide),Ui,⟨bg (k:=4) (by decide),U9⟩,p6,sl (by decide),sl (by decide), ?_⟩;have rd:∀(M':Ms) (q:DQ),q (zg (AN far sz)) M'->Aj (.int (b0 % 8)) (.int 5) M' λd M1=>wO [d] M1 λd2 M2=>d7 (.lst [.lst [.int 19, .int 4, .int 1, .int (sz:Int), .int 4], .lst [.int (2 * 10 ^ (30:Int).toNat+1), .int (10 ^ (6:Int).toNat), .int 1, .int (sz:Int), .int 150000]]) d2 M2 q:=λM' q hq=>by
   show wO [.bl (decide (b0 % 8=5))] M' λd2 M2=>d7 (.lst [zg (AN false sz),zg (AN true sz)]) d2 M2 q;rw [<-K8];dsimp only [wO];cases far with
   | true=>exact Ζ (d:= .lst [zg (AN false sz),zg (AN true sz)]) rfl (Η (j:=1) rfl) hq
   | false=>exact Ζ (d:= .lst [zg (AN false sz),zg (AN true sz)]) rfl aO hq
  refine rd _ _ ?_;have n4:far=true->sz<=4:=λz=>z4 (of_decide_eq_true (by rw [<-K8];exact z));obtain ⟨rm0,erm,rm1,rm2⟩:=QT (n:=b0);refine ⟨by decide, ?_⟩;refine (Ζ rfl erm ?_:d7 (.lst [Dt.int 30,Dt.int 30,Dt.int 30,Dt.int 30,Dt.int 30,Dt.int 12,Dt.int 24,Dt.int 12]) (.int (b0 % 8)) _ _);refine ⟨⟨by omega,by omega⟩, ?_⟩;rw [show ((sz:Int)).toNat=sz by omega];refine cq (λzs ρ M2=>∃(n k:Nat) (rs:List Rw) (rm:Int) (o1 o2 o3 o4 o5:Option Dt),(1<=rm/\rm<=30)/\zs=dc k n/\k+n=sz/\rs.length=k/\(∀r∈rs,Py far sz r)/\M2=M'++[MO.lst (rs.map aN)]/\ρ=[some (.iV ns),some (.int b0),some (.int (b0 % 8)),some (.int t),some (.int (sz:Int)),some (Υ share),some (zg (AN far sz)),some (.loc M'.length),some (.int rm),o1,o2,o3,o4,o5]) (λx zs ρ M2 hj fe=> ?_) (λρ M2 hj=> ?_) _ _ _ ⟨sz,0,[],rm0,none,none,none,none,none,⟨rm1,rm2⟩,by simp,by simp,rfl,λ_ z=>(nomatch z),rfl,rfl⟩
  ·obtain ⟨n,k,rs,rm,o1,o2,o3,o4,o5,⟨rl,rh⟩,ex,T3,hl,hd,rfl,rfl⟩:=hj;obtain ⟨m,rfl,rfl,rfl⟩:=b8 ex;have k12:(k:Int) < 12:=by omega
   have O7:(M'++[MO.lst (rs.map aN)])[M'.length]? =some (.lst (rs.map aN)):=by simp
   have setM:∀y:Rw,(M'++[MO.lst (rs.map aN)]).set M'.length (.lst (rs.map aN++[aN y]))=M'++[.lst ((rs++[y]).map aN)]:=λy=>by simp
   have lt:(rs.map aN).length < sizeLine:=by rw [aae,hl];exact aaR (show k<=12 by omega) (by decide)
   have first:∃k' xs',Dt.loc M'.length= .loc k'/\(M'++[MO.lst (rs.map aN)])[k']? =some (.lst xs'):=⟨_,_,rfl,O7⟩
   have more:∀y,Py far sz y->∀r∈rs++[y],Py far sz r:=λy hy r hr=>by
    rcases aaN.mp hr with hr | hr
    ·exact hd r hr
    ·rw [aba.mp hr];exact hy
   have so:=Rh (far:=far) (many:=(sz:Int)) (by omega) (by omega);refine ⟨ns,2+(k:Int),rfl,nl,by omega,by omega,λf hf=>⟨by decide, ?_⟩⟩;obtain ⟨kd,ek,MQ⟩:=OQ (n:=f);refine Ζ rfl ek ?_;refine ⟨λρ M2=>M2=M'++[MO.lst (rs.map aN)]/\∃c:Nat,(1<=c/\c<=6)/\ρ=[some (.iV ns),some (.int b0),some (.int (b0 % 8)),some (.int t),some (.int (sz:Int)),some (Υ share),some (zg (AN far sz)),some (.loc M'.length),some (.int rm),some (.int (k:Int)),some (.int f),some (.str kd),some (.int (c:Int)),o5], ?_, ?_⟩
   ·have cut:∀t:Int,∃c:Nat,(1<=c/\c<=6)/\1+t % 6=(c:Int):=λt=>⟨(1+t % 6).toNat,by omega,by omega⟩;have Qt:∀(t:Int) (ρ:List (Option Dt)),(∃c:Nat,(1<=c/\c<=6)/\ρ++[some (.int (1+t % 6)),o5]=ρ++[some (.int (c:Int)),o5]):=λt ρ=>by obtain ⟨c,h1,h2⟩:=cut t;exact ⟨c,h1,by rw [h2]⟩
    refine ⟨f,rfl,λb=>⟨λ_=> ?_,λ_=> ?_⟩⟩
    ·exact ⟨⟨by decide,bg (k:=10) (by decide)⟩,by decide,rfl,Qt (f / 8) [some (.iV ns),some (.int b0),some (.int (b0 % 8)),some (.int t),some (.int (sz:Int)),some (Υ share),some (zg (AN far sz)),some (.loc M'.length),some (.int rm),some (.int (k:Int)),some (.int f),some (.str kd)]⟩
    ·exact ⟨⟨qQ hf,bg (k:=20) (by decide)⟩,by decide,by decide,rfl,Qt (f * 48271 % 65537) [some (.iV ns),some (.int b0),some (.int (b0 % 8)),some (.int t),some (.int (sz:Int)),some (Υ share),some (zg (AN far sz)),some (.loc M'.length),some (.int rm),some (.int (k:Int)),some (.int f),some (.str kd)]⟩
   rintro ρ2 M2 ⟨rfl,c0,⟨c01,Y4⟩,rfl⟩;refine ⟨λρ M2=>M2=M'++[MO.lst (rs.map aN)]/\∃(c:Nat) (rm:Int),(1<=c/\c<=6)/\(1<=rm/\rm<=30)/\ρ=[some (.iV ns),some (.int b0),some (.int (b0 % 8)),some (.int t),some (.int (sz:Int)),some (Υ share),some (zg (AN far sz)),some (.loc M'.length),some (.int rm),some (.int (k:Int)),some (.int f),some (.str kd),some (.int (c:Int)),o5], ?_, ?_⟩
   ·have yes:∃(c:Nat) (r':Int),(1<=c/\c<=6)/\(1<=r'/\r'<=30)/\(if rm < (c0:Int) then rm else (c0:Int))=(c:Int)/\rm / (if rm < (c0:Int) then rm else (c0:Int))=r':=by
     by_cases y:rm < (c0:Int)
     ·rw [if_pos y];exact ⟨rm.toNat,1,by omega,by decide,by omega,Int.ediv_self (by omega)⟩
     ·rw [if_neg y];have a1:1<=rm / (c0:Int):=(Int.le_ediv_iff_mul_le (by omega)).mpr (by omega);have a2:rm / (c0:Int)<=rm:=abW _ (by omega);exact ⟨c0,_,by omega,⟨a1,by omega⟩,rfl,rfl⟩
    obtain ⟨c',r',uX,dX,ec,er⟩:=yes;rw [ec] at er;walk_at "vc";refine ⟨λz=>⟨λ_=> ?_,λy=>(nomatch y)⟩,λz=>⟨λz'=> ?_,λz'=> ?_⟩⟩
    ·dsimp only [C2];rw [ec];refine ⟨⟨by omega,bg (k:=4) (by omega)⟩,rfl,c',r',uX,dX, ?_⟩;rw [<-er]
    ·dsimp only [C2];rw [ec];refine ⟨⟨by omega,bg (k:=4) (by omega)⟩,rfl,c',r',uX,dX, ?_⟩;rw [<-er]
    ·exact ⟨rfl,c0,rm,⟨c01,Y4⟩,⟨rl,rh⟩,rfl⟩
   rintro ρ2 M2 ⟨rfl,c,rm,⟨c1,c6⟩,⟨rl,rh⟩,rfl⟩;refine ⟨λz=> ?_,λz=> ?_⟩
   ·have z:kd="end":=of_decide_eq_true z;refine ⟨first,f,(k:Int),3,AN far sz,rfl,hf,by omega,by omega,by decide,so,λxs xl hx=>cG (ft _) ?_⟩;refine ⟨xs,decide (b0 % 8=5),rfl,by omega,hx,λp pp=>⟨by show 2<=sizeLine;decide,M'.length,_,_,rfl,rfl,O7,lt, ?_⟩⟩;rw [<-K8] at pp;have e:Dt.tup [.str kd,Υ p]=aN (.fin p):=by rw [z];rfl
    rw [e,setM (.fin p)];exact fe _ _ ⟨m,k+1,rs++[Rw.fin p],_,_,_,_,_,_,⟨rl,rh⟩,by simp,by omega,by simp [hl],more (.fin p) ⟨⟨⟨pp.red.pos,pp.fit⟩,λ_ _ e=>nomatch e⟩,λ_ e=>by cases e;exact pp,λ_ _ e=>nomatch e⟩,rfl,rfl⟩
   ·have z:kd≠"end":=of_decide_eq_false z;have MQ:Δ kd=true\/kd="chance":=by
     rcases MQ with hk | hk | hk
     ·exact .inl hk
     ·exact .inr hk
     ·exact absurd hk z
    refine ⟨⟨bg (k:=10) (by decide),bg (k:=10) (by omega)⟩,f,(k:Int),5 * c,AN far sz,by rw [Int.natCast_mul];rfl,hf,by omega,by omega,by omega,so,λxs xl hx=>cG (ft _) ?_⟩;refine ⟨first,kd,xs,sz,decide (b0 % 8=5),c,rfl,xl,c1,c6,hx,by omega,by omega,MQ,λds dl Xe=>cG (gP ds) ?_⟩;rw [<-K8] at Xe;refine ⟨by show 2<=sizeLine;decide,M'.length,_,_,rfl,rfl,O7,lt, ?_⟩;exact fe _ _ ⟨m,k+1,rs++[Rw.τ kd ds],_,_,_,_,_,_,⟨rl,rh⟩,by simp,by omega,by simp [hl],more (.τ kd ds) Xe,setM (.τ kd ds),rfl⟩
  ·obtain ⟨n,k,rs,rm,o1,o2,o3,o4,o5,⟨rl,rh⟩,ex,T3,hl,hd,rfl,rfl⟩:=hj;have hn:n=0:=by have:=congrArg List.length ex;unfold dc at this;simpa using this.symm
   have e:rs.length=sz:=by omega
   exact ⟨by show 2<=sizeLine;decide,h share rs far ⟨hs,by omega,by omega,λz=>by have:=n4 z;omega,by rw [e];exact hd⟩⟩
def FZ:DF:=λas M q _=>∃rows:List Rw,as=[.lst (rows.map aN)]/\rows.length<=12/\(∀r∈rows,fj r)/\q (.lst (rows.map aN)) M
theorem Ds:Γ ["_law_rows"] ["_law_rows"] (θ j2):=⟨rfl,rfl,rfl,by decide+kernel,rfl,by decide+kernel,by decide+kernel⟩
theorem Bh{f:Addr}{fd:FuncData}(F:cH K "_law_copy" "_law_copy" j2 f fd)(E:Ev K mg w Cm):af P w K mg base (bX P w) 1 f fd ["_law_rows"] (cn K FZ):=by
 refine F.dF Ds (λds M q x h=> ?_) (λaV A outer s H E' hr=>⟨_,(ι (Β (B9 (ys:=[]) (caps:=[]) ⟨rfl,by decide+kernel,by decide+kernel,(by show∀x:Str,x∈(["_law_kind","_law_part"]:List Str)->_;decide+kernel),(by show∀p:Str×NameKind,p∈_->p.2=NameKind.free->List.lookup p.1 (θ j2).names=some .cell;decide+kernel),by decide+kernel,(by show∀q:Str×Nat,q∈_->(["_law_rows"]:List Str)[q.2]? =some q.1/\List.lookup q.1 (θ j2).names=some .cell/\_;decide+kernel),rfl⟩ (bA (jv 0)) (λC s H fp=>(gh (γ (jv 0) (γ (tL (d_ hr (jv 0) jo) (jv 1) (bL (zv E.lU (γ (jv 1) η (hs:=μ))))) η) (hs:=μ))))))),λds M q x h=> ?_⟩)
 ·obtain ⟨rows,rfl,_⟩:=h;rfl
 ·obtain ⟨rows,rfl,oE,ro,h⟩:=h;walk_at "vc";dsimp only [ID,gy];walk_at "vc";refine ⟨by rw [aae];exact aaw (show _<=12 by omega) (by decide), ?_⟩;refine nG trivial (λx=>x) _ _ (λx hx qq hq=> ?_) ?_
  ·obtain ⟨r,dX,rfl⟩:=aak.mp hx;have rr:=ro r dX;cases r with
   | fin p=>
    refine ⟨λ_=> ?_,λz=>(nomatch z)⟩;exact ⟨by show 2<=sizeLine;decide,hq⟩
   | τ k ds=>
    refine ⟨λz=>absurd (of_decide_eq_true z) rr.1,λ_=> ?_⟩;refine KD (gP ds) ?_;exact ⟨by show 2<=sizeLine;decide,hq⟩
  ·rw [aaM,List.map_id'];exact h
def xF(far:Bool):Int:=if far=true then 10 ^ 36 else 12
def cF(far:Bool):Int:=if far=true then 10 ^ 30 else 9
theorem nQ{b:Int}{m n:Nat}(hb:1<=b)(Zr:m<=n):b ^ m<=b ^ n:=by obtain ⟨c,rfl⟩:=Nat.exists_eq_add_of_le Zr;rw [Int.pow_add];have p:0 < b ^ c:=Int.pow_pos (by omega);have q:0<=b ^ m:=abG (by omega);have:=aav (show 1<=b ^ c by omega) q;omega
theorem qT{p:Fr}(h:aW p=true)(p0:0 < p.2):dG p (10 ^ 30)/\p.2<=1000000:=by
 unfold aW at h;rw [aas,decide_eq_true_iff,decide_eq_true_iff] at h;have h1:=h.1;have:10 ^ 30<=p.2 * 10 ^ 30:=by have:=aaC (show 1<=p.2 by omega) (show (0:Int)<=10 ^ 30 by decide);omega
 unfold dG;split at h1 <;> exact ⟨⟨by omega,by omega⟩,h.2⟩
theorem uE.nr{far:Bool}{p:Fr}{E:Int}(h:uE far p)(he:p.2∣E):Nr E (cF far) p:=by
 refine ⟨h.red,xp he, ?_⟩;cases far with
 | true=>exact (qT h.fit h.red.pos).1
 | false=>exact (h.near rfl).2
theorem LF.fw{share:Fr}{rows:List Rw}{far:Bool}(lf:LF share rows far):FW share rows (xF far) (cF far):=by
 refine ⟨⟨lf.sh,lf.zb,λr hr=>(lf.row r hr).1.1⟩,lf.n1,λk ds hm hk=>(lf.row _ hm).1.2 k ds rfl hk,λk ds hm=> ?_,λp hm=> ?_, ?_, ?_, ?_⟩
 ·have pp:=(lf.row _ hm).2.2 k ds rfl;cases far with
  | true=>
   have l6:ds.length<=6:=(fc (share:=share) (rows:=rows) ⟨lf.sh,lf.zb,λr hr=>(lf.row r hr).1.1⟩ hm).l6;have all:∀a∈ds.map (·.2.1.2),0 < a/\a<=1000000:=λa ha=>by obtain ⟨d,hd,rfl⟩:=aak.mp ha;exact ⟨(pp d hd).red.pos,(qT (pp d hd).fit (pp d hd).red.pos).2⟩
   refine ⟨oq (ds.map (·.2.1.2)),qA λa ha=>(all a ha).1, ?_,λd hd=>(pp d hd).nr (ya (aak.mpr ⟨d,hd,rfl⟩))⟩;have:=BI all;rw [aae] at this;refine abr this ?_;exact abr (nQ (by decide) l6) (by decide)
  | false=>exact ⟨12,by decide,by decide,λd hd=>(pp d hd).nr ((pp d hd).near rfl).1⟩
 ·have pp:=(lf.row _ hm).2.1 p rfl;cases far with
  | true=>exact ⟨p.2,pp.red.pos,abr (qT pp.fit pp.red.pos).2 (by decide),pp.nr (Int.dvd_refl _)⟩
  | false=>exact ⟨12,by decide,by decide,pp.nr (pp.near rfl).1⟩
 ·cases far <;> decide
 ·cases far <;> decide
 ·cases far <;> decide
theorem LF.sz{share:Fr}{rows:List Rw}{far:Bool}(lf:LF share rows far):ow (xF far) (cF far)<=2 ^ 450/\(12 * ow (xF far) (cF far)) ^ rows.length < 2 ^ 1030:=by
 cases far with
 | true=>exact ⟨by decide,aaB (nQ (by decide) (lf.n4 rfl)) (by decide)⟩
 | false=>exact ⟨by decide,aaB (nQ (by decide) lf.zb) (by decide)⟩
structure gY(rows:List Rw)(hand:Str)(p:Pl):Prop where
 nd:vq p
 len:p.length<=12
 has:∀(i:Nat) (r:Rw),rows[i]? =some r->kindOf r=hand->∃j:Nat,Ξ p i=some (j:Int)/\j < (Ν r).length
 only:∀(i v:Int),Ξ p i=some v->∃(j:Nat) (r:Rw),i=(j:Int)/\rows[j]? =some r/\kindOf r=hand
structure kU(rows:List Rw)(hand:Str)(n:Nat)(p:Pl):Prop where
 nd:vq p
 len:p.length<=n
 has:∀(i:Nat) (r:Rw),i < n->rows[i]? =some r->kindOf r=hand->∃j:Nat,Ξ p i=some (j:Int)/\j < (Ν r).length
 only:∀(i v:Int),Ξ p i=some v->∃(j:Nat) (r:Rw),i=(j:Int)/\rows[j]? =some r/\kindOf r=hand
theorem Jq{p:Pl}{i v:Int}{n:Nat}(h:p.length<=n):(dZ p i v).length<=n+1:=by
 unfold dZ;split
 ·rw [aae];omega
 ·rw [aai];exact Nat.succ_le_succ h
theorem kU.put{rows:List Rw}{hand:Str}{n j:Nat}{p:Pl}{r:Rw}(h:kU rows hand n p)(hi:rows[n]? =some r)(hk:kindOf r=hand)(hj:j < (Ν r).length):kU rows hand (n+1) (dZ p n (j:Int)):=by
 refine ⟨M9 h.nd,Jq h.len,λi r' il tm rO=> ?_,λi v hg=> ?_⟩
 ·rw [pv];by_cases e:i=n
  ·subst e;rw [hi] at tm;cases tm;exact ⟨j,by rw [if_pos rfl],hj⟩
  ·rw [if_neg (by omega)];exact h.has i r' (by omega) tm rO
 ·rw [pv] at hg;split at hg
  ·rename_i e;exact ⟨n,r,e,hi,hk⟩
  ·exact h.only i v hg
theorem kU.skip{rows:List Rw}{hand:Str}{n:Nat}{p:Pl}{r:Rw}(h:kU rows hand n p)(hi:rows[n]? =some r)(hk:kindOf r≠hand):kU rows hand (n+1) p:=by
 refine ⟨h.nd,Nat.le_succ_of_le h.len,λi r' il tm rO=> ?_,h.only⟩;by_cases e:i=n
 ·subst e;rw [hi] at tm;cases tm;exact absurd rO hk
 ·exact h.has i r' (by omega) tm rO
theorem Kf{r:Rw}{M:Ms}{q:DQ}(h:q (.str (kindOf r)) M):d7 (aN r) (.int 0) M q:=by obtain ⟨e,er⟩:=FQ (r:=r);rw [er];exact Ζ (xs:=[.str (kindOf r),e]) rfl aO h
theorem Fw{rows:List Rw}{i:Nat}{r:Rw}(hi:rows[i]? =some r){M:Ms}{q:DQ}(h:q (aN r) M):d7 (.lst (rows.map aN)) (.int (i:Int)) M q:=Ζ (xs:=rows.map aN) rfl (Η (mI hi)) h
def Gb:DF:=λas M q _=>∃(rows:List Rw) (hand:Str) (n0:Int),as=[.lst (rows.map aN), .str hand, .int n0]/\Nm n0/\rows.length<=12/\Δ hand=true/\(∀k ds,Rw.τ k ds∈rows->1<=ds.length/\ds.length<=6)/\∀p,gY rows hand p->q (.loc M.length) (M++[dP p])
theorem fM:Γ ["_law_rows","_law_hand","_law_number","_law_plan_here","_law_digits","_law_xs","_law_k"] ["_law_rows","_law_hand","_law_number"] (θ rK):=⟨rfl,rfl,rfl,by decide+kernel,rfl,by decide+kernel,by decide+kernel⟩
theorem AS{f:Addr}{fd:FuncData}(F:cH K "_law_plan" "_law_plan" rK f fd)(E:Ev K mg w Cm){bN:Addr}{bT:FuncData}(ai:aj P w K mg base 1 "_law_by_digits" ["_law_number"] Fe bN bT){kT:Addr}{lS:FuncData}(dH:aj P w K mg base 1 "_law_stream" ["_law_number","_law_many"] wC kT lS):af P w K mg base (bX P w) 2 f fd ["_law_rows","_law_hand","_law_number"] (cn K Gb):=by
 refine F.dF fM (λds M q x h=> ?_) (λaV A outer s H E' hr=>⟨_,(ζ (ω (i:=3) fM.nd rfl (Or.inl rfl) uj)
   (ζ (ω (i:=4) fM.nd rfl (Or.inl rfl) (aa ai hr ν (γ (jv 2) η (hs:=μ))))
   (ζ (ω (i:=5) fM.nd rfl (Or.inl rfl) (bL (aa dH hr ν (γ (jv 2) (γ (bK E.aZ (γ (jv 0) η (hs:=μ))) η (hs:=aA)) (hs:=μ)))))
   (ζ (hG (cv E.bG (γ (bK E.aZ (γ (jv 0) η (hs:=μ))) η (hs:=aA))) (ag (i:=6) fM.nd rfl (Or.inl rfl)) aP (ι (aB (d_ hr (Ι (Ι (jv 0) (jv 6)) υ) (jv 1)) (ζ (iZ (o7 hr (jv 3) (jv 6) (bB (tL (bW (jv 4)) (jv 2) (Ι (jv 5) (jv 6))) (bK E.aZ (γ (Ι (Ι (jv 0) (jv 6)) υ) η (hs:=aU))))))
   (ι (ω (i:=2) fM.nd rfl (Or.inl rfl) (je (jv 2) (bK E.aZ (γ (Ι (Ι (jv 0) (jv 6)) υ) η (hs:=aU))))))) Τ)))
   (ι (Β (jv 3))))))),λds M q x h=> ?_⟩)
 ·obtain ⟨rows,hand,n0,rfl,_⟩:=h;rfl
 ·obtain ⟨rows,hand,n0,rfl,SG,oE,hh,hdr,h⟩:=h;refine ⟨n0,rfl,λdg=> ?_⟩;walk_at "vc";refine (ae (d:= .lst (rows.map aN)) (xs:=rows.map aN) rfl ?_:fb [.lst (rows.map aN)] _ _);rw [aae];refine ⟨n0,rows.length,rfl,qQ SG,by omega,λxs xl hx=>cG (ft _) ?_⟩;refine (ae (d:= .lst (rows.map aN)) (xs:=rows.map aN) rfl ?_:fb [.lst (rows.map aN)] _ _);rw [aae];refine ⟨by omega, ?_⟩;rw [show ((rows.length:Int)).toNat=rows.length by omega];refine cq (λzs ρ' M'=>∃(i m:Nat) (p:Pl) (n:Int) (o6:Option Dt),zs=dc (i:Int) m/\i+m=rows.length/\kU rows hand i p/\Nm n/\M'=M++[dP p]/\ρ'=[some (.lst (rows.map aN)),some (.str hand),some (.int n),some (.loc M.length),some (.bl dg),some (.lst (xs.map Dt.int)),o6]) (λx zs ρ' M' hj fe=> ?_) (λρ' M' hj=> ?_) _ _ _ ⟨0,rows.length,[],n0,none,rfl,by omega,⟨List.nodup_nil,aaj _,λi r il=>absurd il (abq _),λi v hg=>(nomatch hg)⟩,SG,rfl,rfl⟩
  ·obtain ⟨i,m,p,n,o6,ex,im,pt,hn,rfl,rfl⟩:=hj;obtain ⟨m',rfl,rfl,rfl⟩:=b8 ex;have il:i < rows.length:=by omega
   have hi:rows[i]? =some rows[i]:=aaa il;generalize hr0:rows[i]=r at *
   have rm:r∈rows:=aal hi;walk_at "vc";refine Fw hi (Kf ?_);refine ⟨λz=> ?_,λz=> ?_⟩
   ·have z:kindOf r=hand:=of_decide_eq_true z;cases r with
    | fin p=>exact absurd (z▸hh) (by show¬Δ (Str.ofString "end")=true;decide)
    | τ k ds=>
     obtain ⟨d1,d6⟩:=hdr k ds rm;have d0:(0:Int) < ds.length:=by omega
     have ln:∀(M':Ms) (q:DQ),q (.int (ds.length:Int)) M'->d7 (.lst (rows.map aN)) (.int (i:Int)) M' λd1 M1=>d7 d1 (.int 1) M1 λd1 M1=>fb [d1] M1 q:=λM' q hq=>Fw hi (LD ((ae (d:= .lst (ds.map ef)) (xs:=ds.map ef) rfl (by rw [aae];exact hq):fb [.lst (ds.map ef)] _ _)));have put:∀v:Int,∃j:Nat,v % (ds.length:Int)=(j:Int)/\j < ds.length:=λv=>by have v0:=aaO v (show (ds.length:Int)≠0 by omega);have v1:=aaL v d0;exact ⟨(v % (ds.length:Int)).toNat,by omega,by omega⟩
     have fin:∀v:Int,∃k ks mH key,Dt.loc M.length= .loc k/\(M++[dP p])[k]? =some (.cW ks mH)/\rS (.int (i:Int))=some key/\ks.length < 1000/\(∃j:Nat,j < ds.length/\(M++[dP p]).set k (.cW (fh ks key) (dU ks key mH (.int (v % (ds.length:Int)))))=M++[dP (dZ p i (j:Int))]):=λv=>by obtain ⟨j,e,jl⟩:=put v;refine ⟨M.length,_,_,Sum.inl (i:Int),rfl,aq,rfl,by unfold kP;rw [List.length_map];have:=pt.len;omega,j,jl, ?_⟩;rw [e,tU (v:=(j:Int)),yQ,cU]
     refine ⟨λρ M2=>∃j:Nat,j < ds.length/\M2=M++[dP (dZ p i (j:Int))]/\ρ=[some (.lst (rows.map aN)),some (.str hand),some (.int n),some (.loc M.length),some (.bl dg),some (.lst (xs.map Dt.int)),some (.int (i:Int))],⟨λ_=> ?_,λ_=> ?_⟩, ?_⟩
     ·walk_at "vc";refine ln _ _ ?_;refine ⟨d0, ?_⟩;obtain ⟨k',ks,mH,key,f1,f2,f3,f4,j,jl,f5⟩:=fin n;exact ⟨k',ks,mH,key,f1,f2,f3,f4,j,jl,f5,rfl⟩
     ·have kx:i < xs.length:=by omega
      walk_at "vc";refine (Ζ (d:= .lst (xs.map Dt.int)) rfl (ff kx) ?_:d7 (.lst (xs.map Dt.int)) (.int (i:Int)) _ _);refine ln _ _ ?_;refine ⟨d0, ?_⟩;obtain ⟨k',ks,mH,key,f1,f2,f3,f4,j,jl,f5⟩:=fin xs[i];exact ⟨k',ks,mH,key,f1,f2,f3,f4,j,jl,f5,rfl⟩
     ·rintro ρ2 M2 ⟨j,jl,rfl,rfl⟩;walk_at "vc";refine ln _ _ ?_;refine ⟨⟨d0,bg (k:=10) (by omega)⟩, ?_⟩;exact fe _ _ ⟨i+1,m',_,_,_,by rw [abL];rfl,by omega,pt.put hi z jl,AM hn d0,rfl,rfl⟩
   ·have z:kindOf r≠hand:=of_decide_eq_false z;exact fe _ _ ⟨i+1,m',p,n,_,by rw [abL];rfl,by omega,pt.skip hi z,hn,rfl,rfl⟩
  ·obtain ⟨i,m,p,n,o6,ex,im,pt,hn,rfl,rfl⟩:=hj;have m0:m=0:=by have:=congrArg List.length ex;rw [fQ] at this;exact this.symm
   have e:i=rows.length:=by omega
   subst e;exact h p ⟨pt.nd,aaw pt.len oE,λi r hi hk=>pt.has i r (aag.mp hi).1 hi hk,pt.only⟩
theorem Lj{p:Fr}{M:Ms}{k:Bool->Ms->Prop}(h:k false M):K9 (Υ p) (Υ p) M (λd M1=>match d with | .bl b=>k b M1 | _=>False):=by show k (!me [.int p.1, .int p.2] [.int p.1, .int p.2]) M;rw [RQ,decide_eq_true rfl];exact h
theorem HY{M:Ms}{k:Nat}{xs:List Dt}(h:M[k]? =some (MO.lst xs)):oB M (.loc k)=some (xs,λM'=>M'[k]? =some (MO.lst xs)):=by show (match M[k]? with | some (MO.lst xs)=>some (xs,λM':Ms=>M'[k]? =some (MO.lst xs)) | _=>none)=_;rw [h]
def Cy:DF:=λas M q _=>∃i:Int,as=[.int i]/\q (.bl true) M
theorem zo:Γ ["_law_number"] ["_law_number"] (θ nq):=⟨rfl,rfl,rfl,by decide+kernel,rfl,by decide+kernel,by decide+kernel⟩
theorem xh{f:Addr}{fd:FuncData}(F:cH K "_law_whole" "_law_whole" nq f fd)(E:Ev K mg w Cm):af P w K mg base (bX P w) 1 f fd ["_law_number"] (cn K Cy):=by
 refine F.dF zo (λds M q x h=> ?_) (λaV A outer s H E' hr=>⟨_,(ι (Β (g7 (u6 K E.bR (γ (jv 0) (γ (K2 E.tq tH) η (hs:=μ)) (hs:=μ))) (k8 (MN (u6 K E.bR (γ (jv 0) (γ (K2 E.uA A') η (hs:=μ)) (hs:=μ)))))))),λds M q x h=> ?_⟩)
 ·obtain ⟨i,rfl,_⟩:=h;rfl
 ·obtain ⟨i,rfl,h⟩:=h;refine ⟨_,_,_,_,true,rfl,rfl,rfl,AB,λ_=> ?_,λz=>(nomatch z)⟩;exact ⟨_,_,_,_,false,rfl,rfl,rfl,E.ib,h⟩
structure FP(M:Ms)(d:Dt)(tb:List Fr)(ok:Ms->Prop):Prop where
 kind:BF M d=some (.type "list")
 seq:kC M d=some (tb.map Υ)
 it:oB M d=some (tb.map Υ,ok)
 ok:ok M
theorem xx{M:Ms}{tb:List Fr}:FP M (.lst (tb.map Υ)) tb (λ_=>True):=⟨rfl,rfl,rfl,trivial⟩
theorem yS{M:Ms}{kt:Nat}{tb:List Fr}(h:M[kt]? =some (.lst (tb.map Υ))):FP M (.loc kt) tb (λM'=>M'[kt]? =some (MO.lst (tb.map Υ))):=⟨Ec (pE h),Ie h,HY h,h⟩
def Ga:DF:=λas M q _=>∃(d:Dt) (tb:List Fr) (n:Nat) (ok:Ms->Prop),as=[d, .int (n:Nat)]/\FP M d tb ok/\HK tb n/\q (.bl true) M
theorem pK:Γ ["_law_table_here","_law_many","_law_one"] ["_law_table_here","_law_many"] (θ mU):=⟨rfl,rfl,rfl,by decide+kernel,rfl,by decide+kernel,by decide+kernel⟩
theorem yA{f:Addr}{fd:FuncData}(F:cH K "_law_table" "_law_table" mU f fd)(E:Ev K mg w Cm){Ew:Addr}{CJ:FuncData}(iW:aj P w K mg base 1 "_law_whole" ["_law_number"] Cy Ew CJ){cY:Addr}{cZ:FuncData}(aF:aj P w K mg base 1 "_law_lowest" ["_law_top","_law_bottom"] Ff cY cZ):af P w K mg base (bX P w) 2 f fd ["_law_table_here","_law_many"] (cn K Ga):=by
 refine F.dF pK (λds M q x h=> ?_) (λaV A outer s H E' hr=>⟨_,(ζ (aB (JW.jt (ot (f_ (bW (u6 K E.bR (γ (jv 0) (γ (K2 E.lU rf) η (hs:=μ)) (hs:=μ))))) (mZ (rC hr (bK E.aZ (γ (jv 0) η (hs:=μ))) (jv 1))))) (ι (Β CZ)) Τ)
   (ζ (cT (bA (jv 0)) (ag (i:=2) pK.nd rfl (Or.inl rfl)) aP (ζ (aB (JW.jt (ot (f_ (bW (u6 K E.bR (γ (jv 2) (γ (K2 E.o_ xT) η (hs:=μ)) (hs:=μ))))) (ot (rC hr (bK E.aZ (γ (jv 2) η (hs:=μ))) υ) (ot (f_ (bW (aa iW hr ν (γ (Ι (jv 2) υ) η (hs:=aU))))) (mZ (f_ (bW (aa iW hr ν (γ (Ι (jv 2) υ) η (hs:=aU)))))))))) (ι (Β CZ)) Τ)
   (ι (aB (JW.jt (ot (qY (Ι (jv 2) υ) υ) (mZ (rC hr (aa aF hr ν (γ (Ι (jv 2) υ) (γ (Ι (jv 2) υ) η (hs:=aU)) (hs:=aU))) (jv 2))))) (ι (Β CZ)) Τ))))
   (ι (Β CZ)))),λds M q x h=> ?_⟩)
 ·obtain ⟨d,tb,n,ok,rfl,_⟩:=h;rfl
 ·obtain ⟨d,tb,n,ok,rfl,hk,tk,h⟩:=h;have Fx:=hk.kind;walk_at "vc";refine ⟨_,_,_,_,true,rfl,Fx,rfl,AB,λz=>(nomatch z),λ_=> ?_⟩;refine (ae (d:=d) hk.seq ?_:fb [d] _ _);rw [aae,tk.len];refine ⟨λz=> ?_,λ_=> ?_⟩
  ·have z:(!decide ((n:Int)=(n:Int)))=true:=z;rw [decide_eq_true rfl] at z;exact nomatch z
  dsimp only [tD,gy];walk_at "vc";rw [show (List.map some [d,Dt.int (n:Int)]++[none])[0]? =some (some d) from rfl];dsimp only;rw [hk.it];refine bJ (λzs ρ' M'=>M=M'/\∃(rest:List Fr) (o2:Option Dt),zs=rest.map Υ/\(∀p∈rest,p∈tb)/\ρ'=[some d,some (.int (n:Int)),o2]) (λzs ρ' M' hj=>by obtain ⟨rfl,_⟩:=hj;exact hk.ok) (λx zs ρ' M' hj fe=> ?_) (λρ' M' hj=> ?_) _ _ _ ⟨rfl,tb,none,rfl,λ_ h=>h,rfl⟩
  ·obtain ⟨rfl,rest,o2,ex,dX,rfl⟩:=hj;cases rest with
   | nil=>cases ex
   | cons p rest=>
    cases ex;have pm:=dX p aaf;have rp:=tk.red p pm;obtain ⟨s1,s2⟩:=tk.sz p pm;walk_at "vc";refine ⟨_,_,_,_,true,rfl,rfl,rfl,AB,λz=>(nomatch z),λ_=> ?_⟩;refine (ae (d:=Υ p) (xs:=[.int p.1, .int p.2]) rfl ?_:fb [Υ p] _ _);refine ⟨λz=>(nomatch z),λ_=> ?_⟩;refine (Cr ?_:d7 (Υ p) (.int 0) _ _);refine ⟨p.1,rfl,λz=>(nomatch z),λ_=> ?_⟩;refine (xy ?_:d7 (Υ p) (.int 1) _ _);refine ⟨p.2,rfl,λz=>(nomatch z),λ_=> ?_⟩;refine (xy ?_:d7 (Υ p) (.int 1) _ _);refine ⟨λz=> ?_,λ_=> ?_⟩
    ·have z:p.2 < 1:=of_decide_eq_true z;have:=rp.pos;omega
    refine (Cr ?_:d7 (Υ p) (.int 0) _ _);refine (xy ?_:d7 (Υ p) (.int 1) _ _);refine ⟨p.1,p.2,rfl,rp.pos,oM (k:=1030) (aah rp.pos) s1 (by decide), ?_⟩;rw [tF rp.pos rp.low];refine Lj ?_;exact ⟨λz=>(nomatch z),λ_=>fe _ _ ⟨rfl,rest,_,rfl,λy hy=>dX y (aad _ hy),rfl⟩⟩
  ·obtain ⟨rfl,rest,o2,ex,dX,rfl⟩:=hj;exact h
theorem Hj{tb:List Fr}{n i:Nat}(tk:HK tb n)(h:i < n):0 < (tb.getD i (0,1)).2/\(tb.getD i (0,1)).2.natAbs < 2 ^ 1030/\(tb.getD i (0,1)).1.natAbs < 2 ^ 1150/\lY (tb.map Υ) (i:Int)=some (Υ (tb.getD i (0,1))):=by
 have hl:i < tb.length:=by rw [tk.len];exact h
 have m:=CG hl;obtain ⟨s1,s2⟩:=tk.sz _ m;have r:=(tk.red _ m).pos;refine ⟨r, ?_,s2, ?_⟩
 ·have:((tb.getD i (0,1)).2.natAbs:Int) < ((2 ^ 1030:Nat):Int):=by rw [aa4 (aah r),Int.natCast_pow];exact s1
  exact abx.mp this
 ·rw [Ls hl,aab,aaa hl];rfl
theorem xj{a b:Int}{j k:Nat}(h1:a.natAbs < 2 ^ j)(h2:b.natAbs < 2 ^ k):(a * b).natAbs < 2 ^ (j+k):=by rw [aa1];exact bw h1 h2
def P1:DF:=λas M q _=>∃(da db:Dt) (tb to:List Fr) (n:Nat) (sg:Int) (ok Jj:Ms->Prop),as=[da,db, .int sg]/\FP M da tb ok/\FP M db to Jj/\HK tb n/\HK to n/\n<=12/\(sg=1\/sg= -1)/\(∀i,i < n->0<=sg * ((to.getD i (0,1)).1 * (tb.getD i (0,1)).2 - (tb.getD i (0,1)).1 * (to.getD i (0,1)).2))/\q (.bl true) M
theorem eP:Γ ["_law_table_here","_law_other","_law_sign","_law_k","_law_here","_law_there"] ["_law_table_here","_law_other","_law_sign"] (θ i7):=⟨rfl,rfl,rfl,by decide+kernel,rfl,by decide+kernel,by decide+kernel⟩
theorem qO{f:Addr}{fd:FuncData}(F:cH K "_law_no_better" "_law_no_better" i7 f fd)(E:Ev K mg w Cm):af P w K mg base (bX P w) 1 f fd ["_law_table_here","_law_other","_law_sign"] (cn K P1):=by
 refine F.dF eP (λds M q x h=> ?_) (λaV A outer s H E' hr=>⟨_,(ζ (hG (cv E.bG (γ (bK E.aZ (γ (jv 0) η (hs:=μ))) η (hs:=aA))) (ag (i:=3) eP.nd rfl (Or.inl rfl)) aP (ζ (ω (i:=4) eP.nd rfl (Or.inl rfl) (aw (Ι (Ι (jv 1) (jv 3)) υ) (Ι (Ι (jv 0) (jv 3)) υ)))
   (ζ (ω (i:=5) eP.nd rfl (Or.inl rfl) (aw (Ι (Ι (jv 0) (jv 3)) υ) (Ι (Ι (jv 1) (jv 3)) υ)))
   (ι (aB (qY (aw (jv 2) (qe (jv 4) (jv 5))) υ) (ι (Β CZ)) Τ)))))
   (ι (Β CZ))),λds M q x h=> ?_⟩)
 ·obtain ⟨da,db,tb,to,n,sg,ok,Jj,rfl,_⟩:=h;rfl
 ·obtain ⟨da,db,tb,to,n,sg,ok,Jj,rfl,ha,hb,tk,tk',zb,hs,hle,h⟩:=h;have bs:gJ sg:=bg (k:=2) (by rcases hs with e | e <;> rw [e] <;> decide);walk_at "vc";refine (ae (d:=da) ha.seq ?_:fb [da] _ _);rw [aae,tk.len];refine ⟨by omega, ?_⟩;rw [show ((n:Int)).toNat=n by omega];refine cq (λzs ρ' M'=>M'=M/\∃(i m:Nat) (o4 o5 o6:Option Dt),zs=dc (i:Int) m/\i+m=n/\ρ'=[some da,some db,some (.int sg),o4,o5,o6]) (λx zs ρ' M' hj fe=> ?_) (λρ' M' hj=> ?_) _ _ _ ⟨rfl,0,n,none,none,none,rfl,by omega,rfl⟩
  ·obtain ⟨rfl,i,m,o4,o5,o6,ex,im,rfl⟩:=hj;obtain ⟨m',rfl,rfl,rfl⟩:=b8 ex;have il:i < n:=by omega
   obtain ⟨t0,t2,t1,ta⟩:=Hj tk il;obtain ⟨u0,u2,u1,ua⟩:=Hj tk' il;have le:=hle i il;generalize tb.getD i (0,1)=t at *
   generalize to.getD i (0,1)=u at *
   have rt:∀(q:DQ),q (Υ t) M'->d7 da (.int (i:Int)) M' q:=λq hq=>Ζ (d:=da) ha.seq ta hq;have ru:∀(q:DQ),q (Υ u) M'->d7 db (.int (i:Int)) M' q:=λq hq=>Ζ (d:=db) hb.seq ua hq;walk_at "vc";refine ru _ ((Cr ?_:d7 (Υ u) (.int 0) _ _));refine rt _ ((xy ?_:d7 (Υ t) (.int 1) _ _));refine ⟨⟨bg u1,bg t2⟩, ?_⟩;refine rt _ ((Cr ?_:d7 (Υ t) (.int 0) _ _));refine ru _ ((xy ?_:d7 (Υ u) (.int 1) _ _));refine ⟨⟨bg t1,bg u2⟩, ?_⟩;dsimp only [vm];have b1:=xj u1 t2;have b2:=xj t1 u2;refine ⟨⟨bs,bg (k:=2181) ?_⟩,λz=> ?_,λ_=> ?_⟩
   ·have:=Int.natAbs_sub_le (u.1 * t.2) (t.1 * u.2);rw [Nat.pow_succ];omega
   ·have z:sg * (u.1 * t.2 - t.1 * u.2) < 0:=of_decide_eq_true z;omega
   ·exact fe _ _ ⟨rfl,i+1,m',_,_,_,by rw [abL];rfl,by omega,rfl⟩
  ·obtain ⟨rfl,i,m,o4,o5,o6,ex,im,rfl⟩:=hj;exact h
theorem yX{M:Ms}:∀rs:List Rw,Paired (jJ M) (rs.map aN) rs
 | []=> .nil
 | r::rs=> .cons (KH _ r) (yX rs)
theorem Fg{M:Ms}{q:DQ}{A:Addr}{share:Fr}{rows:List Rw}(h:q (av A share rows) M):q_ M q (.loc M.length) ((M++[MO.ins A [] []]).set M.length (.ins A ["kept_share","kept_rows"] [Υ share, .lst (rows.map aN)])):=by rw [cU];exact jS (d':=av A share rows) (.TQ (Nat.le_refl _) (by simp) (.cons (.old (lB share)) (.cons (.old (qh rows)) .nil))) h
theorem Pn{n:Int}:∃(hand ξ:Str) (sg:Int),lY [Dt.str "one",Dt.str "other"] (n % 2)=some (.str hand)/\lY [Dt.str "other",Dt.str "one"] (n % 2)=some (.str ξ)/\(hand="one"/\ξ="other"\/hand="other"/\ξ="one")/\1 - 2 * (n % 2)=sg/\(sg=1\/sg= -1)/\mT ξ= -(sg:Rat):=by
 have:n % 2=0\/n % 2=1:=by omega
 rcases this with e | e <;> rw [e]
 ·exact ⟨"one","other",1,aO,aO, .inl ⟨rfl,rfl⟩,rfl, .inl rfl,by unfold mT;rw [if_neg (by decide)];rfl⟩
 ·exact ⟨"other","one", -1,Η (j:=1) rfl,Η (j:=1) rfl, .inr ⟨rfl,rfl⟩,rfl, .inr rfl,by unfold mT;rw [if_pos rfl];rfl⟩
theorem DR{rows:List Rw}{hand:Str}{p:Pl}(o:gY rows hand p):∀i,i < rows.length->eG rows (tE hand p) i=true:=λi il=>by
 have hi:rows[i]? =some rows[i]:=aaa il;generalize rows[i]=r at *
 unfold eG;rw [hi];show i_ (tE hand p) i r=true;unfold i_ tE;by_cases e:kindOf r=hand
 ·rw [if_pos e];obtain ⟨j,gj,jl⟩:=o.has i r hi e;show dj p i (Ν r).length=true;unfold dj;rw [gj];show (decide (0<=(j:Int))&&decide ((j:Int) < ((Ν r).length:Int)))=true;rw [decide_eq_true (show 0<=(j:Int) by omega),decide_eq_true (show (j:Int) < ((Ν r).length:Int) by omega)];rfl
 ·rw [if_neg e]
theorem EB{hand ξ:Str}(dX:hand="one"/\ξ="other"\/hand="other"/\ξ="one"):∀z:Str,Δ z=true->z=hand\/z=ξ:=λz hz=>by
 unfold Δ at hz;rw [Bool.or_eq_true,beq_iff_eq,beq_iff_eq] at hz;rcases dX with ⟨rfl,rfl⟩ | ⟨rfl,rfl⟩
 ·exact hz
 ·exact hz.symm
theorem Cf{rows:List Rw}{hand:Str}{p:Pl}{i:Nat}{r:Rw}(o:gY rows hand p)(hi:rows[i]? =some r)(e:kindOf r=hand):dj p i (Ν r).length=true:=by obtain ⟨j,gj,jl⟩:=o.has i r hi e;unfold dj;rw [gj];show (decide (0<=(j:Int))&&decide ((j:Int) < ((Ν r).length:Int)))=true;rw [decide_eq_true (show 0<=(j:Int) by omega),decide_eq_true (show (j:Int) < ((Ν r).length:Int) by omega)];rfl
theorem HB{rows:List Rw}{p1 p2:Pl}(o1:gY rows "one" p1)(o2:gY rows "other" p2):∀i,i < rows.length->eG rows (aM p1 p2) i=true:=λi il=>by
 have hi:rows[i]? =some rows[i]:=aaa il;generalize rows[i]=r at *
 unfold eG;rw [hi];show i_ (aM p1 p2) i r=true;unfold i_ aM;by_cases e:kindOf r="one"
 ·rw [if_pos e];exact Cf o1 hi e
 ·rw [if_neg e];by_cases e2:kindOf r="other"
  ·rw [if_pos e2];exact Cf o2 hi e2
  ·rw [if_neg e2]
theorem Sb(a:Int):17<=(if (if a > 17 then a else 17) < 20 then (if a > 17 then a else 17) else 20)/\(if (if a > 17 then a else 17) < 20 then (if a > 17 then a else 17) else 20)<=20:=by split <;> split <;> omega
theorem K_{rows:List Rw}{hand ξ:Str}{p pr:Pl}{S:Ms}{a b:Nat}(dX:hand="one"/\ξ="other"\/hand="other"/\ξ="one")(ha:S[a]? =some (dP p))(hb:S[b]? =some (dP pr))(o:gY rows hand p)(o':gY rows ξ pr):∃k1 k2 p1 p2,b_ [Sum.inr hand,Sum.inr ξ] [Dt.loc a,Dt.loc b] (Sum.inr "one")=some (.loc k1)/\b_ [Sum.inr hand,Sum.inr ξ] [Dt.loc a,Dt.loc b] (Sum.inr "other")=some (.loc k2)/\S[k1]? =some (dP p1)/\S[k2]? =some (dP p2)/\gY rows "one" p1/\gY rows "other" p2/\aM p1 p2 hand=some p/\aM p1 p2 ξ=some pr:=by
 rcases dX with ⟨rfl,rfl⟩ | ⟨rfl,rfl⟩
 ·exact ⟨a,b,p,pr,rfl,rfl,ha,hb,o,o',rfl,rfl⟩
 ·exact ⟨b,a,pr,p,rfl,rfl,hb,ha,o',o,rfl,rfl⟩
theorem OX{share:Fr}{rows:List Rw}{X C:Int}{hand ξ:Str}{p pr pa p1 p2:Pl}{tb to:List Fr}{sg:Int}(fw:FW share rows X C)(b1:1<=ow X C)(dX:hand="one"/\ξ="other"\/hand="other"/\ξ="one")(o':gY rows ξ pr)(e1:aM p1 p2 hand=some p)(e2:aM p1 p2 ξ=some pr)(fa:a_ (pR rows ξ) pa)(wt:oO share rows (dt (jf rows hand p) pa) tb)(be:Θ share rows tb pa=[])(dk:iQ rows (eB rows (aM p1 p2) rows.length))(Jb:oO share rows (eB rows (aM p1 p2) rows.length) to)(hs:sg=1\/sg= -1)(sr:mT ξ= -(sg:Rat)):∀i,i < rows.length->0<=sg * ((to.getD i (0,1)).1 * (tb.getD i (0,1)).2 - (tb.getD i (0,1)).1 * (to.getD i (0,1)).2):=λi il=>by
 have h2:Δ ξ=true:=by rcases dX with ⟨rfl,rfl⟩ | ⟨rfl,rfl⟩ <;> decide
 have hp:∀t,t < rows.length->0 < (tb.getD t (0,1)).2:=λt ht=>(wt.tab.red t ht).pos
 have k:=xg fw h2 dk b1 wt Jb (λi il=>by
  have hi:rows[i]? =some rows[i]:=aaa il;generalize rows[i]=r at *
  rw [eY (bF fa),iH,if_pos il,hi];by_cases ek:kindOf r=ξ
  ·right;cases r with
   | fin q=>exact absurd (show Δ (Str.ofString "end")=true by rw [<-h2,<-ek];rfl) (by decide)
   | τ k ds=>
    have ek:k=ξ:=ek;subst ek;obtain ⟨j,gj,jl⟩:=(iN (i:=i) fw h2 fa).1 ds hi;obtain ⟨j',Xu,Ng⟩:=o'.has i _ hi rfl;refine ⟨ds,j,j',rfl,by rw [gj], ?_,Ng,zQ fw h2 fa hp be hi gj⟩;show Option.map _ (aM p1 p2 k)=_;rw [e2];show some ((Ξ pr i).getD 0)=_;rw [Xu];rfl
  ·left;rw [(iN (i:=i) fw h2 fa).2 r hi ek];show _=Ξ (jf rows hand p) i;unfold jf;rw [iH,if_pos il,hi];show Option.map _ (aM p1 p2 (kindOf r))=Option.map _ (tE hand p (kindOf r));have:aM p1 p2 (kindOf r)=tE hand p (kindOf r):=by
    unfold tE;by_cases eh:kindOf r=hand
    ·rw [if_pos eh,eh,e1]
    ·rw [if_neg eh];unfold aM;rcases dX with ⟨rfl,rfl⟩ | ⟨rfl,rfl⟩
     ·rw [if_neg eh,if_neg ek]
     ·rw [if_neg ek,if_neg eh]
   rw [this]) i il
 have q1:=hp i il;have q2:0 < (to.getD i (0,1)).2:=(Jb.tab.red i il).pos;rw [sr] at k;rcases hs with rfl | rfl
 ·have:val (tb.getD i (0,1))<=val (to.getD i (0,1)):=by have e:(((1:Int)):Rat)=1:=rfl;rw [e] at k;grind
  have:=(rD q1 q2).mpr this;omega
 ·have:val (to.getD i (0,1))<=val (tb.getD i (0,1)):=by have e:(((-1:Int)):Rat)= -1:=rfl;rw [e] at k;grind
  have:=(rD q2 q1).mpr this;omega
theorem jg:Γ ["_law_script","_law_share","_law_rows","_law_floor_here","_law_side","_law_hand","_law_rival","_law_plan_here","_law_table_here","_law_k","_law_pair","_law_other"] ["_law_script"] (θ NH):=⟨rfl,rfl,rfl,by decide+kernel,rfl,by decide+kernel,by decide+kernel⟩
theorem Nu{f:Addr}{fd:FuncData}(F:cH K "law" "law" NH f fd)(E:Ev K mg w Cm){Ed:Addr}{Dr:FuncData}(lu:aj P w K mg base 5 "_law_floor" ["_law_script"] B' Ed Dr){Am:Addr}{zR:FuncData}(jO:Mf P w K mg base 5 "Floor" Cm ["self","share","rows"] (L_ Cm) Am zR){FA:Addr}{G6:FuncData}(nj:aj P w K mg base 1 "_law_copy" ["_law_rows"] FZ FA G6){AH:Addr}{z6:FuncData}(eL:aj P w K mg base 1 "_law_at" ["_law_script","_law_k"] Wv AH z6){Fs:Addr}{Iq:FuncData}(j8:aj P w K mg base 2 "_law_plan" ["_law_rows","_law_hand","_law_number"] Gb Fs Iq){HQ:Addr}{Ha:FuncData}(nN:aj P w K mg base 9 "against" ["floor","hand","plan"] (yW Cm) HQ Ha){Et:Addr}{Ee:FuncData}(iI:aj P w K mg base 2 "_law_table" ["_law_table_here","_law_many"] Ga Et Ee){Dp:Addr}{Es:FuncData}(lj:aj P w K mg base 8 "worths_of" ["floor","plan_one","plan_other"] (Bt Cm) Dp Es){vg:Addr}{vY:FuncData}(hW:aj P w K mg base 1 "_law_no_better" ["_law_table_here","_law_other","_law_sign"] P1 vg vY):af P w K mg base (bX P w) 10 f fd ["_law_script"] (cn K MY):=by
 refine F.dF jg (λds M q x h=> ?_) (λaV A outer s H E' hr=>⟨_,(ζ (Kk (bL (aa lu hr ν (γ (jv 0) η (hs:=μ)))) (nP rfl (bY (ag (i:=1) jg.nd rfl (Or.inl rfl)) (bY (ag (i:=2) jg.nd rfl (Or.inl rfl)) kq))))
   (ζ (ω (i:=3) jg.nd rfl (Or.inl rfl) (bL (NX jO hr ν (γ (jv 1) (γ (aa nj hr ν (γ (jv 2) η (hs:=μ))) η (hs:=aA)) (hs:=μ)))))
   (ζ (ω (i:=4) jg.nd rfl (Or.inl rfl) (bB (aa eL hr ν (γ (jv 0) (γ υ η (hs:=dR)) (hs:=μ))) υ))
   (ζ (ω (i:=5) jg.nd rfl (Or.inl rfl) (Ι (cJ 3 (d:= .lst [.str "one", .str "other"]) (by rfl)) (jv 4)))
   (ζ (ω (i:=6) jg.nd rfl (Or.inl rfl) (Ι (cJ 3 (d:= .lst [.str "other", .str "one"]) (by rfl)) (jv 4)))
   (ζ (ω (i:=7) jg.nd rfl (Or.inl rfl) (aa j8 hr ν (γ (jv 2) (γ (jv 5) (γ (aa eL hr ν (γ (jv 0) (γ υ η (hs:=dR)) (hs:=μ))) η (hs:=aA)) (hs:=μ)) (hs:=μ))))
   (ζ (iZ (ω (i:=8) jg.nd rfl (Or.inl rfl) (Ι (aa nN hr ν (γ (jv 3) (γ (jv 5) (γ (Ba E.n8 (γ (jv 7) η (hs:=μ))) η (hs:=aA)) (hs:=μ)) (hs:=μ))) υ)))
   (ζ (aB (f_ (bW (aa iI hr ν (γ (jv 8) (γ (bK E.aZ (γ (jv 2) η (hs:=μ))) η (hs:=aA)) (hs:=μ))))) (ι (Β CZ)) Τ)
   (ζ (hG (sX E.bG (γ υ (γ (L7 E.x6 (γ υ (γ (PX E.Bm (γ υ (γ (bK E.aZ (γ (jv 0) η (hs:=μ))) η (hs:=aA)) (hs:=dR))) η (hs:=aA)) (hs:=dR))) η (hs:=aA)) (hs:=dR))) (ag (i:=9) jg.nd rfl (Or.inl rfl)) aP (ζ (ω (i:=10) jg.nd rfl (Or.inl rfl) (HE (jv 5) (Ba E.n8 (γ (jv 7) η (hs:=μ))) (jv 6) (aa j8 hr ν (γ (jv 2) (γ (jv 6) (γ (aa eL hr ν (γ (jv 0) (γ (jv 9) η (hs:=μ)) (hs:=μ))) η (hs:=aA)) (hs:=μ)) (hs:=μ)))))
   (ζ (ω (i:=11) jg.nd rfl (Or.inl rfl) (aa lj hr ν (γ (jv 3) (γ (jG hr (jv 10) jo) (γ (jG hr (jv 10) jo) η (hs:=aU)) (hs:=aU)) (hs:=μ))))
   (ζ (aB (f_ (bW (aa iI hr ν (γ (jv 11) (γ (bK E.aZ (γ (jv 2) η (hs:=μ))) η (hs:=aA)) (hs:=μ))))) (ι (Β CZ)) Τ)
   (ι (aB (f_ (bW (aa hW hr ν (γ (jv 8) (γ (jv 11) (γ (qe υ (aw υ (jv 4))) η (hs:=bC)) (hs:=μ)) (hs:=μ))))) (ι (Β CZ)) Τ))))))
   (ι (Β CZ))))))))))),λds M q x h=> ?_⟩)
 ·obtain ⟨ns,rfl,_⟩:=h;rfl
 ·obtain ⟨ns,rfl,nl,hq⟩:=h;refine ⟨ns,rfl,nl,λshare rows far lf=>jS (d':= .tup [Υ share, .lst (rows.map aN)]) (.tup (.cons (.old (lB share)) (.cons (.DB (Nat.le_refl _) (by simp) (iu.old (qh rows))) .nil))) ?_⟩;have fw:=lf.fw;obtain ⟨mv,sW⟩:=lf.sz;have b1:1<=ow (xF far) (cF far):=by cases far <;> decide
  have oE:=lf.zb;have n1:=lf.n1;have ro:∀r∈rows,fj r/\eQ r rows.length=true:=λr hr=>(lf.row r hr).1.1;have dr:∀k ds,Rw.τ k ds∈rows->1<=ds.length/\ds.length<=6:=λk ds hm=>⟨(fc fw.pl hm).l1,(fc fw.pl hm).l6⟩;refine ⟨rows,rfl,oE,λr hr=>(ro r hr).1, ?_⟩;refine ⟨M.length, .lst (rows.map aN),share,rows.map aN,rows,λ_=>True,rfl,aq,rfl,yX rows,lf.sh,n1,oE,ro,rfl,Fg ?_⟩;refine ⟨ns,14,rfl,nl,by decide,by decide,λn hn=>⟨by decide, ?_⟩⟩;obtain ⟨hand,ξ,sg,eh,er,dX,es,hs,sr⟩:=Pn (n:=n);have h1:Δ hand=true:=by rcases dX with ⟨rfl,rfl⟩ | ⟨rfl,rfl⟩ <;> decide
  have h2:Δ ξ=true:=by rcases dX with ⟨rfl,rfl⟩ | ⟨rfl,rfl⟩ <;> decide
  walk_at "vc";refine (Ζ rfl eh ?_:d7 (.lst [Dt.str "one",Dt.str "other"]) (.int (n % 2)) _ _);refine (Ζ rfl er ?_:d7 (.lst [Dt.str "other",Dt.str "one"]) (.int (n % 2)) _ _);refine ⟨ns,15,rfl,nl,by decide,by decide,λn15 VP=> ?_⟩;refine ⟨rows,hand,n15,rfl,VP,oE,h1,dr,λp o=> ?_⟩;have gd:=DR o;refine ⟨λρ M'=>∃(pa:Pl) (tb:List Fr) (E1:Ms),a_ (pR rows ξ) pa/\oO share rows (dt (jf rows hand p) pa) tb/\Θ share rows tb pa=[]/\M'=M++[dP p]++E1/\ρ=[some (.iV ns),some (Υ share),some (.lst (rows.map aN)),some (av Cm share rows),some (.int (n % 2)),some (.str hand),some (.str ξ),some (.loc M.length),some (.lst (tb.map Υ)),none,none,none], ?_, ?_⟩
  ·walk_at "vc";refine ⟨M.length,_,_,rfl,aq, ?_⟩;refine ⟨share,rows,hand,ξ,_,p,_,_,rfl,aq,dX,fw,mv,sW,b1,gd,λpa tb E1 fa wt be=> ?_⟩;refine Ζ (xs:=[_, .lst (tb.map Υ)]) rfl (Η (j:=1) rfl) ?_;exact ⟨pa,tb,[MO.cW (kP p) (vP p)]++[MO.cW [Sum.inr hand] [Dt.loc (M++[dP p]).length],dP (jf rows hand p),dP pa]++E1,fa,wt,be,by simp only [List.append_assoc],rfl⟩
  rintro ρ2 M2 ⟨pa,tb,E1,fa,wt,be,rfl,rfl⟩;have iT:hand≠ξ:=by rcases dX with ⟨rfl,rfl⟩ | ⟨rfl,rfl⟩ <;> decide
  have two:=EB dX;have dka:=HD fw h1 h2 iT two gd fa;have tok:=wt.ok fw dka b1;walk_at "vc";refine (ae (xs:=rows.map aN) rfl ?_:fb [Dt.lst (rows.map aN)] _ _);rw [aae];refine ⟨.lst (tb.map Υ),tb,rows.length,_,rfl,xx,tok,λz=>(nomatch z),λ_=> ?_⟩;dsimp only [zP];walk_at "vc";refine (ae (d:= .iV ns) (xs:=ns.map Dt.int) rfl ?_:fb [Dt.iV ns] _ _);dsimp only [KW,C2];obtain ⟨X6,Yp⟩:=Sb ((List.map Dt.int ns).length:Int);generalize (if (if ((List.map Dt.int ns).length:Int) > 17 then ((List.map Dt.int ns).length:Int) else 17) < 20 then (if ((List.map Dt.int ns).length:Int) > 17 then ((List.map Dt.int ns).length:Int) else 17) else 20)=tp at *
  refine ⟨⟨by decide,by decide,by omega,by omega⟩, ?_⟩;refine cq (λzs ρ' M'=>∃(i m:Nat) (E2:Ms) (o9 Ut WE:Option Dt),zs=dc (i:Int) m/\i+m<=20/\M'=M++[dP p]++E2/\ρ'=[some (.iV ns),some (Υ share),some (.lst (rows.map aN)),some (av Cm share rows),some (.int (n % 2)),some (.str hand),some (.str ξ),some (.loc M.length),some (.lst (tb.map Υ)),o9,Ut,WE]) (λy zs ρ' M' hj fe=> ?_) (λρ' M' hj=> ?_) _ _ _ ⟨16,(tp - 16).toNat,E1,none,none,none,rfl,by omega,rfl,rfl⟩
  ·obtain ⟨i,m,E2,o9,Ut,WE,ex,im,rfl,rfl⟩:=hj;obtain ⟨m',rfl,rfl,rfl⟩:=b8 ex;walk_at "vc";dsimp only [HI];walk_at "vc";have at0:(M++[dP p]++E2)[M.length]? =some (MO.cW (kP p) (vP p)):=dq aq;refine ⟨M.length,_,_,rfl,at0, ?_⟩;have i0:(0:Int)<=(i:Int):=by omega
   have Vi:(i:Int)<=200:=by omega
   refine ⟨ns,(i:Int),rfl,nl,i0,Vi,λnk hk=> ?_⟩;refine ⟨rows,ξ,nk,rfl,hk,oE,h2,dr,λpr o'=> ?_⟩;refine ⟨Sum.inr hand,Sum.inr ξ,rfl,rfl,λz=>iT (Sum.inr.inj z), ?_⟩;have Z':∀(E3:Ms) (u v:Option Dt),_:=λE3 u v=>fe _ _ ⟨i+1,m',E2++E3,some (.int (i:Int)),u,v,by rw [abL];rfl,by omega,by rw [<-abf],rfl⟩;clear fe;generalize M++[dP p]++E2=S at *
   have eS:S++[MO.cW (kP p) (vP p)]++[dP pr]++[.cW [Sum.inr hand,Sum.inr ξ] [.loc S.length, .loc (S++[MO.cW (kP p) (vP p)]).length]]=S++[MO.cW (kP p) (vP p),dP pr, .cW [Sum.inr hand,Sum.inr ξ] [.loc S.length, .loc (S++[MO.cW (kP p) (vP p)]).length]]:=by simp
   obtain ⟨k1,k2,p1,p2,g1,g2,a1,a2,o1,o2,e1,e2⟩:=K_ (S:=S++[MO.cW (kP p) (vP p)]++[dP pr]++[.cW [Sum.inr hand,Sum.inr ξ] [.loc S.length, .loc (S++[MO.cW (kP p) (vP p)]).length]]) dX (dq (dq aq)) (dq aq) o o';dsimp only [Ir];walk_at "vc";refine ⟨_,_,_,Sum.inr "one", .loc k1,rfl,aq,rfl,g1, ?_⟩;refine ⟨_,_,_,Sum.inr "other", .loc k2,rfl,aq,rfl,g2, ?_⟩;have Yo:=HB o1 o2;have dk:=Lo Yo;refine ⟨share,rows,k1,k2,p1,p2,_,_,rfl,a1,a2,fw,mv,sW,Yo,λto Jb m1 m2=> ?_⟩;have Qb:=Jb.ok fw dk b1;rw [eS];clear a1 a2 eS g1 g2;generalize [MO.cW (kP p) (vP p),dP pr, .cW [Sum.inr hand,Sum.inr ξ] [.loc S.length, .loc (S++[MO.cW (kP p) (vP p)]).length]]=T;have XQ:(S++T++[m1,m2, .lst (to.map Υ)])[(S++T).length+2]? =some (MO.lst (to.map Υ)):=by rw [aaq (by omega),abk];rfl
   refine (ae (xs:=rows.map aN) rfl ?_:fb [Dt.lst (rows.map aN)] _ _);rw [aae];refine ⟨.loc _,to,rows.length,_,rfl,yS XQ,Qb,λz=>(nomatch z),λ_=> ?_⟩;have bn:gJ (n % 2):=bg (k:=2) (by omega);refine ⟨⟨bg (k:=2) (by decide),bn⟩, ?_⟩;dsimp only [vm];rw [es];refine ⟨.lst (tb.map Υ), .loc _,tb,to,rows.length,sg,_,_,rfl,xx,yS XQ,tok,Qb,oE,hs,OX fw b1 dX o' e1 e2 fa wt be dk Jb hs sr,λz=>(nomatch z),λ_=> ?_⟩;have:=Z' (T++[m1,m2, .lst (to.map Υ)]) (some (Dt.loc (List.length (S++[MO.cW (kP p) (vP p)]++[dP pr])))) (some (Dt.loc (List.length (S++T)+2)));rw [<-abf] at this;exact this
  ·obtain ⟨i,m,E2,o9,Ut,WE,ex,im,rfl,rfl⟩:=hj;exact hq _
structure FT(K:PySem.W.Frag)(f:Addr)(x:Str)(st:Stmt):Prop where
 a:PySem.W.nsIn K mainGlobals x=some (some (.ref f))
 e:∃fd,cH K x x st f fd
structure FM(K:PySem.W.Frag)(C f:Addr)(m x:Str)(st:Stmt):Prop where
 a:PySem.W.findIn K (.ref C) m=some (some (.ref f))
 i:PySem.W.isFn K (.ref f)=true
 e:∃fd,cH K m x st f fd
section
variable{K:PySem.W.Frag}{C f:Addr}{m x:Str}{st:Stmt}{oc:Value}{od an:Option Addr}{Hf:Array (Option Value)}{kV doc pm aV ct:Value}
theorem FT.of(a:PySem.W.nsIn K mainGlobals x=some (some (.ref f)))(l:K.lookup f=some ⟨oc,od, .func (PySem.W.fnOf x x (j9 st) (gO st) (θ st) .none kV doc pm an aV ct),Hf⟩)(c:PySem.W.codeIn K aV x=true)(k:PySem.W.keepIn K (.ref f)=true):FT K f x st:=⟨a,_,Gz l c k⟩
theorem FM.of(a:PySem.W.findIn K (.ref C) m=some (some (.ref f)))(i:PySem.W.isFn K (.ref f)=true)(l:K.lookup f=some ⟨oc,od, .func (PySem.W.fnOf m x (j9 st) (gO st) (θ st) .none kV doc pm an aV ct),Hf⟩)(c:PySem.W.codeIn K aV x=true)(k:PySem.W.keepIn K (.ref f)=true):FM K C f m x st:=⟨a,i,_,Gz l c k⟩
end
theorem fm{P:List Value->Prop}(h:∀a0:Value,P [a0]):∀us:List Value,us.length=1->P us
 | [a0],_=>h a0
theorem cj{P:List Value->Prop}(h:∀a0 a1:Value,P [a0,a1]):∀us:List Value,us.length=2->P us
 | [a0,a1],_=>h a0 a1
theorem gC{P:List Value->Prop}(h:∀a0 a1 a2:Value,P [a0,a1,a2]):∀us:List Value,us.length=3->P us
 | [a0,a1,a2],_=>h a0 a1 a2
theorem yb{P:List Value->Prop}(h:∀a0 a1 a2 a3:Value,P [a0,a1,a2,a3]):∀us:List Value,us.length=4->P us
 | [a0,a1,a2,a3],_=>h a0 a1 a2 a3
theorem Sy{P:List Value->Prop}(h:∀a0 a1 a2 a3 a4:Value,P [a0,a1,a2,a3,a4]):∀us:List Value,us.length=5->P us
 | [a0,a1,a2,a3,a4],_=>h a0 a1 a2 a3 a4
theorem uq{K:PySem.W.Frag}(h:PySem.W.subIn K (.type "int") (.type "bool")=some false):PySem.W.kitOne K (.type "int") (.type "bool")=some false:=by unfold PySem.W.kitOne PySem.W.kitCls;rw [if_neg (by decide+kernel)];show (if PySem.W.kitMeta "bool"=true then _ else _)=_;rw [if_pos (by decide+kernel)];exact h
theorem yB{K:PySem.W.Frag}(h:PySem.W.subIn K (.type "int") (.type "str")=some false):PySem.W.kitOne K (.type "int") (.type "str")=some false:=by unfold PySem.W.kitOne PySem.W.kitCls;rw [if_neg (by decide+kernel)];show (if PySem.W.kitMeta "str"=true then _ else _)=_;rw [if_pos (by decide+kernel)];exact h
theorem sy{K:PySem.W.Frag}(h:PySem.W.subIn K (.type "tuple") (.type "str")=some false):PySem.W.kitOne K (.type "tuple") (.type "str")=some false:=by unfold PySem.W.kitOne PySem.W.kitCls;rw [if_neg (by decide+kernel)];show (if PySem.W.kitMeta "str"=true then _ else _)=_;rw [if_pos (by decide+kernel)];exact h
theorem rV{K:PySem.W.Frag}(h:PySem.W.subIn K (.type "tuple") (.type "int")=some false):PySem.W.kitOne K (.type "tuple") (.type "int")=some false:=by unfold PySem.W.kitOne PySem.W.kitCls;rw [if_neg (by decide+kernel)];show (if PySem.W.kitMeta "int"=true then _ else _)=_;rw [if_pos (by decide+kernel)];exact h
theorem wj{K:PySem.W.Frag}(h:PySem.W.subIn K (.type "list") (.type "str")=some false):PySem.W.kitOne K (.type "list") (.type "str")=some false:=by unfold PySem.W.kitOne PySem.W.kitCls;rw [if_neg (by decide+kernel)];show (if PySem.W.kitMeta "str"=true then _ else _)=_;rw [if_pos (by decide+kernel)];exact h
theorem uT{K:PySem.W.Frag}(h:PySem.W.subIn K (.type "list") (.type "int")=some false):PySem.W.kitOne K (.type "list") (.type "int")=some false:=by unfold PySem.W.kitOne PySem.W.kitCls;rw [if_neg (by decide+kernel)];show (if PySem.W.kitMeta "int"=true then _ else _)=_;rw [if_pos (by decide+kernel)];exact h
theorem qf{K:PySem.W.Frag}(h:PySem.W.subIn K (.type "tuple") (.type "list")=some false):PySem.W.kitOne K (.type "tuple") (.type "list")=some false:=by unfold PySem.W.kitOne PySem.W.kitCls;rw [if_neg (by decide+kernel)];show (if PySem.W.kitMeta "list"=true then _ else _)=_;rw [if_pos (by decide+kernel)];exact h
theorem qu{K:PySem.W.Frag}(h:PySem.W.subIn K (.type "list") (.type "tuple")=some false):PySem.W.kitOne K (.type "list") (.type "tuple")=some false:=by unfold PySem.W.kitOne PySem.W.kitCls;rw [if_neg (by decide+kernel)];show (if PySem.W.kitMeta "tuple"=true then _ else _)=_;rw [if_pos (by decide+kernel)];exact h
theorem Na{K:PySem.W.Frag}{a:Addr}{t1 t2 t3:Tok}(h1:PySem.W.nsIn K a "one"=some (some (.str "other" t1)))(h2:PySem.W.nsIn K a "other"=some (some (.str "one" t2)))(h3:PySem.W.nsIn K a "chance"=some (some (.str "chance" t3))){z y:Str}(h:([("one","other"),("other","one"),("chance","chance")]:List (Str×Str)).lookup z=some y):∃tk,PySem.W.nsIn K a z=some (some (.str y tk)):=by
 rw [abd] at h;split at h
 ·rename_i e;cases beq_iff_eq.mp e;cases h;exact ⟨_,h1⟩
 rw [abd] at h;split at h
 ·rename_i e;cases beq_iff_eq.mp e;cases h;exact ⟨_,h2⟩
 rw [abd] at h;split at h
 ·rename_i e;cases beq_iff_eq.mp e;cases h;exact ⟨_,h3⟩
 cases h
open PySem.W in
theorem all_mk{l:OpenLaw}{w:World}{K:Frag}{h:Heap}{mg:Str->Option Value}{fa Cm CA Pq f1 f2 f3 f4 f5 f6 f7 f8 f9 f10 f11 f12 Zg f14 Zv f16 f17 f18 f19 YM f21 f22 f23 f24 f25 f26 Zh f28 f29 f30 Z2 f32 f33 f34 f35 f36 f37 f38 f39 f40 Zb f42 f43 ZJ f45 f46 f47 f48 Y8 f50 f51 Zc f53 f54 f55 f56 f57 YT YD Zo f61 f62:Addr}(X:K.In h)(G:h.Ns mainGlobals mg)(YJ:mg "law"=some (.ref fa))
  {vK sE se kE:Tok}
  (ur:nsIn K mainGlobals "MOST_DOORS"=some (some (.int (6) vK)))
  (sj:nsIn K mainGlobals "MOST_BOTTOM"=some (some (.int (1000000) sE)))
  (r8:nsIn K mainGlobals "MOST_PLACES"=some (some (.int (12) se)))
  (kz:nsIn K mainGlobals "MOST_SHARE_BOTTOM"=some (some (.int (1000) kE)))
  (Ke:nsIn K mainGlobals "Floor"=some (some (.ref Cm))) (eZ:plainGet K Cm Str.empty=true) (eU:hasDictIn K Cm=true) (eR:plainOver K Cm=true) (eJ:findIn K (.ref Cm) "__setattr__"=some (some (.builtin "object.__setattr__"))) (Jt:makesIn K Cm=true) (J1:keepIn K (.ref Cm)=true)
  (v8:findIn K (.ref Cm) "kept_rows"=some none)
  (rZ:findIn K (.ref Cm) "kept_share"=some none)
  {Fh E6:Tok} {Hr:Option Addr} {Hb:Array (Option Value)} {Iw:Nat} (Fj:nsIn K mainGlobals "HANDS"=some (some (.ref CA))) (Hn:K.lookup CA=some ⟨.type "tuple",Hr, .seq #[(.str "one" Fh),(.str "other" E6)] Iw,Hb⟩)
  (xH:subIn K (.type "int") (.type "bool")=some false)
  (AQ:subIn K (.type "int") (.type "str")=some false)
  (vM:subIn K (.type "tuple") (.type "str")=some false)
  (vL:subIn K (.type "tuple") (.type "int")=some false)
  (y6:subIn K (.type "list") (.type "str")=some false)
  (yx:subIn K (.type "list") (.type "int")=some false)
  (sF:subIn K (.type "tuple") (.type "list")=some false)
  (r_:subIn K (.type "list") (.type "tuple")=some false)
  (t1:FT K f1 "_law_at" zk)
  (t2:FT K f2 "_law_by_digits" iO)
  (t3:FT K f3 "_law_lowest" kY)
  (t4:FT K f4 "_law_share_of" jT)
  (t5:FT K f5 "_law_pay" uQ)
  (t6:FT K f6 "_law_stream" lF)
  (t7:FT K f7 "_law_things" ly)
  (t8:FT K f8 "_law_doors" iC)
  (t9:FT K f9 "_law_floor" nA)
  (ZK:FT K f10 "fits_share" k_)
  (Zi:FT K f11 "fits_pay" qb)
  (t12:FT K f12 "fits_door" nU)
  (YN:FT K Zg "fits_doors" fR)
  (t14:FT K f14 "common_divisor" gB)
  (ZG:FT K Zv "common_bottom" hX)
  (t16:FT K f16 "fits_chances" bV)
  (X6:FT K f17 "fits_row" jH)
  (t18:FT K f18 "copied_row" lL)
  (t19:FM K Cm f19 "__init__" "Floor.__init__" fS)
  (Yp:FT K YM "_law_copy" j2)
  (t21:FT K f21 "_law_plan" rK)
  (t22:FM K Cm f22 "size" "Floor.size" lV)
  (ZW:FM K Cm f23 "kind" "Floor.kind" lC)
  (t24:FM K Cm f24 "doors" "Floor.doors" jI)
  (t25:FT K f25 "has_door" pV)
  (ZX:FT K f26 "doors_of" pH)
  (Zk:FT K Zh "places_of" iB)
  (t28:FT K f28 "first_plan" lR)
  (t29:FT K f29 "with_weights" iG)
  (YC:FT K f30 "number_of_head" g6)
  (YZ:FT K Z2 "moved_ahead" jr)
  (t32:FT K f32 "cleared_line" dQ)
  (t33:FT K f33 "cleared" fX)
  (t34:FT K f34 "fraction" nD)
  (t35:FT K f35 "quotients" lO)
  (Yv:FT K f36 "answer_of" n6)
  (t37:FT K f37 "minus" zO)
  (Y1:FT K f38 "times" AW)
  (ZM:FT K f39 "whole_row" h_)
  (Z4:FT K f40 "led_row" vC)
  (t41:FM K Cm Zb "pay" "Floor.pay" m8)
  (t42:FM K Cm f42 "share" "Floor.share" jK)
  (t43:FT K f43 "ways_from" oa)
  (Zl:FT K ZJ "plus" Io)
  (t45:FT K f45 "weighed" pJ)
  (t46:FT K f46 "row_of" lE)
  (t47:FT K f47 "worths_by" iy)
  (t48:FT K f48 "worths_against" gs)
  (Y2:FM K Cm Y8 "shown" "Floor.shown" jF)
  (Z0:FM K Cm f50 "all_shown" "Floor.all_shown" cD)
  (Y0:FT K f51 "under" Bg)
  (t52:FT K Zc "greatest" mX)
  (t53:FT K f53 "least" zM)
  (t54:FM K Cm f54 "look" "Floor.look" gq)
  (t55:FM K Cm f55 "best" "Floor.best" gu)
  (t56:FT K f56 "better_doors" iJ)
  (ZC:FT K f57 "against" rA)
  (t58:FT K YT "_law_whole" nq)
  (t59:FT K YD "_law_table" mU)
  (Yu:FT K Zo "worths_of" nZ)
  (t61:FT K f61 "_law_no_better" i7)
  (YO:FT K f62 "law" NH)
  (Pz:nsIn K mainGlobals "len"=some none)
  (Sd:nsIn K mainGlobals "abs"=some none)
  (wz:nsIn K mainGlobals "isinstance"=some none)
  (QV:nsIn K mainGlobals "int"=some none)
  (MT:nsIn K mainGlobals "bool"=some none)
  (QS:nsIn K mainGlobals "str"=some none)
  (KJ:nsIn K mainGlobals "tuple"=some none)
  (NA:nsIn K mainGlobals "list"=some none)
  (J_:nsIn K mainGlobals "range"=some none)
  (yH:nsIn K mainGlobals "enumerate"=some none)
  (RP:nsIn K mainGlobals "any"=some none)
  (Qa:nsIn K mainGlobals "all"=some none)
  (P6:nsIn K mainGlobals "sum"=some none)
  (QI:nsIn K mainGlobals "zip"=some none)
  (Oy:nsIn K mainGlobals "dict"=some none)
  (RL:nsIn K mainGlobals "min"=some none)
  (Rk:nsIn K mainGlobals "max"=some none)
  {RR:Array DictEntry} {nTK:Nat} {UW WJ VI:Tok}
  (WI:nsIn K mainGlobals "TURNED_KINDS"=some (some (.ref Pq)))
  (WB:K.lookup Pq=some ⟨.type "dict",none, .dict RR nTK, #[]⟩)
  (Ts:KeysLit w.params RR.toList)
  (Ul:nsIn K Pq "one"=some (some (.str "other" UW)))
  (VS:nsIn K Pq "other"=some (some (.str "one" WJ)))
  (VA:nsIn K Pq "chance"=some (some (.str "chance" VI)))
  :∃fd:FuncData,(∀(s:Shared) (v:Value),BindsTo s fd ⟨[v],[]⟩ [("_law_script",v)])/\∀base:Heap,K.In base->base.Ns mainGlobals mg->af l.prog w K mg base SM 10 fa fd ["_law_script"] (xt K):=by
 obtain ⟨a1,_,F1⟩:=t1;obtain ⟨a2,_,F2⟩:=t2;obtain ⟨a3,_,F3⟩:=t3;obtain ⟨a4,_,F4⟩:=t4;obtain ⟨a5,_,F5⟩:=t5;obtain ⟨a6,_,F6⟩:=t6;obtain ⟨a7,_,F7⟩:=t7;obtain ⟨a8,_,F8⟩:=t8;obtain ⟨a9,_,F9⟩:=t9;obtain ⟨QA,_,U8⟩:=ZK;obtain ⟨Zj,_,WH⟩:=Zi;obtain ⟨Z5,_,TM⟩:=t12;obtain ⟨a13,_,WT⟩:=YN;obtain ⟨a14,_,UD⟩:=t14;obtain ⟨Ys,_,Vt⟩:=ZG;obtain ⟨a16,_,Wj⟩:=t16;obtain ⟨Z7,_,Tu⟩:=X6;obtain ⟨a18,_,Tt⟩:=t18;obtain ⟨a19,ZU,_,Xz⟩:=t19;obtain ⟨YW,_,VU⟩:=Yp;obtain ⟨a21,_,WO⟩:=t21;obtain ⟨YY,i22,_,Wm⟩:=t22;obtain ⟨a23,Zq,_,WY⟩:=ZW;obtain ⟨a24,YU,_,WG⟩:=t24;obtain ⟨a25,_,TV⟩:=t25;obtain ⟨a26,_,VE⟩:=ZX;obtain ⟨a27,_,Tp⟩:=Zk;obtain ⟨a28,_,Up⟩:=t28;obtain ⟨a29,_,TN⟩:=t29;obtain ⟨a30,_,Wc⟩:=YC;obtain ⟨a31,_,Vo⟩:=YZ;obtain ⟨YL,_,UO⟩:=t32;obtain ⟨a33,_,Wq⟩:=t33;obtain ⟨a34,_,WK⟩:=t34;obtain ⟨a35,_,UC⟩:=t35;obtain ⟨a36,_,WS⟩:=Yv;obtain ⟨YS,_,TY⟩:=t37;obtain ⟨a38,_,TZ⟩:=Y1;obtain ⟨Zs,_,UX⟩:=ZM;obtain ⟨Ze,_,W3⟩:=Z4;obtain ⟨a41,YG,_,VH⟩:=t41;obtain ⟨YF,Yt,_,UH⟩:=t42;obtain ⟨a43,_,T1⟩:=t43;obtain ⟨ZF,_,Ws⟩:=Zl;obtain ⟨a45,_,WL⟩:=t45;obtain ⟨a46,_,VZ⟩:=t46;obtain ⟨ZD,_,U5⟩:=t47;obtain ⟨a48,_,TU⟩:=t48;obtain ⟨a49,YH,_,Ve⟩:=Y2;obtain ⟨Za,ZP,_,UP⟩:=Z0;obtain ⟨a51,_,Wa⟩:=Y0;obtain ⟨Zz,_,TX⟩:=t52;obtain ⟨a53,_,Wh⟩:=t53;obtain ⟨ZI,i54,_,Vh⟩:=t54;obtain ⟨a55,i55,_,V1⟩:=t55;obtain ⟨a56,_,Vb⟩:=t56;obtain ⟨Z8,_,Vk⟩:=ZC;obtain ⟨a58,_,VN⟩:=t58;obtain ⟨Z3,_,U7⟩:=t59;obtain ⟨a60,_,VC⟩:=Yu;obtain ⟨Zw,_,Vl⟩:=t61;obtain ⟨a62,dL,Xf⟩:=YO;have e:=YJ.symm.trans (mg_of X G a62);cases e;have vy:=mg_of X G ur;have sD:=mg_of X G sj;have sG:=mg_of X G r8;have kB:=mg_of X G kz;have aZ:=mg_none_of X G Pz;have pZ:=mg_none_of X G Sd;have bR:=mg_none_of X G wz;have tq:=mg_none_of X G QV;have uA:=mg_none_of X G MT;have HS:=mg_none_of X G QS;have o_:=mg_none_of X G KJ;have lU:=mg_none_of X G NA;have bG:=mg_none_of X G J_;have dz:=mg_none_of X G yH;have Cu:=mg_none_of X G RP;have Cj:=mg_none_of X G Qa;have yf:=mg_none_of X G P6;have sJ:=mg_none_of X G QI;have n8:=mg_none_of X G Oy;have x6:=mg_none_of X G RL;have Bm:=mg_none_of X G Rk;have E:Ev K mg w Cm:={aZ:=aZ,pZ:=pZ,bR:=bR,tq:=tq,uA:=uA,HS:=HS,o_:=o_,lU:=lU,bG:=bG,dz:=dz,Cu:=Cu,Cj:=Cj,yf:=yf,sJ:=sJ,n8:=n8,x6:=x6,Bm:=Bm,ib:=uq xH,kis:=yB AQ,Y':=sy vM,kti:=rV vL,kls:=wj y6,kli:=uT yx,ktl:=qf sF,klt:=qu r_,cQ:=⟨eZ,eU,eR,eJ⟩,bP:=v8,eN:=rZ,vU:=⟨_,_,_,_,mg_of X G Fj,Hn,rfl,rfl,(by show 2<=sizeLine;decide), .cons ⟨_,rfl⟩ (.cons ⟨_,rfl⟩ .nil)⟩,kM:=⟨_,_,_,mg_of X G WI,WB,Ts,λz y h=>Na Ul VS VA h⟩,oF:=⟨_,vy⟩,i4:=⟨_,sD⟩,mF:=⟨_,sG⟩,fY:=⟨_,kB⟩};refine ⟨dL,λs v=>by obtain ⟨_,_,_,_,_,_,_,_,_,rfl,_⟩:=Xf.ex;exact .of_eq rfl,λbase _ _=> ?_⟩;have mc:= @aj.mk l.prog w K mg base;have eL:=mc (Hl F1 E) (F1.binds λ_ _ _ _ _ _=>cj λ_ _=>rfl) (mg_of X G a1) F1.kp;have ai:=mc (qz F2 E) (F2.binds λ_ _ _ _ _ _=>fm λ_=>rfl) (mg_of X G a2) F2.kp;have aF:=mc (vO F3 E) (F3.binds λ_ _ _ _ _ _=>cj λ_ _=>rfl) (mg_of X G a3) F3.kp;have i5:=mc (sC F4 E ai aF) (F4.binds λ_ _ _ _ _ _=>cj λ_ _=>rfl) (mg_of X G a4) F4.kp;have ip:=mc (C9 F5 E aF) (F5.binds λ_ _ _ _ _ _=>cj λ_ _=>rfl) (mg_of X G a5) F5.kp;have dH:=mc (vx F6 E) (F6.binds λ_ _ _ _ _ _=>cj λ_ _=>rfl) (mg_of X G a6) F6.kp;have gL:=mc (wg F7 E ai dH) (F7.binds λ_ _ _ _ _ _=>yb λ_ _ _ _=>rfl) (mg_of X G a7) F7.kp;have k7:=mc (yd F8 E ip aF) (F8.binds λ_ _ _ _ _ _=>yb λ_ _ _ _=>rfl) (mg_of X G a8) F8.kp;have lu:=mc (xY F9 E eL ai i5 ip gL k7) (F9.binds λ_ _ _ _ _ _=>fm λ_=>rfl) (mg_of X G a9) F9.kp;have jZ:=mc (ve U8 E) (U8.binds λ_ _ _ _ _ _=>fm λ_=>rfl) (mg_of X G QA) U8.kp;have fN:=mc (Bf WH E) (WH.binds λ_ _ _ _ _ _=>fm λ_=>rfl) (mg_of X G Zj) WH.kp;have kO:=mc (xE TM E fN) (TM.binds λ_ _ _ _ _ _=>cj λ_ _=>rfl) (mg_of X G Z5) TM.kp;have gS:=mc (vD WT E kO) (WT.binds λ_ _ _ _ _ _=>cj λ_ _=>rfl) (mg_of X G a13) WT.kp;have bq:=mc (nc UD E) (UD.binds λ_ _ _ _ _ _=>cj λ_ _=>rfl) (mg_of X G a14) UD.kp;have bI:=mc (oU Vt E bq) (Vt.binds λ_ _ _ _ _ _=>fm λ_=>rfl) (mg_of X G Ys) Vt.kp;have hI:=mc (qI Wj E bI) (Wj.binds λ_ _ _ _ _ _=>fm λ_=>rfl) (mg_of X G a16) Wj.kp;have nY:=mc (zV Tu E fN gS hI) (Tu.binds λ_ _ _ _ _ _=>cj λ_ _=>rfl) (mg_of X G Z7) Tu.kp;have jX:=mc (wD Tt E) (Tt.binds λ_ _ _ _ _ _=>fm λ_=>rfl) (mg_of X G a18) Tt.kp;have jO:Mf l.prog w K mg base _ "Floor" Cm _ _ _ _:=⟨vo Xz E jZ nY jX,(Xz.binds λ_ _ _ _ _ _=>gC λ_ _ _=>rfl),⟨Jt,a19,ZU,J1⟩,mg_of X G Ke⟩;have nj:=mc (Bh VU E) (VU.binds λ_ _ _ _ _ _=>fm λ_=>rfl) (mg_of X G YW) VU.kp;have j8:=mc (AS WO E ai dH) (WO.binds λ_ _ _ _ _ _=>gC λ_ _ _=>rfl) (mg_of X G a21) WO.kp;have aJ:cE l.prog w K mg base _ Cm "size" _ _ _ _:=⟨we Wm E,(Wm.binds λ_ _ _ _ _ _=>fm λ_=>rfl),⟨eZ,eU,eR,eJ⟩,⟨YY,i22,Wm.kp⟩⟩;have Μ:cE l.prog w K mg base _ Cm "kind" _ _ _ _:=⟨ug WY E,(WY.binds λ_ _ _ _ _ _=>cj λ_ _=>rfl),⟨eZ,eU,eR,eJ⟩,⟨a23,Zq,WY.kp⟩⟩;have az:cE l.prog w K mg base _ Cm "doors" _ _ _ _:=⟨rR WG E Μ,(WG.binds λ_ _ _ _ _ _=>cj λ_ _=>rfl),⟨eZ,eU,eR,eJ⟩,⟨a24,YU,WG.kp⟩⟩;have nO:=mc (zZ TV E az) (TV.binds λ_ _ _ _ _ _=>gC λ_ _ _=>rfl) (mg_of X G a25) TV.kp;have fJ:=mc (Ay VE E aJ Μ nO) (VE.binds λ_ _ _ _ _ _=>cj λ_ _=>rfl) (mg_of X G a26) VE.kp;have kS:=mc (yV Tp E aJ Μ) (Tp.binds λ_ _ _ _ _ _=>cj λ_ _=>rfl) (mg_of X G a27) Tp.kp;have jz:=mc (vi Up E kS) (Up.binds λ_ _ _ _ _ _=>cj λ_ _=>rfl) (mg_of X G a28) Up.kp;have g8:=mc (qc TN E) (TN.binds λ_ _ _ _ _ _=>fm λ_=>rfl) (mg_of X G a29) TN.kp;have gx:=mc (oY Wc E) (Wc.binds λ_ _ _ _ _ _=>gC λ_ _ _=>rfl) (mg_of X G a30) Wc.kp;have i8:=mc (rX Vo E) (Vo.binds λ_ _ _ _ _ _=>gC λ_ _ _=>rfl) (mg_of X G a31) Vo.kp;have eV:=mc (qp UO E) (UO.binds λ_ _ _ _ _ _=>yb λ_ _ _ _=>rfl) (mg_of X G YL) UO.kp;have nv:=mc (Ad Wq E g8 gx i8 eV) (Wq.binds λ_ _ _ _ _ _=>cj λ_ _=>rfl) (mg_of X G a33) Wq.kp;have aR:=mc (w6 WK E bq) (WK.binds λ_ _ _ _ _ _=>cj λ_ _=>rfl) (mg_of X G a34) WK.kp;have jC:=mc (uk UC E aR) (UC.binds λ_ _ _ _ _ _=>yb λ_ _ _ _=>rfl) (mg_of X G a35) UC.kp;have lG:=mc (y8 WS E nv jC) (WS.binds λ_ _ _ _ _ _=>fm λ_=>rfl) (mg_of X G a36) WS.kp;have vI:=mc (Hy TY E aR) (TY.binds λ_ _ _ _ _ _=>cj λ_ _=>rfl) (mg_of X G YS) TY.kp;have fq:=mc (Hc TZ E aR) (TZ.binds λ_ _ _ _ _ _=>cj λ_ _=>rfl) (mg_of X G a38) TZ.kp;have lW:=mc (xX UX E bI) (UX.binds λ_ _ _ _ _ _=>fm λ_=>rfl) (mg_of X G Zs) UX.kp;have mD:=mc (Di W3 E aJ vI fq lW) (W3.binds λ_ _ _ _ _ _=>Sy λ_ _ _ _ _=>rfl) (mg_of X G Ze) W3.kp;have eF:cE l.prog w K mg base _ Cm "pay" _ _ _ _:=⟨yh VH E Μ,(VH.binds λ_ _ _ _ _ _=>cj λ_ _=>rfl),⟨eZ,eU,eR,eJ⟩,⟨a41,YG,VH.kp⟩⟩;have fC:cE l.prog w K mg base _ Cm "share" _ _ _ _:=⟨sA UH E,(UH.binds λ_ _ _ _ _ _=>fm λ_=>rfl),⟨eZ,eU,eR,eJ⟩,⟨YF,Yt,UH.kp⟩⟩;have kZ:=mc (yL T1 E az Μ) (T1.binds λ_ _ _ _ _ _=>gC λ_ _ _=>rfl) (mg_of X G a43) T1.kp;have og:=mc (La Ws E aR) (Ws.binds λ_ _ _ _ _ _=>cj λ_ _=>rfl) (mg_of X G ZF) Ws.kp;have fL:=mc (A_ WL E og fq) (WL.binds λ_ _ _ _ _ _=>cj λ_ _=>rfl) (mg_of X G a45) WL.kp;have uW:=mc (HL VZ E Μ mD eF fC kZ fL) (VZ.binds λ_ _ _ _ _ _=>gC λ_ _ _=>rfl) (mg_of X G a46) VZ.kp;have et:=mc (y4 U5 E lG aJ uW) (U5.binds λ_ _ _ _ _ _=>cj λ_ _=>rfl) (mg_of X G ZD) U5.kp;have cR:=mc (nM TU E et) (TU.binds λ_ _ _ _ _ _=>gC λ_ _ _=>rfl) (mg_of X G a48) TU.kp;have iX:cE l.prog w K mg base _ Cm "shown" _ _ _ _:=⟨rP Ve E og fq,(Ve.binds λ_ _ _ _ _ _=>yb λ_ _ _ _=>rfl),⟨eZ,eU,eR,eJ⟩,⟨a49,YH,Ve.kp⟩⟩;have aK:cE l.prog w K mg base _ Cm "all_shown" _ _ _ _:=⟨ny UP E az iX,(UP.binds λ_ _ _ _ _ _=>gC λ_ _ _=>rfl),⟨eZ,eU,eR,eJ⟩,⟨Za,ZP,UP.kp⟩⟩;have kg:=mc (Hh Wa E) (Wa.binds λ_ _ _ _ _ _=>cj λ_ _=>rfl) (mg_of X G a51) Wa.kp;have k9:=mc (xK TX E kg) (TX.binds λ_ _ _ _ _ _=>fm λ_=>rfl) (mg_of X G Zz) TX.kp;have uN:=mc (Fq Wh E kg) (Wh.binds λ_ _ _ _ _ _=>fm λ_=>rfl) (mg_of X G a53) Wh.kp;have jU:cE l.prog w K mg base _ Cm "look" _ _ _ _:=⟨wu Vh E Μ eF fL aK az k9 uN,(Vh.binds λ_ _ _ _ _ _=>gC λ_ _ _=>rfl),⟨eZ,eU,eR,eJ⟩,⟨ZI,i54,Vh.kp⟩⟩;have jP:cE l.prog w K mg base _ Cm "best" _ _ _ _:=⟨vX V1 E Μ jU aK,(V1.binds λ_ _ _ _ _ _=>gC λ_ _ _=>rfl),⟨eZ,eU,eR,eJ⟩,⟨a55,i55,V1.kp⟩⟩;have eO:=mc (qG Vb E jP) (Vb.binds λ_ _ _ _ _ _=>gC λ_ _ _=>rfl) (mg_of X G a56) Vb.kp;have nN:=mc (Ar Vk E fJ jz cR eO) (Vk.binds λ_ _ _ _ _ _=>gC λ_ _ _=>rfl) (mg_of X G Z8) Vk.kp;have iW:=mc (xh VN E) (VN.binds λ_ _ _ _ _ _=>fm λ_=>rfl) (mg_of X G a58) VN.kp;have iI:=mc (yA U7 E iW aF) (U7.binds λ_ _ _ _ _ _=>cj λ_ _=>rfl) (mg_of X G Z3) U7.kp;have lj:=mc (xa VC E et fJ) (VC.binds λ_ _ _ _ _ _=>gC λ_ _ _=>rfl) (mg_of X G a60) VC.kp;have hW:=mc (qO Vl E) (Vl.binds λ_ _ _ _ _ _=>gC λ_ _ _=>rfl) (mg_of X G Zw) Vl.kp;exact Mc (Nu Xf E lu jO nj eL j8 nN iI lj hW)
theorem walk{l:PySem.W.OpenLaw}{q:Program}{loose:List Str}{XP:(Str->Option Value)->Heap->Prop}{YP:World->Heap->Prop}{d:DefRec}{K:Params->PySem.W.Frag}(hn:l.most=some 63)(QH:d.params.defaults=[])
  (hY:∀(w:World) (h:Heap),YP w h->(K w.params).In h)
  (F:∀(w:World) (mg:Str->Option Value) (fa:Addr) (h:Heap),(K w.params).In h->h.Ns mainGlobals mg->mg d.name=some (.ref fa)->
   ∃fd:FuncData,(∀(s:Shared) (u:Value),BindsTo s fd ⟨[u],[]⟩ [("_law_script",u)])/\∀base:Heap,(K w.params).In base->base.Ns mainGlobals mg->af l.prog w (K w.params) mg base SM 10 fa fd ["_law_script"] (xt (K w.params))):
  PySem.W.WalkO q loose XP YP l.row.toRowW d [] (λf vs=>PySem.call f vs):=
 L2.wG (n:=63) (k:=10) (x:="_law_script") (CX:=λ_=>SM) (sp:=λw=>xt (K w.params)) hn (by decide) QH ⟨rfl,by decide,by decide⟩ hY F (λ_ _ a ns hl _ hS=>⟨a,ns,rfl,hS,hl,λ_=>rfl⟩) λ_ _ _ _ _ z=>z
end
end Pg
open PySem PySem.W PyProof.Rows
set_option maxRecDepth 100000 in
set_option maxHeartbeats 0 in
theorem PySem.Challenge.cw_chanceduel_k24_whole_no_plan_does_better_holds : PySem.Challenge.rw_chanceduel_k24_whole_no_plan_does_better.Holds := by
 w_on;o_law
 refine holds_open (q:=Hd.q) (loose:=["TURNED_KINDS"]) (Xt:=Hd.Xt) (XP:=XL Hd.q [])
  (Yf:=Hd.H.obs) (Ya:=Hd.H.val) (YP:=Hd.H.says) Hd.left Hd.H.of Hd.H.keeps
  (λs e=>xl_of s (Bool.and_eq_true_iff.mp e).1) XL.keeps (by rfl) (by rfl) (by rfl)
  (λs e=>recFacts_of (Bool.and_eq_true_iff.mp e).2) (by rfl) (by assumption) (by decide+kernel)
  ⟨rfl,rfl,rfl,rfl,rfl,by decide+kernel⟩ ?hw ?hc
 (case hw=>w_witness2)
 refine Pg.walk (l:=PySem.Challenge.rw_chanceduel_k24_whole_no_plan_does_better) rfl rfl (fun w h Y=>PySem.W.kIn_of Y) ?F
 case F=>
  k_fill
  intro w mg fa h KX G K7
  refine' Pg.all_mk KX G K7 ?_ ?_ ?_ ?_ ?_ ?_ ?_ ?_ ?_ ?_ ?_ ?_ ?_ ?_ ?_ ?_ ?_ ?_ ?_ ?_ ?_ ?_ ?_ ?_ ?_ ?_ ?_ ?_ ?_ ?_ ?_ ?_ ?_ ?_ ?_ ?_ ?_ ?_ ?_ ?_ ?_ ?_ ?_ ?_ ?_ ?_ ?_ ?_ ?_ ?_ ?_ ?_ ?_ ?_ ?_ ?_ ?_ ?_ ?_ ?_ ?_ ?_ ?_ ?_ ?_ ?_ ?_ ?_ ?_ ?_ ?_ ?_ ?_ ?_ ?_ ?_ ?_ ?_ ?_ ?_ ?_ ?_ ?_ ?_ ?_ ?_ ?_ ?_ ?_ ?_ ?_ ?_ ?_ ?_ ?_ ?_ ?_ ?_ ?_ ?_ ?_ ?_ ?_ ?_ ?_ ?_ ?_ ?_
  all_goals try first | (refine' Pg.FT.of ?_ ?_ ?_ ?_ <;> try k_is) | (refine' Pg.FM.of ?_ ?_ ?_ ?_ ?_ <;> try k_is) | k_is | k_exc | kernel_rfl
  all_goals try exact ⟨⟨_,_,rfl,rfl⟩,⟨_,_,rfl,rfl⟩,⟨_,_,rfl,rfl⟩,trivial⟩
