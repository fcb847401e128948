import PyProof.Rows.All
import Wide.All
import OpenK.AllK
import Wide.FinOn
import Lean
import PyProof.EqAt
import PyProof.EqKinds
import PyProof.TupleCall
import PyProof.NeKinds
import PyProof.ZipIter
import PyProof.DictUpdate
import PyProof.FactsAll.dict_1
import PyProof.DictIter
import PyProof.DictWalks
import PySem.Challenge.RW_chanceduel_k46_a_known_way
set_option Elab.async false
set_option linter.all false
set_option maxRecDepth 100000
set_option maxHeartbeats 4000000
set_option compiler.extract_closed false
def aaa:=@List.getElem?_eq_getElem
def aab:=@List.getD_eq_getElem?_getD
def aad:=@List.mem_cons_of_mem
def aae:=@List.mem_cons_self
def aaf:=@List.getElem?_eq_some_iff
def aag:=@List.length_map
def aah:=@List.length_append
def aai:=@Nat.le_refl
def aaj:=@PySem.Heap.get?_push_of_some
def aak:=@List.getElem?_map
def aal:=@List.mem_of_getElem?
def aam:=@decide_eq_false
def aan:=@List.mem_map
def aao:=@Option.some.inj
def aap:=@List.getElem?_append_left
def aaq:=@List.getElem_mem
def aar:=@PySem.Heap.lt_size
def aas:=@of_decide_eq_true
def aat:=@Nat.lt_of_lt_of_le
def aau:=@Int.le_of_lt
def aav:=@List.mem_cons
def aaw:=@if_pos
def aax:=@List.getElem?_append_right
def aay:=@if_neg
def aaz:=@Bool.false_ne_true
def aaA:=@Nat.le_trans
def aaB:=@decide_eq_true
def aaC:=@Bool.and_eq_true
def aaD:=@List.mem_append_right
def aaE:=@absurd
def aaF:=@PySem.wpAny_bind
def aaG:=@List.mem_singleton
def aaH:=@List.append_assoc
def aaI:=@List.length_cons
def aaJ:=@Int.mul_le_mul_of_nonneg_left
def aaK:=@of_decide_eq_false
def aaL:=@Int.toNat_natCast
def aaM:=@List.size_toArray
def aaN:=@PySem.Heap.get?_push_size
def aaO:=@List.getElem?_range
def aaP:=@Nat.ne_of_lt
def aaQ:=@Rat.intCast_mul
def aaR:=@Int.eq_of_mul_eq_mul_left
def aaS:=@List.nil_append
def aaT:=@List.map_map
def aaU:=@congrArg
def aaV:=@List.map_append
def aaW:=@List.map_cons
def aaX:=@List.length_replicate
def aaY:=@List.append_nil
def aaZ:=@List.map_congr_left
def aa0:=@List.getElem?_set_self
def aa1:=@Int.mul_le_mul_of_nonneg_right
def aa2:=@List.all_eq_true
def aa3:=@List.length_set
def aa4:=@decide_eq_true_iff
def aa5:=@PySem.wpAny_pure
def aa6:=@Option.isSome_iff_exists
def aa7:=@Nat.lt_of_le_of_lt
def aa8:=@List.ext_getElem
def aa9:=@List.length_range
def aba:=@List.mem_range
def abb:=@List.getElem?_set_ne
def abc:=@Int.mul_comm
def abd:=@Int.natAbs_of_nonneg
def abe:=@List.replicate_succ
def abf:=@List.getElem_of_mem
def abg:=@List.take_of_length_le
def abh:=@Rat.intCast_lt_intCast
def abi:=@List.drop_eq_getElem_cons
def abj:=@Int.natAbs_mul
def abk:=@Int.mul_ediv_cancel_left
def abl:=@Int.pow_succ
def abm:=@List.mem_append
def abn:=@List.zip_cons_cons
def abo:=@Int.mul_pos
def abp:=@Int.lt_of_le_of_lt
def abq:=@Nat.lt_succ_self
def abr:=@Nat.le_add_right
def abt:=@List.range_succ_eq_map
def abu:=@List.flatten_cons
def abv:=@Nat.not_lt_zero
def abw:=@List.length_drop
def abx:=@Nat.pow_le_pow_right
def aby:=@Nat.lt_irrefl
def abz:=@Nat.add_sub_cancel_left
def abA:=@Int.mul_nonneg
def abB:=@List.foldl_cons
def abC:=@Int.emod_nonneg
def abD:=@Int.fmod_eq_emod_of_nonneg
def abE:=@List.exists_cons_of_ne_nil
def abF:=@List.lookup_cons
def abG:=@List.all_cons
def abH:=@Nat.sub_self
def abI:=@Int.emod_lt_of_pos
def abJ:=@List.set_append_left
def abK:=@List.nodup_cons
def abL:=@List.length_zip
def abM:=@Nat.lt_succ_of_lt
def abN:=@Int.ofNat_lt
def abO:=@List.getElem?_replicate
def abP:=@List.any_cons
def abQ:=@List.drop_zero
def abR:=@List.drop_eq_nil_of_le
def abS:=@Option.map_eq_some_iff
def abT:=@Bool.eq_iff_iff
def abU:=@Nat.min_eq_left
def abV:=@Int.pow_zero
def abW:=@Int.le_trans
def abY:=@Int.dvd_zero
def abZ:=@PySem.wpAny_mono
def ab0:=@List.nodup_append
def ab1:=@Int.le_of_dvd
def ab2:=@Array.getElem?_eq_some_iff
def ab3:=@Int.fdiv_eq_ediv_of_nonneg
def ab4:=@Int.pow_nonneg
def ab5:=@Int.mul_neg_of_pos_of_neg
def ab6:=@Int.le_of_mul_le_mul_left
def ab7:=@List.length_take
def ab8:=@Nat.zero_le
def ab9:=@Int.toNat_of_nonneg
def aca:=@beq_iff_eq
def acb:=@List.getElem?_take_of_lt
def acd:=@Nat.zero_add
def ace:=@List.mem_of_mem_eraseIdx
def acf:=@List.mem_filterMap
def acg:=@List.of_mem_zip
def ach:=@Nat.ne_of_gt
def aci:=@Int.ne_of_gt
namespace Hd
open PySem PySem.W PyProof.Rows
def at_(i:Nat):Stmt:=PySem.Challenge.pw_chanceduel_k46_a_known_way.main.body.getD i (.Pass ⟨0,0,0,0⟩)
def OL:Stmt->Nat->Stmt
  | .ClassDef _ _ _ b _ _ _ _ _ _ _,j=>b.getD j (.Pass ⟨0,0,0,0⟩)
  | s,_=>s
def dA:Stmt->Arguments
  | .FunctionDef _ a _ _ _ _ _ _ _ _=>a
  | _=>⟨[],[],none,[],[],none,[]⟩
def dB:Stmt->List Stmt
  | .FunctionDef _ _ b _ _ _ _ _ _ _=>b
  | _=>[]
def dS:Stmt->Scope
  | .FunctionDef _ _ _ _ _ _ c _ _ _=>c
  | _=>{kind:= .function,names:=[],isGenerator:=false,isCoroutine:=false}
abbrev row:=PySem.Challenge.rw_chanceduel_k46_a_known_way.row
abbrev en(P:Params)(x:Str)(t:Tok)(v:Value):DictEntry:=⟨PyData.keyHash P x, .str x t,v⟩
def q:Program:={PySem.Challenge.pw_chanceduel_k46_a_known_way with main:={PySem.Challenge.pw_chanceduel_k46_a_known_way.main with body:=[at_ 1,at_ 2,at_ 3,at_ 4,at_ 5,at_ 6,at_ 7,at_ 9,at_ 10,at_ 11,at_ 12,at_ 13,at_ 14,at_ 16,at_ 17,at_ 18,at_ 19,at_ 20,at_ 21,at_ 22,at_ 23,at_ 24,at_ 25,at_ 27,at_ 28,at_ 29,at_ 30,at_ 31,at_ 32,at_ 33,at_ 35,at_ 36,at_ 37,at_ 38,at_ 39,at_ 40,at_ 41,at_ 42,at_ 44,at_ 45,at_ 46,at_ 47,at_ 48,at_ 50,at_ 51,at_ 52,at_ 53,at_ 55,at_ 56,at_ 57,at_ 58,at_ 59,at_ 60,at_ 61,at_ 62,at_ 63,at_ 65,at_ 66,at_ 67,at_ 68,at_ 69,at_ 70,at_ 71,at_ 72,at_ 73,at_ 74]}}
abbrev cO(x q:Str)(t l n f a m:Nat):Obj:=⟨.type "code",none, .fields #[.str x t, .str q (t+1), .str "/claim/cut.py" (t+2), .int l 0, .int n 0, .int 0 0, .int 0 0, .int f 0, .ref a, .bool true, .int 181 0, .ref (a+1), .none, .ref (a+2), .ref (a+3), .ref (a+4), .int m 0, .int l 0, .str "/claim/cut.py" (m+1)], #[]⟩
abbrev dO(x q:Str)(t l n f a m:Nat):Obj:=⟨.type "code",none, .fields #[.str x t, .str q (t+1), .str "/claim/cut.py" (t+2), .int l 0, .int n 0, .int 0 0, .int 0 0, .int f 0, .ref a, .bool true, .int 181 0, .ref (a+1), .none, .none, .none, .ref (a+2), .int m 0, .int l 0, .str "/claim/cut.py" (m+1)], #[]⟩
abbrev fO(x q:Str)(s:Stmt)(m:Value)(c:Nat):Obj:=⟨.type "function",none, .func ⟨x,q,(dA s), .stmts (dB s),(dS s),3,[], .none, .none, .none,m,none, .ref c, .none,0⟩, #[]⟩
abbrev m0:Value:= .str "chanceduel.parts" 341
abbrev m1:Value:= .str "chanceduel.places" 395
abbrev m2:Value:= .str "chanceduel.floors" 453
abbrev m3:Value:= .str "chanceduel.rows" 596
abbrev m4:Value:= .str "chanceduel.plans" 672
abbrev m5:Value:= .str "chanceduel.shuts" 719
abbrev m6:Value:= .str "chanceduel.reach" 749
abbrev m7:Value:= .str "law_chanceduel_k46_a_known_way" 833
noncomputable def K:Params->Frag:=λP=>
(nat_lit 2,⟨.none,none,(.dict #[] 0), #[]⟩)::
(nat_lit 3,⟨(.type "dict"),none,(.dict #[(en P "__name__" 165 m7),(en P "__doc__" 166 .none),(en P "__package__" 167 .none),(en P "__loader__" 168 (.builtin "__main__.__loader__#opaque")),(en P "__spec__" 169 .none),(en P "__annotations__" 170 (.ref 6)),(en P "__builtins__" 171 (.ref 4)),(en P "__file__" 173 (.str "/claim/cut.py" 172)),(en P "__cached__" 174 .none),(en P "DuelError" 206 (.ref 24)),(en P "NoNumber" 222 (.ref 37)),(en P "NoFloor" 238 (.ref 49)),(en P "NoPlace" 263 (.ref 68)),(en P "NoAnswer" 288 (.ref 87)),(en P "ManyAnswers" 315 (.ref 106)),(en P "NoGoal" 340 (.ref 125)),(en P "common_divisor" 353 (.ref 134)),(en P "fraction" 362 (.ref 141)),(en P "plus" 370 (.ref 148)),(en P "minus" 378 (.ref 155)),(en P "times" 386 (.ref 162)),(en P "under" 394 (.ref 169)),(en P "HANDS" 399 (.ref 170)),(en P "MOST_DOORS" 401 (.int 6 400)),(en P "MOST_BOTTOM" 403 (.int 1000000 402)),(en P "fits_pay" 410 (.ref 177)),(en P "fits_door" 418 (.ref 184)),(en P "common_bottom" 427 (.ref 191)),(en P "fits_chances" 433 (.ref 196)),(en P "fits_doors" 439 (.ref 201)),(en P "fits_row" 445 (.ref 206)),(en P "copied_row" 452 (.ref 213)),(en P "MOST_PLACES" 456 (.int 12 455)),(en P "MOST_SHARE_BOTTOM" 458 (.int 1000 457)),(en P "fits_share" 465 (.ref 220)),(en P "weighed" 476 (.ref 227)),(en P "greatest" 485 (.ref 234)),(en P "least" 494 (.ref 241)),(en P "Floor" 595 (.ref 318)),(en P "with_weights" 608 (.ref 329)),(en P "number_of_head" 618 (.ref 336)),(en P "moved_ahead" 627 (.ref 343)),(en P "cleared_line" 633 (.ref 348)),(en P "cleared" 639 (.ref 353)),(en P "quotients" 652 (.ref 360)),(en P "still_of" 658 (.ref 365)),(en P "answer_of" 671 (.ref 372)),(en P "places_of" 679 (.ref 377)),(en P "first_plan" 689 (.ref 384)),(en P "ways_from" 699 (.ref 391)),(en P "whole_row" 705 (.ref 396)),(en P "led_row" 718 (.ref 403)),(en P "check_goals" 730 (.ref 410)),(en P "is_drawn" 736 (.ref 415)),(en P "drawn_next" 742 (.ref 420)),(en P "draw" 748 (.ref 425)),(en P "drawn_door" 761 (.ref 432)),(en P "drawn_plan" 771 (.ref 439)),(en P "chance_row" 781 (.ref 446)),(en P "chances_by" 787 (.ref 451)),(en P "better_led" 793 (.ref 456)),(en P "kept_least" 805 (.ref 463)),(en P "held_row" 814 (.ref 470)),(en P "steps_by" 820 (.ref 475)),(en P "chances" 832 (.ref 482)),(en P "_law_number" 844 (.ref 489)),(en P "_law_lowest" 854 (.ref 496)),(en P "_law_power" 864 (.ref 503)),(en P "_law_known" 876 (.ref 510)),(en P "_law_parts" 885 (.ref 517)),(en P "_law_place" 895 (.ref 524)),(en P "_law_door" 906 (.ref 531)),(en P "_law_row" 912 (.ref 536)),(en P "_law_due" 918 (.ref 541)),(en P "law" 924 (.ref 546))] 75), #[]⟩)::
(nat_lit 23,⟨(.type "dict"),none,(.dict #[(en P "__module__" 196 (.str "chanceduel.errors" 187)),(en P "__firstlineno__" 200 (.int 2 199)),(en P "__static_attributes__" 201 (.ref 22)),(en P "__weakref__" 203 (.ref 25)),(en P "__doc__" 204 .none)] 3), #[]⟩)::
(nat_lit 24,⟨(.type "type"),none,(.cls ⟨"DuelError",[(.type "ValueError")],[(.ref 24),(.type "ValueError"),(.type "Exception"),(.type "BaseException"),(.type "object")],23,"DuelError",true,[],[(.ref 37),(.ref 49),(.ref 68),(.ref 87),(.ref 106),(.ref 125)],false,none,false⟩), #[(some (.ref 15)),none,(some (.str "DuelError" 189)),(some (.str "DuelError" 197)),(some (.builtin "ValueError.__new__")),(some (.bool true))]⟩)::
(nat_lit 37,⟨(.type "type"),none,(.cls ⟨"NoNumber",[(.ref 24)],[(.ref 37),(.ref 24),(.type "ValueError"),(.type "Exception"),(.type "BaseException"),(.type "object")],36,"NoNumber",true,[],[],false,none,false⟩), #[(some (.ref 28)),none,(some (.str "NoNumber" 207)),(some (.str "NoNumber" 215)),(some (.builtin "ValueError.__new__")),(some (.bool true))]⟩)::
(nat_lit 49,⟨(.type "type"),none,(.cls ⟨"NoFloor",[(.ref 24)],[(.ref 49),(.ref 24),(.type "ValueError"),(.type "Exception"),(.type "BaseException"),(.type "object")],48,"NoFloor",true,[],[],false,none,false⟩), #[(some (.ref 40)),none,(some (.str "NoFloor" 223)),(some (.str "NoFloor" 231)),(some (.builtin "ValueError.__new__")),(some (.bool true))]⟩)::
(nat_lit 68,⟨(.type "type"),none,(.cls ⟨"NoPlace",[(.ref 24)],[(.ref 68),(.ref 24),(.type "ValueError"),(.type "Exception"),(.type "BaseException"),(.type "object")],67,"NoPlace",true,[],[],false,none,false⟩), #[(some (.ref 52)),none,(some (.str "NoPlace" 239)),(some (.str "NoPlace" 247)),(some (.builtin "ValueError.__new__")),(some (.bool true))]⟩)::
(nat_lit 87,⟨(.type "type"),none,(.cls ⟨"NoAnswer",[(.ref 24)],[(.ref 87),(.ref 24),(.type "ValueError"),(.type "Exception"),(.type "BaseException"),(.type "object")],86,"NoAnswer",true,[],[],false,none,false⟩), #[(some (.ref 71)),none,(some (.str "NoAnswer" 264)),(some (.str "NoAnswer" 272)),(some (.builtin "ValueError.__new__")),(some (.bool true))]⟩)::
(nat_lit 106,⟨(.type "type"),none,(.cls ⟨"ManyAnswers",[(.ref 24)],[(.ref 106),(.ref 24),(.type "ValueError"),(.type "Exception"),(.type "BaseException"),(.type "object")],105,"ManyAnswers",true,[],[],false,none,false⟩), #[(some (.ref 90)),none,(some (.str "ManyAnswers" 289)),(some (.str "ManyAnswers" 297)),(some (.builtin "ValueError.__new__")),(some (.bool true))]⟩)::
(nat_lit 125,⟨(.type "type"),none,(.cls ⟨"NoGoal",[(.ref 24)],[(.ref 125),(.ref 24),(.type "ValueError"),(.type "Exception"),(.type "BaseException"),(.type "object")],124,"NoGoal",true,[],[],false,none,false⟩), #[(some (.ref 109)),none,(some (.str "NoGoal" 316)),(some (.str "NoGoal" 324)),(some (.builtin "ValueError.__new__")),(some (.bool true))]⟩)::
(nat_lit 133,cO "common_divisor" "common_divisor" 343 30 2 3 128 351)::
(nat_lit 134,fO "common_divisor" "common_divisor" (at_ 9) m0 133)::
(nat_lit 140,cO "fraction" "fraction" 354 38 2 3 135 360)::
(nat_lit 141,fO "fraction" "fraction" (at_ 10) m0 140)::
(nat_lit 154,cO "minus" "minus" 371 47 2 3 149 376)::
(nat_lit 155,fO "minus" "minus" (at_ 12) m0 154)::
(nat_lit 161,cO "times" "times" 379 49 2 3 156 384)::
(nat_lit 162,fO "times" "times" (at_ 13) m0 161)::
(nat_lit 168,cO "under" "under" 387 51 2 3 163 392)::
(nat_lit 169,fO "under" "under" (at_ 14) m0 168)::
(nat_lit 170,⟨(.type "tuple"),none,(.seq #[(.str "one" 397),(.str "other" 398)] 0), #[]⟩)::
(nat_lit 176,cO "fits_pay" "fits_pay" 404 57 1 3 171 408)::
(nat_lit 177,fO "fits_pay" "fits_pay" (at_ 19) m1 176)::
(nat_lit 183,cO "fits_door" "fits_door" 411 59 2 3 178 416)::
(nat_lit 184,fO "fits_door" "fits_door" (at_ 20) m1 183)::
(nat_lit 190,cO "common_bottom" "common_bottom" 419 61 1 3 185 425)::
(nat_lit 191,fO "common_bottom" "common_bottom" (at_ 21) m1 190)::
(nat_lit 195,dO "fits_chances" "fits_chances" 428 66 1 3 192 431)::
(nat_lit 196,fO "fits_chances" "fits_chances" (at_ 22) m1 195)::
(nat_lit 200,dO "fits_doors" "fits_doors" 434 72 2 3 197 437)::
(nat_lit 201,fO "fits_doors" "fits_doors" (at_ 23) m1 200)::
(nat_lit 205,dO "fits_row" "fits_row" 440 76 2 3 202 443)::
(nat_lit 206,fO "fits_row" "fits_row" (at_ 24) m1 205)::
(nat_lit 212,cO "copied_row" "copied_row" 446 85 1 3 207 450)::
(nat_lit 213,fO "copied_row" "copied_row" (at_ 25) m1 212)::
(nat_lit 219,cO "fits_share" "fits_share" 459 92 1 3 214 463)::
(nat_lit 220,fO "fits_share" "fits_share" (at_ 29) m2 219)::
(nat_lit 233,cO "greatest" "greatest" 477 99 1 3 228 483)::
(nat_lit 234,fO "greatest" "greatest" (at_ 31) m2 233)::
(nat_lit 240,cO "least" "least" 486 105 1 3 235 492)::
(nat_lit 241,fO "least" "least" (at_ 32) m2 240)::
(nat_lit 252,dO "__init__" "Floor.__init__" 507 113 3 3 249 510)::
(nat_lit 253,fO "__init__" "Floor.__init__" (OL (at_ 33) 0) m2 252)::
(nat_lit 259,cO "size" "Floor.size" 513 124 1 3 254 517)::
(nat_lit 260,fO "size" "Floor.size" (OL (at_ 33) 1) m2 259)::
(nat_lit 266,cO "share" "Floor.share" 520 127 1 3 261 524)::
(nat_lit 267,fO "share" "Floor.share" (OL (at_ 33) 2) m2 266)::
(nat_lit 273,cO "kind" "Floor.kind" 527 130 2 3 268 532)::
(nat_lit 274,fO "kind" "Floor.kind" (OL (at_ 33) 3) m2 273)::
(nat_lit 280,cO "doors" "Floor.doors" 535 133 2 3 275 540)::
(nat_lit 281,fO "doors" "Floor.doors" (OL (at_ 33) 4) m2 280)::
(nat_lit 292,dO "rows" "Floor.rows" 551 143 1 3 289 554)::
(nat_lit 293,fO "rows" "Floor.rows" (OL (at_ 33) 6) m2 292)::
(nat_lit 317,⟨(.type "dict"),none,(.dict #[(en P "__module__" 502 m2),(en P "__firstlineno__" 506 (.int 111 505)),(en P "__init__" 512 (.ref 253)),(en P "size" 519 (.ref 260)),(en P "share" 526 (.ref 267)),(en P "kind" 534 (.ref 274)),(en P "doors" 542 (.ref 281)),(en P "pay" 550 (.ref 288)),(en P "rows" 556 (.ref 293)),(en P "shown" 567 (.ref 300)),(en P "all_shown" 573 (.ref 305)),(en P "look" 579 (.ref 310)),(en P "best" 585 (.ref 315)),(en P "__static_attributes__" 588 (.ref 316)),(en P "__dict__" 590 (.ref 319)),(en P "__weakref__" 592 (.ref 320)),(en P "__doc__" 593 .none)] 4), #[]⟩)::
(nat_lit 318,⟨(.type "type"),none,(.cls ⟨"Floor",[(.type "object")],[(.ref 318),(.type "object")],317,"Floor",true,[],[],false,none,false⟩), #[none,none,(some (.str "Floor" 495)),(some (.str "Floor" 503)),(some (.builtin "object.__new__")),(some (.bool true))]⟩)::
(nat_lit 328,cO "with_weights" "with_weights" 598 169 1 3 323 606)::
(nat_lit 329,fO "with_weights" "with_weights" (at_ 35) m3 328)::
(nat_lit 335,cO "number_of_head" "number_of_head" 609 176 3 3 330 616)::
(nat_lit 336,fO "number_of_head" "number_of_head" (at_ 36) m3 335)::
(nat_lit 342,cO "moved_ahead" "moved_ahead" 619 181 3 3 337 625)::
(nat_lit 343,fO "moved_ahead" "moved_ahead" (at_ 37) m3 342)::
(nat_lit 347,dO "cleared_line" "cleared_line" 628 183 4 3 344 631)::
(nat_lit 348,fO "cleared_line" "cleared_line" (at_ 38) m3 347)::
(nat_lit 352,dO "cleared" "cleared" 634 185 2 3 349 637)::
(nat_lit 353,fO "cleared" "cleared" (at_ 39) m3 352)::
(nat_lit 359,cO "quotients" "quotients" 640 202 4 3 354 650)::
(nat_lit 360,fO "quotients" "quotients" (at_ 40) m3 359)::
(nat_lit 371,cO "answer_of" "answer_of" 659 212 1 3 366 669)::
(nat_lit 372,fO "answer_of" "answer_of" (at_ 42) m3 371)::
(nat_lit 376,dO "places_of" "places_of" 674 225 2 3 373 677)::
(nat_lit 377,fO "places_of" "places_of" (at_ 44) m4 376)::
(nat_lit 383,cO "first_plan" "first_plan" 680 227 2 3 378 687)::
(nat_lit 384,fO "first_plan" "first_plan" (at_ 45) m4 383)::
(nat_lit 390,cO "ways_from" "ways_from" 690 232 3 3 385 697)::
(nat_lit 391,fO "ways_from" "ways_from" (at_ 46) m4 390)::
(nat_lit 395,dO "whole_row" "whole_row" 700 237 1 3 392 703)::
(nat_lit 396,fO "whole_row" "whole_row" (at_ 47) m4 395)::
(nat_lit 402,cO "led_row" "led_row" 706 240 5 3 397 716)::
(nat_lit 403,fO "led_row" "led_row" (at_ 48) m4 402)::
(nat_lit 409,cO "check_goals" "check_goals" 721 247 2 3 404 728)::
(nat_lit 410,fO "check_goals" "check_goals" (at_ 50) m5 409)::
(nat_lit 414,dO "is_drawn" "is_drawn" 731 253 3 3 411 734)::
(nat_lit 415,fO "is_drawn" "is_drawn" (at_ 51) m5 414)::
(nat_lit 419,dO "drawn_next" "drawn_next" 737 260 2 3 416 740)::
(nat_lit 420,fO "drawn_next" "drawn_next" (at_ 52) m5 419)::
(nat_lit 424,dO "draw" "draw" 743 262 2 3 421 746)::
(nat_lit 425,fO "draw" "draw" (at_ 53) m5 424)::
(nat_lit 431,cO "drawn_door" "drawn_door" 751 275 3 3 426 759)::
(nat_lit 432,fO "drawn_door" "drawn_door" (at_ 55) m6 431)::
(nat_lit 438,cO "drawn_plan" "drawn_plan" 762 280 2 3 433 769)::
(nat_lit 439,fO "drawn_plan" "drawn_plan" (at_ 56) m6 438)::
(nat_lit 445,cO "chance_row" "chance_row" 772 285 4 3 440 779)::
(nat_lit 446,fO "chance_row" "chance_row" (at_ 57) m6 445)::
(nat_lit 450,dO "chances_by" "chances_by" 782 291 4 3 447 785)::
(nat_lit 451,fO "chances_by" "chances_by" (at_ 58) m6 450)::
(nat_lit 455,dO "better_led" "better_led" 788 295 3 3 452 791)::
(nat_lit 456,fO "better_led" "better_led" (at_ 59) m6 455)::
(nat_lit 462,cO "kept_least" "kept_least" 794 303 3 3 457 803)::
(nat_lit 463,fO "kept_least" "kept_least" (at_ 60) m6 462)::
(nat_lit 469,cO "held_row" "held_row" 806 311 3 3 464 812)::
(nat_lit 470,fO "held_row" "held_row" (at_ 61) m6 469)::
(nat_lit 474,dO "steps_by" "steps_by" 815 315 3 3 471 818)::
(nat_lit 475,fO "steps_by" "steps_by" (at_ 62) m6 474)::
(nat_lit 481,cO "chances" "chances" 821 318 2 3 476 830)::
(nat_lit 482,fO "chances" "chances" (at_ 63) m6 481)::
(nat_lit 488,cO "_law_number" "_law_number" 835 328 2 3 483 842)::
(nat_lit 489,fO "_law_number" "_law_number" (at_ 65) m7 488)::
(nat_lit 495,cO "_law_lowest" "_law_lowest" 845 334 2 3 490 852)::
(nat_lit 496,fO "_law_lowest" "_law_lowest" (at_ 66) m7 495)::
(nat_lit 502,cO "_law_power" "_law_power" 855 340 2 3 497 862)::
(nat_lit 503,fO "_law_power" "_law_power" (at_ 67) m7 502)::
(nat_lit 509,cO "_law_known" "_law_known" 865 345 4 3 504 874)::
(nat_lit 510,fO "_law_known" "_law_known" (at_ 68) m7 509)::
(nat_lit 516,cO "_law_parts" "_law_parts" 877 353 1 3 511 883)::
(nat_lit 517,fO "_law_parts" "_law_parts" (at_ 69) m7 516)::
(nat_lit 523,cO "_law_place" "_law_place" 886 360 3 3 518 893)::
(nat_lit 524,fO "_law_place" "_law_place" (at_ 70) m7 523)::
(nat_lit 530,cO "_law_door" "_law_door" 896 365 4 3 525 904)::
(nat_lit 531,fO "_law_door" "_law_door" (at_ 71) m7 530)::
(nat_lit 535,dO "_law_row" "_law_row" 907 370 3 3 532 910)::
(nat_lit 536,fO "_law_row" "_law_row" (at_ 72) m7 535)::
(nat_lit 540,dO "_law_due" "_law_due" 913 384 2 3 537 916)::
(nat_lit 541,fO "_law_due" "_law_due" (at_ 73) m7 540)::
(nat_lit 545,dO "law" "law" 919 396 1 3 542 922)::
(nat_lit 546,fO "law" "law" (at_ 74) m7 545)::[]
noncomputable abbrev H:Hook:=kHook K [2,3,23,24,37,49,68,87,106,125,133,134,140,141,154,155,161,162,168,169,170,176,177,183,184,190,191,195,196,200,201,205,206,212,213,219,220,233,234,240,241,252,253,259,260,266,267,273,274,280,281,292,293,317,318,328,329,335,336,342,343,347,348,352,353,359,360,371,372,376,377,383,384,390,391,395,396,402,403,409,410,414,415,419,420,424,425,431,432,438,439,445,446,450,451,455,456,462,463,469,470,474,475,481,482,488,489,495,496,502,503,509,510,516,517,523,524,530,531,535,536,540,541,545,546] (λ_=>by kernel_rfl)
abbrev Xt:Shared->Bool:=λs=>xlAt q [] s&&recOk (RowW.records row.toRowW) s
theorem WA{A B C:Type}{o:Option C}{f:C->A}{g:C->B}{a:A}{b:B}(h:o.map f=some a)(k:o.map g=some b):o.map (λs=>(f s,g s))=some (a,b):=by
  cases o with
  | none=>exact nomatch h
  | some c=>injection h with h;injection k with k;subst h;subst k;rfl
section
variable{A B C D E F G X:Type}{o:Option X}{f:X->A×B×C×D×E×F×G}{t:A×B×C×D×E×F×G}
def p1:A×B×C×D×E×F×G->A
  | (a,_,_,_,_,_,_)=>a
def p2:A×B×C×D×E×F×G->B×C
  | (_,b,c,_,_,_,_)=>(b,c)
def p3:A×B×C×D×E×F×G->D
  | (_,_,_,d,_,_,_)=>d
def p5:A×B×C×D×E×F×G->E
  | (_,_,_,_,e,_,_)=>e
def p6:A×B×C×D×E×F×G->F
  | (_,_,_,_,_,f,_)=>f
def p4:A×B×C×D×E×F×G->G
  | (_,_,_,_,_,_,g)=>g
theorem pr(h:o.map (λx=>p1 (f x))=some t.1)(g:o.map (λx=>p2 (f x))=some (t.2.1,t.2.2.1))(k:o.map (λx=>p3 (f x))=some t.2.2.2.1)(k1:o.map (λx=>p5 (f x))=some t.2.2.2.2.1)(k2:o.map (λx=>p6 (f x))=some t.2.2.2.2.2.1)(l:o.map (λx=>p4 (f x))=some t.2.2.2.2.2.2):o.map f=some t:=by
  cases o with
  | none=>exact nomatch h
  | some x=>
    replace h:p1 (f x)=t.1:=aao h;replace g:p2 (f x)=(t.2.1,t.2.2.1):=aao g;replace k:p3 (f x)=t.2.2.2.1:=aao k;replace k1:p5 (f x)=t.2.2.2.2.1:=aao k1;replace k2:p6 (f x)=t.2.2.2.2.2.1:=aao k2;replace l:p4 (f x)=t.2.2.2.2.2.2:=aao l;show some (f x)=some t;revert h g k k1 k2 l;generalize f x=u;obtain ⟨a,b,c,d,e,f',y⟩:=u;obtain ⟨a',b',c',d',e',f'',y'⟩:=t;intro h g k k1 k2 l;cases (h:a=a');cases (g:(b,c)=(b',c'));cases (k:d=d');cases (k1:e=e');cases (k2:f'=f'');cases (l:y=y');rfl
end
def SD{A B:Type}(o:Option A)(c:A->Bool)(T:A->Option B):Option (A×B):=o.bind λa=>match c a with
  | true=>(T a).map λb=>(a,b)
  | false=>none
def SN {A B:Type} (o:Option A) (c:A->Bool) (T:A->Option B) (k:A->B->Bool):Option B:=o.bind λa=>match c a with
  | true=>(T a).bind λb=>match k a b with
    | true=>some b
    | false=>none
  | false=>none
theorem XH {A B C:Type} {o:Option A} {c:A->Bool} {T:A->Option B} {k:A->B->Bool} {g:B->C} {v:C} (h:(SD o c T).map (λx=>k x.1 x.2)=some true) (l:(SD o c T).map (λx=>g x.2)=some v):(SN o c T k).map g=some v:=by
  unfold SD at h l;unfold SN;cases o with
  | none=>exact nomatch h
  | some a=>
    dsimp only [Option.bind] at h l⊢;cases hc:c a with
    | false=>rw [hc] at h;exact nomatch h
    | true=>
      rw [hc] at h l;dsimp only at h l⊢;cases hT:T a with
      | none=>rw [hT] at h;exact nomatch h
      | some b=>
        rw [hT] at h l;injection h with h;injection l with l
        dsimp only [Option.bind];rw [show k a b=true from h];exact aaU some l
noncomputable abbrev oA(p:Program)(w:World)(N:Nat):Option Shared:=(Fast.tw10274390034422433532 Fast.tw14364793385576792824 (opening p) w N (Fast.tw1435165496053646825 (opening p)).1 (Fast.tw1435165496053646825 (opening p)).2).bind (fenceModules? p)
abbrev cA(s:Shared):Bool:=s.heap.isNs mainGlobals&&s.gens.size==0
noncomputable abbrev tA(p:Program)(w:World)(N:Nat)(s₀:Shared):Option Shared:=Fast.tw14082659384304107361 Fast.tw14364793385576792824 p w s₀.heap.objs.size (s₀.heap.nsMap mainGlobals "__annotations__") N s₀ (topStub p)
abbrev kA(p:Program)(s₀ s₁:Shared):Bool:=staticsOk (importedModules p.main.body) s₀.heap s₁.heap&&namesBound p s₁.heap&&gensDone s₁&&laidKept s₀.heap s₁.heap
theorem oe(p:Program)(w:World)(N:Nat):openEnds treeTable p w N=SN (oA p w N) cA (tA p w N) (kA p):=by unfold openEnds fencedOpening topFrom SN oA tA;rewrite [Fast.te14082659384304107361,Fast.te14364793385576792824,Fast.te10274390034422433532,Fast.te1435165496053646825];rfl
noncomputable abbrev go(w:World):=SD (oA row.prog w 7796) cA (tA row.prog w 7796)
abbrev gd:=openGood q []
noncomputable abbrev sn(x:Shared×Shared):=Fast.tw4187177175401517315 q [] (importedModules row.prog.main.body) Xt true x.2
theorem la(w:World):(go w).map (λx=>p1 (sn x))=some gd.1:=by kernel_rfl
theorem lb(w:World):(go w).map (λx=>p2 (sn x))=some (gd.2.1,gd.2.2.1):=by kernel_rfl
theorem lc(w:World):(go w).map (λx=>p3 (sn x))=some gd.2.2.2.1:=by kernel_rfl
theorem le(w:World):(go w).map (λx=>p5 (sn x))=some gd.2.2.2.2.1:=by kernel_rfl
theorem lg(w:World):(go w).map (λx=>p6 (sn x))=some gd.2.2.2.2.2.1:=by kernel_rfl
theorem ld(w:World):(go w).map (λx=>p4 (sn x))=some gd.2.2.2.2.2.2:=by kernel_rfl
theorem lk(w:World):(go w).map (λx=>kA row.prog x.1 x.2)=some true:=by kernel_rfl
theorem lo(w:World):(go w).map (λx=>H.obs x.2)=some (H.val w):=by kernel_rfl
theorem R1(w:World):(openEnds treeTable row.prog w 7796).map (openSeen q [] (importedModules row.prog.main.body) Xt true)=some gd:=by rewrite [oe,Fast.te4187177175401517315];exact XH (lk w) (pr (la w) (lb w) (lc w) (le w) (lg w) (ld w))
theorem R5(w:World):(openEnds treeTable row.prog w 7796).map H.obs=some (H.val w):=by rewrite [oe];exact XH (lk w) (lo w)
theorem left:LeftO row.prog q [] Xt H.obs H.val 7796:=λw=>WA (R1 w) (R5 w)
end Hd
local macro_rules|`(())=>`(by omega)
local macro_rules|`(@_)=>`(by decide)
open Lean in
def rpt:Nat → Term → MacroM (TSyntax `rcasesPat)
|0,_=>Macro.throwUnsupported
|n+1,t=>match t with
|`(⟨$a,*⟩)=>do
 let b←a.getElems.mapM (rpt n)
 let b←b.mapM λp=>`(Lean.Parser.Tactic.rcasesPatLo|$p:rcasesPat)
 `(rcasesPat|⟨$b,*⟩)
|`(_)=>`(rcasesPat|_)
|`($x:ident)=>`(rcasesPat|$x:ident)
|_=>Macro.throwUnsupported
open Lean in
local macro_rules|`(tactic|have ⟨$a,*⟩:=$e)=>do
 let p←rpt 99 (←`(⟨$a,*⟩))
 `(tactic|obtain $p:rcasesPat:=$e)
open Lean in
local macro_rules|`(λ$xs*=>$b)=>do
 let mut ys:=#[]
 let mut ts:=#[]
 if (←MonadRef.getRef)[0].isToken "fun" then Macro.throwUnsupported
 for x in xs do
  if x.1.isOfKind `Lean.Parser.Term.anonymousCtor then
   let p←rpt 99 ⟨x.1⟩
   let y←withFreshMacroScope `(h)
   ys:=ys.push y
   ts:=ts.push (←`(tactic|obtain $p:rcasesPat:=$y))
  else ys:=ys.push ⟨x.1⟩
 if ts.isEmpty then Macro.throwUnsupported
 `(λ$ys*=>by{$[$ts]*;exact $b})
set_option hygiene false in
local macro_rules|`($g &&& ($F,$a,$n))=>`(mc $g (($F).binds λ_ _ _ _ _ _=>$n) (mg_of X G $a) ($F).kp)
set_option hygiene false in
local macro_rules|`($g ||| ($F,$a,$i,$n))=>`(⟨$g,(($F).binds λ_ _ _ _ _ _=>$n),⟨jY,j9,j2,j0⟩,⟨$a,$i,($F).kp⟩⟩)
set_option genSizeOf false
set_option bootstrap.genMatcherCode false
noncomputable def PySem.W.Fast.tw15401172275736968373:=PySem.Challenge.pw_chanceduel_k46_a_known_way
theorem PySem.W.Fast.te15401172275736968373:PySem.Challenge.pw_chanceduel_k46_a_known_way=PySem.W.Fast.tw15401172275736968373:=rfl
def gV:2<=PySem.sizeLine:=@_
abbrev fI:=PySem.W.Frag
namespace L2
open PySem PySem.Spec PyProof.Rows
variable{us:List Value}{a b dx C:Addr}{P prog:Program}{w:World}{h h' base:Heap}{δ:List (Addr×Obj)}{s:Shared}{g':Array GenState}{ch fp:List Addr}{i:Nat}{x:Str}{M:Model}{A:Around}{E Q:Value->Shared->Prop}{u:Value}{pos:Pos}{e c tg:Expr}{es:List Expr}{body:List Stmt}{f:Value->Value->Sem Value}{op:CmpOp}{mA mg:Str->Option Value}{kw:List (Str×Value)}{outer:List Env}{ps:List Str}
abbrev Key:=Sum Int Str
def uS:Key->Value->Bool
 | .inl k,v=>Value.isInt k v
 | .inr x,v=>Value.isStrOf x v
def Tv(w:World):Key->Int
 | .inl k=>hashInt k
 | .inr x=>hashStr w x
def aZ:∀{k:Key} {v:Value},uS k v=true->(∃i t,k=Sum.inl i/\v=Value.int i t)\/(∃x t,k=Sum.inr x/\v=Value.str x t)
 | .inl i,v,h=>by have⟨t,e⟩:=Value.isInt_shape (k:=i) (v:=v) h;exact .inl ⟨i,t,rfl,e⟩
 | .inr x,v,h=>by have⟨t,e⟩:=Value.isStrOf_shape (x:=x) (v:=v) h;exact .inr ⟨x,t,rfl,e⟩
def Eu(i:Int)(t:Tok):uS (.inl i) (.int i t)=true:=by simp[uS,Value.isInt]
def CS(x:Str)(t:Tok):uS (.inr x) (.str x t)=true:=by simp[uS,Value.isStrOf]
def MF(a b:Int):decide ((Sum.inl a:Key)=Sum.inl b)=(a==b):=by
 by_cases e:a=b
 ·subst e;simp
 ·have h:¬(Sum.inl a:Key)=Sum.inl b:=λq=>e (Sum.inl.inj q);rw[aam h];exact(beq_eq_false_iff_ne.mpr e).symm
def Ny(a b:Str):decide ((Sum.inr a:Key)=Sum.inr b)=decide (a=b):=by
 by_cases e:a=b
 ·subst e;simp
 ·have h:¬(Sum.inr a:Key)=Sum.inr b:=λq=>e (Sum.inr.inj q);rw[aam h,aam e]
def Mp(a:Int)(b:Str):decide ((Sum.inl a:Key)=Sum.inr b)=false:=aam nofun
def MX(a:Str)(b:Int):decide ((Sum.inr a:Key)=Sum.inl b)=false:=aam nofun
def bQ(prog:Program)(w:World):PySem.KeyKind prog w Key where
 is:=uS
 hash:=Tv w
 inj:=λv a b ha hb=>by
  rcases aZ ha with ⟨i,t,rfl,rfl⟩| ⟨x,t,rfl,rfl⟩
  ·rcases aZ hb with ⟨j,u,rfl,e⟩| ⟨y,u,rfl,e⟩
   ·injection e with e1 _;rw[e1]
   ·exact nomatch e
  ·rcases aZ hb with ⟨j,u,rfl,e⟩| ⟨y,u,rfl,e⟩
   ·exact nomatch e
   ·injection e with e1 _;rw[e1]
 byValue:=λk v h=>by rcases aZ h with ⟨i,t,rfl,rfl⟩| ⟨x,t,rfl,rfl⟩ <;> rfl
 pyHash:=λhv h=>by
  rcases aZ hv with ⟨i,t,rfl,rfl⟩| ⟨x,t,rfl,rfl⟩
  ·exact wpAny_pyHash_int h
  ·exact wpAny_pyHash_str h
 eqBool:=λhu hv h=>by
  rcases aZ hu with ⟨i,t,rfl,rfl⟩| ⟨x,t,rfl,rfl⟩
  ·rcases aZ hv with ⟨j,u,rfl,rfl⟩| ⟨y,u,rfl,rfl⟩
   ·rw[MF]at h;exact wpAny_eqBool_int h
   ·rw[Mp]at h;exact SeqAt.EqAt.int_str i t y u _ _ _ _ h
  ·rcases aZ hv with ⟨j,u,rfl,rfl⟩| ⟨y,u,rfl,rfl⟩
   ·rw[MX]at h;exact SeqAt.EqAt.str_int x t j u _ _ _ _ h
   ·rw[Ny]at h;exact wpAny_eqBool_str h
 «strs»:=λk x t v h=>by
  rcases aZ h with ⟨i,u,rfl,e⟩| ⟨y,u,rfl,e⟩
  ·exact nomatch e
  ·injection e with e1 _
   subst e1;cases v <;> rfl
def xF(prog:Program)(w:World)(i:Int)(t:Tok):(bQ prog w).is (.inl i) (.int i t)=true:=Eu i t
def yf(prog:Program)(w:World)(x:Str)(t:Tok):(bQ prog w).is (.inr x) (.str x t)=true:=CS x t
inductive V where
 | aJ| bl (b:Bool)| int (i:Int)| str (x:Str)| EK (b:Array UInt8)| Oc (b:UInt64)| ref (a:Addr)| ty (n:String)
 deriving DecidableEq
variable{v:V}
def ax:V->Value->Prop
 | .aJ,u=>u=Value.none
 | .bl b,u=>u=Value.bool b
 | .int i,u=>∃t,u=Value.int i t
 | .str x,u=>∃t,u=Value.str x t
 | .EK b,u=>∃t,u=Value.bytes b t
 | .Oc b,u=>∃t,u=Value.float b t
 | .ref a,u=>u=Value.ref a
 | .ty n,u=>u=Value.type n
abbrev ar:List V->List Value->Prop:=Paired ax
def ar.length{xs:List V}(r:ar xs us):xs.length=us.length:=Paired.length r
def ar.get:∀{xs:List V} {us:List Value} {i:Nat} {x:V},ar xs us->xs[i]? =some x->∃u,us[i]? =some u/\ax x u
 | _,_,_,_,.nil,e=>by simp at e
 | _,_,0,_,.cons r _,e=>by simp at e;subst e;exact⟨_,rfl,r⟩
 | _,_,i+1,x,.cons _ t,e=>by have⟨u,h1,h2⟩:=ar.get (i:=i) (x:=x) t (by simpa using e);exact⟨u,by simpa using h1,h2⟩
def ar.set{x:V}{u:Value}(r:ax x u):∀{xs:List V} {us:List Value} (i:Nat),ar xs us->ar (xs.set i x) (us.set i u)
 | _,_,_,.nil=>.nil
 | _,_,0,.cons _ t=>.cons r t
 | _,_,i+1,.cons q t=>.cons q (ar.set r i t)
def ar.append:∀{xs ys:List V} {us ws:List Value},ar xs us->ar ys ws->ar (xs++ys) (us++ws)
 | _,_,_,_,.nil,s=>s
 | _,_,_,_,.cons r t,s=>.cons r (ar.append t s)
def ar.take:∀{xs:List V} {us:List Value} (n:Nat),ar xs us->ar (xs.take n) (us.take n)
 | _,_,0,_=>.nil
 | _,_,_+1,.nil=>.nil
 | _,_,n+1,.cons r t=>.cons r (ar.take n t)
def ar.drop:∀{xs:List V} {us:List Value} (n:Nat),ar xs us->ar (xs.drop n) (us.drop n)
 | _,_,0,r=>r
 | _,_,_+1,.nil=>.nil
 | _,_,n+1,.cons _ t=>ar.drop n t
def jM:Option V->Option Value->Prop
 | some v,some u=>ax v u
 | none,none=>True
 | _,_=>False
def KV{κ:Type}:List (κ×V)->List (κ×Value)->Prop:=Paired λ(p:κ×V) (q:κ×Value)=>p.1=q.1/\ax p.2 q.2
def kV:Key->V
 | .inl i=>.int i
 | .inr x=>.str x
inductive HO where
 | lst (xs:List V)
 | tup (xs:List V)
 | dK (Ι:List (Key×V))| dT (Ι:List (List Key×V))
 | set (S:Int->Bool) (n:Nat)
 | ins (C dx:Addr) (fs:List (Str×V))
 | own (x:Addr)
 | xd (fs:List (Str×V))
 | met (f x:Addr)
 | U2 (lo hi:Int)
 | xD (o:Obj) (u:HO)
 | Ki (ps:Array Value)
 | ext (φ:Heap->Prop)
variable{o:HO}
abbrev Hp:=Addr->Option HO
def upd(H:Hp)(a:Addr)(o:HO):Hp:=λb=>if b=a then some o else H b
def aq{H:Hp}:upd H a o a=some o:=by unfold upd;rw[if_pos rfl]
def Θ{H:Hp}(h:b≠a):upd H a o b=H b:=by unfold upd;rw[if_neg h]
def Rg{H:Hp}{u:HO}(h:H a=some o)(h':H b=some u)(d:o≠u):a≠b:=by intro e;subst e;rw[h]at h';exact d (aao h')
def bJ{H:Hp}(h:H a=some o)(h':H b=none):a≠b:=by intro e;subst e;rw[h]at h';cases h'
section
variable(P:Program)(w:World)
def bL(H:Hp)(h:Heap)(a:Addr):HO->Prop
 | .lst xs=>xs.length<=sizeLine/\∃(its:List Value) (n:Nat),ar xs its/\h.get? a=some {cls:=.type "list",data:=.seq its.toArray n}
 | .tup xs=>xs.length<=sizeLine/\∃its:List Value,ar xs its/\IsTup h a its.toArray
 | .dK Ι=>Ι.length<=sizeLine/\(a==sysModules)=false/\∃vs,KV Ι vs/\h.DictOf (bQ P w) a vs
 | .dT Ι=>Ι.length<=sizeLine/\(a==sysModules)=false/\∃xs:List (List Key×Addr×Value),
   Paired (λ(p:List Key×V) (q:List Key×Addr×Value)=>p.1=q.1/\H q.2.1=some (.tup (p.1.map kV))/\ax p.2 q.2.2) Ι xs/\
   ∃o es ep,h.get? a=some o/\o.ExactDict/\o.data= .dict es ep/\es.toList=xs.map (entryOfKey (tupleKind (bQ P w)))/\(xs.map (·.1)).Nodup
 | .set S n=>h.SetOf (intKind P w) a S n
 | .ins C dx fs=>H dx=some (.own a)/\fs.length<=1000/\dx≠a/\h.get? a=some (PySem.W.instObj C dx)/\
   ∃mA,h.Ns1 dx mA/\(∀f,jM (fs.lookup f) (mA f))/\PySem.Within mA (fs.map (·.1))
 | .own _=>∃o,h.get? a=some o
 | .xd fs=>∃mA,h.Ns1 a mA/\∀f,jM (fs.lookup f) (mA f)
 | .U2 lo hi=>∃t u v,h.get? a=some {cls:=.type "range",data:=.fields #[.int lo t,.int hi u,.int 1 v]}
 | .xD o u=>h.get? a=some o/\bL H h a u
 | .Ki ps=>h.get? a=some {cls:=.none,data:=.fields ps}
 | .met f x=>h.get? a=some (PySem.W.methodObj (.ref f) (.ref x))
 | .ext φ=>φ h/\(∃o,h.get? a=some o)/\∀h1 h2:Heap,φ h1->(∀o,h1.get? a=some o->h2.get? a=some o)->φ h2
def km(H:Hp)(h:Heap):Prop:=∀a o,H a=some o->bL P w H h a o
end
section
variable{H H':Hp}
def bL.lt(x:bL P w H h a o):a < h.objs.size:=by
 cases o with
 | lst xs=>have⟨_,_,_,_,e⟩:=x;exact aar e
 | tup xs=>have⟨_,_,_,p⟩:=x;exact p.lt
 | dK Ι=>have⟨_,_,_,_,o,_,_,e,_⟩:=x;exact aar e
 | dT Ι=>have⟨_,_,_,_,o,_,_,e,_⟩:=x;exact aar e
 | set S n=>have⟨o,_,_,_,e,_⟩:=x;exact aar e
 | ins C dx fs=>have⟨_,_,_,e,_⟩:=x;exact aar e
 | own y=>have⟨_,e⟩:=x;exact aar e
 | xd fs=>have⟨_,⟨_,_,_,e,_⟩,_⟩:=x;exact aar e
 | U2 lo hi=>have⟨_,_,_,e⟩:=x;exact aar e
 | xD ob u=>have⟨e,_⟩:=x;exact aar e
 | Ki ps=>exact aar (show h.get? a=some _ from x)
 | met f y=>exact aar (show h.get? a=some _ from x)
 | ext φ=>have⟨_,⟨_,e⟩,_⟩:=x;exact aar e
def Paired.OD{α β:Type}{F G:α->β->Prop}:∀{l₁:List α} {l₂:List β},Paired F l₁ l₂->(∀a b,F a b->G a b)->Paired G l₁ l₂
 | _,_,.nil,_=>.nil
 | _,_,.cons r t,f=>.cons (f _ _ r) (Paired.OD t f)
def bL.Ai(x:bL P w H h a o)(k:∀b u,(b=a\/H b=some (.own a))->h.get? b=some u->h'.get? b=some u)
  (ho:∀b,H b=some (.own a)->H' b=some (.own a)) (ht:∀b xs,H b=some (.tup xs)->H' b=some (.tup xs)):bL P w H' h' a o:=by
 induction o with
 | lst xs=>have⟨z,its,n,r,e⟩:=x;exact⟨z,its,n,r,k _ _ (.inl rfl) e⟩
 | tup xs=>have⟨z,its,r,ob,e,c⟩:=x;exact⟨z,its,r,ob,k _ _ (.inl rfl) e,c⟩
 | dK Ι=>have⟨z,y,vs,r,ob,es,ep,e,c⟩:=x;exact⟨z,y,vs,r,ob,es,ep,k _ _ (.inl rfl) e,c⟩
 | dT Ι=>
  have⟨z,y,xs,r,ob,es,ep,e,c⟩:=x;exact⟨z,y,xs,Paired.OD r λp q z=>⟨z.1,ht _ _ z.2.1,z.2.2⟩,ob,es,ep,k _ _ (.inl rfl) e,c⟩
 | set S n=>have⟨ob,es,ep,t,e,c⟩:=x;exact⟨ob,es,ep,t,k _ _ (.inl rfl) e,c⟩
 | ins C dx fs=>
  have⟨d,z,ne,e,mA,⟨od,es,ep,e2,c⟩,r⟩:=x;exact⟨ho _ d,z,ne,k _ _ (.inl rfl) e,mA,⟨od,es,ep,k _ _ (.inr d) e2,c⟩,r⟩
 | own y=>have⟨ob,e⟩:=x;exact⟨ob,k _ _ (.inl rfl) e⟩
 | xd fs=>have⟨mA,⟨od,es,ep,e,c⟩,r⟩:=x;exact⟨mA,⟨od,es,ep,k _ _ (.inl rfl) e,c⟩,r⟩
 | U2 lo hi=>have⟨t,u,v,e⟩:=x;exact⟨t,u,v,k _ _ (.inl rfl) e⟩
 | xD ob u ih=>have⟨e,q⟩:=x;exact⟨k _ _ (.inl rfl) e,ih q⟩
 | Ki ps=>
  have e:h.get? a=some {cls:=.none,data:=.fields ps}:=x;show h'.get? a=some {cls:=.none,data:=.fields ps};exact k a _ (.inl rfl) e
 | met f y=>
  have e:h.get? a=some (PySem.W.methodObj (.ref f) (.ref y)):=x;show h'.get? a=some (PySem.W.methodObj (.ref f) (.ref y));exact k a _ (.inl rfl) e
 | ext φ=>have⟨p,⟨o,e⟩,st⟩:=x;exact⟨st _ _ p λo q=>k _ _ (.inl rfl) q,⟨o,k _ _ (.inl rfl) e⟩,st⟩
def km.lt(x:km P w H h)(e:H a=some o):a < h.objs.size:=(x a o e).lt
def km.fresh(x:km P w H h)(e:h.objs.size<=a):H a=none:=by
 cases q:H a with
 | none=>rfl
 | some u=>exact aaE (aat (x.lt q) e) (aby _)
def km.kept(x:km P w H h)(k:∀b u,h.get? b=some u->h'.get? b=some u):km P w H h':=λa o e=>
 (x a o e).Ai (λb u _ q=>k b u q) (λ_ q=>q) λ_ _ q=>q
def km.laid(x:km P w H h)(k:∀b u,h.get? b=some u->h'.get? b=some u)(hp:h.objs.size<=a)(new:bL P w (upd H a o) h' a o):km P w (upd H a o) h':=λb u e=>by
 have hn:=x.fresh hp;by_cases hb:b=a
 ·subst hb;rw[aq]at e;cases e;exact new
 ·rw[Θ hb]at e;exact(x b u e).Ai (λc v _ q=>k c v q) (λc q=>by rw[Θ (bJ q hn)];exact q) λc xs q=>by rw[Θ (bJ q hn)];exact q
end
def Rd(H:Hp)(a:Addr)(u:HO):Prop:=H a=some u\/∃o,H a=some (.xD o u)
def Rd.ok{H:Hp}{u:HO}(r:Rd H a u)(x:km P w H h):bL P w H h a u:=by
 rcases r with r| ⟨o,r⟩
 ·exact x a u r
 ·have⟨_,q⟩:=x a _ r;exact q
def OV:Option HO->Prop
 | some (.lst _)=>True
 | some (.dK _)=>True
 | some (.dT _)=>True
 | some (.set _ _)=>True
 | some (.ins _ _ _)=>True
 | some (.ext _)=>True
 | _=>False
section
variable{H:Hp}{x e:Addr}{o':HO}
def km.write(ok:km P w H h)(mu:OV (H x))(he:e=x\/H e=some (.own x))(k:∀b u,b≠e->h.get? b=some u->h'.get? b=some u)(OM:∃u,h'.get? e=some u)
  (new:bL P w (upd H x o') h' x o'):km P w (upd H x o') h':=λb u q=>by
 have Q8:∀c y,H c=some (.own y)->c≠x:=λc y r z=>by subst z;rw[r]at mu;exact mu
 have VU:∀c xs,H c=some (.tup xs)->c≠x:=λc xs r z=>by subst z;rw[r]at mu;exact mu
 by_cases hb:b=x
 ·subst hb;rw[aq]at q;cases q;exact new
 ·rw[Θ hb]at q;by_cases NT:b=e
  ·have q':H b=some (.own x):=by
    rcases he with z| z
    ·exact aaE (NT.trans z) hb
    ·rw[NT];exact z
   rw[q]at q';cases q';have⟨v,hv⟩:=OM;exact⟨v,by rw[NT];exact hv⟩
  ·refine(ok b u q).Ai (λc v hc r=>k c v ?_ r) (λc r=>by rw[Θ (Q8 c b r)];exact r) λc xs r=>by rw[Θ (VU c xs r)];exact r
   rcases hc with rfl| hc
   ·exact NT
   ·rintro rfl;rcases he with z| z
    ·exact Q8 c b hc z
    ·rw[hc]at z;cases z;exact hb rfl
end
structure Un(fs ex:List Addr)(H H':Hp)(h h':Heap):Prop where
 keep:∀b o,h.get? b=some o->H b=none->b∉fs->b∉ex->h'.get? b=some o
 slot:∀b o,h.get? b=some o->H b=none->b∈fs->b∉ex->∃sl,h'.get? b=some {o with slots:=sl}
 free:∀b o,h.get? b=some o->H b=none->b∉ex->H' b=none
 there:∀b o,h.get? b=some o->b∉ex->∃o',h'.get? b=some o'
 pJ:∀b xs,H b=some (.tup xs)->H' b=some (.tup xs)
 nF:∀b o u,H b=some (.xD o u)->H' b=some (.xD o u)
 pK:∀b ps,H b=some (.Ki ps)->∃more,H' b=some (.Ki (ps++more))
section
variable{fs VN ex ex':List Addr}{H H1 H2:Hp}{h1 h2:Heap}{x e:Addr}
def Un.any(u:Un fs ex H H1 h h1){ob:Obj}(q:h.get? b=some ob)(n:H b=none)(hx:b∉ex):∃sl,h1.get? b=some {ob with slots:=sl}:=by
 by_cases hb:b∈fs
 ·exact u.slot b ob q n hb hx
 ·exact⟨ob.slots,u.keep b ob q n hb hx⟩
def Un.kept(k:∀b u,h.get? b=some u->h'.get? b=some u):Un fs ex H H h h':=
 ⟨λb ob q _ _ _=>k b ob q,λb ob q _ _ _=>⟨ob.slots,k b ob q⟩,λ_ _ _ n _=>n,λb ob q _=>⟨ob,k b ob q⟩,λ_ _ q=>q,λ_ _ _ q=>q,λ_ ps q=>⟨#[],by rw[q];simp⟩⟩
def Un.refl:Un fs ex H H h h:=Un.kept λ_ _ q=>q
def Un.laid(k:∀b u,h.get? b=some u->h'.get? b=some u)(hp:h.objs.size<=a)(hn:H a=none):Un fs ex H (upd H a o) h h' where
 keep:=λb u q _ _ _=>k b u q
 slot:=λb u q _ _ _=>⟨u.slots,k b u q⟩
 free:=λb u q n _=>by rw[Θ (aaP (aat (aar q) hp))];exact n
 there:=λb u q _=>⟨u,k b u q⟩
 pJ:=λb xs q=>by rw[Θ (bJ q hn)];exact q
 nF:=λb u xs q=>by rw[Θ (bJ q hn)];exact q
 pK:=λb ps q=>⟨#[],by rw[Θ (bJ q hn),q];simp⟩
def Un.write(mu:OV (H x))(he:e=x\/H e=some (.own x))(k:∀b u,b≠e->h.get? b=some u->h'.get? b=some u)(OM:∃u,h'.get? e=some u):Un fs ex H (upd H x o) h h':=by
 have hx:∀b,H b=none->b≠x:=λb n z=>by subst z;rw[n]at mu;exact mu
 have hb:∀b,H b=none->b≠e:=λb n z=>by
  subst z;rcases he with r| r
  ·exact hx b n r
  ·rw[n]at r;cases r
 have hm:∀b u,H b=some u->¬OV (some u)->b≠x:=λb u q nm z=>by subst z;rw[q]at mu;exact nm mu
 refine⟨λb u q n _ _=>k b u (hb b n) q,λb u q n _ _=>⟨u.slots,k b u (hb b n) q⟩,λb u q n _=>by rw[Θ (hx b n)];exact n,λb u q _=>?_,
  λb xs q=>by rw[Θ (hm b _ q λz=>z)];exact q,λb u xs q=>by rw[Θ (hm b _ q λz=>z)];exact q,λb ps q=>⟨#[],by rw[Θ (hm b _ q λz=>z),q];simp⟩⟩
 by_cases NT:b=e
 ·subst NT;exact OM
 ·exact⟨u,k b u NT q⟩
end
def Si(h:Heap)(H:Hp):List Addr:=(List.range h.objs.size).filter λa=>(H a).isSome
def wD(h:Heap)(H:Hp):Heap:=PySem.W.hideAll h (Si h H)
def DR(h:Heap)(H:Hp):(wD h H).objs.size=h.objs.size:=PySem.W.hideAll_size _ _
def Ip{H:Hp}{o:Obj}(e:h.get? b=some o)(n:H b=none):(wD h H).get? b=some o:=
 PySem.W.hideAll_get _ e λhm=>by have q:(H b).isSome=true:=(List.mem_filter.mp hm).2;rw[n]at q;simp at q
def Ji{H:Hp}{o:Obj}(e:(wD h H).get? b=some o):h.get? b=some o/\H b=none:=by
 have e':h.get? b=some o:=PySem.W.of_hideAll (Si h H) e;refine⟨e',?_⟩;cases q:H b with
 | none=>rfl
 | some x=>
  have hm:b∈Si h H:=List.mem_filter.mpr ⟨List.mem_range.mpr (Heap.lt_size e'),by simp[q]⟩;have z:(wD h H).get? b=none:=PySem.W.hideAll_none (Si h H) hm;rw[z]at e;cases e
structure Mod(K:fI)(mg:Str->Option Value)(base:Heap):Prop where
 O4:K.In base
 glob:base.Ns mainGlobals mg
 blt:∃mb,base.Ns builtinsNs mb/\∀x:Str,x≠"__name__"->mb x=bootBuiltins x
 nolimit:base.NoLimit
structure Cx where
 prog:Program
 w:World
 K:fI
 mg:Str->Option Value
 base:Heap
 A:Around
 N:List Str
 s₀:Shared
 H₀:Hp
 env:Env
 outer:List Env
 stack:List Env
 ex:List Addr
 fn:Str->Bool
 calm:Bool
 pn:List (Addr×Obj)
 xe:Value->Shared->Prop
variable{X:Cx}
def pO(l:List Env):List Addr:=l.filterMap (·.frame)
abbrev Cx.fs(X:Cx):List Addr:=pO X.outer
def UY(sc:Scope)(x:Str):Prop:=sc.names.lookup x=some .local\/sc.names.lookup x=some .cell\/sc.names.lookup x=some .free
def Loc(sc:Scope)(x:Str):Prop:=sc.names.lookup x=some .local\/sc.names.lookup x=some .cell
def WB(env:Env)(h:Heap)(m:Str->Option Value)(x:Str)(u:Value):Prop:=
 (env.kindOf x=some .local/\m x=some u)\/((env.kindOf x=some .cell\/env.kindOf x=some .free)/\∃c,env.cells.lookup x=some c/\h.IsCell c (some u))
structure Cx.Ok(X:Cx):Prop where
 mod:Mod X.K X.mg X.base
 kind:X.env.scope.kind= .function
 glob:X.env.globals=mainGlobals
 blt:X.env.builtins=builtinsNs
 above:X.s₀.heap.objs.size<=X.env.locals
 inj:∀x y c,X.env.cells.lookup x=some c->X.env.cells.lookup y=some c->x=y
 has:∀x,(X.env.kindOf x=some .cell\/X.env.kindOf x=some .free)->∃c,X.env.cells.lookup x=some c
 VY:∀x c,X.fn x=true->X.env.cells.lookup x=some c->X.s₀.heap.objs.size<=c
 hd:X.calm=true->X.A.handled=none
 frames:X.A.frames=some X.stack
 Xp:X.stack=X.outer\/(X.stack=X.env::X.outer/\X.env.frame=some X.env.locals)
 Xw:∀b∈X.ex,b≠X.env.locals/\∀x c,X.env.cells.lookup x=some c->c≠b
 bs:∀b o,X.base.get? b=some o->X.s₀.heap.get? b=some o/\X.H₀ b=none
 OO:X.base.objs.size<=X.s₀.heap.objs.size
 Nk:∀b o,X.base.get? b=some o->b∉X.ex
 Mr:∀b∈X.ex,b∉X.fs
 sP:X.s₀.heap.FunFrames X.base X.outer
 PR:∀b∈X.fs,X.H₀ b=none
structure Inv(X:Cx)(δ:List (Addr×Obj))(σ:List (Option V))(H:Hp)(s:Shared):Prop where
 ok:X.Ok
 os:s.os=X.s₀.os
 bare:AllBare s.gens
 base:Un X.fs X.ex X.H₀ H X.s₀.heap s.heap
 loc:∃m,s.heap.Ns X.env.locals m/\∀(i:Nat) (x:Str) (v:V),X.N[i]? =some x->σ[i]? =some (some v)->UY X.env.scope x->∃u,ax v u/\WB X.env s.heap m x u
 cell:∀x c,X.env.cells.lookup x=some c->∃v,s.heap.IsCell c v
 free:H X.env.locals=none
 ph:∀x c,X.env.cells.lookup x=some c->H c=none
 pin:∀p∈X.pn++δ,s.heap.get? p.1=some p.2/\H p.1=none/\p.1≠X.env.locals/\p.1∉X.fs/\∀v,p.2.data≠ .cell v
 aO:km X.prog X.w H s.heap
 len:σ.length=X.N.length
section
variable{σ:List (Option V)}{H H':Hp}
def Cx.Ok.T5(ok:X.Ok){o:Obj}(e:X.base.get? b=some o):b∉X.fs:=λhb=>by have:=(ok.sP.mem hb).1;rw[e]at this;cases this
def Inv.bs(I:Inv X δ σ H s):∀b o,X.base.get? b=some o->s.heap.get? b=some o/\H b=none:=λb o e=>
 ⟨I.base.keep b o (I.ok.bs b o e).1 (I.ok.bs b o e).2 (I.ok.T5 e) (I.ok.Nk b o e),I.base.free b o (I.ok.bs b o e).1 (I.ok.bs b o e).2 (I.ok.Nk b o e)⟩
def Inv.bk(I:Inv X δ σ H s):∀b o,X.base.get? b=some o->s.heap.get? b=some o:=λb o e=>(I.bs b o e).1
def Inv.mod(I:Inv X δ σ H s):Mod X.K X.mg X.base:=I.ok.mod
def Inv.pG(I:Inv X δ σ H s):X.K.In s.heap:=I.ok.mod.O4.keeps I.bk
def Inv.lt(I:Inv X δ σ H s):X.env.locals < s.heap.objs.size:=let ⟨_,hn,_⟩:=I.loc;hn.lt
def Inv.sz(I:Inv X δ σ H s):X.s₀.heap.objs.size<=s.heap.objs.size:=aaA I.ok.above (Nat.le_of_lt I.lt)
def Inv.U_(I:Inv X δ σ H s)(h:s.heap.objs.size<=a):a∉X.fs:=λhb=>by have⟨_,o,ho,_⟩:=I.ok.sP.mem hb;exact aaE (aat (aar ho) (aaA I.sz h)) (aby _)
def Inv.Jh(I:Inv X δ σ H s):∀x c,X.env.cells.lookup x=some c->c≠X.env.locals:=λx c e z=>by have⟨v,o,ho,hd⟩:=I.cell x c e;have⟨m,⟨o',es,ep,Eb,zD,_⟩,_⟩:=I.loc;rw[z,Eb]at ho;cases ho;rw[zD]at hd;cases hd
def Inv.sP(I:Inv X δ σ H s):s.heap.FunFrames X.base X.outer:=by
 have all:∀(l:List Env),(∀b∈pO l,b∈X.fs)->X.s₀.heap.FunFrames X.base l->s.heap.FunFrames X.base l:=by
  intro l
  induction l with
  | nil=>intro _ _;trivial
  | cons env r ih=>
   intro hs hl;have⟨hk,⟨L,o,hf,hn,ho,hd⟩,hr⟩:=hl;have hL:L∈X.fs:=hs L (by unfold pO;rw[List.filterMap_cons,hf];exact List.mem_cons_self);have⟨sl,e⟩:=I.base.slot L o ho (I.ok.PR L hL) hL λz=>I.ok.Mr L z hL;exact⟨hk,⟨L,_,hf,hn,e,hd⟩,ih (λb hb=>hs b (by unfold pO;rw[List.filterMap_cons,hf];exact List.mem_cons_of_mem _ hb)) hr⟩
 exact all X.outer (λ_ hb=>hb) I.ok.sP
def Inv.stack(I:Inv X δ σ H s):s.heap.FunFrames X.base X.stack:=by
 rcases I.ok.Xp with e| ⟨e,hf⟩
 ·rw[e];exact I.sP
 ·rw[e];have⟨m,hn,_⟩:=I.loc;refine .cons (by rw[I.ok.kind];decide) hf hn ?_ I.sP;exact Heap.get?_none_of_le (aaA I.ok.OO I.ok.above)
def Inv.vV(I:Inv X δ σ H s):∀b∈pO X.stack,b∈X.env.locals::X.fs:=λb hb=>by
 rcases I.ok.Xp with e| ⟨e,hf⟩
 ·rw[e]at hb;exact aad _ hb
 ·rw[e]at hb;unfold pO at hb;rw[List.filterMap_cons,hf]at hb;exact hb
def Inv.wK(I:Inv X δ σ H s):∀b∈pO X.stack,H b=none:=λb hb=>by
 rcases aav.mp (I.vV b hb) with e| hb
 ·rw[e];exact I.free
 ·have⟨_,o,ho,_⟩:=I.ok.sP.mem hb;exact I.base.free b o ho (I.ok.PR b hb) λz=>I.ok.Mr b z hb
def Inv.step{t':Nat}{d':Drawn}(I:Inv X δ σ H s)
  (ER:∀b∈ch,(b∈X.ex\/X.s₀.heap.objs.size<=b)/\b≠X.env.locals/\(∀x c,X.env.cells.lookup x=some c->c≠b)/\∀p∈X.pn++δ,p.1≠b)
  (keep:∀b o,b≠X.env.locals->b∉X.fs->b∉ch->s.heap.get? b=some o->H b=none->h'.get? b=some o)
  (slot:∀b o,b≠X.env.locals->b∈X.fs->b∉ch->s.heap.get? b=some o->H b=none->∃sl,h'.get? b=some {o with slots:=sl}) (free:∀b o,b∉ch->s.heap.get? b=some o->H b=none->H' b=none)
  (there:∀b o,b∉ch->s.heap.get? b=some o->∃o',h'.get? b=some o')
  (pJ:∀b xs,H b=some (.tup xs)->H' b=some (.tup xs)) (nF:∀b o u,H b=some (.xD o u)->H' b=some (.xD o u)) (pK:∀b ps,H b=some (.Ki ps)->∃more,H' b=some (.Ki (ps++more)))
  (ns:∀m,s.heap.Ns X.env.locals m->h'.Ns X.env.locals m) (aO:km X.prog X.w H' h') (hg:AllBare g'):
  Inv X δ σ H' {s with heap:=h',gens:=g',drawn:=d',toks:=t'}:=by
 have Xe:∀b o,X.s₀.heap.get? b=some o->b≠X.env.locals:=λb o e=>aaP (aat (aar e) I.ok.above);have SV:∀b o,X.s₀.heap.get? b=some o->b∉X.ex->b∉ch:=λb o e hx hb=>by
  rcases(ER b hb).1 with z| z
  ·exact hx z
  ·exact aaE (aat (aar e) z) (aby _)
 have cellK:∀x c,X.env.cells.lookup x=some c->∀v,s.heap.IsCell c v->h'.IsCell c v:=λx c e v ⟨o,ho,hd⟩=>by
  have PM:c∉ch:=λz=>(ER c z).2.2.1 x c e rfl;by_cases hc:c∈X.fs
  ·have⟨sl,q⟩:=slot c o (I.Jh x c e) hc PM ho (I.ph x c e);exact⟨_,q,hd⟩
  ·exact⟨o,keep c o (I.Jh x c e) hc PM ho (I.ph x c e),hd⟩
 refine⟨I.ok,I.os,hg,⟨λb o e n hb hx=>?_,λb o e n hb hx=>?_,λb o e n hx=>?_,λb o e hx=>?_,λb xs e=>pJ b xs (I.base.pJ b xs e),λb o xs e=>nF b o xs (I.base.nF b o xs e),λb ps e=>?_⟩,?_,λx c e=>?_,?_,λx c e=>?_,λp hp=>?_,aO,I.len⟩
 ·exact keep b o (Xe b o e) hb (SV b o e hx) (I.base.keep b o e n hb hx) (I.base.free b o e n hx)
 ·have⟨sl,e1⟩:=I.base.slot b o e n hb hx;have⟨sl',e2⟩:=slot b _ (Xe b o e) hb (SV b o e hx) e1 (I.base.free b o e n hx);exact⟨sl',e2⟩
 ·have⟨o',e1⟩:=I.base.there b o e hx;exact free b o' (SV b o e hx) e1 (I.base.free b o e n hx)
 ·have⟨o',e1⟩:=I.base.there b o e hx;exact there b o' (SV b o e hx) e1
 ·have⟨m1,e1⟩:=I.base.pK b ps e;have⟨m2,e2⟩:=pK b _ e1;exact⟨m1++m2,by rw[e2,Array.append_assoc]⟩
 ·have⟨m,hn,hl⟩:=I.loc;refine⟨m,ns m hn,λi x v e1 e2 e3=>?_⟩;have⟨u,r,l⟩:=hl i x v e1 e2 e3;refine⟨u,r,?_⟩;rcases l with l| ⟨k,c,e,z⟩
  ·exact .inl l
  ·exact .inr ⟨k,c,e,cellK x c e _ z⟩
 ·have⟨v,z⟩:=I.cell x c e;exact⟨v,cellK x c e v z⟩
 ·have⟨m,⟨o,_,_,ho,_⟩,_⟩:=I.loc;exact free _ o (λz=>(ER _ z).2.1 rfl) ho I.free
 ·have⟨v,o,ho,hd⟩:=I.cell x c e;exact free c o (λz=>(ER c z).2.2.1 x c e rfl) ho (I.ph x c e)
 ·have⟨e,n,ne,nf,d⟩:=I.pin p hp;have PM:p.1∉ch:=λz=>(ER p.1 z).2.2.2 p hp rfl;exact⟨keep p.1 p.2 ne nf PM e n,free p.1 p.2 PM e n,ne,nf,d⟩
def Inv.un{t':Nat}(I:Inv X δ σ H s)(u:Un X.fs [] H H' s.heap h')(aO:km X.prog X.w H' h'):Inv X δ σ H' {s with heap:=h',toks:=t'}:=by
 have⟨m,⟨o,es,ep,ho,r⟩,_⟩:=id I.loc;have⟨sl,hL⟩:=u.any ho I.free (by simp)
 exact I.step (g':=s.gens) (d':=s.drawn) (ch:=[]) (λ_ z=>nomatch z) (λb o _ hb _ e n=>u.keep b o e n hb (by simp)) (λb o _ hb _ e n=>u.slot b o e n hb (by simp)) (λb o _ e n=>u.free b o e n (by simp)) (λb o _ e=>u.there b o e (by simp)) u.pJ u.nF u.pK (λm' hm=>by
  have⟨o',Vn,UR,Eb,r'⟩:=hm;rw[ho]at Eb;cases Eb
  exact⟨_,Vn,UR,hL,r'⟩) aO I.bare
def Inv.call{t':Nat}{d':Drawn}(I:Inv X δ σ H s)(u:Un (pO X.stack) ch H H' s.heap h')(aO:km X.prog X.w H' h')(hg:AllBare g')
  (ER:∀b∈ch,(b∈X.ex\/X.s₀.heap.objs.size<=b)/\b≠X.env.locals/\(∀x c,X.env.cells.lookup x=some c->c≠b)/\∀p∈X.pn++δ,p.1≠b):
  Inv X δ σ H' {s with heap:=h',gens:=g',drawn:=d',toks:=t'}:=by
 have⟨m,⟨o,es,ep,ho,r⟩,_⟩:=id I.loc;have⟨sl,hL⟩:=u.any ho I.free λz=>(ER _ z).2.1 rfl
 exact I.step (ch:=ch) ER (λb o hL hb hc e n=>u.keep b o e n (λz=>(aav.mp (I.vV b z)).elim hL hb) hc) (λb o _ _ hc e n=>u.any e n hc) (λb o hc e n=>u.free b o e n hc) (λb o hc e=>u.there b o e hc) u.pJ u.nF u.pK (λm' hm=>by
  have⟨o',Vn,UR,Eb,r'⟩:=hm;rw[ho]at Eb;cases Eb
  exact⟨_,Vn,UR,hL,r'⟩) aO hg
def Inv.turned{t':Nat}{it:Addr}(I:Inv X δ σ H s)(k:∀b o,b≠it->s.heap.get? b=some o->h'.get? b=some o)(hn:H it=none)(hL:it≠X.env.locals)
  (h1:it∈X.ex\/X.s₀.heap.objs.size<=it) (h2:∀x c,X.env.cells.lookup x=some c->c≠it) (h3:∀p∈X.pn++δ,p.1≠it):Inv X δ σ H {s with heap:=h',toks:=t'}:=by
 have Xk:∀b u,H b=some u->b≠it:=λb u e z=>by rw[z,hn]at e;cases e
 refine I.step (g':=s.gens) (d':=s.drawn) (ch:=[it]) (λb hb=>?_) (λb o _ _ hc e _=>k b o (λz=>hc (by simp[z])) e) (λb o _ _ hc e _=>⟨o.slots,k b o (λz=>hc (by simp[z])) e⟩) (λ_ _ _ _ n=>n)
  (λb o hc e=>⟨o,k b o (λz=>hc (by simp[z])) e⟩) (λ_ _ e=>e) (λ_ _ _ e=>e) (λb ps e=>⟨#[],by rw[e];simp⟩) (λm hm=>?_) (λb u e=>?_) I.bare
 ·have e:b=it:=by simpa using hb
  subst e;exact⟨h1,hL,h2,h3⟩
 ·have⟨o,es,ep,ho,r⟩:=hm;exact⟨o,es,ep,k _ o (Ne.symm hL) ho,r⟩
 ·refine(I.aO b u e).Ai (λc v hc q=>k c v ?_ q) (λ_ q=>q) λ_ _ q=>q;rcases hc with z| z
  ·rw[z];exact Xk b u e
  ·exact Xk c _ z
def Inv.tok(I:Inv X δ σ H s)(t:Nat):Inv X δ σ H {s with toks:=t}:=I.un (h':=s.heap) (t':=t) Un.refl I.aO
def Inv.kept{t':Nat}(I:Inv X δ σ H s)(k:∀b u,s.heap.get? b=some u->h'.get? b=some u):Inv X δ σ H {s with heap:=h',toks:=t'}:=I.un (Un.kept k) (I.aO.kept k)
def Inv.laid{t':Nat}(I:Inv X δ σ H s)(k:∀b u,s.heap.get? b=some u->h'.get? b=some u)(hp:s.heap.objs.size<=a)(new:bL X.prog X.w (upd H a o) h' a o):
  Inv X δ σ (upd H a o) {s with heap:=h',toks:=t'}:=I.un (Un.laid k hp (I.aO.fresh hp)) (I.aO.laid k hp new)
def Inv.write{x e:Addr}{t':Nat}(I:Inv X δ σ H s)(mu:OV (H x))(he:e=x\/H e=some (.own x))(k:∀b u,b≠e->s.heap.get? b=some u->h'.get? b=some u)(OM:∃u,h'.get? e=some u)
  (new:bL X.prog X.w (upd H x o) h' x o):Inv X δ σ (upd H x o) {s with heap:=h',toks:=t'}:=I.un (Un.write mu he k OM) (I.aO.write mu he k OM new)
def Inv.B4{Ld:List (Addr×Obj)}(I:Inv X δ σ H s)(h:∀p∈Ld,s.heap.get? p.1=some p.2/\H p.1=none/\p.1≠X.env.locals/\p.1∉X.fs/\∀v,p.2.data≠ .cell v):Inv X Ld σ H s:=
 ⟨I.ok,I.os,I.bare,I.base,I.loc,I.cell,I.free,I.ph,λp hp=>(abm.mp hp).elim (λz=>I.pin p (List.mem_append_left _ z)) (h p),I.aO,I.len⟩
def yz{N:List Str}(hN:N.Nodup){j:Nat}(a:N[i]? =some x)(b:N[j]? =some x):i=j:=by have⟨h1,e1⟩:=aaf.mp a;have⟨h2,e2⟩:=aaf.mp b;exact(List.getElem_inj hN).mp (e1.trans e2.symm)
def um{Q:Unit->Shared->Prop}(I:Inv X δ σ H s)(hN:X.N.Nodup)(hi:X.N[i]? =some x)(hx:Loc X.env.scope x)(r:ax v u)
  (h:∀s',Inv X δ (σ.set i (some v)) H s'->(∃a,Heap.SameBut a s.heap s'.heap/\(a=X.env.locals\/X.env.cells.lookup x=some a))->Q Unit.unit s') (hf:X.fn x=true\/X.env.scope.names.lookup x=some .local:=by first| exact .inl rfl| exact .inr rfl| assumption):wpAny M A (storeName X.env x u) Q E s:=by
 have⟨m,hn,hl⟩:=id I.loc;have Uv:(X.env.scope.kind== .class|| (X.env.scope.kind== .module&&X.env.locals != X.env.globals))=false:=by rw[I.ok.kind];rfl
 have QB:i < σ.length:=by rw[I.len];exact(aaf.mp hi).1
 have Jh:=I.Jh;have tracked:∀{a:Addr} {h':Heap},(∃o,s.heap.get? a=some o/\H a=none)->Heap.SameBut a s.heap h'->km X.prog X.w H h':=λ{a h'} ha hs b ob e=>by
  have⟨_,_,Ll⟩:=ha;refine(I.aO b ob e).Ai (λc w' hc q=>(hs.2 c ?_).trans q) (λ_ q=>q) λ_ _ q=>q;rintro rfl;rcases hc with rfl| hc
  ·rw[Ll]at e;cases e
  ·rw[Ll]at hc;cases hc
 rcases hx with hk| hk
 ·refine wpAny_storeName_local hk hn (λh' Mo hs=>?_) Uv;have⟨oL,_,_,hoL,_⟩:=id hn;refine h _ ⟨I.ok,I.os,I.bare,⟨λb o e n hb hx=>?_,λb o e n hb hx=>?_,I.base.free,λb o e hx=>?_,I.base.pJ,I.base.nF,I.base.pK⟩,⟨_,Mo,λj y v' e1 e2 e3=>?_⟩,λy c e=>?_,I.free,I.ph,λp hp=>?_,tracked ⟨oL,hoL,I.free⟩ hs,by simpa using I.len⟩ ⟨_,hs,.inl rfl⟩
  ·exact(hs.2 b (aaP (aat (aar e) I.ok.above))).trans (I.base.keep b o e n hb hx)
  ·have⟨sl,e1⟩:=I.base.slot b o e n hb hx;exact⟨sl,(hs.2 b (aaP (aat (aar e) I.ok.above))).trans e1⟩
  ·have⟨o',e1⟩:=I.base.there b o e hx;exact⟨o',(hs.2 b (aaP (aat (aar e) I.ok.above))).trans e1⟩
  ·by_cases hj:j=i
   ·subst hj;rw[hi]at e1;cases e1;rw[aa0 QB]at e2;cases e2;exact⟨u,r,.inl ⟨hk,by simp⟩⟩
   ·rw[abb (Ne.symm hj)]at e2;have⟨u',r',q⟩:=hl j y v' e1 e2 e3;refine⟨u',r',?_⟩;rcases q with ⟨k,e⟩| ⟨k,c,e,z⟩
    ·refine .inl ⟨k,?_⟩;have:y≠x:=λe=>hj (yz hN e1 (e▸hi));simp[this,e]
    ·exact .inr ⟨k,c,e,z.sameBut hs (Jh y c e)⟩
  ·have⟨w',z⟩:=I.cell y c e;exact⟨w',z.sameBut hs (Jh y c e)⟩
  ·have⟨e,n,ne,nf,d⟩:=I.pin p hp;exact⟨(hs.2 p.1 ne).trans e,n,ne,nf,d⟩
 ·have V3:X.fn x=true:=by
   rcases hf with z| z
   ·exact z
   ·rw[z]at hk;cases hk
  have⟨c,hc⟩:=I.ok.has x (.inl hk);have⟨w',z⟩:=I.cell x c hc;refine wpAny_storeName_cell I.ok.kind hk hc z (λh' Al hs=>?_);have⟨oc,WS,U1⟩:=id z;refine h {s with heap:=h'} ⟨I.ok,I.os,I.bare,⟨λb o e n hb hx=>?_,λb o e n hb hx=>?_,I.base.free,λb o e hx=>?_,I.base.pJ,I.base.nF,I.base.pK⟩,⟨m,hn.sameBut hs (Ne.symm (Jh x c hc)),λj y v' e1 e2 e3=>?_⟩,λy c' e=>?_,I.free,I.ph,λp hp=>?_,tracked ⟨oc,WS,I.ph x c hc⟩ hs,by simpa using I.len⟩ ⟨c,hs,.inr hc⟩
  ·exact(hs.2 b (aaP (aat (aar e) (I.ok.VY x c V3 hc)))).trans (I.base.keep b o e n hb hx)
  ·have⟨sl,e1⟩:=I.base.slot b o e n hb hx;exact⟨sl,(hs.2 b (aaP (aat (aar e) (I.ok.VY x c V3 hc)))).trans e1⟩
  ·have⟨o',e1⟩:=I.base.there b o e hx;exact⟨o',(hs.2 b (aaP (aat (aar e) (I.ok.VY x c V3 hc)))).trans e1⟩
  ·by_cases hj:j=i
   ·subst hj;rw[hi]at e1;cases e1;rw[aa0 QB]at e2;cases e2;exact⟨u,r,.inr ⟨.inl hk,c,hc,Al⟩⟩
   ·rw[abb (Ne.symm hj)]at e2;have⟨u',r',q⟩:=hl j y v' e1 e2 e3;refine⟨u',r',?_⟩;rcases q with q| ⟨k,c',e,z'⟩
    ·exact .inl q
    ·refine .inr ⟨k,c',e,z'.sameBut hs ?_⟩;rintro rfl;exact hj (yz hN e1 (I.ok.inj _ _ _ e hc▸hi))
  ·by_cases N3:c'=c
   ·subst N3;exact⟨_,Al⟩
   ·have⟨w2,z2⟩:=I.cell y c' e;exact⟨w2,z2.sameBut hs N3⟩
  ·have⟨e,n,ne,nf,d⟩:=I.pin p hp;refine⟨(hs.2 p.1 ?_).trans e,n,ne,nf,d⟩;intro q;rw[q,WS]at e;have q':oc=p.2:=aao e;exact d w' (by rw[<-q'];exact U1)
def mO{Q:Unit->Shared->Prop}(I:Inv X δ σ H s)(hN:X.N.Nodup)(hi:X.N[i]? =some x)(hx:Loc X.env.scope x)(r:ax v u)
  (h:∀s',Inv X δ (σ.set i (some v)) H s'->Q Unit.unit s') (hf:X.fn x=true\/X.env.scope.names.lookup x=some .local:=by first| exact .inl rfl| exact .inr rfl| assumption):wpAny M A (storeName X.env x u) Q E s:=
 um I hN hi hx r (λs' I' _=>h s' I') hf
def Inv.Q_{s':Shared}(I:Inv X δ σ H s)(ho:s'.os=s.os)(u:Un (pO X.stack) ch H H' s.heap s'.heap)(aO:km X.prog X.w H' s'.heap)(hg:AllBare s'.gens)
  (ER:∀b∈ch,(b∈X.ex\/X.s₀.heap.objs.size<=b)/\b≠X.env.locals/\(∀x c,X.env.cells.lookup x=some c->c≠b)/\∀p∈X.pn++δ,p.1≠b):Inv X δ σ H' s':=by
 have⟨h',g',d',t',o'⟩:=s';have e:o'=s.os:=ho;subst e;exact I.call (g':=g') (t':=t') (d':=d') u aO hg ER
end
abbrev XK:=Value->Option Addr->Hp->Prop
abbrev St:=List (Option V)
variable{σ:St}
abbrev VK:=V->Hp->Prop
abbrev TE:=St->Hp->VK->Prop
variable{ta te:TE}
abbrev TT:=St->Hp->(Bool->Hp->Prop)->Prop
abbrev TA:=St->Hp->(List V->Hp->Prop)->Prop
structure xB where
 nx:St->Hp->Prop
 rt:VK
 bk:St->Hp->Prop:=λ_ _=>False
 ct:St->Hp->Prop:=λ_ _=>False
abbrev TS:=xB->St->Hp->Prop
def EP(X:Cx)(δ:List (Addr×Obj))(σ:St)(Q:VK)(u:Value)(s':Shared):Prop:=∃v H',Inv X δ σ H' s'/\ax v u/\Q v H'
def TP(X:Cx)(δ:List (Addr×Obj))(σ:St)(Q:Bool->Hp->Prop)(b:Bool)(s':Shared):Prop:=∃H',Inv X δ σ H' s'/\Q b H'
def AP(X:Cx)(δ:List (Addr×Obj))(σ:St)(Q:List V->Hp->Prop)(us:List Value)(s':Shared):Prop:=∃vs H',Inv X δ σ H' s'/\ar vs us/\Q vs H'
def SP(X:Cx)(δ:List (Addr×Obj))(D:xB)(f:Flow)(s':Shared):Prop:=
 match f with
 | .next=>∃σ' H',Inv X δ σ' H' s'/\D.nx σ' H'
 | .brk=>∃σ' H',Inv X δ σ' H' s'/\D.bk σ' H'
 | .cont=>∃σ' H',Inv X δ σ' H' s'/\D.ct σ' H'
 | .ret u=>∃v σ' H',Inv X δ σ' H' s'/\ax v u/\D.rt v H'
def PE(X:Cx)(e:Expr)(t:TE):Prop:=
 ∀(δ:List (Addr×Obj)) (s:Shared) (σ:St) (H:Hp) (Q:VK),Inv X δ σ H s->t σ H Q->wpAny (model X.prog X.w) X.A (eval e X.env) (EP X δ σ Q) X.xe s
def PT(X:Cx)(e:Expr)(t:TT):Prop:=
 ∀(δ:List (Addr×Obj)) (s:Shared) (σ:St) (H:Hp) (Q:Bool->Hp->Prop),Inv X δ σ H s->t σ H Q->wpAny (model X.prog X.w) X.A (isTrue e X.env (eval e X.env)) (TP X δ σ Q) X.xe s
def PW(X:Cx)(e:Expr)(t:TT):Prop:=
 ∀(whole:Sem Value) (δ:List (Addr×Obj)) (s:Shared) (σ:St) (H:Hp) (Q:Bool->Hp->Prop),Inv X δ σ H s->t σ H Q->wpAny (model X.prog X.w) X.A (isTrue e X.env whole) (TP X δ σ Q) X.xe s
def PA(X:Cx)(es:List Expr)(t:TA):Prop:=
 ∀(pos:Pos) (δ:List (Addr×Obj)) (s:Shared) (σ:St) (H:Hp) (Q:List V->Hp->Prop),Inv X δ σ H s->t σ H Q->wpAny (model X.prog X.w) X.A (spliced (backTo pos (starEach es X.env))) (AP X δ σ Q) X.xe s
def PS(X:Cx)(st:Stmt)(t:TS):Prop:=
 ∀(δ:List (Addr×Obj)) (s:Shared) (σ:St) (H:Hp) (D:xB),Inv X δ σ H s->t D σ H->wpAny (model X.prog X.w) X.A (exec st X.env) (SP X δ D) X.xe s
def EO(X:Cx)(st:List Stmt)(t:TS):Prop:=
 ∀(δ:List (Addr×Obj)) (s:Shared) (σ:St) (H:Hp) (D:xB),Inv X δ σ H s->t D σ H->wpAny (model X.prog X.w) X.A (execs st X.env) (SP X δ D) X.xe s
def bH{α:Type}{t:Sem α}{Q Q':α->Shared->Prop}(h:wpAny M A t Q E s)(hQ:∀a s,Q a s->Q' a s):wpAny M A t Q' E s:=abZ h hQ λ_ _ x=>x
section
def TC(i:Nat):TE:=λσ H Q=>∃v,σ[i]? =some (some v)/\Q v H
def tC(v:V):TE:=λ_ H Q=>Q v H
def LZ(hN:X.N[i]? =some x)(hv:UY X.env.scope x)(hd:(x==("__debug__":Str))=false:=by decide)(Gz:(x==("__classdict__":Str))=false:=by decide):PE X (.Name x pos) (TC i):=by
 intro δ s σ H Q I h;have⟨v,e,h⟩:=h;have⟨m,hn,hl⟩:=I.loc;have⟨u,r,l⟩:=hl i x v hN e hv;have fin:EP X δ σ Q u s:=⟨v,H,I,r,h⟩;rcases l with ⟨hk,hm⟩| ⟨hk,c,hc,Lg⟩
 ·exact wpAny_Name (wpAny_loadName_local I.ok.kind hk hn hm fin) hd
 ·rcases hk with hk| hk
  ·exact wpAny_Name (wpAny_loadName_cell I.ok.kind hk hc Lg fin) hd
  ·exact wpAny_Name (wpAny_loadName_free I.ok.kind hk hc Lg fin Gz) hd
def NH{i j pos}:PE X (.Constant (.int i) j pos) (tC (.int i)):=λ_ _ _ H _ I h=>wpAny_Constant_int ⟨.int i,H,I.tok _,⟨_,rfl⟩,h⟩
def Rv{b j pos}:PE X (.Constant (.bool b) j pos) (tC (.bl b)):=λ_ _ _ H _ I h=>Constant_bool ⟨.bl b,H,I,rfl,h⟩
def L6{j pos}:PE X (.Constant .none j pos) (tC .aJ):=λ_ _ _ H _ I h=>Constant_none ⟨.aJ,H,I,rfl,h⟩
def MG{x j pos}:PE X (.Constant (.str x) j pos) (tC (.str x)):=λ_ _ _ H _ I h=>Calls.Constant_str ⟨.str x,H,I.tok _,⟨_,rfl⟩,h⟩
def Gl(X:Cx)(x:Str):Prop:=X.env.kindOf x=some .globalImplicit
def vQ{H:Hp}(I:Inv X δ σ H s)(hg:Gl X x)(hm:X.mg x=some u)(h:Q u s)
  (hd:(x==("__debug__":Str))=false:=by decide):wpAny (model X.prog X.w) X.A (eval (.Name x pos) X.env) Q E s:=
 Calls.Name_function_global I.ok.kind hg (Calls.loadGlobal_global (by rw[I.ok.glob];exact I.mod.glob.keeps I.bk) hm h) hd
def lJ{H:Hp}(I:Inv X δ σ H s)(hg:Gl X x)(hm:X.mg x=none)(hv:bootBuiltins x=some u)(h:Q u s)
  (hn:x≠"__name__":=by decide) (hd:(x==("__debug__":Str))=false:=by decide):wpAny (model X.prog X.w) X.A (eval (.Name x pos) X.env) Q E s:=by
 have⟨mb,h1,h2⟩:=I.mod.blt;exact Calls.Name_function_global I.ok.kind hg (Calls.loadGlobal_builtin (by rw[I.ok.glob];exact I.mod.glob.keeps I.bk) hm (by rw[I.ok.blt];exact h1.keeps I.bk) ((h2 x hn).trans hv) h) hd
def CJ(hg:Gl X x)(hm:X.mg x=some u)(r:ax v u)(hd:(x==("__debug__":Str))=false:=by decide):PE X (.Name x pos) (tC v):=
 λ_ _ _ H _ I h=>vQ I hg hm ⟨v,H,I,r,h⟩ hd
def J7(hg:Gl X x)(hm:X.mg x=none)(hv:bootBuiltins x=some u)(r:ax v u)(hn:x≠"__name__":=by decide)(hd:(x==("__debug__":Str))=false:=by decide):PE X (.Name x pos) (tC v):=
 λ_ _ _ H _ I h=>lJ I hg hm hv ⟨v,H,I,r,h⟩ hn hd
variable{a b:Expr}{tb:TE}
def tB(t:TE):TT:=λσ H Q=>t σ H λx H1=>∃c,x= .bl c/\Q c H1
def Oq{t:TE}(h:PE X e t)(he:∀whole,isTrue e X.env whole=(do let v<-whole;standAt e.pos;holding [v] (truthy v)):=by intro _;rfl):PT X e (tB t):=by intro δ s σ H Q I hw;refine isTrue_plain (bH (h δ s σ H _ I hw) λv s1 xz=>?_) (he _);have⟨x,H1,I1,r1,q1⟩:=xz;have⟨d,rfl,q⟩:=q1;cases r1;exact wpAny_truthy_bool ⟨H1,I1,q⟩
variable{tA QN:TT}{rest:List Expr}
def Wd(t u:TT):TT:=λσ H Q=>t σ H λc H1=>if c=true then u σ H1 Q else Q false H1
def tOr(t u:TT):TT:=λσ H Q=>t σ H λc H1=>if c=true then Q true H1 else u σ H1 Q
def Vu(t:TT):TT:=λσ H Q=>t σ H λc H1=>Q (!c) H1
def pw_and1(ha:PT X a tA):PW X (.BoolOp .And [a] pos) tA:=by
 intro wh δ s σ H Q I h;refine isTrue_and (bH (ha δ s σ H Q I h) λc s1 e=>?_);cases c with
 | true=>exact isTrue_and_nil e
 | false=>exact e
def pw_or1(ha:PT X a tA):PW X (.BoolOp .Or [a] pos) tA:=by
 intro wh δ s σ H Q I h;refine isTrue_or (bH (ha δ s σ H Q I h) λc s1 e=>?_);cases c with
 | false=>exact isTrue_or_nil e
 | true=>exact e
def pw_and(ha:PT X a tA)(hb:PW X (.BoolOp .And (b::rest) pos) QN):PW X (.BoolOp .And (a::b::rest) pos) (Wd tA QN):=by
 intro wh δ s σ H Q I h;refine isTrue_and (bH (ha δ s σ H _ I h) λc s1 xz=>?_);have⟨H1,I1,q1⟩:=xz;cases c with
 | true=>exact hb wh δ s1 σ H1 Q I1 q1
 | false=>exact⟨H1,I1,q1⟩
def pw_or(ha:PT X a tA)(hb:PW X (.BoolOp .Or (b::rest) pos) QN):PW X (.BoolOp .Or (a::b::rest) pos) (tOr tA QN):=by
 intro wh δ s σ H Q I h;refine isTrue_or (bH (ha δ s σ H _ I h) λc s1 xz=>?_);have⟨H1,I1,q1⟩:=xz;cases c with
 | true=>exact⟨H1,I1,q1⟩
 | false=>exact hb wh δ s1 σ H1 Q I1 q1
def Nb(ha:PT X a tA):PT X (.UnaryOp .Not a pos) (Vu tA):=by intro δ s σ H Q I h;exact isTrue_not (ha δ s σ H (λc H1=>Q (!c) H1) I h)
def QJ(ta tb:TE):TE:=λσ H Q=>ta σ H λx H1=>∃c,x= .bl c/\if c=true then tb σ H1 Q else Q (.bl false) H1
def MV{op}{t:TE}(h:PE X a t):PE X (.BoolOp op [a] pos) t:=λδ s σ H Q I hw=>BoolOp_one (h δ s σ H Q I hw)
def OJ(ha:PE X a ta)(hb:PE X (.BoolOp .And (b::rest) pos) tb):PE X (.BoolOp .And (a::b::rest) pos) (QJ ta tb):=by
 intro δ s σ H Q I h;refine BoolOp_and (bH (ha δ s σ H _ I h) λv s1 xz=>?_);have⟨x,H1,I1,r1,q1⟩:=xz;have⟨c,rfl,q1⟩:=q1;cases r1;refine wpAny_truthy_bool ?_;cases c with
 | true=>exact hb δ s1 σ H1 Q I1 q1
 | false=>exact⟨.bl false,H1,I1,rfl,q1⟩
def tIf(t:TT)(ta tb:TE):TE:=λσ H Q=>t σ H λc H1=>if c=true then ta σ H1 Q else tb σ H1 Q
def GO(hc:PT X c tA)(ha:PE X a ta)(hb:PE X b tb):PE X (.IfExp c a b pos) (tIf tA ta tb):=by
 intro δ s σ H Q I h;refine wpAny_IfExp (bH (hc δ s σ H _ I h) λd s1 xz=>?_);have⟨H1,I1,q1⟩:=xz;cases d with
 | true=>exact ha δ s1 σ H1 Q I1 q1
 | false=>exact hb δ s1 σ H1 Q I1 q1
end
def fj(K:fI)(H:Hp)(a:Addr)(xs:List V):Prop:=
 Rd H a (.lst xs)\/
  ∃(o:Obj) (its:Array Value) (n:Nat),K.lookup a=some o/\o.cls= .type "list"/\o.dict=none/\o.data= .seq its n/\its.size<=sizeLine/\ar xs its.toList
def mq(K:fI)(H:Hp)(a:Addr)(xs:List V):Prop:=
 Rd H a (.tup xs)\/
  ∃(o:Obj) (its:Array Value) (n:Nat),K.lookup a=some o/\o.cls= .type "tuple"/\o.data= .seq its n/\its.size<=sizeLine/\ar xs its.toList
def U':Value->Option V
 | .none=>some .aJ
 | .bool b=>some (.bl b)
 | .int i _=>some (.int i)
 | .str x _=>some (.str x)
 | .bytes b _=>some (.EK b)
 | .float b _=>some (.Oc b)
 | .ref a=>some (.ref a)
 | .type n=>some (.ty n)
 | _=>none
def ax.abs{x:V}(r:ax x u):U' u=some x:=by
 cases x with
 | aJ=>cases r;rfl
 | bl _=>cases r;rfl
 | int _=>have⟨t,rfl⟩:=r;rfl
 | str _=>have⟨t,rfl⟩:=r;rfl
 | EK _=>have⟨t,rfl⟩:=r;rfl
 | Oc _=>have⟨t,rfl⟩:=r;rfl
 | ref _=>cases r;rfl
 | ty _=>cases r;rfl
def ax.inj{x y:V}{u:Value}(r:ax x u)(q:ax y u):x=y:=aao (r.abs.symm.trans q.abs)
def ar.inj:∀{xs ys:List V} {us:List Value},ar xs us->ar ys us->xs=ys
 | _,_,_,.nil,.nil=>rfl
 | _,_,_,.cons r t,.cons r' t'=>by rw[r.inj r',ar.inj t t']
section
variable{H:Hp}{xs ys:List V}
def fj.of{K:fI}(h:H a=some (.lst xs)):fj K H a xs:=.inl (.inl h)
def mq.of{K:fI}(h:H a=some (.tup xs)):mq K H a xs:=.inl (.inl h)
def Inv.list(I:Inv X δ σ H s)(h:fj X.K H a xs):∃its:List Value,ar xs its/\PlainL s.heap a its.toArray/\xs.length<=sizeLine:=by
 rcases h with h| ⟨o,its,n,hk,hc,hd,hs,hz,r⟩
 ·have⟨z,its,n,r,e⟩:=h.ok I.aO;exact⟨its,r,⟨_,n,e,rfl,rfl,rfl⟩,z⟩
 ·refine⟨its.toList,r,⟨o,n,I.pG a o hk,hc,hd,by simpa using hs⟩,?_⟩;have e:=r.length;simp only[Array.length_toList]at e;omega
def Inv.tuple(I:Inv X δ σ H s)(h:mq X.K H a xs):∃its:List Value,ar xs its/\IsTup s.heap a its.toArray/\xs.length<=sizeLine:=by
 rcases h with h| ⟨o,its,n,hk,hc,hs,hz,r⟩
 ·have⟨z,its,r,p⟩:=h.ok I.aO;exact⟨its,r,p,z⟩
 ·refine⟨its.toList,r,⟨o,I.pG a o hk,hc,n,by simpa using hs⟩,?_⟩;have e:=r.length;simp only[Array.length_toList]at e;omega
def Inv.bS(I:Inv X δ σ H s)(h:fj X.K H a xs)(h':fj X.K H a ys):xs=ys:=by
 have⟨its,r,⟨o,n,e,_,_,d⟩,_⟩:=I.list h;have⟨its',r',⟨o',n',e',_,_,d'⟩,_⟩:=I.list h';rw[e]at e';cases e';rw[d]at d';injection d' with d1 _
 have:its=its':=by simpa using congrArg Array.toList d1
 subst this;exact r.inj r'
def Inv.j8(I:Inv X δ σ H s)(h:mq X.K H a xs)(h':mq X.K H a ys):xs=ys:=by
 have⟨its,r,⟨o,e,_,n,d⟩,_⟩:=I.tuple h;have⟨its',r',⟨o',e',_,n',d'⟩,_⟩:=I.tuple h';rw[e]at e';cases e';rw[d]at d';injection d' with d1 _
 have:its=its':=by simpa using congrArg Array.toList d1
 subst this;exact r.inj r'
end
section
variable{st:Stmt}{rest:List Stmt}{t u:TS}
def Pk:TS:=λD σ H=>D.nx σ H
def Uo(t u:TS):TS:=λD σ H=>t {D with nx:=u D} σ H
def JL:EO X [] Pk:=λ_ _ σ H _ I h=>wpAny_execs_nil ⟨σ,H,I,h⟩
def Fx(h1:PS X st t)(h2:EO X rest u):EO X (st::rest) (Uo t u):=by
 intro δ s σ H D I h;refine wpAny_execs_cons (bH (h1 δ s σ H {D with nx:=u D} I h) λf s1 q=>?_);cases f with
 | next=>
  have⟨σ',H',I',q⟩:=q;exact h2 δ s1 σ' H' D I' q
 | ret v=>exact q
 | brk=>exact q
 | cont=>exact q
def Kb(h1:PS X st t):EO X [st] t:=by
 intro δ s σ H D I h;refine wpAny_execs_cons (bH (h1 δ s σ H D I h) λf s1 q=>?_);cases f with
 | next=>exact wpAny_execs_nil q
 | ret v=>exact q
 | brk=>exact q
 | cont=>exact q
def Qk:TS:=λD σ H=>D.ct σ H
def zd:PS X (.Continue pos) Qk:=λ_ _ σ H _ I h=>wpAny_Continue ⟨σ,H,I,h⟩
def Inv.quiet{H:Hp}(I:Inv X δ σ H s):interactive X.env=false:=by simp[interactive,I.ok.kind]
def Rt(te:TE):TS:=λD σ H=>te σ H λ_ H1=>D.nx σ H1
def JB(he:PE X e te)(hs:swapsWith e none pos.line X.env=pure false:=by rfl):PS X (.Expr e pos) (Rt te):=by intro δ s σ H D I h;exact wpAny_Expr_any (bH (he δ s σ H _ I h) λv s1 ⟨x,H1,I1,r1,q1⟩=>⟨σ,H1,I1,q1⟩) I.quiet hs
def Vx(te:TE):TS:=λD σ H=>te σ H D.rt
def L9(he:PE X e te):PS X (.Return (some e) pos) (Vx te):=by intro δ s σ H D I h;exact wpAny_Return_some (bH (he δ s σ H _ I h) λv s1 ⟨x,H1,I1,r1,q1⟩=>⟨x,σ,H1,I1,r1,q1⟩)
def VJ(c:TT)(t u:TS):TS:=λD σ H=>c σ H λb H1=>if b=true then t D σ H1 else u D σ H1
def PF{a b:List Stmt}{tc:TT}(hc:PT X c tc)(ha:EO X a t)(hb:EO X b u):PS X (.If c a b pos) (VJ tc t u):=by
 intro δ s σ H D I h;refine wpAny_If (bH (hc δ s σ H _ I h) λd s1 xz=>?_);have⟨H1,I1,q1⟩:=xz;cases d with
 | true=>exact ha δ s1 σ H1 D I1 q1
 | false=>exact hb δ s1 σ H1 D I1 q1
end
abbrev TG:=V->St->Hp->(St->Hp->Prop)->Prop
abbrev Na:=List V->St->Hp->(St->Hp->Prop)->Prop
def PG(X:Cx)(target:Expr)(t:TG):Prop:=
 ∀(δ:List (Addr×Obj)) (s:Shared) (σ:St) (H:Hp) (v:V) (u:Value) (Q:St->Hp->Prop),Inv X δ σ H s->ax v u->t v σ H Q->
  wpAny (model X.prog X.w) X.A (assign target X.env u) (λ_ s'=>∃σ' H',Inv X δ σ' H' s'/\Q σ' H') X.xe s
def Sh(X:Cx)(ts:List Expr)(t:Na):Prop:=
 ∀(δ:List (Addr×Obj)) (s:Shared) (σ:St) (H:Hp) (vs:List V) (us:List Value) (Q:St->Hp->Prop),Inv X δ σ H s->ar vs us->t vs σ H Q->
  wpAny (model X.prog X.w) X.A (assignInOrder ((assignEach ts X.env).map (·.2)) us) (λ_ s'=>∃σ' H',Inv X δ σ' H' s'/\Q σ' H') X.xe s
abbrev M9:=V->V->V->Hp->(Hp->Prop)->Prop
def Ru(X:Cx)(t:M9):Prop:=
 ∀(δ:List (Addr×Obj)) (s:Shared) (σ:St) (H:Hp) (o i v:V) (ov iv u:Value) (Q:Hp->Prop),Inv X δ σ H s->ax o ov->ax i iv->ax v u->t o i v H Q->
  wpAny (model X.prog X.w) X.A (setItem ov iv u) (λ_ s'=>∃H',Inv X δ σ H' s'/\Q H') X.xe s
section
def ij(i:Nat):TG:=λv σ H Q=>Q (σ.set i (some v)) H
def ay(hN:X.N.Nodup)(hi:X.N[i]? =some x)(hx:Loc X.env.scope x)(hf:X.fn x=true\/X.env.scope.names.lookup x=some .local:=by first| exact .inl rfl| exact .inr rfl| assumption):PG X (.Name x pos) (ij i):=by intro δ s σ H v u Q I r h;exact wpAny_assign_Name (mO I hN hi hx r (λs' I'=>⟨_,H,I',h⟩) hf)
def Fc:Na:=λvs σ H Q=>vs=[]/\Q σ H
def nj(t:TG)(u:Na):Na:=λvs σ H Q=>∃v r,vs=v::r/\t v σ H λσ' H'=>u r σ' H' Q
def iR:Sh X [] Fc:=by intro δ s σ H vs us Q I r h;have⟨e,h⟩:=h;subst e;cases r;exact assignInOrder_nil ⟨σ,H,I,h⟩
def bD{t:TG}{u:Na}(h1:PG X e t)(h2:Sh X es u)
  (hs:(assignEach (e::es) X.env).map (·.2)=assign e X.env::(assignEach es X.env).map (·.2):=by rfl):Sh X (e::es) (nj t u):=by
 intro δ s σ H vs us Q I r h;have⟨v,vr,e1,h⟩:=h;subst e1;cases r with
 | cons r rr=>
  rw[hs];refine assignInOrder_cons (bH (h1 δ s σ H _ _ _ I r h) λ_ s1 xz=>?_);have⟨σ1,H1,I1,q1⟩:=xz;exact h2 δ s1 σ1 H1 _ _ Q I1 rr q1
def G7(K:fI)(n:Nat)(t:Na):TG:=λv σ H Q=>∃a xs,v= .ref a/\mq K H a xs/\xs.length=n/\t xs σ H Q
def lD{k:Nat}{t:Na}{n:Nat}(hc:X.calm=true)(h:Sh X es t)
  (hn:(assignEach es X.env).length=n:=by rfl) (Oy:(assignEach es X.env).findIdx? (·.1)=none:=by rfl):PG X (.Tuple es k pos) (G7 X.K n t):=by
 intro δ s σ H v u Q I r hw;have⟨a,xs,e1,hq,hl,hw⟩:=hw;subst e1;cases r;have⟨its,rv,ht,hz⟩:=I.tuple hq;refine assign_Tuple_tuple (I.ok.hd hc) ht (by simp[hn,<-hl,rv.length]) Oy λh' hx=>?_;have I1:Inv X δ σ H {s with heap:=h'}:=I.kept (t':=s.toks) λb o e=>hx b o (aaP (aar e)) e;exact h δ _ σ H xs _ Q I1 (by simpa using rv) hw
def Tj(to ti:TE)(t:M9):TG:=λv σ H Q=>to σ H λo H1=>ti σ H1 λi H2=>t o i v H2 λH3=>Q σ H3
def Ou{o i:Expr}{to ti:TE}{t:M9}(ho:PE X o to)(hi:PE X i ti)(hs:Ru X t)
  (ha:∀v,assign (.Subscript o i pos) X.env v=(do
   let ov<-holding [v] (eval o X.env)
   let iv<-holding [v,ov] (eval i X.env)
   standAt pos
   holding [v,ov,iv] (setItem ov iv v)
   release [v,ov,iv] []):=by intro _;rfl):PG X (.Subscript o i pos) (Tj to ti t):=by
 intro δ s σ H v u Q I r h;rw[ha];refine aaF (wpAny_holding (bH (ho δ s σ H _ I h) λov s1 xz=>?_));have⟨x,H1,I1,r1,q1⟩:=xz;refine aaF (wpAny_holding (bH (hi δ s1 σ H1 _ I1 q1) λiv s2 xz=>?_));have⟨y,H2,I2,r2,q2⟩:=xz;refine aaF (wpAny_standAt (aaF (wpAny_holding (bH (hs δ s2 σ H2 x y v ov iv u _ I2 r1 r2 r q2) λ_ s3 xz=>?_))));have⟨H3,I3,q3⟩:=xz;exact wpAny_release ⟨σ,H3,I3,q3⟩
def Qi(te:TE)(g:TG):TS:=λD σ H=>te σ H λx H1=>g x σ H1 D.nx
def FE{g:TG}(he:PE X e te)(hg:PG X tg g)(hs:swapsWithSole [tg] e pos.line X.env=pure false:=by rfl)(hw:swappedStores [tg] e X.env=pure none:=by rfl)
  (h1:(assignEach [tg] X.env).map (·.2)=[assign tg X.env]:=by rfl):PS X (.Assign [tg] e pos) (Qi te g):=by
 intro δ s σ H D I h;refine wpAny_Assign_stores (bH (he δ s σ H _ I h) λv s1 xz=>?_) hs hw;have⟨x,H1,I1,r1,q1⟩:=xz;rw[h1];exact bH (hg δ s1 σ H1 x v _ I1 r1 q1) λ_ s2 q=>q
def Mv{pos':Pos}(hN:X.N.Nodup)(hi:X.N[i]? =some x)(hx:Loc X.env.scope x)(he:PE X e te)(hs:swapsWith e (some (.Name x pos')) pos.line X.env=pure false:=by rfl)(hf:X.fn x=true\/X.env.scope.names.lookup x=some .local:=by first| exact .inl rfl| exact .inr rfl| assumption):
  PS X (.Assign [.Name x pos'] e pos) (Qi te (ij i)):=by
 intro δ s σ H D I h;refine wpAny_Assign_Name (bH (he δ s σ H _ I h) λv s1 xz=>?_) hs;have⟨y,H1,I1,r1,q1⟩:=xz;exact mO I1 hN hi hx r1 (λs2 I2=>⟨_,H1,I2,q1⟩) hf
def U4(i j:Nat)(ta:TA):TS:=λD σ H=>ta σ H λvs H1=>∃v w,vs=[v,w]/\D.nx ((σ.set i (some v)).set j (some w)) H1
def MB{j:Nat}{y:Str}{a b:Expr}{ta:TA}{px py pt:Pos}{kt k2 MC}(hc:X.calm=true)(hN:X.N.Nodup)(hi:X.N[i]? =some x)(hj:X.N[j]? =some y)(UJ:i≠j)
  (hx:X.env.scope.names.lookup x=some .local) (hy:X.env.scope.names.lookup y=some .local) (ha:PA X [a,b] ta)
  (hw:swappedStores [.Tuple [.Name x px,.Name y py] kt pt] (.Tuple [a,b] k2 MC) X.env=pure (some [x,y]))
  (hs:swapsWithSole [.Tuple [.Name x px,.Name y py] kt pt] (.Tuple [a,b] k2 MC) pos.line X.env=pure false:=by rfl):
  PS X (.Assign [.Tuple [.Name x px,.Name y py] kt pt] (.Tuple [a,b] k2 MC) pos) (U4 i j ta):=by
 intro δ s σ H D I h;rw[exec_Assign_arm];refine aaF (wpAny_standAt ?_);rw[hs];refine aaF (aa5 ?_);rw[aay @_];refine aaF (Tuple_ (bH (ha _ δ s σ H _ I h) λus s1 xz=>?_));have⟨vs,H1,I1,r1,q1⟩:=xz;have⟨v,w,e1,q1⟩:=q1;subst e1;obtain⟨u1,u2,rfl,rv,Dq⟩:∃u1 u2,us=[u1,u2]/\ax v u1/\ax w u2:=by
  cases r1 with
  | cons p q=>
   cases q with
   | cons p' q'=>
    cases q';exact⟨_,_,rfl,p,p'⟩
 refine wpAny_newObj_type ?_ gV;have I2:Inv X δ σ H1 {s1 with heap:=s1.heap.push {cls:=.type "tuple",data:=.seq [u1,u2].toArray}}:=I1.kept (t':=s1.toks) λb o e=>aaj _ e;rw[hw];refine aaF (aa5 ?_);show wpAny (model X.prog X.w) X.A (do rule "assign.swapped-stores";let items<-unpackItems (.ref s1.heap.objs.size) 2 none;assignInOrder [λv=>bindName X.env y v,λv=>bindName X.env x v] items.reverse;pure Flow.next) _ _ _;refine aaF (wpAny_rule (aaF (unpackItems_tuple (items:= #[u1,u2]) (I.ok.hd hc) (IsTup.new s1.heap _) λh' V0=>?_)));have I3:=I2.kept (h':=h') (t':=s1.toks) λb o e=>V0 b o (aaP (aar e)) e;show wpAny _ _ (assignInOrder [λv=>bindName X.env y v,λv=>bindName X.env x v] [u2,u1] >>= λ_=>pure Flow.next) _ _ _;refine aaF (assignInOrder_cons (wpAny_bindName (mO I3 hN hj (.inl hy) Dq (λs2 I4=>?_) (.inr hy))));refine assignInOrder_cons (wpAny_bindName (mO I4 hN hi (.inl hx) rv (λs3 I5=>assignInOrder_nil (aa5 ?_)) (.inr hx)));rw[List.set_comm _ _ (Ne.symm UJ)]at I5;exact⟨_,H1,I5,q1⟩
end
section
def MY(c:TT)(tb:TS):TS:=λD σ H=>∃W:Nat->St->Hp->Prop,(∃m,W m σ H)/\∀m σ H,W m σ H->
 c σ H λb H1=>if b=true then∃N:St->Hp->Prop,(∀σ' H',N σ' H'->∃m',m' < m/\W m' σ' H')/\tb {D with nx:=N,ct:=N,bk:=D.nx} σ H1 else D.nx σ H1
def Hs{tc:TT}{tb:TS}(hp:PassesOwn (model X.prog X.w) X.A X.env X.xe)(hc:PT X c tc)(hb:EO X body tb):PS X (.While c body [] pos) (MY tc tb):=by
 intro δ s σ H D I h;have⟨W,⟨m0,w0⟩,turn⟩:=h;refine wpAny_While (codeAny_whileLoop (λn s'=>∃σ' H',Inv X δ σ' H' s'/\W n σ' H') ?_ m0 ⟨σ,H,I,w0⟩);rintro n s1 ⟨σ1,H1,I1,w1⟩;refine wpAny_passesOwn hp (bH (hc δ s1 σ1 H1 _ I1 (turn n σ1 H1 w1)) λb s2 xz=>?_);have⟨H2,I2,q2⟩:=xz;cases b with
 | true=>
  have⟨N,hN,q2⟩:=q2;rw[aaw rfl];refine wpAny_passesOwn hp (bH (hb δ s2 σ1 H2 _ I2 q2) λf s3 q3=>?_);cases f with
  | next=>
   have⟨σ3,H3,I3,n3⟩:=q3;have⟨m',hm,w3⟩:=hN σ3 H3 n3;exact⟨m',hm,σ3,H3,I3,w3⟩
  | cont=>
   have⟨σ3,H3,I3,n3⟩:=q3;have⟨m',hm,w3⟩:=hN σ3 H3 n3;exact⟨m',hm,σ3,H3,I3,w3⟩
  | brk=>exact q3
  | ret v=>exact q3
 | false=>
  rw[aay aaz];exact wpAny_execs_nil ⟨σ1,H2,I2,q2⟩
end
structure It where
 go:Nat->Hp->Prop
 Qo:Nat->Hp->V->Hp->Prop
 stop:Nat->Hp->Prop
def rj(X:Cx)(δ:List (Addr×Obj))(H:Hp)(b:Addr):Prop:=
 H b=none/\b≠X.env.locals/\b∉X.fs/\(b∈X.ex\/X.s₀.heap.objs.size<=b)/\(∀x c,X.env.cells.lookup x=some c->c≠b)/\∀p∈X.pn++δ,p.1≠b
def Inv.z7{H H':Hp}(I:Inv X δ σ H s)(hb:s.heap.objs.size<=b)(hn:H' b=none):rj X δ H' b:=by
 refine⟨hn,ach (aat I.lt hb),I.U_ hb,.inr (aaA I.sz hb),λx c e z=>?_,λp hp z=>?_⟩
 ·have⟨v,q⟩:=I.cell x c e;exact aaE (aat q.lt (by rw[z];exact hb)) (aby _)
 ·exact aaE (aat (aar (I.pin p hp).1) (by rw[z];exact hb)) (aby _)
structure Turn(P:Program)(w:World)(K:fI)(tg:Expr)(J:It)(fp:List Addr)(it:Addr)(tn:Nat->Heap->Prop):Prop where
 mem:it∈fp
 obj:∀i h,tn i h->∀b∈fp,∃o,h.get? b=some o/\∀v,o.data≠ .cell v
 keep:∀i h h',tn i h->(∀b∈fp,∀o,h.get? b=some o->h'.get? b=some o)->tn i h'
 item:∀(X:Cx),X.prog=P->X.w=w->X.K=K->X.calm=true->∀(i:Nat) (δ:List (Addr×Obj)) (s:Shared) (σ:St) (H:Hp) (E:Value->Shared->Prop),Inv X δ σ H s->(∀b∈fp,rj X δ H b)->tn i s.heap->J.go i H->
  wpAny (model P w) X.A (pyNext (.ref it)) (λr s1=>∃u,r=some u/\
   wpAny (model P w) X.A (letOwnedTupleGo tg (.ref it) u) (λ_ s2=>∃x H',Inv X δ σ H' s2/\ax x u/\J.Qo i H x H'/\tn (i+1) s2.heap/\∀b∈fp,H' b=none) E s1) E s
 done:∀(X:Cx),X.prog=P->X.w=w->X.K=K->X.calm=true->∀(i:Nat) (δ:List (Addr×Obj)) (s:Shared) (σ:St) (H:Hp) (E:Value->Shared->Prop),Inv X δ σ H s->(∀b∈fp,rj X δ H b)->tn i s.heap->J.stop i H->
  wpAny (model P w) X.A (pyNext (.ref it)) (λr s1=>r=none/\Inv X δ σ H s1) E s
 self:∀(A:Around) (i:Nat) (s:Shared) (Q:Value->Shared->Prop) (E:Value->Shared->Prop),tn i s.heap->Q (.ref it) s->wpAny (model P w) A (pyIter (.ref it)) Q E s
abbrev TI:=St->Hp->(It->Hp->Prop)->Prop
def IT(X:Cx)(δ:List (Addr×Obj))(σ:St)(tg:Expr)(R:It->Hp->Prop)(Td:Value)(s2:Shared):Prop:=
 ∃(it:Addr) (fp:List Addr) (tn:Nat->Heap->Prop) (J:It) (H':Hp),Td= .ref it/\Inv X δ σ H' s2/\Turn X.prog X.w X.K tg J fp it tn/\tn 0 s2.heap/\(∀b∈fp,rj X δ H' b)/\R J H'
def PI(X:Cx)(tg iter:Expr)(wi:TI):Prop:=
 ∀(δ:List (Addr×Obj)) (s:Shared) (σ:St) (H:Hp) (R:It->Hp->Prop),Inv X δ σ H s->wi σ H R->
  wpAny (model X.prog X.w) X.A (eval iter X.env) (λv s1=>wpAny (model X.prog X.w) X.A (pyIter v) (IT X δ σ tg R) X.xe s1) X.xe s
def uN   {E : Value -> Shared -> Prop}   {it : Addr}  {o : Obj} {n : String} {vs : Array Value} {Q : Unit -> Shared -> Prop} (ho : s.heap.get? it = some o) (hc : o.cls = .type n) (hd : o.data = .fields vs)
    (hn : ["enumerate","zip","dict_itemiterator","dict_reverseitemiterator","odict_iterator","itertools.zip_longest","itertools.pairwise"].contains n = false) (hQ : Q Unit.unit s) : wpAny M A (letOwnedTupleGo tg (.ref it) u) Q E s :=by
  unfold letOwnedTupleGo
  cases tg <;> first
    | exact aa5 hQ
    | (cases u <;> first
        | exact aa5 hQ
        | (refine aaF (wpAny_load ho ?_)
           rw[hc,hd];show wpAny M A (if (["enumerate","zip","dict_itemiterator","dict_reverseitemiterator","odict_iterator","itertools.zip_longest","itertools.pairwise"].contains n && vs[0]? == some (rawInt _)) = true then _ else _) Q E s;rw[aay (by intro h;rw[hn,Bool.false_and]at h;cases h)]
           exact aa5 hQ))
def SH(K:fI)(a:Addr):It:=
 ⟨λi H=>∃xs x,fj K H a xs/\xs[i]? =some x,λi H x H'=>H'=H/\∀xs,fj K H a xs->xs[i]? =some x,λi H=>∃xs,fj K H a xs/\xs.length<=i⟩
def UZ(K:fI)(a:Addr):It:=
 ⟨λi H=>∃xs x,mq K H a xs/\xs[i]? =some x,λi H x H'=>H'=H/\∀xs,mq K H a xs->xs[i]? =some x,λi H=>∃xs,mq K H a xs/\xs.length<=i⟩
def RW(lo:Int)(n:Nat):It:=⟨λi _=>i < n,λi H x H'=>H'=H/\x= .int (lo+i),λi _=>n<=i⟩
def DP{K:fI}(a it:Addr):Turn P w K tg (SH K a) [it] it (λi h=>h.IsListIter it a i) where
 mem:=by simp
 obj:=λi h st b hb=>by
  have e:b=it:=by simpa using hb
  subst e;have⟨o,e,c,d⟩:=st;exact⟨o,e,λv z=>by rw[d]at z;cases z⟩
 keep:=λi h h' st k=>st.at λo e=>k it (by simp) o e
 item:=by intro X hP hw hK hc i δ s σ H E I hf st hg;subst hP hw hK;have⟨xs,x,hq,hx⟩:=hg;have⟨its,rv,p,hz⟩:=I.list hq;have⟨u,hu,ru⟩:=rv.get hx;have⟨f0,f1,f2,f3,f4,f5⟩:=hf it (by simp);refine wpAny_pyNext_list_item st p.isList (x:=u) (by simpa using hu) λh' wb sb=>?_;have I1:Inv X δ σ H {s with heap:=h'}:=I.turned (t':=s.toks) (λb o hb e=>(sb.2 b hb).trans e) f0 f1 f3 f4 f5;have⟨o,e,c,d⟩:=id wb;exact⟨u,rfl,uN (s:={s with heap:=h'}) e c d @_ ⟨x,H,I1,ru,⟨rfl,λys hy=>by rw[I.bS hy hq];exact hx⟩,wb,λb hb=>(hf b hb).1⟩⟩
 done:=by intro X hP hw hK hc i δ s σ H E I hf st hg;subst hP hw hK;have⟨xs,hq,hx⟩:=hg;have⟨its,rv,p,hz⟩:=I.list hq;have⟨f0,f1,f2,f3,f4,f5⟩:=hf it (by simp);have hl:=rv.length;exact wpAny_pyNext_list_end (I.ok.hd hc) st p.isList (by simp;omega) λh' eb=>⟨rfl,I.turned (t':=s.toks) (λb o hb e=>eb b o hb e) f0 f1 f3 f4 f5⟩
 self:=λ_ _ _ _ _ st h=>wpAny_pyIter_listiter st h
def A4{K:fI}(a it:Addr):Turn P w K tg (UZ K a) [it] it (λi h=>h.IsTupleIter it a i) where
 mem:=by simp
 obj:=λi h st b hb=>by
  have e:b=it:=by simpa using hb
  subst e;have⟨o,e,c,d⟩:=st;exact⟨o,e,λv z=>by rw[d]at z;cases z⟩
 keep:=λi h h' st k=>st.at λo e=>k it (by simp) o e
 item:=by intro X hP hw hK hc i δ s σ H E I hf st hg;subst hP hw hK;have⟨xs,x,hq,hx⟩:=hg;have⟨its,rv,p,hz⟩:=I.tuple hq;have⟨u,hu,ru⟩:=rv.get hx;have⟨f0,f1,f2,f3,f4,f5⟩:=hf it (by simp);refine wpAny_pyNext_tuple_item st (show s.heap.IsTuple a its.toArray from p) (x:=u) (by simpa using hu) λh' wb sb=>?_;have I1:Inv X δ σ H {s with heap:=h'}:=I.turned (t':=s.toks) (λb o hb e=>(sb.2 b hb).trans e) f0 f1 f3 f4 f5;have⟨o,e,c,d⟩:=id wb;exact⟨u,rfl,uN (s:={s with heap:=h'}) e c d @_ ⟨x,H,I1,ru,⟨rfl,λys hy=>by rw[I.j8 hy hq];exact hx⟩,wb,λb hb=>(hf b hb).1⟩⟩
 done:=by intro X hP hw hK hc i δ s σ H E I hf st hg;subst hP hw hK;have⟨xs,hq,hx⟩:=hg;have⟨its,rv,p,hz⟩:=I.tuple hq;have⟨f0,f1,f2,f3,f4,f5⟩:=hf it (by simp);have hl:=rv.length;exact wpAny_pyNext_tuple_end (I.ok.hd hc) st (show s.heap.IsTuple a its.toArray from p) (by simp;omega) λh' eb=>⟨rfl,I.turned (t':=s.toks) (λb o hb e=>eb b o hb e) f0 f1 f3 f4 f5⟩
 self:=λ_ _ _ _ _ st h=>wpAny_pyIter_tupleiter st h
def A6{K:fI}(it:Addr)(lo:Int)(n:Nat):Turn P w K tg (RW lo n) [it] it (λi h=>IsRangeIter h it (lo+(i:Nat) * 1) ((n:Int) - (i:Nat)) 1) where
 mem:=by simp
 obj:=λi h st b hb=>by
  have e:b=it:=by simpa using hb
  subst e
  exact⟨_,st,λv z=>by
   have z':Data.fields _=Data.cell v:=z
   cases z'⟩
 keep:=λi h h' st k=>k it (by simp) _ st
 item:=by intro X hP hw hK hc i δ s σ H E I hf st hg;subst hP hw hK;have⟨f0,f1,f2,f3,f4,f5⟩:=hf it (by simp);have W:=Walks.range (prog:=X.prog) (w:=X.w) (I.ok.hd hc) it lo 1 n;refine W.item i s _ _ hg st λv h' tk hv wb kk=>?_;have⟨t,rfl⟩:=hv;have I1:Inv X δ σ H {s with heap:=h',toks:=tk}:=I.turned (λb o hb e=>kk b o (by simpa using hb) e) f0 f1 f3 f4 f5;refine⟨_,rfl,uN (s:={s with heap:=h',toks:=tk}) (n:="range_iterator") wb rfl rfl @_ ⟨.int (lo+i),H,I1,⟨t,?_⟩,⟨rfl,rfl⟩,wb,λb hb=>(hf b hb).1⟩⟩;rw[Int.mul_one]
 done:=by intro X hP hw hK hc i δ s σ H E I hf st hg;subst hP hw hK;have⟨f0,f1,f2,f3,f4,f5⟩:=hf it (by simp);exact wpAny_pyNext_range_end (I.ok.hd hc) st (by have:n<=i:=hg;omega) λh' eb=>⟨rfl,I.turned (t':=s.toks) (λb o hb e=>eb b o hb e) f0 f1 f3 f4 f5⟩
 self:=λ_ _ _ _ _ st h=>wpAny_pyIter_rangeiter st h
section
def x4{H:Hp}{R:It->Hp->Prop}{lo hi:Int}{t u v:Tok}{tk:Nat}(I:Inv X δ σ H s)(h1: -(2 ^ 62)<=lo)(h2:lo < 2 ^ 62)(h3: -(2 ^ 62)<=hi)(h4:hi < 2 ^ 62)
  (q:R (RW lo (hi - lo).toNat) H):wpAny (model X.prog X.w) X.A (pyIter (.ref s.heap.objs.size)) (IT X δ σ tg R) E {s with heap:=s.heap.push {cls:=.type "range",data:=.fields #[.int lo t,.int hi u,.int 1 v]},toks:=tk}:=by
 refine wpAny_pyIter_range (IsRange.new ..) (small_one h1 h2 h3 h4) ?_;have I1:Inv X δ σ H {s with heap:=s.heap.push {cls:=.type "range",data:=.fields #[.int lo t,.int hi u,.int 1 v]},toks:=tk}:=I.kept λb o e=>aaj _ e
 refine⟨(s.heap.push {cls:=.type "range",data:=.fields #[.int lo t,.int hi u,.int 1 v]}).objs.size,[(s.heap.push {cls:=.type "range",data:=.fields #[.int lo t,.int hi u,.int 1 v]}).objs.size],_,_,H,rfl,
  I1.kept (t':=tk) λb o e=>aaj _ e,A6 _ lo (hi - lo).toNat,?_,λb hb=>?_,q⟩
 ·have e1:lo+((0:Nat):Int) * 1=lo:=by simp
  have e2:(((hi - lo).toNat:Nat):Int) - ((0:Nat):Int)=Builtin.Range.rangeSize lo hi 1:=by rw[rangeSize_one];split <;> omega
  show IsRangeIter _ _ (lo+((0:Nat):Int) * 1) ((((hi - lo).toNat:Nat):Int) - ((0:Nat):Int)) 1;rw[e1,e2];exact aaN _ rfl
 ·have e:b=(s.heap.push {cls:=.type "range",data:=.fields #[.int lo t,.int hi u,.int 1 v]}).objs.size:=by simpa using hb
  subst e;exact I1.z7 (aai _) (I1.aO.fresh (aai _))
def Pd(ta:TA):TI:=λσ H R=>ta σ H λvs H1=>∃j:Int,vs=[.int j]/\ -(2 ^ 62)<=j/\j < 2 ^ 62/\R (RW 0 j.toNat) H1
def Ph(ta:TA):TI:=λσ H R=>ta σ H λvs H1=>∃i j:Int,vs=[.int i,.int j]/\(-(2 ^ 62)<=i/\i < 2 ^ 62/\ -(2 ^ 62)<=j/\j < 2 ^ 62)/\R (RW i (j - i).toNat) H1
def DU{a:Expr}{ta:TA}{p:Pos}(hg:Gl X "range")(hm:X.mg "range"=none)(ha:PA X [a] ta)(hs:starEach [a] X.env=[(false,eval a X.env)]:=by rfl):PI X tg (.Call (.Name "range" p) [a] [] pos) (Pd ta):=by
 intro δ s σ H R I h;refine Call_ (lJ I hg hm boot_range (PyProof.Rows.callWith_type1 (bH (ha pos δ s σ H _ I h) λus s1 xz=>?_) hs rfl));have⟨vs,H1,I1,r1,q1⟩:=xz;have⟨j,e,q1,q2,q⟩:=q1;subst e;cases r1 with
 | cons r rr=>
  cases rr;have⟨t,rfl⟩:=r;exact call_range_1 (x4 I1 () () q1 q2 (by simpa using q))
def D8{a b:Expr}{ta:TA}{p:Pos}(hg:Gl X "range")(hm:X.mg "range"=none)(ha:PA X [a,b] ta)(hs:starEach [a,b] X.env=[(false,eval a X.env),(false,eval b X.env)]:=by rfl)(N2:starEach [b] X.env=[(false,eval b X.env)]:=by rfl):
  PI X tg (.Call (.Name "range" p) [a,b] [] pos) (Ph ta):=by
 intro δ s σ H R I h;refine Call_ (lJ I hg hm boot_range (PyProof.Rows.callWith_type1 (bH (ha pos δ s σ H _ I h) fun us s1 ⟨vs,H1,I1,r1,q1⟩=>?_) (by rw[hs,N2]) (by rw[N2];rfl)));have⟨i,j,e,⟨q1,q2,q3,q4⟩,q⟩:=q1;subst e;cases r1 with
 | cons r rr=>
  cases rr with
  | cons r' rr=>
   cases rr;have⟨t,rfl⟩:=r;have⟨t',rfl⟩:=r';exact call_range_2 (x4 I1 q1 q2 q3 q4 q)
def VB(wi:TI)(g:TG)(tb:TS):TS:=λD σ H=>wi σ H λJ H1=>∃W:Nat->Nat->St->Hp->Prop,(∃m,W 0 m σ H1)/\∀i m σ H,W i m σ H->
 (J.stop i H/\D.nx σ H)\/(J.go i H/\∃N:St->Hp->Prop,(∀σ' H',N σ' H'->∃m',m' < m/\W (i+1) m' σ' H')/\∀x H',J.Qo i H x H'->g x σ H' λσ2 H2=>tb {D with nx:=N,ct:=N,bk:=D.nx} σ2 H2)
def wc(fp:List Addr)(h:Heap):List (Addr×Obj):=fp.filterMap λb=>(h.get? b).map λo=>(b,o)
def eJ{o:Obj}(hb:b∈fp)(e:h.get? b=some o):(b,o)∈wc fp h:=acf.mpr ⟨b,hb,by rw[e];rfl⟩
def Eh{p:Addr×Obj}(hp:p∈wc fp h):p.1∈fp/\h.get? p.1=some p.2:=by
 have⟨b,hb,e⟩:=acf.mp hp;cases q:h.get? b with
 | none=>rw[q]at e;cases e
 | some o=>
  rw[q]at e;have e':(b,o)=p:=aao e;subst e';exact⟨hb,q⟩
def Inv.pinned{H:Hp}(I:Inv X δ σ H s)(hf:∀b∈fp,rj X δ H b)(ho:∀b∈fp,∃o,s.heap.get? b=some o/\∀v,o.data≠ .cell v):Inv X (δ++wc fp s.heap) σ H s:=
 I.B4 λp hp=>(abm.mp hp).elim (λz=>I.pin p (aaD _ z)) λz=>by have⟨hb,e⟩:=Eh z;have⟨f0,f1,f2,_⟩:=hf p.1 hb;have⟨o,e',d⟩:=ho p.1 hb;rw[e]at e';cases e';exact⟨e,f0,f1,f2,d⟩
def Inv.jV{pl:List (Addr×Obj)}{H:Hp}(I:Inv X (δ++pl) σ H s):Inv X δ σ H s:=I.B4 λp hp=>I.pin p (aaD _ (List.mem_append_left _ hp))
def Af{iter:Expr}{wi:TI}{g:TG}{tb:TS}(hp:PassesOwn (model X.prog X.w) X.A X.env X.xe)(hc:X.calm=true)(hi:PI X tg iter wi)(hg:PG X tg g)(hb:EO X body tb)
  (hs:∀x,foldedSetIterable iter X.env x=pure x:=by intro _;rfl):PS X (.For tg iter body [] pos) (VB wi g tb):=by
 intro δ s σ H D I h;refine wpAny_For (bH (hi δ s σ H _ I h) λv s1 h1=>bH h1 λTd s2 h2=>?_) hs;have⟨it,fp,tn,J,H2,e,I2,T,Yg,f2,W,⟨m0,w0⟩,turn⟩:=h2;subst e;have NB:∀{H':Hp},(∀b∈fp,H' b=none)->∀b∈fp,rj X δ H' b:=λhn b hb=>⟨hn b hb,(f2 b hb).2⟩;refine codeAny_forLoop_any (λn s'=>∃i σ' H',Inv X δ σ' H' s'/\tn i s'.heap/\(∀b∈fp,H' b=none)/\W i n σ' H') ?_ m0 ⟨0,σ,H2,I2,Yg,λb hb=>(f2 b hb).1,w0⟩;rintro n s3 ⟨i,σ3,H3,I3,XA,XN,w3⟩;rcases turn i n σ3 H3 w3 with ⟨stop,qn⟩| ⟨go,N,hN,step⟩
 ·refine wpAny_passesOwn hp (bH (T.done X rfl rfl rfl hc i δ s3 σ3 H3 X.xe I3 (NB XN) XA stop) λr s4 xz=>?_);have⟨hr,I4⟩:=xz;subst hr;exact wpAny_execs_nil ⟨σ3,H3,I4,qn⟩
 ·refine wpAny_passesOwn hp (bH (T.item X rfl rfl rfl hc i δ s3 σ3 H3 X.xe I3 (NB XN) XA go) λr s4 xz=>?_);have⟨u,hr,h4⟩:=xz;subst hr;refine wpAny_passesOwn hp (bH h4 λ_ s5 xz=>?_);have⟨x,H5,I5,r5,y5,Ub,S8⟩:=xz;have Yk:=I5.pinned (NB S8) (T.obj _ _ Ub);refine wpAny_passesOwn hp (bH (hg _ s5 σ3 H5 x u _ Yk r5 (step x H5 y5)) λ_ s6 xz=>?_);have⟨σ6,H6,I6,q6⟩:=xz;refine wpAny_passesOwn hp (bH (hb _ s6 σ6 H6 _ I6 q6) λf s7 q7=>?_);have again:∀{σ7:St} {H7:Hp},Inv X (δ++wc fp s5.heap) σ7 H7 s7->N σ7 H7->∃m,m < n/\∃i σ' H',Inv X δ σ' H' s7/\tn i s7.heap/\(∀b∈fp,H' b=none)/\W i m σ' H':=λ{σ7 H7} I7 n7=>by have⟨m',hm,w7⟩:=hN σ7 H7 n7;refine⟨m',hm,i+1,σ7,H7,I7.jV,T.keep _ _ _ Ub λb hb o e=>(I7.pin (b,o) (aaD _ (aaD _ (eJ hb e)))).1,λb hb=>?_,w7⟩;have⟨o,e,d⟩:=T.obj _ _ Ub b hb;exact(I7.pin (b,o) (aaD _ (aaD _ (eJ hb e)))).2.1
  cases f with
  | next=>have⟨σ7,H7,I7,n7⟩:=q7;exact again I7 n7
  | cont=>have⟨σ7,H7,I7,n7⟩:=q7;exact again I7 n7
  | brk=>have⟨σ7,H7,I7,q7⟩:=q7;exact⟨σ7,H7,I7.jV,q7⟩
  | ret v=>have⟨x7,σ7,H7,I7,r7,q7⟩:=q7;exact⟨x7,σ7,H7,I7.jV,r7,q7⟩
end
abbrev R2:=V->V->Hp->VK->Prop
def jN(X:Cx)(f:Value->Value->Sem Value)(r:R2):Prop:=
 ∀(δ:List (Addr×Obj)) (s:Shared) (σ:St) (H:Hp) (x y:V) (v u:Value) (Q:VK),Inv X δ σ H s->ax x v->ax y u->r x y H Q->
  wpAny (model X.prog X.w) X.A (f v u) (EP X δ σ Q) X.xe s
def Sj(X:Cx)(f:Value->Sem Value)(r:V->Hp->VK->Prop):Prop:=
 ∀(δ:List (Addr×Obj)) (s:Shared) (σ:St) (H:Hp) (x:V) (v:Value) (Q:VK),Inv X δ σ H s->ax x v->r x H Q->
  wpAny (model X.prog X.w) X.A (f v) (EP X δ σ Q) X.xe s
def dE(X:Cx)(f:Value)(r:List V->Hp->VK->Prop):Prop:=
 ∀(δ:List (Addr×Obj)) (s:Shared) (σ:St) (H:Hp) (xs:List V) (us:List Value) (Q:VK),Inv X δ σ H s->ar xs us->r xs H Q->
  wpAny (model X.prog X.w) X.A (call f us) (EP X δ σ Q) X.xe s
def Q3(r:R2)(ta tb:TE):TE:=λσ H Q=>ta σ H λx H1=>tb σ H1 λy H2=>r x y H2 Q
def XT(r:V->Hp->VK->Prop)(ta:TE):TE:=λσ H Q=>ta σ H λx H1=>r x H1 Q
def rI(C:Int->Int->Prop)(g:Int->Int->V):R2:=λx y H Q=>∃i j,x= .int i/\y= .int j/\C i j/\Q (g i j) H
def Ei(g:Int->Int->V):R2:=λx y H Q=>∃i j,x= .int i/\y= .int j/\Q (g i j) H
def rU(g:Int->V):V->Hp->VK->Prop:=λx H Q=>∃i,x= .int i/\Q (g i) H
section
variable{a b:Expr}{tb tc:TE}
def M8(ha:PE X a ta)(hb:PE X b tb){H:Hp}{R:V->V->Hp->Prop}(I:Inv X δ σ H s)
  (h:ta σ H λx H1=>tb σ H1 λy H2=>R x y H2)
  (hf:∀v u s2 x y H2,Inv X δ σ H2 s2->ax x v->ax y u->R x y H2->wpAny (model X.prog X.w) X.A (f v u) Q X.xe s2):
  wpAny (model X.prog X.w) X.A (eval a X.env) (λv s₁=>wpAny (model X.prog X.w) X.A (eval b X.env) (λu s₂=>wpAny (model X.prog X.w) X.A (f v u) Q X.xe s₂) X.xe s₁) X.xe s:=by
 refine bH (ha δ s σ H _ I h) λv s1 xz=>?_;have⟨x,H1,I1,r1,q1⟩:=xz;refine bH (hb δ s1 σ H1 _ I1 q1) λu s2 xz=>?_;have⟨y,H2,I2,r2,q2⟩:=xz;exact hf v u s2 x y H2 I2 r1 r2 q2
def P2{op:Operator}{r:R2}(ho:jN X (binaryOp op) r)(ha:PE X a ta)(hb:PE X b tb):PE X (.BinOp a op b pos) (Q3 r ta tb):=by intro δ s σ H Q I h;exact wpAny_BinOp (M8 ha hb I h λv u s2 x y H2 I2 rx ry q=>ho δ s2 σ H2 x y v u Q I2 rx ry q)
def Ry{op:UnaryOp}{r:V->Hp->VK->Prop}(ho:Sj X (unaryOp op) r)(ha:PE X a ta):PE X (.UnaryOp op a pos) (XT r ta):=by intro δ s σ H Q I h;exact UnaryOp_ (bH (ha δ s σ H _ I h) λv s1 ⟨x,H1,I1,r1,q1⟩=>ho δ s1 σ H1 x v Q I1 r1 q1)
def Tc{C:Int->Int->Prop}{g:Int->Int->Int}
  (rule:∀(i j:Int) (t u:Tok) (s:Shared) (Q:Value->Shared->Prop) (E:Value->Shared->Prop),C i j->Q (.int (g i j) s.toks) {s with toks:=s.toks+1}->wpAny (model X.prog X.w) X.A (f (.int i t) (.int j u)) Q E s):
  jN X f (rI C λi j=>.int (g i j)):=by
 intro δ s σ H x y v u Q I rx ry h;have⟨i,j,rfl,rfl,hc,q⟩:=h;have⟨t,rfl⟩:=rx;have⟨t',rfl⟩:=ry;exact rule i j t t' s _ _ hc ⟨.int (g i j),H,I.tok _,⟨_,rfl⟩,q⟩
def RX{g:Int->Int->Int}
  (rule:∀(i j:Int) (t u:Tok) (s:Shared) (Q:Value->Shared->Prop) (E:Value->Shared->Prop),Q (.int (g i j) s.toks) {s with toks:=s.toks+1}->wpAny (model X.prog X.w) X.A (f (.int i t) (.int j u)) Q E s):
  jN X f (Ei λi j=>.int (g i j)):=by
 intro δ s σ H x y v u Q I rx ry h;have⟨i,j,rfl,rfl,q⟩:=h;have⟨t,rfl⟩:=rx;have⟨t',rfl⟩:=ry;exact rule i j t t' s _ _ ⟨.int (g i j),H,I.tok _,⟨_,rfl⟩,q⟩
def KP{g:Int->Int->Bool}
  (rule:∀(i j:Int) (t u:Tok) (s:Shared) (Q:Value->Shared->Prop) (E:Value->Shared->Prop),Q (.bool (g i j)) s->wpAny (model X.prog X.w) X.A (f (.int i t) (.int j u)) Q E s):
  jN X f (Ei λi j=>.bl (g i j)):=by
 intro δ s σ H x y v u Q I rx ry h;have⟨i,j,rfl,rfl,q⟩:=h;have⟨t,rfl⟩:=rx;have⟨t',rfl⟩:=ry;exact rule i j t t' s _ _ ⟨.bl (g i j),H,I,rfl,q⟩
def G6(i j:Int):Prop:=0<=j/\j<=1000000/\i.natAbs < 2 ^ 64
def Nh:jN X (binaryOp .Add) (Ei λi j=>.int (i+j)):=RX λ_ _ _ _ _ _ _ q=>add_int q
def MI:jN X (binaryOp .Sub) (Ei λi j=>.int (i - j)):=RX λ_ _ _ _ _ _ _ q=>sub_int q
def Oz:jN X (binaryOp .Mod) (rI (λ_ j=>0 < j) λi j=>.int (i % j)):=Tc λi j _ _ _ _ _ hc q=>by have h1:(0:Int) < j:=hc;exact mod_int' () (by rw[abD i ()];exact q)
def LX:jN X (binaryOp .Pow) (rI G6 λi j=>.int (i ^ j.toNat)):=Tc λ_ _ _ _ _ _ _ hc q=>pow_int_small hc.1 hc.2.1 hc.2.2 q
def unI{f:Value->Sem Value}{g:Int->Int}
  (rule:∀(i:Int) (t:Tok) (s:Shared) (Q:Value->Shared->Prop) (E:Value->Shared->Prop),Q (.int (g i) s.toks) {s with toks:=s.toks+1}->wpAny (model X.prog X.w) X.A (f (.int i t)) Q E s):
  Sj X f (rU λi=>.int (g i)):=by
 intro δ s σ H x v Q I rx h;have⟨i,rfl,q⟩:=h;have⟨t,rfl⟩:=rx;exact rule i t s _ _ ⟨.int (g i),H,I.tok _,⟨_,rfl⟩,q⟩
def Nt:Sj X (unaryOp .USub) (rU λi=>.int (-i)):=unI λ_ _ _ _ _ q=>neg_int q
end
def RH:V->V->Bool
 | .aJ,.aJ=>true| .aJ,.int _=>true| .int _,.aJ=>true| .aJ,.bl _=>true| .bl _,.aJ=>true| .aJ,.str _=>true| .str _,.aJ=>true
 | .int _,.int _=>true| .bl _,.bl _=>true| .str _,.str _=>true| .EK _,.EK _=>true
 | .int _,.str _=>true| .str _,.int _=>true| .bl _,.str _=>true| .str _,.bl _=>true
 | _,_=>false
def W9:R2:=λx y H Q=>RH x y=true/\Q (.bl (decide (x=y))) H
def XU:R2:=λx y H Q=>RH x y=true/\Q (.bl (!decide (x=y))) H
def Cp{i j:Int}:decide (V.int i=V.int j)=(i==j):=by rw[abT];simp
def Il{i j:Bool}:decide (V.bl i=V.bl j)=(i==j):=by rw[abT];simp
def B5{i j:Str}:decide (V.str i=V.str j)=(i==j):=by rw[abT];simp
def CL{i j:Array UInt8}:decide (V.EK i=V.EK j)=(i.toList==j.toList):=by rw[abT];cases i;cases j;simp
section
variable{a b:Expr}{tb tc:TE}
def aF{H:Hp}{Q:VK}{k k':Bool}(I:Inv X δ σ H s)(q:Q (.bl k) H)(e:k=k'):EP X δ σ Q (.bool k') s:=by subst e;exact⟨.bl k,H,I,rfl,q⟩
def Lq:jN X (compareOp .Eq) W9:=by
 intro δ s σ H x y v u Q I rx ry h;have⟨hs,q⟩:=h;cases x with
 | aJ=>
  cases rx;cases y with
  | aJ=>cases ry;exact PySem.EqNone.eq_none_none (aF I q (by simp))
  | bl j=>cases ry;exact PySem.EqNone.eq_none_bool (aF I q (by simp))
  | int j=>have⟨t',rfl⟩:=ry;exact PySem.EqNone.eq_none_int (aF I q (by simp))
  | str j=>have⟨t',rfl⟩:=ry;exact PySem.EqNone.eq_none_str (aF I q (by simp))
  | _=>exact aaE (show false=true from hs) aaz
 | bl i=>
  cases rx;cases y with
  | aJ=>cases ry;exact PySem.EqNone.eq_bool_none (aF I q (by simp))
  | bl j=>cases ry;exact eq_bool (aF I q Il)
  | str j=>have⟨t',rfl⟩:=ry;exact PySem.EqMixed.eq_bool_str (aF I q (by simp))
  | _=>exact aaE (show false=true from hs) aaz
 | int i=>
  have⟨t,rfl⟩:=rx;cases y with
  | aJ=>cases ry;exact PySem.EqNone.eq_int_none (aF I q (by simp))
  | int j=>have⟨t',rfl⟩:=ry;exact eq_int (aF I q Cp)
  | str j=>have⟨t',rfl⟩:=ry;exact PySem.EqMixed.eq_int_str (aF I q (by simp))
  | _=>exact aaE (show false=true from hs) aaz
 | str i=>
  have⟨t,rfl⟩:=rx;cases y with
  | aJ=>cases ry;exact PySem.EqNone.eq_str_none (aF I q (by simp))
  | bl j=>cases ry;exact PySem.EqMixed.eq_str_bool (aF I q (by simp))
  | int j=>have⟨t',rfl⟩:=ry;exact PySem.EqMixed.eq_str_int (aF I q (by simp))
  | str j=>have⟨t',rfl⟩:=ry;exact eq_str (aF I q B5)
  | _=>exact aaE (show false=true from hs) aaz
 | EK i=>
  have⟨t,rfl⟩:=rx;cases y with
  | EK j=>have⟨t',rfl⟩:=ry;exact PySem.W.eq_bytes (aF I q CL)
  | _=>exact aaE (show false=true from hs) aaz
 | _=>cases y <;> exact aaE (show false=true from hs) aaz
def PJ:jN X (compareOp .NotEq) XU:=by
 intro δ s σ H x y v u Q I rx ry h;have⟨hs,q⟩:=h;cases x with
 | aJ=>
  cases rx;cases y with
  | aJ=>cases ry;exact PySem.EqNone.ne_none_none (aF I q (by simp))
  | bl j=>cases ry;exact PySem.EqNone.ne_none_bool (aF I q (by simp))
  | int j=>have⟨t',rfl⟩:=ry;exact PySem.EqNone.ne_none_int (aF I q (by simp))
  | str j=>have⟨t',rfl⟩:=ry;exact PySem.EqNone.ne_none_str (aF I q (by simp))
  | _=>exact aaE (show false=true from hs) aaz
 | bl i=>
  cases rx;cases y with
  | aJ=>cases ry;exact PySem.EqNone.ne_bool_none (aF I q (by simp))
  | bl j=>cases ry;exact ne_bool (aF I q (aaU not Il))
  | str j=>have⟨t',rfl⟩:=ry;exact PySem.EqMixed.ne_bool_str (aF I q (by simp))
  | _=>exact aaE (show false=true from hs) aaz
 | int i=>
  have⟨t,rfl⟩:=rx;cases y with
  | aJ=>cases ry;exact PySem.EqNone.ne_int_none (aF I q (by simp))
  | int j=>have⟨t',rfl⟩:=ry;exact ne_int (aF I q (aaU not Cp))
  | str j=>have⟨t',rfl⟩:=ry;exact PySem.EqMixed.ne_int_str (aF I q (by simp))
  | _=>exact aaE (show false=true from hs) aaz
 | str i=>
  have⟨t,rfl⟩:=rx;cases y with
  | aJ=>cases ry;exact PySem.EqNone.ne_str_none (aF I q (by simp))
  | bl j=>cases ry;exact PySem.EqMixed.ne_str_bool (aF I q (by simp))
  | int j=>have⟨t',rfl⟩:=ry;exact PySem.EqMixed.ne_str_int (aF I q (by simp))
  | str j=>have⟨t',rfl⟩:=ry;exact ne_str (aF I q (aaU not B5))
  | _=>exact aaE (show false=true from hs) aaz
 | EK i=>
  have⟨t,rfl⟩:=rx;cases y with
  | EK j=>have⟨t',rfl⟩:=ry;exact PySem.W.ne_bytes (aF I q (aaU not CL))
  | _=>exact aaE (show false=true from hs) aaz
 | _=>cases y <;> exact aaE (show false=true from hs) aaz
def Lp:jN X (compareOp .Lt) (Ei λi j=>.bl (decide (i < j))):=KP λ_ _ _ _ _ _ _ q=>lt_int q
def Lz:jN X (compareOp .LtE) (Ei λi j=>.bl (decide (i<=j))):=KP λ_ _ _ _ _ _ _ q=>le_int q
def Pm:jN X (compareOp .Gt) (Ei λi j=>.bl (decide (j < i))):=KP λ_ _ _ _ _ _ _ q=>gt_int q
def Pf:jN X (compareOp .GtE) (Ei λi j=>.bl (decide (j<=i))):=KP λ_ _ _ _ _ _ _ q=>ge_int q
def FI:jN X (compareOp .Is) (λx y H Q=>y= .aJ/\Q (.bl (decide (x= .aJ))) H):=by
 intro δ s σ H x y v u Q I rx ry h;have⟨rfl,q⟩:=h;cases ry;refine is_none_gen (aF I q ?_)
 cases x <;> first
  | (cases rx;rfl)
  | (have⟨t,rfl⟩:=rx;rfl)
def BV:jN X (compareOp .IsNot) (λx y H Q=>y= .aJ/\Q (.bl (!decide (x= .aJ))) H):=by
 intro δ s σ H x y v u Q I rx ry h;have⟨rfl,q⟩:=h;cases ry;refine isnot_none_gen (aF I q ?_)
 cases x <;> first
  | (cases rx;rfl)
  | (have⟨t,rfl⟩:=rx;rfl)
def jN.or{r r':R2}(h:jN X f r)(h':jN X f r'):jN X f (λx y H Q=>r x y H Q\/r' x y H Q):=by
 intro δ s σ H x y v u Q I rx ry q;rcases q with q| q
 ·exact h δ s σ H x y v u Q I rx ry q
 ·exact h' δ s σ H x y v u Q I rx ry q
def eD(b:Expr)(h:op≠ .In:=by decide)(h2:op≠ .NotIn:=by decide):behindInMarks op b=false:=by
 have e1:(op==CmpOp.In)=false:=by cases op <;> first| rfl| exact aaE rfl h
 have e2:(op==CmpOp.NotIn)=false:=by cases op <;> first| rfl| exact aaE rfl h2
 cases b <;> simp[behindInMarks,e1,e2]
def J8{r:R2}(ho:jN X (compareOp op) r)(ha:PE X a ta)(hb:PE X b tb)(hm:behindInMarks op b=false):PE X (.Compare a [op] [b] pos) (Q3 r ta tb):=by intro δ s σ H Q I h;exact wpAny_Compare1 (M8 ha hb I h λv u s2 x y H2 I2 rx ry q=>ho δ s2 σ H2 x y v u Q I2 rx ry q) hm
def Rp(t:TE):TT:=λσ H Q=>t σ H λx H'=>∃k,x= .bl k/\Q k H'
def IY{r:R2}(ho:jN X (compareOp op) r)(ha:PE X a ta)(hb:PE X b tb)(hm:behindInMarks op b=false):PT X (.Compare a [op] [b] pos) (Rp (Q3 r ta tb)):=by
 intro δ s σ H Q I h
 refine wpAny_isTrue_Compare1 (bH (ha δ s σ H _ I h) fun v s1 ⟨x,H1,I1,r1,q1⟩=>bH (hb δ s1 σ H1 _ I1 q1) fun u s2 ⟨y,H2,I2,r2,q2⟩=>
  bH (ho δ s2 σ H2 x y v u _ I2 r1 r2 q2) fun c s3 ⟨z,H3,I3,r3,k,e,q3⟩=>?_) hm
 subst e;cases r3;exact wpAny_truthy_bool ⟨H3,I3,q3⟩
def ou:(sizeLine:Nat) < 2 ^ 63:=by rw[sizeLine_eq];decide
def BD:jN X (binaryOp .Add) (λx y H Q=>∃i j,x= .str i/\y= .str j/\i.length+j.length<=sizeLine/\Q (.str (i++j)) H):=by intro δ s σ H x y v u Q I rx ry h;have⟨i,j,rfl,rfl,hz,q⟩:=h;have⟨t,rfl⟩:=rx;have⟨t',rfl⟩:=ry;exact add_str (λt' tk=>⟨.str (i++j),H,I.tok _,⟨_,rfl⟩,q⟩) hz
def pE{x:V}(r:ar [x] us):∃u,us=[u]/\ax x u:=by
 cases r with
 | cons r1 r2=>cases r2;exact⟨_,rfl,r1⟩
def IL{x y:V}(r:ar [x,y] us):∃u w',us=[u,w']/\ax x u/\ax y w':=by
 cases r with
 | cons r1 r2=>
  cases r2 with
  | cons r3 r4=>cases r4;exact⟨_,_,rfl,r1,r3⟩
def HP:dE X (.builtin "abs") (λxs H Q=>∃i,xs=[.int i]/\Q (.int (if i < 0 then -i else i)) H):=by intro δ s σ H xs us Q I r h;have⟨i,rfl,q⟩:=h;have⟨u,rfl,t,rfl⟩:=pE r;exact call_abs_int λu tk=>⟨.int (if i < 0 then -i else i),H,I.tok _,⟨_,rfl⟩,q⟩
def Ek(hc:X.calm=true):dE X (.builtin "max") (λxs H Q=>∃i j,xs=[.int i,.int j]/\Q (.int (if j > i then j else i)) H):=by
 intro δ s σ H xs us Q I r h;have⟨i,j,rfl,q⟩:=h;have⟨u,w',rfl,⟨t,rfl⟩,⟨t',rfl⟩⟩:=IL r;refine max_two_ints (I.ok.hd hc) λh' tk k=>⟨_,H,I.kept k,?_,q⟩;by_cases hj:j > i
 ·rw[aaw hj,aaw hj];exact⟨_,rfl⟩
 ·rw[aay hj,aay hj];exact⟨_,rfl⟩
def Eg(hc:X.calm=true):dE X (.builtin "min") (λxs H Q=>∃i j,xs=[.int i,.int j]/\Q (.int (if j < i then j else i)) H):=by
 intro δ s σ H xs us Q I r h;have⟨i,j,rfl,q⟩:=h;have⟨u,w',rfl,⟨t,rfl⟩,⟨t',rfl⟩⟩:=IL r;refine min_two_ints (I.ok.hd hc) λh' tk k=>⟨_,H,I.kept k,?_,q⟩;by_cases hj:j < i
 ·rw[aaw hj,aaw hj];exact⟨_,rfl⟩
 ·rw[aay hj,aay hj];exact⟨_,rfl⟩
end
structure z4(h:Heap)(x dx C:Addr)(mA:Str->Option Value):Prop where
 obj:h.get? x=some (PySem.W.instObj C dx)
 ns:h.Ns1 dx mA
 ne:dx≠x
def Eo(n:h.Ns1 dx mA):∃od,h.get? dx=some od/\∀name,PySem.W.lookIn name od=some (mA name):=by
 have⟨o,es,ep,ho,hd,hk,_,hm⟩:=n;refine⟨o,ho,λname=>?_⟩;have e:=hm name;unfold nsFind findBy at e;rw[<-Array.find?_toList]at e;unfold PySem.W.lookIn;rw[hd];dsimp only;split
 ·rename_i y q;rw[q]at e;exact aaU some e
 ·rename_i q;rw[q]at e;have a:es.toList.any (·.refKey)=false:=by rw[List.any_eq_false];intro y hy;have⟨z,t,Tt⟩:=hk y (Array.mem_toList_iff.mp hy);simp[DictEntry.refKey,Tt]
  have a':¬es.toList.any (·.refKey)=true:=by rw[a];exact aaz
  rw[aay a'];exact aaU some e
def z4.look{x:Addr}(I:z4 h x dx C mA):∃od,PySem.W.InstAt h x (PySem.W.instObj C dx) C (some od)/\∀name,PySem.W.lookIn name od=some (mA name):=
 let ⟨od,ho,hl⟩:=Eo I.ns
 ⟨od,⟨I.obj,rfl,rfl,ho⟩,hl⟩
section
variable{K:fI}{x f:Addr}{name:Str}{v:Value}
def qd{expr:Bool}(X:K.In s.heap)(I:z4 s.heap x dx C mA)(hg:PySem.W.plainGet K C name=true)(hh:PySem.W.hasDictIn K C=true)
  (ha:PySem.W.findIn K (.ref C) name=some none) (hv:mA name=some v) (YJ:PySem.W.handedIn v=true) (h:Q v {s with toks:=s.toks+1}):
  wpAny (model prog w) A (getAttr (.ref x) name expr) Q E s:=by
 have⟨od,J,hl⟩:=I.look;exact PySem.W.get_value X J (PySem.W.plainGet_of hg).1 (PySem.W.findObj_own hh ha rfl (by rw[hl,hv])) YJ h
def GL{pl:Sem Bool}{Q:Value×List Value->Shared->Prop}(X:K.In s.heap)(I:z4 s.heap x dx C mA)(hg:PySem.W.plainGet K C name=true)
  (hf:PySem.W.findIn K (.ref C) name=some (some (.ref f))) (ht:PySem.W.isFn K (.ref f)=true) (hv:mA name=none) (h:Q (.ref f,[.ref x]) s):
  wpAny (model prog w) A (getMethod (.ref x) name pl) Q E s:=by
 have⟨od,J,hl⟩:=I.look;exact PySem.W.method_fn X J (PySem.W.plainGet_of hg).1 (PySem.W.plainGet_of hg).2 hf (aca.mp ht) (by show(PySem.W.lookIn name od).map (·.isSome)=some false;rw[hl,hv];rfl) h
def Kp{ns:List Str}{Q:Unit->Shared->Prop}(X:K.In s.heap)(I:z4 s.heap x dx C mA)
  (hs:PySem.W.findIn K (.ref C) "__setattr__"=some (some (.builtin "object.__setattr__"))) (hp:PySem.W.plainOver K C=true) (ht:PySem.W.takerIn K C name=some none) (hh:PySem.W.hasDictIn K C=true)
  (hw:PySem.Within mA ns) (hsz:ns.length<=sizeLine)
  (h:∀h',z4 h' x dx C (λy=>if y=name then some v else mA y)->Heap.SameBut dx s.heap h'->Q Unit.unit {s with heap:=h',toks:=s.toks+2}):
  wpAny (model prog w) A (setAttr (.ref x) name v) Q E s:=by
 have⟨od,J,hl⟩:=I.look;refine PySem.W.set_plain X J hs (PySem.W.osa_open (s:={s with toks:=s.toks+1}) (r:=none) X J hp ht λb=>?_);have⟨cd,hc,zD⟩:=PySem.W.any_some hh;have hx:s.heap.get? x=some ⟨.ref C,some dx,.plain,#[]⟩:=I.obj;refine aaF (aa5 (aaF (aaF (wpAny_loadPart hx (aaF (PySem.W.Looks.here (s:={s with toks:=s.toks+1}) (PySem.W.looks_clsIn X hc) ?_))))));rw[zD];refine aa5 (a:=some dx) (aaF (aa5 (aaF ?_)));refine wpAny_nsSet1 (s:={s with toks:=s.toks+1}) I.ns λh' So N2=>?_;have⟨oD,esD,epD,hoD,hdD,hcD⟩:=So.count (PySem.Within.cons name v hw);refine aaF (wpAny_lookBehind hoD (by rw[hdD];exact pastItsLine_dict (aaA hcD (by rw[aaI];omega))) ?_);exact aa5 (h _ ⟨(N2.2 _ (Ne.symm I.ne)).trans I.obj,So,I.ne⟩ N2)
def ES{R:Result->Shared->Prop}{vs:List Value}(X:K.In s.heap)(hm:PySem.W.makesIn K C=true)
  (hi:PySem.W.findIn K (.ref C) "__init__"=some (some (.ref f))) (hf:PySem.W.typeIn K (.ref f)=some (.type "function"))
  (h:codeAny (model prog w) (A.under (.builtin "type.__call__" ⟨.ref C::vs,kw⟩)) (.call (.ref f) ⟨.ref (s.heap.objs.size+1)::vs,kw⟩) (PySem.W.InitBack (s.heap.objs.size+1) R)
   {s with heap:=(s.heap.push PySem.W.emptyDict).push (PySem.W.instObj C s.heap.objs.size)}):
  codeAny (model prog w) A (.call (.ref C) ⟨vs,kw⟩) R s:=by
 have⟨hh,g,d,t,os⟩:=s;exact PySem.W.make_core (PySem.W.makes_of X hm) (PySem.W.looks_findIn X hi) (λself=>PySem.W.bind_fn X self hf) (.inl rfl) h
end
def i9(f:Str)(v:V):List (Str×V)->List (Str×V)
 | []=>[(f,v)]
 | (g,x)::r=>if g=f then (g,v)::r else (g,x)::i9 f v r
def pv(f g:Str)(v:V):∀fs:List (Str×V),(i9 f v fs).lookup g=if g=f then some v else fs.lookup g
 | []=>by
  show List.lookup g [(f,v)]=_;by_cases h:g=f
  ·have hb:(g==f)=true:=aca.mpr h;simp only[List.lookup,hb,if_pos h]
  ·have hb:(g==f)=false:=beq_eq_false_iff_ne.mpr h;simp only[List.lookup,hb,if_neg h]
 | (k,x)::r=>by
  have ih:=pv f g v r;rw[show i9 f v ((k,x)::r)=(if k=f then (k,v)::r else (k,x)::i9 f v r) from rfl];by_cases hk:k=f
  ·rw[aaw hk];by_cases h:g=k
   ·have hb:(g==k)=true:=aca.mpr h;simp only[List.lookup,hb,if_pos (h.trans hk)]
   ·have hb:(g==k)=false:=beq_eq_false_iff_ne.mpr h;simp only[List.lookup,hb,if_neg (λe:g=f=>h (e.trans hk.symm))]
  ·rw[aay hk];by_cases h:g=k
   ·have hb:(g==k)=true:=aca.mpr h;simp only[List.lookup,hb,if_neg (λe:g=f=>hk (h.symm.trans e))]
   ·have hb:(g==k)=false:=beq_eq_false_iff_ne.mpr h;simp only[List.lookup,hb];exact ih
def og(f:Str)(v:V):∀fs:List (Str×V),f∈(i9 f v fs).map (·.1)/\∀g,g∈fs.map (·.1)->g∈(i9 f v fs).map (·.1)
 | []=>⟨by simp[i9],λg h=>by simp at h⟩
 | (k,x)::r=>by
  have⟨i1,i2⟩:=og f v r;rw[show i9 f v ((k,x)::r)=(if k=f then (k,v)::r else (k,x)::i9 f v r) from rfl];by_cases hk:k=f
  ·rw[aaw hk];subst hk;exact⟨by simp,λg h=>by simpa using h⟩
  ·rw[aay hk];refine⟨?_,λg h=>?_⟩
   ·rw[aaW];exact aad _ i1
   ·rw[aaW]at h⊢;rcases aav.mp h with e| e
    ·exact aav.mpr (.inl e)
    ·exact aad _ (i2 g e)
def o_(f:Str)(v:V):∀fs:List (Str×V),(i9 f v fs).length<=fs.length+1
 | []=>by simp[i9]
 | (k,x)::r=>by
  have ih:=o_ f v r;rw[show i9 f v ((k,x)::r)=(if k=f then (k,v)::r else (k,x)::i9 f v r) from rfl];by_cases hk:k=f
  ·rw[aaw hk,aaI,aaI];omega
  ·rw[aay hk,aaI,aaI];omega
def jM.some_of{o:Option Value}(r:jM (some v) o):∃u,o=some u/\ax v u:=by
 cases o with
 | none=>exact(show False from r).elim
 | some u=>exact⟨u,rfl,r⟩
def jM.none_of{o:Option Value}(r:jM none o):o=none:=by
 cases o with
 | none=>rfl
 | some u=>exact(show False from r).elim
def Dk(r:ax v u):PySem.W.handedIn u=true:=by
 cases v with
 | aJ=>cases(show u=Value.none from r);rfl
 | bl b=>cases(show u=Value.bool b from r);rfl
 | int i=>have⟨t,e⟩:=(show∃t,u=Value.int i t from r);cases e;rfl
 | str x=>have⟨t,e⟩:=(show∃t,u=Value.str x t from r);cases e;rfl
 | EK b=>have⟨t,e⟩:=(show∃t,u=Value.bytes b t from r);cases e;rfl
 | Oc b=>have⟨t,e⟩:=(show∃t,u=Value.float b t from r);cases e;rfl
 | ref a=>cases(show u=Value.ref a from r);rfl
 | ty n=>cases(show u=Value.type n from r);rfl
section
variable{H H':Hp}{fs VN:List (Str×V)}
def pT(aO:km P w H h)(e:H a=some (.ins C dx fs)):∃mA,z4 h a dx C mA/\(∀f,jM (fs.lookup f) (mA f))/\PySem.Within mA (fs.map (·.1))/\fs.length<=1000/\H dx=some (.own a):=by have⟨d,z,ne,ob,mA,n,r,q⟩:=(show bL P w H h a (.ins C dx fs) from aO a _ e);exact⟨mA,⟨ob,n,ne⟩,r,q,z,d⟩
end
structure CI(K:fI)(C:Addr):Prop where
 pg:PySem.W.plainGet K C Str.empty=true
 hd:PySem.W.hasDictIn K C=true
 po:PySem.W.plainOver K C=true
 sa:PySem.W.findIn K (.ref C) "__setattr__"=some (some (.builtin "object.__setattr__"))
def CI.get{K:fI}{C:Addr}(c:CI K C)(f:Str):PySem.W.plainGet K C f=true:=c.pg
def hI(K:fI)(C:Addr)(f:Str):Prop:=PySem.W.findIn K (.ref C) f=some none
def hI.Rh{K:fI}{f:Str}(n:hI K C f):PySem.W.takerIn K C f=some none:=by unfold PySem.W.takerIn;rw[show PySem.W.findIn K (.ref C) f=some none from n];rfl
structure K2(K:fI)(C:Addr)(m:Str)(f:Addr):Prop where
 at_:PySem.W.findIn K (.ref C) m=some (some (.ref f))
 fn:PySem.W.isFn K (.ref f)=true
 kp:PySem.W.keepIn K (.ref f)=true
section
variable{H:Hp}{fs:List (Str×V)}{f:Str}
def AL{b:Bool}(I:Inv X δ σ H s)(e:H a=some (.ins C dx fs))(c:CI X.K C)(n:hI X.K C f)(l:fs.lookup f=some v)
  (h:∀u s',Inv X δ σ H s'->ax v u->Q u s'):wpAny (model X.prog X.w) A (getAttr (.ref a) f b) Q E s:=by
 have⟨mA,O,r,_,_,_⟩:=pT I.aO e;have⟨u,hu,ru⟩:=jM.some_of (v:=v) (o:=mA f) (by rw[<-l];exact r f);exact qd I.pG O (c.get f) c.hd n hu (Dk ru) (h u _ (I.tok _) ru)
def qB{m:Str}{g:Addr}{pl:Sem Bool}{Q:Value×List Value->Shared->Prop}(I:Inv X δ σ H s)(e:H a=some (.ins C dx fs))(c:CI X.K C)(k:K2 X.K C m g)(l:fs.lookup m=none)
  (h:Q (.ref g,[.ref a]) s):wpAny (model X.prog X.w) A (getMethod (.ref a) m pl) Q E s:=by
 have⟨mA,O,r,_,_,_⟩:=pT I.aO e;have hn:mA m=none:=jM.none_of (by rw[<-l];exact r m);exact GL I.pG O (c.get m) k.at_ k.fn hn h
def Aq{y:V}{Q:Unit->Shared->Prop}(I:Inv X δ σ H s)(e:H a=some (.ins C dx fs))(c:CI X.K C)(n:hI X.K C f)(hl:fs.length < 1000)(ry:ax y u)
  (h:∀s',Inv X δ σ (upd H a (.ins C dx (i9 f y fs))) s'->Q Unit.unit s'):wpAny (model X.prog X.w) A (setAttr (.ref a) f u) Q E s:=by
 have⟨mA,O,r,wi,_,ho⟩:=pT I.aO e;have hz:(fs.map (·.1)).length<=sizeLine:=by rw[aag,sizeLine_eq];omega
 refine Kp I.pG O c.sa c.po n.Rh c.hd wi hz λh' O' sb=>h _ ?_;have hd:∃o,h'.get? dx=some o:=let ⟨o,_,_,e',_⟩:=O'.ns;⟨o,e'⟩
 refine I.write (x:=a) (e:=dx) (by rw[e];exact True.intro) (.inr ho) (λb q hb z=>(sb.2 b hb).trans z) hd ?_;refine⟨by rw[Θ O.ne];exact ho,?_,O.ne,O'.obj,_,O'.ns,λg=>?_,λg hg=>?_⟩
 ·have:=o_ f y fs;omega
 ·show jM ((i9 f y fs).lookup g) (if g=f then some u else mA g);rw[pv];by_cases q:g=f
  ·rw[aaw q,aaw q];exact ry
  ·rw[aay q,aay q];exact r g
 ·by_cases q:g=f
  ·rw[q];exact(og f y fs).1
  ·refine(og f y fs).2 g (wi g λz=>hg ?_);show(if g=f then some u else mA g)=none;rw[aay q];exact z
def Inv.made(I:Inv X δ σ H s):Inv X δ σ (upd (upd H s.heap.objs.size (.own (s.heap.objs.size+1))) (s.heap.objs.size+1) (.ins C s.heap.objs.size []))
  {s with heap:=(s.heap.push PySem.W.emptyDict).push (PySem.W.instObj C s.heap.objs.size)}:=by
 have e1:(s.heap.push PySem.W.emptyDict).get? s.heap.objs.size=some PySem.W.emptyDict:=aaN s.heap rfl;have e2:((s.heap.push PySem.W.emptyDict).push (PySem.W.instObj C s.heap.objs.size)).get? (s.heap.objs.size+1)=some (PySem.W.instObj C s.heap.objs.size):=by have:=aaN (s.heap.push PySem.W.emptyDict) (o:=PySem.W.instObj C s.heap.objs.size) rfl;rwa[Heap.size_push]at this
 have e3:(s.heap.push PySem.W.emptyDict).Ns s.heap.objs.size (λ_=>none):=⟨PySem.W.emptyDict,#[],_,e1,rfl,(λe he=>absurd he (by simp)),λ_=>rfl⟩;have I1:=I.laid (a:=s.heap.objs.size) (o:=.own (s.heap.objs.size+1)) (h':=s.heap.push PySem.W.emptyDict) (t':=s.toks) (λb u q=>aaj _ q) (aai _) ⟨_,e1⟩;refine I1.laid (a:=s.heap.objs.size+1) (o:=.ins C s.heap.objs.size []) (t':=s.toks) (λb u q=>aaj _ q) (Nat.le_of_eq (Heap.size_push _ _)) ?_;have ne:s.heap.objs.size≠s.heap.objs.size+1:=aaP (abq _);refine⟨by rw[Θ ne,aq],ab8 _,ne,e2,λ_=>none,(Heap.Ns1.of_empty e3).at λo q=>aaj _ q,λ_=>True.intro,λy hy=>aaE rfl hy⟩
def Jf{env:Env}{f:Str}(hb:attributeBase e f env (eval e env)=eval e env)
  (h:wpAny (model prog w) A (eval e env) (λo s₁=>wpAny (model prog w) A (getAttr o f true) Q E s₁) E s):wpAny (model prog w) A (eval (.Attribute e f pos) env) Q E s:=
 Attribute_any_ h (by rw[arm_eval_Attribute,hb])
end
def UD(K:fI)(ta:TE)(f:Str):TE:=λσ H Q=>ta σ H λx H1=>∃a C dx fs v,x= .ref a/\H1 a=some (.ins C dx fs)/\CI K C/\hI K C f/\fs.lookup f=some v/\Q v H1
def Vk(K:fI)(ta tv:TE)(f:Str):TS:=λD σ H=>tv σ H λy H1=>ta σ H1 λx H2=>∃a C dx fs,x= .ref a/\H2 a=some (.ins C dx fs)/\CI K C/\hI K C f/\fs.length < 1000/\
 D.nx σ (upd H2 a (.ins C dx (i9 f y fs)))
section
variable{o value:Expr}{f:Str}{pos' sU:Pos}{tv:TE}
def Mb(he:PE X e ta)(hb:attributeBase e f X.env (eval e X.env)=eval e X.env):PE X (.Attribute e f pos) (UD X.K ta f):=by intro δ s σ H Q I h;refine Jf hb (bH (he δ s σ H _ I h) λu s1 xz=>?_);have⟨x,H1,I1,rx,a,C,dx,fs,v,ex,ea,c,n,l,q⟩:=xz;subst ex;obtain rfl:u=Value.ref a:=rx;exact AL I1 ea c n l λu' s2 I2 ru=>⟨v,H1,I2,ru,q⟩
def Ng(ha:PE X o ta)(hv:PE X value tv)(hs:swapsWith value (some (.Attribute o f pos')) pos.line X.env=pure false):PS X (.Assign [.Attribute o f pos'] value pos) (Vk X.K ta tv f):=by intro δ s σ H D I h;refine plainObj_wpAny_Assign_Attribute (bH (hv δ s σ H _ I h) fun u s1 ⟨y,H1,I1,ry,q⟩=>bH (ha δ s1 σ H1 _ I1 q) λov s2 xz=>?_) hs;have⟨x,H2,I2,rx,a,C,dx,fs,ex,ea,c,n,l,q2⟩:=xz;subst ex;obtain rfl:ov=Value.ref a:=rx;exact Aq I2 ea c n l ry λs3 I3=>⟨σ,_,I3,q2⟩
end
section
variable{H:Hp}{c:Value}{b:Bool}
inductive ku(K:fI)(H:Hp):V->Value->Prop where
 | aJ:ku K H .aJ (.type "NoneType")
 | bl (x:Bool):ku K H (.bl x) (.type "bool")
 | int (i:Int):ku K H (.int i) (.type "int")
 | str (x:Str):ku K H (.str x) (.type "str")
 | Oc (x:UInt64):ku K H (.Oc x) (.type "float")
 | lst {a:Addr} {xs:List V} (e:H a=some (.lst xs)):ku K H (.ref a) (.type "list")
 | xD {a:Addr} {o:Obj} {xs:List V} (e:H a=some (.xD o (.lst xs))):ku K H (.ref a) (.type "list")
 | tup {a:Addr} {xs:List V} (e:H a=some (.tup xs)):ku K H (.ref a) (.type "tuple")
 | dK {a:Addr} {Ι:List (Key×V)} (e:H a=some (.dK Ι)):ku K H (.ref a) (.type "dict")
 | dT {a:Addr} {Ι:List (List Key×V)} (e:H a=some (.dT Ι)):ku K H (.ref a) (.type "dict")
 | ins {a C dx:Addr} {fs:List (Str×V)} (e:H a=some (.ins C dx fs)) (cl:CI K C) (ha:PySem.W.findIn K (.ref C) "__class__"=some (some (.builtin "object.__class__")))
   (hn:PySem.W.specialIn K (.builtin "object.__class__") "__get__"=some (some (.builtin "getset_descriptor.__get__"))) (Xf:PySem.W.takesIn K (.builtin "object.__class__")=some true)
   (hm:PySem.W.mroIn K C (.type "object")=some true):ku K H (.ref a) (.ref C)
def Ef{x:V}{t:Value}(I:Inv X δ σ H s)(rx:ax x u)(ty:ku X.K H x t)(e:PySem.W.kitOne X.K t c=some b)(h:∀tk,Q (.bool b) {s with toks:=tk}):
  wpAny (model X.prog X.w) A (call (.builtin "isinstance") [u,c]) Q E s:=by
 cases ty with
 | aJ=>cases(show u=Value.none from rx);exact PySem.W.kia_one PySem.W.kitx_none I.pG True.intro e nofun h
 | bl y=>cases(show u=Value.bool y from rx);exact PySem.W.kia_one PySem.W.kitx_bool I.pG True.intro e nofun h
 | int i=>have⟨t,q⟩:=(show∃t,u=Value.int i t from rx);cases q;exact PySem.W.kia_one PySem.W.kitx_int I.pG True.intro e nofun h
 | str y=>have⟨t,q⟩:=(show∃t,u=Value.str y t from rx);cases q;exact PySem.W.kia_one PySem.W.kitx_str I.pG True.intro e nofun h
 | Oc y=>have⟨t,q⟩:=(show∃t,u=Value.float y t from rx);cases q;exact PySem.W.kia_one PySem.W.kitx_float I.pG True.intro e nofun h
 | @lst a xs ea=>
  cases(show u=Value.ref a from rx);have⟨_,_,n,_,h1⟩:=(show bL X.prog X.w H s.heap a (.lst xs) from I.aO a _ ea);exact PySem.W.kia_one PySem.W.kitx_list I.pG ⟨_,h1,rfl⟩ e nofun h
 | @xD a ob xs ea=>
  cases(show u=Value.ref a from rx);have⟨_,_,_,n,_,h1⟩:=(show bL X.prog X.w H s.heap a (.xD ob (.lst xs)) from I.aO a _ ea);exact PySem.W.kia_one PySem.W.kitx_list I.pG ⟨_,h1,rfl⟩ e nofun h
 | @tup a xs ea=>
  cases(show u=Value.ref a from rx);have⟨_,_,_,p⟩:=(show bL X.prog X.w H s.heap a (.tup xs) from I.aO a _ ea);have⟨o,h1,h2,_⟩:=p;exact PySem.W.kia_one PySem.W.kitx_tuple I.pG ⟨o,h1,h2⟩ e nofun h
 | @dK a Ι ea=>
  cases(show u=Value.ref a from rx);have⟨_,_,vs,_,p⟩:=(show bL X.prog X.w H s.heap a (.dK Ι) from I.aO a _ ea);have⟨o,es,ep,h1,h2,_⟩:=p;exact PySem.W.kia_one PySem.W.kitx_dict I.pG ⟨o,h1,h2.1⟩ e nofun h
 | @dT a Ι ea=>
  cases(show u=Value.ref a from rx);have⟨_,_,xs,_,o,es,ep,h1,h2,_⟩:=(show bL X.prog X.w H s.heap a (.dT Ι) from I.aO a _ ea);exact PySem.W.kia_one PySem.W.kitx_dict I.pG ⟨o,h1,h2.1⟩ e nofun h
 | @ins a C dx fs ea cl ha hn Xf hm=>
  cases(show u=Value.ref a from rx);have⟨mA,O,_⟩:=pT I.aO ea;have⟨od,J,_⟩:=O.look;exact PySem.W.kia_one (PySem.W.kitx_own (cl.get _) cl.hd ha hn Xf hm) I.pG J e nofun h
end
structure bU(k:Nat)(A:Around):Prop where
 hd:A.handled=none
 dp:A.depth+3 * k+5 < recursionLimit
 un:A.units+16 * k+200 < cLine
def bU.mono{j k:Nat}(r:bU k A)(h:j<=k):bU j A:=⟨r.hd,by have:=r.dp;omega,by have:=r.un;omega⟩
def bU.deeper{k:Nat}(r:bU (k+1) A)(env:Env):bU k (A.deeper env):=
 ⟨r.hd,by have:=r.dp;show A.depth+1+3 * k+5 < _;omega,by have:=r.un;show A.units+3+16 * k+200 < _;omega⟩
def Bh:(A.under (.builtin "type.__call__" ⟨.ref C::us,kw⟩)).depth=A.depth+1:=by
 first| rfl| simp[Around.under,Code.weight,Code.isCreation,Code.isGuard,Code.isCaller,Code.frames,Code.isFrame,guardIds]
def zR:(A.under (.builtin "type.__call__" ⟨.ref C::us,kw⟩)).units=A.units+1:=by
 first| rfl| simp[Around.under,Code.cUnits,Code.frames,Code.isFrame]
def bU.make{k:Nat}(r:bU (k+1) A)(C:Addr)(us:List Value)(kw:List (Str×Value)):bU k (A.under (.builtin "type.__call__" ⟨.ref C::us,kw⟩)):=
 ⟨r.hd,by have:=r.dp;rw[Bh];omega,by have:=r.un;rw[zR];omega⟩
def bU.depth{k:Nat}(r:bU k A):A.depth < recursionLimit:=by have:=r.dp;omega
def bU.units{k:Nat}(r:bU k A):A.units+64 < cLine:=by have:=r.un;omega
def bU.BA{k:Nat}(r:bU k A):A.units < cLine:=by have:=r.un;omega
def O_:TA:=λ_ H Q=>Q [] H
def Qq(ta:TE)(tr:TA):TA:=λσ H Q=>ta σ H λx H1=>tr σ H1 λxs H2=>Q (x::xs) H2
section
variable{t:TA}
def OE:PA X [] O_:=λ_ _ _ _ H Q I h=>Calls.spliced_nil ⟨[],H,I,.nil,h⟩
def JQ(ha:PE X e te)(hr:PA X es t)(hs:starEach (e::es) X.env=(false,eval e X.env)::starEach es X.env:=by rfl):PA X (e::es) (Qq te t):=by intro pos δ s σ H Q I h;rw[hs];show wpAny _ _ (spliced ((false,eval e X.env)::backTo pos (starEach es X.env))) _ _ s;refine Calls.spliced_cons (bH (ha δ s σ H _ I h) λu s1 xz=>?_);have⟨x,H1,I1,r1,q1⟩:=xz;exact bH (hr pos δ s1 σ H1 _ I1 q1) λus s2 ⟨xs,H2,I2,r2,q2⟩=>⟨x::xs,H2,I2,.cons r1 r2,q2⟩
def Wg(t:TA):TE:=λσ H Q=>t σ H λxs H1=>xs.length<=sizeLine/\∀p,H1 p=none->Q (.ref p) (upd H1 p (.tup xs))
def UO(t:TA):TE:=λσ H Q=>t σ H λxs H1=>xs.length<=sizeLine/\∀p,H1 p=none->Q (.ref p) (upd H1 p (.lst xs))
def OG{x1}(h:PA X es t):PE X (.Tuple es x1 pos) (Wg t):=by intro δ s σ H Q I hq;refine wpAny_Tuple_spliced (bH (h pos δ s σ H _ I hq) fun us s1 ⟨xs,H1,I1,r,z,q⟩=>⟨by rw[<-r.length];exact z,?_⟩);have hf:H1 s1.heap.objs.size=none:=I1.aO.fresh (aai _);refine⟨.ref s1.heap.objs.size,upd H1 s1.heap.objs.size (.tup xs),I1.laid (t':=s1.toks) (λb u e=>aaj _ e) (aai _) ?_,rfl,q _ hf⟩;exact⟨z,us,r,⟨_,aaN _ rfl,rfl,_,rfl⟩⟩
def GJ(h:PA X es t):PE X (.List es pos) (UO t):=by intro δ s σ H Q I hq;refine wpAny_List_spliced (bH (h pos δ s σ H _ I hq) fun us s1 ⟨xs,H1,I1,r,z,q⟩=>⟨by rw[<-r.length];exact z,?_⟩);have hf:H1 s1.heap.objs.size=none:=I1.aO.fresh (aai _);refine⟨.ref s1.heap.objs.size,upd H1 s1.heap.objs.size (.lst xs),I1.laid (t':=s1.toks) (λb u e=>aaj _ e) (aai _) ?_,rfl,q _ hf⟩;exact⟨z,us,0,r,aaN _ rfl⟩
end
abbrev Sp:=List V->Hp->VK->XK->Prop
abbrev zC:=List Env->Hp->Shared->XK->Value->Shared->Prop
structure zP(P:Program)(w:World)(K:fI)(mg:Str->Option Value)(base:Heap)(A:Around)(outer:List Env)(s:Shared)(H:Hp):Prop where
 frames:A.frames=some outer
 mod:Mod K mg base
 bs:∀b o,base.get? b=some o->s.heap.get? b=some o/\H b=none
 OO:base.objs.size<=s.heap.objs.size
 sP:s.heap.FunFrames base outer
 PR:∀b∈pO outer,H b=none
 aO:km P w H s.heap
 bare:AllBare s.gens
def CE(outer:List Env)(P:Program)(w:World)(H:Hp)(s:Shared)(Q:VK)(u:Value)(s':Shared):Prop:=
 ∃v H',s'.os=s.os/\AllBare s'.gens/\Un (pO outer) [] H H' s.heap s'.heap/\km P w H' s'.heap/\ax v u/\Q v H'
def CR(CX:zC)(outer:List Env)(P:Program)(w:World)(H:Hp)(s:Shared)(Q:VK)(E:XK)(r:Result)(s':Shared):Prop:=
 match r with
 | .ok (.ret u)=>CE outer P w H s Q u s'
 | .ok _=>False
 | .error e=>CX outer H s E e s'
structure av(P:Program)(w:World)(K:fI)(mg:Str->Option Value)(base:Heap)(CX:zC)(k:Nat)(f:Addr)(fd:FuncData)(ps:List Str)(sp:Sp):Prop where
 len:∀vs H Q E,sp vs H Q E->vs.length=ps.length
 run:∀(A:Around) (outer:List Env) (s:Shared) (H:Hp) (args:Args) (us:List Value) (vs:List V) (Q:VK) (E:XK),bU k A->zP P w K mg base A outer s H->BindsTo s fd args (ps.zip us)->ar vs us->sp vs H Q E->
  codeAny (model P w) A (.call (.ref f) args) (CR CX outer P w H s Q E) s
def zP.make{K:fI}{H:Hp}(e:zP P w K mg base A outer s H)(C:Addr)(us:List Value)(kw:List (Str×Value)):
  zP P w K mg base (A.under (.builtin "type.__call__" ⟨.ref C::us,kw⟩)) outer s H:=⟨by first| exact e.frames| (simpa [Around.under,Code.envs,Code.isFrame,pushEnvs] using e.frames),e.mod,e.bs,e.OO,e.sP,e.PR,e.aO,e.bare⟩
section
variable{H:Hp}{s':Shared}
def Inv.RN(I:Inv X δ σ H s):zP X.prog X.w X.K X.mg X.base X.A X.stack s H:=
 ⟨I.ok.frames,I.ok.mod,I.bs,aaA I.ok.OO I.sz,I.stack,I.wK,I.aO,I.bare⟩
def Inv.after{Q:VK}(I:Inv X δ σ H s)(h:CE X.stack X.prog X.w H s Q u s'):EP X δ σ Q u s':=by have⟨v,H',os,bare,un,aO,r,q⟩:=h;have⟨hh,g,d,t,S3⟩:=s';obtain rfl:S3=s.os:=os;exact⟨v,H',I.call (h':=hh) (g':=g) (d':=d) (t':=t) (ch:=[]) un aO bare (λb z=>absurd z (by simp)),r,q⟩
end
def i6(K:fI)(fd:FuncData)(ps:List Str)(ds:List Value):Prop:=
 ∀(s:Shared) (us:List Value),K.In s.heap->(us++ds).length=ps.length->BindsTo s fd ⟨us,[]⟩ (ps.zip (us++ds))
def i6.all{K:fI}{fd:FuncData}(h:∀us:List Value,us.length=ps.length->bindArgs fd ⟨us,[]⟩=pure (ps.zip us)):i6 K fd ps []:=λs us _ hl=>by rw[aaY]at hl⊢;exact .of_eq (h us hl)
section
variable{CX:zC}{k:Nat}{f:Addr}{fd:FuncData}{sp:Sp}{p8:List V}{ds:List Value}{E:XK}{m:Str}{p apos:Pos}{o:Expr}{t:TA}
structure Mk(K:fI)(C f:Addr):Prop where
 makes:PySem.W.makesIn K C=true
 init:PySem.W.findIn K (.ref C) "__init__"=some (some (.ref f))
 fn:PySem.W.isFn K (.ref f)=true
 kp:PySem.W.keepIn K (.ref C)=true
end
structure Γ(N P:List Str)(sc:Scope):Prop where
 kind:sc.kind= .function
 co:sc.isCoroutine=false
 gen:sc.isGenerator=false
 nd:N.Nodup
 pre:N.take P.length=P
 par:∀x∈P,sc.names.lookup x=some .local\/sc.names.lookup x=some .cell
 LV:∀y∈sc.names,y.2≠ .free
def uT{kindOf:Str->Option NameKind}{x:Str}:∀{binds:List (Str×Value)} {m:Str->Option Value},(∀v,(x,v)∉binds)->bindL kindOf binds m x=m x
 | [],_,_=>rfl
 | (n,v)::r,m,h=>by
  unfold bindL;rw[uT λw hw=>h w (aad _ hw)];split
  ·have:x≠n:=by rintro rfl;exact h v aae
   simp[this]
  ·rfl
def uL{kindOf:Str->Option NameKind}{x:Str}:∀{binds:List (Str×Value)} {m:Str->Option Value},(∀v,(x,v)∉binds)->bindC kindOf binds m x=m x
 | [],_,_=>rfl
 | (n,v)::r,m,h=>by
  unfold bindC;rw[uL λw hw=>h w (aad _ hw)];split
  ·rfl
  ·have:x≠n:=by rintro rfl;exact h v aae
   simp[this]
def uD{kindOf:Str->Option NameKind}{x:Str}{v:Value}:∀{P:List Str} {vs:List Value} {i:Nat} {m:Str->Option Value},P.Nodup->P[i]? =some x->vs[i]? =some v->kindOf x=some .local->
  bindL kindOf (P.zip vs) m x=some v
 | [],_,_,_,_,h,_,_=>by simp at h
 | _::_,[],_,_,_,_,h,_=>by simp at h
 | p::P,w::vs,0,m,nd,h1,h2,hk=>by simp at h1 h2;subst h1;subst h2;show bindL kindOf ((p,w)::P.zip vs) m p=_;unfold bindL;rw[uT λv hv=>(abK.mp nd).1 (acg hv).1,aaw hk];simp
 | p::P,w::vs,i+1,m,nd,h1,h2,hk=>by show bindL kindOf ((p,w)::P.zip vs) m x=_;unfold bindL;exact uD (i:=i) (List.nodup_cons.mp nd).2 (by simpa using h1) (by simpa using h2) hk
def uC{kindOf:Str->Option NameKind}{x:Str}{v:Value}:∀{P:List Str} {vs:List Value} {i:Nat} {m:Str->Option Value},P.Nodup->P[i]? =some x->vs[i]? =some v->kindOf x≠some .local->
  bindC kindOf (P.zip vs) m x=some v
 | [],_,_,_,_,h,_,_=>by simp at h
 | _::_,[],_,_,_,_,h,_=>by simp at h
 | p::P,w::vs,0,m,nd,h1,h2,hk=>by simp at h1 h2;subst h1;subst h2;show bindC kindOf ((p,w)::P.zip vs) m p=_;unfold bindC;rw[uL λv hv=>(abK.mp nd).1 (acg hv).1,aay hk];simp
 | p::P,w::vs,i+1,m,nd,h1,h2,hk=>by show bindC kindOf ((p,w)::P.zip vs) m x=_;unfold bindC;exact uC (i:=i) (List.nodup_cons.mp nd).2 (by simpa using h1) (by simpa using h2) hk
def start(N:List Str)(vs:List V):St:=vs.map some++List.replicate (N.length - vs.length) none
def wW(CX:zC)(P:Program)(w:World)(K:fI)(mg:Str->Option Value)(base:Heap)(N:List Str)(qual:Str)(scope:Scope)(f:Addr)(cd:Value)(A:Around)(outer:List Env)(s:Shared)(H:Hp)(E:XK):Cx where
 prog:=P
 w:=w
 K:=K
 mg:=mg
 base:=base
 A:=A.deeper (envOfC qual scope s.heap.objs.size f cd)
 N:=N
 s₀:=s
 H₀:=H
 env:=envOfC qual scope s.heap.objs.size f cd
 outer:=outer
 stack:=envOfC qual scope s.heap.objs.size f cd::outer
 ex:=[]
 calm:=true
 fn:=λ_=>true
 pn:=[]
 xe:=λe s'=>wpAny (model P w) (A.deeper (envOfC qual scope s.heap.objs.size f cd)) (leaving (envOfC qual scope s.heap.objs.size f cd) e) (λ_ VF=>CX outer H s E e VF) (λe' VF=>CX outer H s E e' VF) s'
def xU{sc:Scope}{n:Nat}(h:sc.names.lookup x=some .cell):∃c,(cellsFrom n sc.names []).lookup x=some c:=by have q:=PySem.W.cellsFrom_some sc.names n [] (.inl h);exact aa6.mp q
def D6{CX:zC}{K:fI}{N:List Str}{qual:Str}{scope:Scope}{f:Addr}{cd:Value}{s1:Shared}{H:Hp}{E:XK}{vs:List V}
  (S:Γ N ps scope) (hd:A.handled=none) (e0:zP P w K mg base A outer s H) (hl:vs.length=ps.length) (r:ar vs us)
  (x:InCallC s s.heap.objs.size (bindL (envOfC qual scope s.heap.objs.size f cd).kindOf (ps.zip us) λ_=>none) (cellsFrom (s.heap.objs.size+1) scope.names []) (bindC (envOfC qual scope s.heap.objs.size f cd).kindOf (ps.zip us) λ_=>none) s1):
  Inv (wW CX P w K mg base N qual scope f cd A outer s H E) [] (start N vs) H s1:=by
 have e6:ps.length<=N.length:=by have:=aaU List.length S.pre;rw[ab7]at this;omega
 have⟨h1,tk,rfl,hk⟩:=x.done;have P8:∀b:Addr,b∉(wW CX P w K mg base N qual scope f cd A outer s H E).ex:=λb z=>absurd (show b∈([]:List Addr) from z) (by simp)
 refine⟨⟨e0.mod,S.kind,rfl,rfl,aai _,λy z c h1 h2=>?_,λy hy=>?_,λy c _ h=>?_,λ_=>hd,Around.frames_deeper e0.frames,.inr ⟨rfl,rfl⟩,λb z=>aaE z (P8 b),e0.bs,e0.OO,λb _ _=>P8 b,λb z=>aaE z (P8 b),e0.sP,e0.PR⟩,
  rfl,e0.bare,Un.kept hk,⟨_,x.toInCall.ns,λi y v h1 h2 h3=>?_⟩,λy c h=>⟨_,x.cell y c h⟩,e0.aO.fresh (Nat.le_refl _),λy c h=>?_,λp hp=>absurd (show p∈([]:List (Addr×Obj)) from hp) (by simp),e0.aO.kept hk,?_⟩
 ·exact name_of_addr x.apart (PySem.mem_of_lookup h1) (PySem.mem_of_lookup h2)
 ·have hy:scope.names.lookup y=some .cell\/scope.names.lookup y=some .free:=hy;rcases hy with hy| hy
  ·exact xU hy
  ·exact aaE rfl (S.LV _ (PySem.mem_of_lookup hy))
 ·exact Nat.le_of_lt (x.above y c (PySem.mem_of_lookup h))
 ·have hi:i < vs.length:=by
   unfold start at h2;by_cases hi:i < vs.length
   ·exact hi
   ·rw[List.getElem?_append_right (by simpa using hi)]at h2;rw[abO]at h2;split at h2 <;> cases h2
  have ha:vs[i]? =some v:=by
   unfold start at h2;rw[List.getElem?_append_left (by simpa using hi),List.getElem?_map]at h2;cases e:vs[i]? with
   | none=>rw[e]at h2;cases h2
   | some a=>rw[e]at h2;cases h2;rfl
  have⟨u,hu,rv⟩:=r.get ha;have hp:ps[i]? =some y:=by rw[<-S.pre,acb ()];exact h1
  have Xn:ps.Nodup:=by rw[<-S.pre];exact S.nd.sublist (List.take_sublist _ _)
  refine⟨u,rv,?_⟩;rcases S.par y (aal hp) with k| k
  ·exact .inl ⟨k,uD Xn hp hu k⟩
  ·have⟨c,e⟩:=xU (n:=s.heap.objs.size+1) k;refine .inr ⟨.inl k,c,e,?_⟩;have q:=x.cell y c e;rw[uC Xn hp hu (by show scope.names.lookup y≠_;rw[k];decide)]at q;exact q
 ·exact e0.aO.fresh (Nat.le_of_lt (x.above y c (PySem.mem_of_lookup h)))
 ·unfold start;show _=N.length;rw[aah,aag,aaX];omega
def Qs{CX:zC}{K:fI}{k:Nat}{f:Addr}{name qual:Str}{params:Arguments}{scope:Scope}{dV kV doc pm bw ct oc:Value}{an od:Option Addr}
  {G_:Array (Option Value)} {N:List Str} {sp:Sp} (lk:K.lookup f=some ⟨oc,od,.func (PySem.W.fnOf name qual params body scope dV kV doc pm an bw ct),G_⟩) (Gz:PySem.W.codeIn K bw qual=true) (S:Γ N ps scope)
  (len:∀vs H Q E,sp vs H Q E->vs.length=ps.length)
  (xT:∀(A:Around) (outer:List Env) (s:Shared) (H:Hp) (vs:List V) (Q:VK) (E:XK),bU k (A.deeper (envOfC qual scope s.heap.objs.size f bw))->sp vs H Q E->
   ∃t,EO (wW CX P w K mg base N qual scope f bw A outer s H E) body t/\t {nx:=λ_ H'=>Q .aJ H',rt:=Q} (start N vs) H):
  av P w K mg base CX (k+1) f (PySem.W.fnOf name qual params body scope dV kV doc pm an bw ct) ps sp:=by
 refine⟨len,λA outer s H args us vs Q E hr e0 hb r Ln=>?_⟩;have hl:=len _ _ _ _ Ln;have KX:K.In s.heap:=e0.mod.O4.keeps λb o e=>(e0.bs b o e).1;have lim:s.heap.NoLimit:=e0.mod.nolimit.keeps λb o e=>(e0.bs b o e).1;have Ri:∀y∈ps.zip us,scope.names.lookup y.1=some .local\/(scope.names.lookup y.1=some .cell/\((cellsFrom (s.heap.objs.size+1) scope.names []).lookup y.1).isSome=true):=λ⟨n,v⟩ hy=>by
  rcases S.par n (acg hy).1 with q| q
  ·exact .inl q
  ·exact .inr ⟨q,PySem.W.cellsFrom_some _ _ _ (.inl q)⟩
 refine codeAny_call_function hr.depth (KX _ _ lk) rfl S.co S.gen rfl (PySem.W.codeRec_of KX Gz) (hb _ _ _ _ ?_);refine wpAny_newFunctionEnv_cells S.kind Ri λenv he s1 x=>?_;subst he;refine⟨lim.keeps x.toInCall.keep,codeAny_func ?_⟩;have⟨t,ht,hq⟩:=xT A outer s H vs Q E (hr.deeper _) Ln;have I:Inv (wW CX P w K mg base N qual scope f bw A outer s H E) [] (start N vs) H s1:=D6 S hr.hd e0 hl r x;refine abZ (ht [] s1 (start N vs) H _ I hq) (λfl s' hs=>?_) λe s' hs=>hs
 have fin:∀{σ':St} {H':Hp} {v:V} {u:Value},Inv (wW CX P w K mg base N qual scope f bw A outer s H E) [] σ' H' s'->ax v u->Q v H'->CE outer P w H s Q u s':=
  λ{σ' H' v u} J rv q=>⟨v,H',J.os,J.bare,J.base,J.aO,rv,q⟩
 cases fl with
 | ret u=>
  have⟨v,σ',H',J,rv,q⟩:=hs;exact fin J rv q
 | next=>
  have⟨σ',H',J,q⟩:=hs;exact fin (v:=V.aJ) (u:=Value.none) J rfl q
 | brk=>
  have⟨_,_,_,q⟩:=hs;exact False.elim q
 | cont=>
  have⟨_,_,_,q⟩:=hs;exact False.elim q
section
variable{p:Pos}{t:TA}{id T:String}{r:List V->Hp->VK->Prop}
def U3(r:List V->Hp->VK->Prop)(t:TA):TE:=λσ H Q=>t σ H λvs H1=>r vs H1 Q
def FC(hc:dE X (.builtin id) r)(hg:Gl X x)(hm:X.mg x=none)(hv:bootBuiltins x=some (.builtin id))(ha:PA X (e::es) t)(hn:x≠"__name__":=by decide)(ub:(x==("__debug__":Str))=false:=by decide)
  (he:starEach (e::es) X.env=(false,eval e X.env)::starEach es X.env:=by rfl) (e6:(backTo pos (starEach es X.env)).any (·.1)=false:=by rfl):PE X (.Call (.Name x p) (e::es) [] pos) (U3 r t):=by
 intro δ s σ H Q I h;refine wpAny_Call_Name_kw (lJ I hg hm hv ?_ hn ub);exact PyProof.Rows.callWith_builtin1 (bH (ha pos δ s σ H _ I h) λus s1 ⟨vs,H1,I1,r1,q1⟩=>hc δ s1 σ H1 vs us Q I1 r1 q1) he e6
def DN(hc:dE X (.type T) r)(hg:Gl X x)(hm:X.mg x=none)(hv:bootBuiltins x=some (.type T))(ha:PA X (e::es) t)(hn:x≠"__name__":=by decide)(ub:(x==("__debug__":Str))=false:=by decide)
  (he:starEach (e::es) X.env=(false,eval e X.env)::starEach es X.env:=by rfl) (e6:(backTo pos (starEach es X.env)).any (·.1)=false:=by rfl):PE X (.Call (.Name x p) (e::es) [] pos) (U3 r t):=by
 intro δ s σ H Q I h;refine wpAny_Call_Name_kw (lJ I hg hm hv ?_ hn ub);exact PyProof.Rows.callWith_type1 (bH (ha pos δ s σ H _ I h) λus s1 ⟨vs,H1,I1,r1,q1⟩=>hc δ s1 σ H1 vs us Q I1 r1 q1) he e6
end
end L2
namespace HT
open PySem PyProof.Rows
section
variable{prog:Program}{w:World}{A:Around}{E:Value->Shared->Prop}{s:Shared}
def Ja{t b:Addr}{vs ws:List Value}{Q:Value->Shared->Prop}(ht:IsTup s.heap t vs.toArray)(hb:IsTup s.heap b ws.toArray)(hv:vs≠[])
  (h1:ws=[]->Q (.ref t) s) (h2:ws≠[]->Q (.ref s.heap.objs.size) {s with heap:=s.heap.push {cls:=.type "tuple",data:=.seq (vs++ws).toArray}})
  (hsz:vs.length+ws.length<=sizeLine):wpAny (model prog w) A (binaryOp .Add (.ref t) (.ref b)) Q E s:=by
 have⟨⟨cls,dd,data,sl⟩,ho,hc,n,hd⟩:=id ht;have⟨⟨aac,SA,data2,SJ⟩,Sg,Xz,n2,hd2⟩:=id hb;simp only at hc hd Xz hd2;subst hc hd Xz hd2;have e:vs.toArray++ws.toArray=(vs++ws).toArray:=by simp
 by_cases hw:ws=[]
 ·exact concat_meets ⟨_,ho,rfl⟩ ⟨_,Sg,rfl⟩ noFill_tuple_add seq_tuple_add PySem.F.slot_tuple_add PySem.F.entry_tuple_add (PySem.F.args_tuple_add_2 _ _)
   (tuple_addW1 t b vs.toArray ws.toArray n n2 dd SA sl SJ (by simpa using hv) (by simp[hw])) ⟨ho,Sg,h1 hw⟩
 ·refine concat_meets ⟨_,ho,rfl⟩ ⟨_,Sg,rfl⟩ noFill_tuple_add seq_tuple_add PySem.F.slot_tuple_add PySem.F.entry_tuple_add (PySem.F.args_tuple_add_2 _ _)
   (tuple_addW2 t b vs.toArray ws.toArray n n2 dd SA sl SJ (by simpa using hv) (by simpa using hw) (by rw[List.size_toArray,List.size_toArray];exact hsz)) ⟨ho,Sg,?_⟩
  rw[e];exact h2 hw
def xX(n d:Nat):Option Int->Nat
 | none=>d
 | some v=>if v < 0 then (v+(n:Int)).toNat else min v.toNat n
def zb(n d:Nat):xX n d none=d:=rfl
def pV(n d k:Nat):xX n d (some (k:Int))=min k n:=by show(if (k:Int) < 0 then ((k:Int)+(n:Int)).toNat else min (k:Int).toNat n)=min k n;rw[aay (),aaL]
end
end HT
namespace L2
open PySem PySem.Spec PyProof.Rows
variable{X:Cx}{n:Nat}{δ:List (Addr×Obj)}{s:Shared}{its:List Value}
abbrev TO:=St->Hp->(Option Int->Hp->Prop)->Prop
def PO(X:Cx)(e:Option Expr)(t:TO):Prop:=
 ∀(δ:List (Addr×Obj)) (s:Shared) (σ:St) (H:Hp) (Q:Option Int->Hp->Prop),Inv X δ σ H s->t σ H Q->
  wpAny (model X.prog X.w) X.A (evalPart e X.env) (λu s'=>∃o H',Inv X δ σ H' s'/\IsPart u o/\Q o H') X.xe s
def KJ:TO:=λ_ H Q=>Q none H
def Qj(t:TE):TO:=λσ H Q=>t σ H λx H1=>∃i,x= .int i/\Q (some i) H1
section
variable{e:Expr}{te:TE}{lo hi:Option Expr}{tl th:TO}{pos p2:Pos}
def BL:PO X none KJ:=by intro δ s σ H Q I h;rw[evalPart_none];exact aa5 ⟨none,H,I,.none,h⟩
def mS(h:PE X e te):PO X (some e) (Qj te):=by intro δ s σ H Q I hw;rw[evalPart_some];refine bH (h δ s σ H _ I hw) λu s1 xz=>?_;have⟨x,H1,I1,r1,q1⟩:=xz;have⟨i,rfl,q⟩:=q1;have⟨t,rfl⟩:=r1;exact⟨some i,H1,I1,.int i t,q⟩
def WN(X:Cx)(r:V->Option Int->Option Int->Hp->VK->Prop):Prop:=
 ∀(δ:List (Addr×Obj)) (s:Shared) (σ:St) (H:Hp) (x:V) (v vl vu:Value) (lo hi:Option Int) (sl:Addr) (Q:VK),Inv X δ σ H s->ax x v->s.heap.IsSliceOf sl vl vu .none->IsPart vl lo->IsPart vu hi->r x lo hi H Q->
  ∃T id,typeLookup (.type T) "__getitem__"=pure (some (.builtin id))/\s.TypeIs v T/\wpAny (model X.prog X.w) X.A (getItem v (.ref sl)) (EP X δ σ Q) X.xe s
def tSl(r:V->Option Int->Option Int->Hp->VK->Prop)(te:TE)(tl th:TO):TE:=λσ H Q=>te σ H λx H1=>tl σ H1 λl H2=>th σ H2 λu H3=>r x l u H3 Q
def r_{r:V->Option Int->Option Int->Hp->VK->Prop}(hr:WN X r)(he:PE X e te)(hl:PO X lo tl)(hu:PO X hi th):PE X (.Subscript e (.Slice lo hi none p2) pos) (tSl r te tl th):=by intro δ s σ H Q I h;refine Subscript_ (bH (he δ s σ H _ I h) λv s1 xz=>?_);have⟨x,H1,I1,r1,q1⟩:=xz;refine wpAny_Slice (bH (hl δ s1 σ H1 _ I1 q1) fun vl s2 ⟨l,H2,I2,pl,q2⟩=>bH (hu δ s2 σ H2 _ I2 q2) λvu s3 xz=>?_);have⟨u,H3,I3,pu,q3⟩:=xz;rw[evalPart_none];refine aa5 ?_;have I4:Inv X δ σ H3 {s3 with heap:=s3.heap.push {cls:=.type "slice",data:=.fields #[vl,vu,.none]}}:=I3.kept (t':=s3.toks) λb ob q=>aaj _ q;have⟨T,id,hT,ht,hg⟩:=hr δ {s3 with heap:=s3.heap.push {cls:=.type "slice",data:=.fields #[vl,vu,.none]}} σ H3 x v vl vu l u s3.heap.objs.size Q I4 r1 (Heap.IsSliceOf.new ..) pl pu q3;show wpAny (model X.prog X.w) X.A (subscriptTail e (.Slice lo hi none p2) v (.ref s3.heap.objs.size)) (EP X δ σ Q) X.xe {s3 with heap:=s3.heap.push {cls:=.type "slice",data:=.fields #[vl,vu,.none]}};exact tail_any (ops:=[.ref s3.heap.objs.size,v]) ht hT hg (by with_unfolding_all rfl)
def sQ(xs:List V)(lo hi:Option Int):List V:=(xs.drop (HT.xX xs.length 0 lo)).take (HT.xX xs.length xs.length hi - HT.xX xs.length 0 lo)
def yK(xs:List V)(lo hi:Option Int):(sQ xs lo hi).length<=xs.length:=by unfold sQ;rw[ab7,abw];omega
def LG(K:fI):R2:=λx y H Q=>∃a b xs ys,x= .ref a/\y= .ref b/\mq K H a xs/\mq K H b ys/\xs≠[]/\xs.length+ys.length<=sizeLine/\
 (ys=[]->Q (.ref a) H)/\(ys≠[]->∀p,H p=none->Q (.ref p) (upd H p (.tup (xs++ys))))
def ar.vA{xs:List V}{us:List Value}(r:ar xs us):us=[]↔xs=[]:=by
 cases r with
 | nil=>simp
 | cons _ _=>simp
def Jr:jN X (binaryOp .Add) (LG X.K):=by intro δ s σ H x y v u Q I rx ry h;have⟨a,b,xs,ys,rfl,rfl,ha,hb,hx,hz,q1,q2⟩:=h;cases rx;cases ry;have⟨its,r1,p1,_⟩:=I.tuple ha;have⟨FU,r2,p2,_⟩:=I.tuple hb;refine HT.Ja p1 p2 (λz=>hx (r1.vA.mp z)) (λz=>⟨.ref a,H,I,rfl,q1 (r2.vA.mp z)⟩) (λz=>?_) (by rw[<-r1.length,<-r2.length];exact hz);refine⟨.ref s.heap.objs.size,_,I.laid (t':=s.toks) (o:=.tup (xs++ys)) (λb ob q=>aaj _ q) (aai _) ?_,rfl,q2 (λw=>z (r2.vA.mpr w)) _ (I.aO.fresh (aai _))⟩;exact⟨by rw[aah];exact hz,_,r1.append r2,IsTup.new _ _⟩
end
def Gw(n:Nat)(i:Int):Option Nat:=if 0<=i then (if i < n then some i.toNat else none) else if -(n:Int)<=i then some (i+n).toNat else none
def jf{α:Type}(xs:List α)(i:Int):Option α:=(Gw xs.length i).bind λj=>xs[j]?
def B6{i:Int}{j:Nat}(h:Gw n i=some j):seqIndex? i n=some j/\j < n/\ -(n:Int)<=i/\i < n:=by
 unfold Gw at h;by_cases h0:0<=i
 ·rw[aaw h0]at h;by_cases h1:i < n
  ·rw[aaw h1]at h;have e:i.toNat=j:=aao h;exact⟨by rw[seqIndex_of h0 h1,e],(),(),h1⟩
  ·rw[aay h1]at h;cases h
 ·rw[aay h0]at h;by_cases h1: -(n:Int)<=i
  ·rw[aaw h1]at h;have e:(i+n).toNat=j:=aao h;exact⟨by rw[seqIndex_neg () h1,e],(),h1,()⟩
  ·rw[aay h1]at h;cases h
def vU{α:Type}{xs:List α}{i:Int}{v:α}(h:jf xs i=some v):∃j,seqIndex? i xs.length=some j/\xs[j]? =some v/\j < xs.length/\ -(xs.length:Int)<=i/\i < xs.length:=by
 unfold jf at h;cases e:Gw xs.length i with
 | none=>rw[e]at h;cases h
 | some j=>
  rw[e]at h;have⟨h1,h2,h3,h4⟩:=B6 e;exact⟨j,h1,h,h2,h3,h4⟩
def az{α:Type}{xs:List α}{j:Nat}{v:α}(h:xs[j]? =some v):jf xs (j:Int)=some v:=by
 have hj:j < xs.length:=(aaf.mp h).1;have e:Gw xs.length (j:Int)=some j:=by unfold Gw;rw[if_pos (),if_pos ()];simp
 unfold jf;rw[e];exact h
def wu(b:Expr):Prop:=∀o i,subscripted b false o i=operate [o,i] (getItem o i)
def IV(X:Cx)(r:R2):Prop:=
 ∀(value slice:Expr) (δ:List (Addr×Obj)) (s:Shared) (σ:St) (H:Hp) (x y:V) (v u:Value) (Q:VK),Inv X δ σ H s->ax x v->ax y u->r x y H Q->
  subscripted slice false v u=operate [v,u] (getItem v u)->wpAny (model X.prog X.w) X.A (subscriptTail value slice v u) (EP X δ σ Q) X.xe s
def WI(X:Cx)(id:String)(r:V->List V->Hp->VK->Prop):Prop:=
 ∀(δ:List (Addr×Obj)) (s:Shared) (σ:St) (H:Hp) (x:V) (xs:List V) (v:Value) (us:List Value) (Q:VK),Inv X δ σ H s->ax x v->ar xs us->r x xs H Q->
  wpAny (model X.prog X.w) X.A (call (.builtin id) (v::us)) (EP X δ σ Q) X.xe s
section
variable{a b:Expr}{ta tb:TE}{pos:Pos}
def IV.or{r r':R2}(h:IV X r)(h':IV X r'):IV X (λx y H Q=>r x y H Q\/r' x y H Q):=by
 intro value slice δ s σ H x y v u Q I rx ry q hs;rcases q with q| q
 ·exact h value slice δ s σ H x y v u Q I rx ry q hs
 ·exact h' value slice δ s σ H x y v u Q I rx ry q hs
def RU{r:R2}(hr:IV X r)(ha:PE X a ta)(hb:PE X b tb)(hs:wu b):PE X (.Subscript a b pos) (Q3 r ta tb):=by intro δ s σ H Q I h;exact Subscript_ (M8 ha hb I h λv u s2 x y H2 I2 rx ry q=>hr a b δ s2 σ H2 x y v u Q I2 rx ry q (hs _ _))
def Qm(K:fI):R2:=λx y H Q=>∃p xs i v,x= .ref p/\y= .int i/\fj K H p xs/\jf xs i=some v/\Q v H
def Qe(K:fI):R2:=λx y H Q=>∃p xs i v,x= .ref p/\y= .int i/\mq K H p xs/\jf xs i=some v/\Q v H
def PD:R2:=λx y H Q=>∃z i c,x= .str z/\y= .int i/\z.length<=sizeLine/\jf z.cps.toList i=some c/\Q (.str ⟨#[c]⟩) H
def Kh:IV X (Qm X.K):=by
 intro value slice δ s σ H x y v u Q I rx ry h hs;have⟨p,xs,i,z,rfl,rfl,hq,he,q⟩:=h;cases rx;have⟨t,rfl⟩:=ry;have⟨its,r,pl,hz⟩:=I.list hq;have⟨j,h1,h2,h3,h4,h5⟩:=vU he;have⟨w,ew,Dq⟩:=r.get h2;have hl:=r.length;have hn:=ou;have fin:EP X δ σ Q w s:=⟨z,H,I,Dq,q⟩;by_cases h0:0<=i
 ·have hj:i.toNat=j:=by rw[seqIndex_of h0 h5]at h1;exact aao h1
  exact item_listR pl.isList h0 () (by rw[hj];simpa using ew) fin hs
 ·have hj:(i+(its.toArray.size:Int)).toNat=j:=by rw[seqIndex_neg () h4]at h1;rw[aaM,<-hl];exact aao h1
  exact subscriptTail_builtinR (x:=w) pl.isList.typeIs slot_list_getitem.lookup
   (wpAny_getItem_list_neg (Q:=λr s'=>r=w/\EP X δ σ Q r s') pl.isList () (by rw[List.size_toArray] <;> omega) () (by rw[hj];simpa using ew) ⟨rfl,fin⟩) hs
def NC:IV X (Qe X.K):=by
 intro value slice δ s σ H x y v u Q I rx ry h hs;have⟨p,xs,i,z,rfl,rfl,hq,he,q⟩:=h;cases rx;have⟨t,rfl⟩:=ry;have⟨its,r,pl,hz⟩:=I.tuple hq;have⟨j,h1,h2,h3,h4,h5⟩:=vU he;have⟨w,ew,Dq⟩:=r.get h2;have hl:=r.length;have hn:=ou;have fin:EP X δ σ Q w s:=⟨z,H,I,Dq,q⟩
 exact subscriptTail_builtinR (x:=w) pl.typeIs slot_tuple_getitem.lookup
  (getItem_tuple (j:=j) (Q:=λr s'=>r=w/\EP X δ σ Q r s') pl () () (by rw[List.size_toArray,<-hl];exact h1) (by simpa using ew) ⟨rfl,fin⟩) hs
def Ot:IV X PD:=by
 intro value slice δ s σ H x y v u Q I rx ry h hs;have⟨z,i,c,rfl,rfl,hz,he,q⟩:=h;have⟨t,rfl⟩:=rx;have⟨t',rfl⟩:=ry;have⟨j,h1,h2,h3,h4,h5⟩:=vU he;have hl:z.cps.toList.length=z.length:=by simp[Str.length]
 rw[hl]at h1 h4 h5;have hn:=ou
 exact tail_any (typeIs_str s z t) slot_str_getitem.lookup (getItem_str (c:=c) (by
  have e1:decide (i < -(2 ^ 63:Int))=false:=aam ();have e2:decide (i ≥ 2 ^ 63)=false:=aam ()
  rw[e1,e2,Bool.or_false]) (by rw[h1];simpa using h2) ⟨.str ⟨#[c]⟩,H,I.tok _,⟨_,rfl⟩,q⟩) hs
def Xv(K:fI):R2:=λx y H Q=>Qm K x y H Q\/Qe K x y H Q\/PD x y H Q
def NA:IV X (Xv X.K):=Kh.or (NC.or Ot)
def AJ(its:List Value)(n j:Nat)(u:Value):Obj.mapSeq (·.setIfInBounds j u) {cls:=.type "list",data:=.seq its.toArray n}={cls:=.type "list",data:=.seq (its.set j u).toArray n}:=by simp[Obj.mapSeq]
def Inv.lst{δ:List (Addr×Obj)}{σ:St}{H:Hp}{s:Shared}{p:Addr}{xs:List V}(I:Inv X δ σ H s)(h:H p=some (.lst xs)):
  ∃(its:List Value) (n:Nat),ar xs its/\s.heap.get? p=some {cls:=.type "list",data:=.seq its.toArray n}/\xs.length<=sizeLine:=by
 have⟨z,its,n,r,e⟩:=I.aO p _ h;exact⟨its,n,r,e,z⟩
def Inv.Od{σ:St}{H:Hp}{p:Addr}{xs ys:List V}{its':List Value}{n':Nat}{f:Obj->Obj}(I:Inv X δ σ H s)(h:H p=some (.lst xs))
  (ho:s.heap.get? p=some {cls:=.type "list",data:=.seq its.toArray n}) (hf:f {cls:=.type "list",data:=.seq its.toArray n}={cls:=.type "list",data:=.seq its'.toArray n'}) (r:ar ys its') (hz:ys.length<=sizeLine) (t:Nat):
  Inv X δ σ (upd H p (.lst ys)) {s with heap:=s.heap.update p f,toks:=t}:=by
 have e:(s.heap.update p f).get? p=some {cls:=.type "list",data:=.seq its'.toArray n'}:=by rw[Heap.get?_update_self f ho (by rw[hf] <;> rfl),hf]
 refine I.write (x:=p) (e:=p) (by rw[h];trivial) (.inl rfl) (λb u hb q=>(Heap.get?_update_other _ _ (Ne.symm hb)).trans q) ⟨_,e⟩ ?_;exact⟨hz,its',n',r,e⟩
def LK:V->V->V->Hp->(Hp->Prop)->Prop:=λo i v H Q=>∃p xs k j,o= .ref p/\i= .int k/\H p=some (.lst xs)/\Gw xs.length k=some j/\Q (upd H p (.lst (xs.set j v)))
def IM:Ru X LK:=by
 intro δ s σ H o i v ov iv u Q I ro ri rv h;have⟨p,xs,k,j,rfl,rfl,hp,hj,q⟩:=h;cases ro;have⟨t,rfl⟩:=ri;have⟨its,n,r,ho,hz⟩:=I.lst hp;have⟨h1,h2,h3,h4⟩:=B6 hj;have hl:=r.length;have hn:=ou
 have I':Inv X δ σ (upd H p (.lst (xs.set j v))) {s with heap:=s.heap.update p (Obj.mapSeq (·.setIfInBounds j u))}:=
  I.Od hp ho (AJ its n j u) (r.set rv j) (by rw[aa3];exact hz) s.toks
 by_cases h0:0<=k
 ·have hk:k.toNat=j:=by rw[seqIndex_of h0 h4]at h1;exact aao h1
  exact PySem.W.ki_setAt ho h0 () (by rw[aaM,<-hl];exact h4) (by rw[hk];exact⟨_,I',q⟩)
 ·have hk:(k+(its.toArray.size:Int)).toNat=j:=by rw[seqIndex_neg () h3]at h1;rw[aaM,<-hl];exact aao h1
  exact PySem.W.ki_setBack ho () (by rw[aaM,<-hl];exact h3) () (by rw[hk];exact⟨_,I',q⟩)
def vi(lo hi:Option Int)(n:Nat):(sliceBounds lo hi none n).1=((HT.xX n 0 lo:Nat):Int)/\(sliceBounds lo hi none n).2.1=((HT.xX n n hi:Nat):Int)/\(sliceBounds lo hi none n).2.2=1:=by
 refine⟨?_,?_,rfl⟩
 ·cases lo with
  | none=>simp[sliceBounds,HT.xX]
  | some i=>
   simp only[sliceBounds,HT.xX,Option.getD_none,show(1:Int) > 0 by decide,if_true];by_cases h:i < 0
   ·simp only[h,if_true] <;> omega
   ·simp only[h,if_false] <;> omega
 ·cases hi with
  | none=>simp[sliceBounds,HT.xX]
  | some i=>
   simp only[sliceBounds,HT.xX,Option.getD_none,show(1:Int) > 0 by decide,if_true];by_cases h:i < 0
   ·simp only[h,if_true] <;> omega
   ·simp only[h,if_false] <;> omega
def tF(its:List Value)(lo hi:Option Int):slicePick its.toArray lo hi none=((its.drop (HT.xX its.length 0 lo)).take (HT.xX its.length its.length hi - HT.xX its.length 0 lo)).toArray:=by have⟨h1,h2,h3⟩:=vi lo hi its.toArray.size;unfold slicePick;rw[h1,h2,h3];simp only[sliceRange_one,pick_run,List.size_toArray] <;> rfl
def Tu(K:fI):V->Option Int->Option Int->Hp->VK->Prop:=λx lo hi H Q=>∃a xs,x= .ref a/\fj K H a xs/\∀p,H p=none->Q (.ref p) (upd H p (.lst (sQ xs lo hi)))
def vv:WN X (Tu X.K):=by intro δ s σ H x v vl vu lo hi sl Q I rx hs pl pu h;have⟨a,xs,rfl,hx,q⟩:=h;cases rx;have⟨its,r,ht,hz⟩:=I.list hx;have hlen:=r.length;refine⟨"list",_,slot_list_getitem.lookup,ht.isList.typeIs,?_⟩;refine wpAny_getItem_list_slice ht.isList hs pl pu .none (by simp) ?_ (by rw[List.size_toArray] <;> omega);rw[tF,<-hlen];refine⟨.ref s.heap.objs.size,_,I.laid (t':=s.toks) (o:=.lst (sQ xs lo hi)) (λb ob q=>aaj _ q) (aai _) ?_,rfl,q _ (I.aO.fresh (aai _))⟩;exact⟨aaA (yK xs lo hi) hz,_,0,(r.drop (HT.xX xs.length 0 lo)).take (HT.xX xs.length xs.length hi - HT.xX xs.length 0 lo),aaN _ rfl⟩
def dZ:V->Bool
 | .aJ=>true
 | .bl _=>true
 | .int _=>true
 | .str _=>true
 | _=>false
def uW:V->V->Bool
 | .aJ,.aJ=>true
 | .bl a,.bl b=>a==b
 | .bl a,.int b=>(if a then 1 else 0)==b
 | .int a,.bl b=>a==(if b then 1 else 0)
 | .int a,.int b=>a==b
 | .str a,.str b=>a==b
 | _,_=>false
def vx{A:Around}{y x:V}{u v:Value}(ry:ax y u)(rx:ax x v)(fy:dZ y=true)(fx:dZ x=true):SeqAt.EqAt A s u v (uW y x):=by
 cases y with
 | aJ=>
  cases ry;cases x with
  | aJ=>cases rx;exact SeqAt.EqAt.same _
  | bl b=>cases rx;exact SeqAt.EqAt.none_bool b
  | int b=>have⟨t,rfl⟩:=rx;exact SeqAt.EqAt.none_int b t
  | str b=>have⟨t,rfl⟩:=rx;exact SeqAt.EqAt.none_str b t
  | _=>exact aaE (show false=true from fx) aaz
 | bl a=>
  cases ry;cases x with
  | aJ=>cases rx;exact SeqAt.EqAt.bool_none a
  | bl b=>cases rx;exact SeqAt.EqAt.bool_bool a b
  | int b=>have⟨t,rfl⟩:=rx;exact SeqAt.EqAt.bool_int a b t
  | str b=>have⟨t,rfl⟩:=rx;exact SeqAt.EqAt.bool_str a b t
  | _=>exact aaE (show false=true from fx) aaz
 | int a=>
  have⟨t',rfl⟩:=ry;cases x with
  | aJ=>cases rx;exact SeqAt.EqAt.int_none a t'
  | bl b=>cases rx;exact SeqAt.EqAt.int_bool a t' b
  | int b=>have⟨t,rfl⟩:=rx;exact SeqAt.EqAt.int_int a t' b t
  | str b=>have⟨t,rfl⟩:=rx;exact SeqAt.EqAt.int_str a t' b t
  | _=>exact aaE (show false=true from fx) aaz
 | str a=>
  have⟨t',rfl⟩:=ry;cases x with
  | aJ=>cases rx;exact SeqAt.EqAt.str_none a t'
  | bl b=>cases rx;exact SeqAt.EqAt.str_bool a t' b
  | int b=>have⟨t,rfl⟩:=rx;exact SeqAt.EqAt.str_int a t' b t
  | str b=>have⟨t,rfl⟩:=rx;exact SeqAt.EqAt.str_str a t' b t
  | _=>exact aaE (show false=true from fx) aaz
 | _=>exact aaE (show false=true from fy) aaz
def K0(x:V)(u:Value):Bool:=match u with
 | .none=>uW .aJ x
 | .bool b=>uW (.bl b) x
 | .int i _=>uW (.int i) x
 | .str z _=>uW (.str z) x
 | _=>false
def Gm{x y:V}{u:Value}(r:ax y u)(f:dZ y=true):K0 x u=uW y x:=by
 cases y with
 | aJ=>cases r;rfl
 | bl b=>cases r;rfl
 | int i=>have⟨t,rfl⟩:=r;rfl
 | str z=>have⟨t,rfl⟩:=r;rfl
 | _=>exact aaE (show false=true from f) aaz
def xy{x:V}:∀{xs:List V} {us:List Value},ar xs us->xs.all dZ=true->us.any (K0 x)=xs.any λy=>uW y x
 | _,_,.nil,_=>rfl
 | y::xs,u::us,.cons r t,f=>by rw[abG,aaC]at f;rw[abP,abP,Gm r f.1,xy t f.2]
def q5{A:Around}{s:Shared}{x:V}{v:Value}(rx:ax x v)(fx:dZ x=true):∀{xs:List V} {us:List Value},ar xs us->xs.all dZ=true->∀u∈us,SeqAt.EqAt A s u v (K0 x u)
 | _,_,.nil,_=>λu hu=>by cases hu
 | y::xs,u::us,.cons r t,f=>λu' hu=>by
  rw[abG,aaC]at f;rcases aav.mp hu with rfl| hu
  ·rw[Gm r f.1];exact vx r rx f.1 fx
  ·exact q5 rx fx t f.2 u' hu
def O3(x:V)(xs:List V):Bool:=xs.any λy=>uW y x
def WO(K:fI)(neg:Bool):R2:=λx y H Q=>∃p xs,y= .ref p/\(fj K H p xs\/mq K H p xs)/\dZ x=true/\xs.all dZ=true/\Q (.bl (if neg then !O3 x xs else O3 x xs)) H
def Dx:jN X (compareOp .In) (WO X.K false):=by
 intro δ s σ H x y v u Q I rx ry h;have⟨p,xs,rfl,hq,fx,fs,q⟩:=h;cases ry;rcases hq with hq| hq
 ·have⟨its,r,pl,hz⟩:=I.list hq;refine SeqAt.in_listAt (K0 x) pl.isList (λw hw=>q5 rx fx r fs w (by simpa using hw)) ⟨.bl _,H,I,rfl,?_⟩;rw[show its.toArray.any (K0 x)=its.any (K0 x) by simp,xy r fs];exact q
 ·have⟨its,r,pl,hz⟩:=I.tuple hq;refine SeqAt.in_tupleAt (K0 x) pl (λw hw=>q5 rx fx r fs w (by simpa using hw)) ⟨.bl _,H,I,rfl,?_⟩;rw[show its.toArray.any (K0 x)=its.any (K0 x) by simp,xy r fs];exact q
def wC:dE X (.builtin "len") (λxs H Q=>∃p ys,xs=[.ref p]/\(fj X.K H p ys\/mq X.K H p ys)/\Q (.int ys.length) H):=by
 intro δ s σ H xs us Q I r h;have⟨p,ys,rfl,hq,q⟩:=h;have⟨u,rfl,rx⟩:=pE r;cases rx;have hn:=ou;rcases hq with hq| hq
 ·have⟨its,r',pl,hz⟩:=I.list hq;have hlen:=r'.length;exact Calls.call_len_list pl.isList (by simp only[List.size_toArray] <;> omega) ⟨.int ys.length,H,I.tok _,⟨s.toks+1,by rw[List.size_toArray,hlen]⟩,q⟩
 ·have⟨its,r',pl,hz⟩:=I.tuple hq;have hlen:=r'.length;exact len_tuple pl (by simp only[List.size_toArray] <;> omega) ⟨.int ys.length,H,I.tok _,⟨s.toks+1,by rw[List.size_toArray,hlen]⟩,q⟩
def xg:dE X (.builtin "len") (λxs H Q=>∃z,xs=[.str z]/\z.length<=sizeLine/\Q (.int z.length) H):=by intro δ s σ H xs us Q I r h;have⟨z,rfl,hz,q⟩:=h;have⟨u,rfl,t,rfl⟩:=pE r;have hn:=ou;exact len_str () ⟨.int z.length,H,I.tok _,⟨_,rfl⟩,q⟩
def dE.or{f:Value}{r r':List V->Hp->VK->Prop}(h:dE X f r)(h':dE X f r'):dE X f (λxs H Q=>r xs H Q\/r' xs H Q):=by
 intro δ s σ H xs us Q I rs q;rcases q with q| q
 ·exact h δ s σ H xs us Q I rs q
 ·exact h' δ s σ H xs us Q I rs q
def xt:dE X (.type "list") (λxs H Q=>∃p ys,xs=[.ref p]/\(fj X.K H p ys\/mq X.K H p ys)/\∀l,H l=none->Q (.ref l) (upd H l (.lst ys))):=by
 intro δ s σ H xs us Q I r h;have⟨p,ys,rfl,hq,q⟩:=h;have⟨u,rfl,rx⟩:=pE r;cases rx
 have fin:∀(its:List Value),ar ys its->ys.length<=sizeLine->∀(h':Heap) (c':Nat),(∀b o',s.heap.get? b=some o'->h'.get? b=some o')->
   h'.get? s.heap.objs.size=some {cls:=.type "list",dict:=none,data:=.seq its.toArray c',slots:= #[]}->EP X δ σ Q (.ref s.heap.objs.size) {s with heap:=h'}:=λits r' hz h' c' kp e=>
  ⟨.ref s.heap.objs.size,_,I.laid (t':=s.toks) kp (aai _) (show bL X.prog X.w _ h' _ (.lst ys) from⟨hz,its,c',r',e⟩),rfl,q _ (I.aO.fresh (aai _))⟩
 rcases hq with hq| hq
 ·have⟨its,r',pl,hz⟩:=I.list hq;have hlen:=r'.length;have⟨o,ho,hc,n,hd⟩:=pl.isList;exact call_list_seq p (.inl rfl) ho hc hd (λh' c' kp e=>fin its r' hz h' c' kp e) (by simp only[List.size_toArray] <;> omega)
 ·have⟨its,r',pl,hz⟩:=I.tuple hq;have hlen:=r'.length;have⟨o,ho,hc,n,hd⟩:=pl;exact call_list_seq p (.inr rfl) ho hc hd (λh' c' kp e=>fin its r' hz h' c' kp e) (by simp only[List.size_toArray] <;> omega)
def XX(K:fI)(T:String)(x:V)(H:Hp):Prop:=match x with
 | .str _=>T="str"
 | .int _=>T="int"
 | .ref p=>(T="list"/\∃xs,fj K H p xs)\/(T="tuple"/\∃o,K.lookup p=some o/\o.cls= .type "tuple"/\o.dict=none)\/
   (T="dict"/\((∃Ι,H p=some (.dK Ι))\/∃Ι,H p=some (.dT Ι)))\/(T="set"/\∃S n,H p=some (.set S n))
 | _=>False
def Of{σ:St}{H:Hp}{T:String}{x:V}{v:Value}(I:Inv X δ σ H s)(r:ax x v)(ty:XX X.K T x H):
  s.TypeIs v T/\∀a,v= .ref a->∃ob,s.heap.get? a=some ob/\ob.dict=none:=by
 cases x with
 | str z=>
  have⟨t,rfl⟩:=r;cases(show T="str" from ty);exact⟨typeIs_str s z t,λ_ e=>nomatch e⟩
 | int i=>
  have⟨t,rfl⟩:=r;cases(show T="int" from ty);exact⟨typeIs_int s i t,λ_ e=>nomatch e⟩
 | ref p=>
  cases r;rcases ty with ⟨rfl,xs,hq⟩| ⟨rfl,o,hk,hc,hd⟩| ⟨rfl,hk⟩| ⟨rfl,S,n,hk⟩
  ·have⟨its,_,pl,_⟩:=I.list hq;refine⟨pl.isList.typeIs,λa e=>?_⟩;cases e;have⟨o,n,e,c,hd,_⟩:=pl;exact⟨o,e,hd⟩
  ·refine⟨⟨o,I.pG p o hk,hc⟩,λa e=>?_⟩;cases e;exact⟨o,I.pG _ o hk,hd⟩
  ·have z:∃o,s.heap.get? p=some o/\o.ExactDict:=by
    rcases hk with ⟨Ι,hk⟩| ⟨Ι,hk⟩
    ·have⟨_,_,_,_,o,_,_,e,ex,_⟩:=I.aO p _ hk;exact⟨o,e,ex⟩
    ·have⟨_,_,_,_,o,_,_,e,ex,_⟩:=I.aO p _ hk;exact⟨o,e,ex⟩
   have⟨o,e,ex⟩:=z;refine⟨⟨o,e,ex.1⟩,λa e2=>?_⟩;cases e2;exact⟨o,e,ex.2.1⟩
  ·have⟨o,_,_,_,e,ex,_⟩:=I.aO p _ hk;refine⟨⟨o,e,ex.1⟩,λa e2=>?_⟩;cases e2;exact⟨o,e,ex.2.1⟩
 | _=>exact False.elim ty
def tBM(K:fI)(T:String)(r:V->List V->Hp->VK->Prop)(to:TE)(t:TA):TE:=λσ H Q=>to σ H λx H1=>XX K T x H1/\t σ H1 λxs H2=>r x xs H2 Q
variable{o e:Expr}{es:List Expr}{to:TE}{t:TA}{name:Str}{apos a_:Pos}{T id:String}{r:V->List V->Hp->VK->Prop}
def Gy(pa:PlainAttrs T)(slot:Slot T name id)(ZR:typeOf (.builtin id)=pure (.type "method_descriptor"))(hm:WI X id r)(ho:PE X o to)(ha:PA X (e::es) t)
  (sv:attributeBase o name X.env (eval o X.env)=eval o X.env:=by rfl)
  (Ar:((backTo a_ (starEach (e::es) X.env)).all (λx=> !x.1)&&(backToKw a_ (keywordEach [] X.env)).all (λx=>x.1.isSome)
   &&decide ((e::es).length+([]:List Keyword).length+(if ([]:List Keyword).isEmpty then 0 else 1) < 30))=true:=by rfl)
  (sk:(apos.endLine==a_.line)=true:=by rfl) (hs:starEach (e::es) X.env=(false,eval e X.env)::starEach es X.env:=by rfl) (kX:(backTo a_ (starEach es X.env)).any (·.1)=false:=by rfl):
  PE X (.Call (.Attribute o name apos) (e::es) [] a_) (tBM X.K T r to t):=by
 intro δ s σ H Q I h;refine wpAny_Call_method_late sv Ar sk rfl (bH (ho δ s σ H _ I h) λv s1 xz=>?_);have⟨x,H1,I1,r1,ty,q1⟩:=xz;have⟨h1,h2⟩:=Of I1 r1 ty;refine⟨T,id,pa,slot,ZR,h1,h2,?_⟩;have hA:=ha a_ δ s1 σ H1 _ I1 q1;rw[hs]at hA⊢;refine Calls.callWith_builtin (by show(false|| (backTo a_ (starEach es X.env)).any (·.1))=false;rw[kX] <;> rfl) (Calls.evalArgs_plain ?_);exact bH hA λus s2 ⟨vs,H2,I2,r2,q2⟩=>hm δ s2 σ H2 x vs v us Q I2 r1 r2 q2
end
def VD(X:Cx)(id:String)(r:V->List V->Hp->VK->Prop):Prop:=
 ∀(δ:List (Addr×Obj)) (s:Shared) (σ:St) (H:Hp) (x:V) (xs:List V) (v:Value) (us:List Value) (Q:VK),Inv X δ σ H s->ax x v->ar xs us->r x xs H Q->
  wpAny (model X.prog X.w) X.A (call (.builtin id) (v::us)) (EP X δ σ Q) X.xe s
def ar.one:∀{x:V} {us:List Value},ar [x] us->∃u,us=[u]/\ax x u
 | _,_,.cons r .nil=>⟨_,rfl,r⟩
def ar.two:∀{x y:V} {us:List Value},ar [x,y] us->∃u v,us=[u,v]/\ax x u/\ax y v
 | _,_,_,.cons r (.cons q .nil)=>⟨_,_,rfl,r,q⟩
def ar.rep{xs:List V}{us:List Value}(h:ar xs us):∀k:Nat,ar (List.replicate k xs).flatten (List.replicate k us).flatten
 | 0=>.nil
 | k+1=>by rw[abe,abe,abu,abu];exact ar.append h (ar.rep h k)
def uU(its:List Value):∀(k:Nat) (acc:List Value),
  List.foldl (λx1 x2=>x1++x2) acc.toArray (List.replicate k its.toArray)=(acc++(List.replicate k its).flatten).toArray
 | 0,acc=>by simp
 | k+1,acc=>by
  have e:acc.toArray++its.toArray=(acc++its).toArray:=by simp
  have e2:(acc++its)++(List.replicate k its).flatten=acc++(List.replicate (k+1) its).flatten:=by rw[abe,abu,aaH]
  rw[<-e2,<-uU its k (acc++its),<-e,abe,abB]
section
variable{σ:St}{H:Hp}{l b:Addr}{xs ys zs:List V}
def Inv.R7{its':List Value}{f:Array Value->Array Value}{t':Nat}(I:Inv X δ σ H s)(hH:H l=some (.lst xs))
  (e:s.heap.get? l=some {cls:=.type "list",data:=.seq its.toArray n}) (hf:f its.toArray=its'.toArray) (hv:ar ys its') (hz:ys.length<=sizeLine):
  Inv X δ σ (upd H l (.lst ys)) {s with heap:=s.heap.update l (Obj.mapSeq f),toks:=t'}:=by
 have q:=PySem.IsL.update e f;rw[hf]at q;refine I.write (x:=l) (e:=l) (by rw[hH];exact trivial) (.inl rfl) (λb' u hb hu=>(Heap.get?_update_other s.heap (Obj.mapSeq f) (Ne.symm hb)).trans hu) ⟨_,q⟩ ?_;exact⟨hz,its',_,hv,q⟩
def Inv.MQ{t':Nat}(I:Inv X δ σ H s)(hv:ar ys its)(hz:ys.length<=sizeLine):
  Inv X δ σ (upd H s.heap.objs.size (.lst ys)) {s with heap:=s.heap.push {cls:=.type "list",data:=.seq its.toArray},toks:=t'}:=
 I.laid (λ_ _ q=>aaj _ q) (aai _) ⟨hz,its,0,hv,aaN _ rfl⟩
def Inv.fresh(I:Inv X δ σ H s):H s.heap.objs.size=none:=I.aO.fresh (aai _)
def Inv.EZ(I:Inv X δ σ H s)(hH:H l=some (.lst xs)):xs.length<=sizeLine/\∃(its:List Value) (n:Nat),ar xs its/\xs.length=its.length/\s.heap.get? l=some {cls:=.type "list",data:=.seq its.toArray n}:=by have⟨z,its,n,r,e⟩:=I.aO l _ hH;exact⟨z,its,n,r,r.length,e⟩
def HM(h:n<=sizeLine):Builtin.List.listTooLong n=false:=by unfold Builtin.List.listTooLong;exact aam ()
end
section
def BP:V->List V->Hp->VK->Prop:=λx vs H Q=>∃l xs y,x= .ref l/\vs=[y]/\H l=some (.lst xs)/\xs.length < sizeLine/\Q .aJ (upd H l (.lst (xs++[y])))
def uo:VD X "list.append" BP:=by intro δ s σ H x vs v us Q I rx rv h;have⟨l,xs,y,rfl,rfl,hH,hz,q⟩:=h;cases rx;have⟨u,rfl,ru⟩:=rv.one;have⟨z,its,n,r,hl,e⟩:=I.EZ hH;refine call_meets F.slot_list_append ⟨_,e,rfl⟩ F.entry_list_append (F.args_list_append_2 _ _) (PySem.list_append l its.toArray n u (by rw[aaM];omega)) ⟨e,?_⟩;refine⟨.aJ,_,I.R7 (its':=its++[u]) hH e (by simp) (r.append (.cons ru .nil)) ?_,rfl,q⟩;rw[aah,List.length_singleton];omega
def Nl:R2:=λx y H Q=>∃l b xs zs,x= .ref l/\y= .ref b/\H l=some (.lst xs)/\H b=some (.lst zs)/\xs.length+zs.length<=sizeLine/\∀p,H p=none->Q (.ref p) (upd H p (.lst (xs++zs)))
def EV:jN X (binaryOp .Add) Nl:=by
 intro δ s σ H x y v u Q I rx ry h;have⟨l,b,xs,zs,rfl,rfl,hH,hB,hz,q⟩:=h;cases rx;cases ry;have⟨z,its,n,r,hl,e⟩:=I.EZ hH;have⟨z2,FU,n2,r2,Fu,e2⟩:=I.EZ hB;refine PySem.P.add_list e e2 ?_ (by rw[aaM,aaM];omega);have ea:its.toArray++FU.toArray=(its++FU).toArray:=by simp
 rw[ea];exact⟨.ref _,_,I.MQ (t':=s.toks) (r.append r2) (by rw[aah];omega),rfl,q _ I.fresh⟩
def MD:R2:=λx y H Q=>∃l k xs,x= .ref l/\y= .int k/\H l=some (.lst xs)/\ -(2 ^ 63)<=k/\k < 2 ^ 63/\xs.length * k.toNat<=sizeLine/\
 ∀p,H p=none->Q (.ref p) (upd H p (.lst (List.replicate k.toNat xs).flatten))
def K3{α:Type}(xs:List α)(k:Nat):(List.replicate k xs).flatten.length=k * xs.length:=by
 induction k with
 | zero=>simp
 | succ k ih=>rw[abe,abu,aah,ih,Nat.succ_mul,Nat.add_comm]
def HE:jN X (binaryOp .Mult) MD:=by
 intro δ s σ H x y v u Q I rx ry h;have⟨l,k,xs,rfl,rfl,hH,h1,h2,hz,q⟩:=h;cases rx;have⟨t,rfl⟩:=ry;have⟨z,its,n,r,hl,e⟩:=I.EZ hH;have hlen:its.toArray.size * k.toNat<=sizeLine:=by rw[aaM,<-hl];exact hz
 have UC:¬its.toArray.size * k.toNat > (2 ^ 63 - 1) / 8:=by
  have:(sizeLine:Nat)<=(2 ^ 63 - 1) / 8:=@_
  omega
 have Uc:¬(!Builtin.List.listFitsIndex k)=true:=by rw[fitsIndex_both h1 h2];exact aaz
 have O9:¬Builtin.List.listTooLong (its.toArray.size * k.toNat)=true:=by rw[HM hlen];exact aaz
 have zO:List.foldl (λx1 x2=>x1++x2) #[] (List.replicate (if its.toArray.isEmpty=true then 0 else k.toNat) its.toArray)=(List.replicate k.toNat its).flatten.toArray:=by
  have f0:∀m:Nat,List.foldl (λx1 x2=>x1++x2) #[] (List.replicate m its.toArray)=(List.replicate m its).flatten.toArray:=λm=>by have:=uU its m [];rw[aaS]at this;exact this
  rw[f0];cases its with
  | nil=>simp
  | cons a r'=>rw[if_neg (by simp)]
 refine wpAny_binaryOp_repeat_ref (T:="list") (U:="int") @_ ⟨_,e,rfl⟩ (λs'=>typeIs_int s' k t) noFill_list_mul F.fills_int_mul F.slot_int_rmul repeat_list F.slot_int_index.lookup
  (call_meets F.slot_int_rmul (typeIs_int s k t) F.entry_int_rmul (F.args_int_rmul_2 _ _) (int___rmul___int_list k t l its.toArray n)
   ⟨e,rfl,⟨_,e,rfl⟩,call_meets F.slot_list_mul ⟨_,e,rfl⟩ F.entry_list_mul (F.args_list_mul_2 _ _) (AutoListH.list___mul___list_int_3 l its.toArray n k t Uc UC O9) ⟨e,?_⟩⟩)
 rw[zO];exact⟨.ref _,_,I.MQ (t':=s.toks) (r.rep k.toNat) (by rw[K3,Nat.mul_comm];exact hz),rfl,q _ I.fresh⟩
end
end L2
namespace Att
open PySem PySem.W PySem.Calls PyProof.Rows
def pF{P:Params}{h:Heap}:∀(ns:List Int) (vs:List Value),WellAll P h vs (ns.map WData.int)->IntsAre vs ns:=by
 intro ns
 induction ns with
 | nil=>
  intro vs w;rw[List.map_nil]at w;cases w;exact .nil
 | cons n ns ih=>
  intro vs w;rw[aaW]at w;cases w with
  | cons a b=>
   cases a;exact .cons _ _ (ih _ b)
def Dc{l:OpenLaw}{n:Nat}(hn:l.most=some n){P:Params}{h:Heap}{args:List WData}{vals:List Value}
  (KL:l.row.toRowW.claim.pre args=true) (Ts:WellAll P h vals args):
  ∃a vs ns,vals=[Value.ref a]/\args=[WData.list (ns.map WData.int)]/\h.get? a=some {cls:=.type "list",data:=.seq vs.toArray}/\IntsAre vs ns/\ns.length<=n:=by
 have hsh:WShape.hasAll [] args [.list .int]=true:=(pre_splitW KL).1;have hc:l.pre.holds [] {args:=args}=true:=(pre_splitW KL).2;have⟨d,r,rfl,h1,h2⟩:=hasAllW_cons hsh;obtain rfl:=hasAllW_nil h2;have⟨xs,rfl,h3⟩:=hasW_list h1;have⟨ns,rfl⟩:=items_int h3;have hlen:ns.length<=n:=by
  unfold OpenLaw.pre at hc;have h4:(WTm.not (.lt (.lit (.int (n:Int))) (.len (.arg 0)))).holds [] {args:=[.list (ns.map .int)]}=true:=by have h4:=(holds_andW hc).1;rw[hn]at h4;exact h4
  have h5:=condW_of h4 (w_not (w_lt w_lit (w_len_list (w_arg rfl))));rw[aag]at h5;refine Nat.le_of_not_lt λq=>?_;have q':(n:Int) < ((ns.length:Nat):Int):=()
  first
   | (rw[aaB q']at h5;exact aaE h5 @_)
   | (simp at h5;omega)
 cases Ts with
 | cons w1 w2=>
  cases w2;cases w1 with
  | list ho J2=>exact⟨_,_,ns,rfl,rfl,ho,pF ns _ J2,hlen⟩
def Ej(l:OpenLaw)(args:List WData):l.row.toRowW.claim.post args (.bool true) args=true:=
 postW_of (r:=l.row.toRowW) (X:=(true==true))
  (show WShape.has [] (.bool true) .bool=true by first| rfl| decide| simp[WShape.has,WShape.arms,WShape.armsAll])
  (show(WTm.eq .res (.lit (.bool true))).value [] {args:=args,res:=some (.bool true),after:=args}=some (.bool (true==true)) from w_eq_bool (w_res rfl) w_lit) rfl
def zh{l:OpenLaw}{n:Nat}{q:Program}{loose:List Str}{XP:(Str->Option Value)->Heap->Prop}{YP:World->Heap->Prop}{d:DefRec}
  (hn:l.most=some n) (PY:d.params.defaults=[])
  (call:∀(w:World) (s₀ s₁:Shared) (mg mb:Str->Option Value) (fa:Addr) (o:Obj) (pm cd doc:Value) (a:Addr) (vs:List Value) (ns:List Int),
   Ground q loose [] XP w s₀ mg mb s₁.heap->YP w s₁.heap->
   s₁.heap.get? fa=some o->o.data= .func (docDef d.name d.params d.body d.scope pm cd doc)->s₁.heap.CodeRec cd d.name->mg d.name=some (.ref fa)->
   s₁.heap.get? a=some {cls:=.type "list",data:=.seq vs.toArray}->IntsAre vs ns->ns.length<=n->s₁.gens= #[]->
   codeAny (model l.prog w) callerA (.call (.ref fa) ⟨[.ref a],[]⟩) (λr s'=>r= .ok (.ret (.bool true))/\OldK s₁.heap s'.heap/\s'.os=s₁.os/\AllBare s'.gens) s₁):
  WalkO q loose XP YP l.row.toRowW d [] (λf vs=>PySem.call f vs):=by
 intro w s₀ s₁ mg mb G Y fa o pm cd doc dV kV ho hd Gz hD Ky hg args vals as KL Yd hrd Ts hlo;obtain rfl:dV= .none:=Dflts.none hD PY;obtain rfl:kV= .none:=Dflts.noKw hD;have⟨a,vs,ns,rfl,rfl,N5,hints,hlen⟩:=Dc hn KL Ts;refine enter_call (codeAny_mono (call w s₀ s₁ mg mb fa o pm cd doc a vs ns G Y ho (fd_plain hd) Gz Ky N5 hints hlen hg) λr s' hq=>?_);have⟨rfl,h2,h3,h4⟩:=hq;exact⟨.inl ⟨.bool true,.bool true,[],rfl,λ_=>rfl,.bool true,Ej l _,λ_=>⟨List.Pairwise.nil,λ_ hm=>(nomatch hm)⟩⟩,h2,h3,h4⟩
end Att
namespace L2
open PySem PySem.Spec PyProof.Rows
def uE:∀{vs:List Value} {ns:List Int},IntsAre vs ns->ar (ns.map V.int) vs
 | _,_,.nil=>.nil
 | _,_,.cons n t h=>.cons ⟨t,rfl⟩ (uE h)
def Np(H:Hp):Prop:=∀b,H b=none\/∃o xs,H b=some (.xD o (.lst xs))
def GN{P:Program}{w:World}{K:fI}{mg mb:Str->Option Value}{CX:zC}{k:Nat}{fa a:Addr}{fd:FuncData}{x:Str}{sp:Sp}{s₁:Shared}{vs:List Value}{ns:List Int}
  (KX:K.In s₁.heap) (WE:s₁.heap.Ns mainGlobals mg) (hb:s₁.heap.Ns builtinsNs mb) (Z2:∀x:Str,x≠"__name__"->mb x=bootBuiltins x) (Wh:s₁.heap.NoLimit) (hg:s₁.gens= #[])
  (ha:s₁.heap.get? a=some {cls:=.type "list",data:=.seq vs.toArray}) (hi:IntsAre vs ns) (hl:ns.length<=sizeLine) (hr:bU k callerA)
  (F:∀base:Heap,K.In base->base.Ns mainGlobals mg->av P w K mg base CX k fa fd [x] sp) (PH:∀(s:Shared) (u:Value),BindsTo s fd ⟨[u],[]⟩ [(x,u)])
  (Ln:∀H:Hp,Np H->fj K H a (ns.map V.int)->sp [.ref a] H (λv _=>v= .bl true) λ_ _ _=>False)
  (Tq:∀H e s',CX [] H s₁ (λ_ _ _=>False) e s'->False):
  codeAny (model P w) callerA (.call (.ref fa) ⟨[.ref a],[]⟩) (λr s'=>r= .ok (.ret (.bool true))/\OldK s₁.heap s'.heap/\s'.os=s₁.os/\AllBare s'.gens) s₁:=by
 have rv:=uE hi;have Ui:=hi.length
 have core:∀H:Hp,Np H->fj K H a (ns.map V.int)->km P w H s₁.heap->(∀b,H b≠none->b=a)->(H a≠none->K.lookup a=none)->
   codeAny (model P w) callerA (.call (.ref fa) ⟨[.ref a],[]⟩) (λr s'=>r= .ok (.ret (.bool true))/\OldK s₁.heap s'.heap/\s'.os=s₁.os/\AllBare s'.gens) s₁:=by
  intro H hO hS aO hA hK;have Ca:∀{b:Addr} {o:Obj},s₁.heap.get? b=some o->H b=none->(wD s₁.heap H).get? b=some o:=λe n=>Ip e n;have P8:∀{b:Addr} {o:Obj} {es:Array DictEntry} {ep:Nat},s₁.heap.get? b=some o->o.data= .dict es ep->H b=none:=λ{b o es ep} e d=>by
   cases q:H b with
   | none=>rfl
   | some u=>
    have e':b=a:=hA b (by rw[q];simp);subst e';rw[ha]at e;cases e;have d':Data.seq vs.toArray _=Data.dict es ep:=d;cases d'
  have SE:∀{b:Addr} {m:Str->Option Value},s₁.heap.Ns b m->(wD s₁.heap H).Ns b m:=λ{b m} ⟨o,es,ep,e,d,r⟩=>⟨o,es,ep,Ca e (P8 e d),d,r⟩
  have X4:K.In (wD s₁.heap H):=λb o e=>Ca (KX b o e) (by
   cases q:H b with
   | none=>rfl
   | some u=>
    have e':b=a:=hA b (by rw[q];simp);subst e'
    rw[hK (by rw[q];simp)]at e;cases e)
  have hM:Mod K mg (wD s₁.heap H):=⟨X4,SE WE,⟨mb,SE hb,Z2⟩,let ⟨mc,h1,h2⟩:=Wh;⟨mc,SE h1,h2⟩⟩;have e0:zP P w K mg (wD s₁.heap H) callerA [] s₁ H:=⟨rfl,hM,λb o e=>Ji e,Nat.le_of_eq (DR _ _),trivial,λb hb=>absurd (show b∈([]:List Addr) from hb) (by simp),aO,.of_eq hg⟩;refine codeAny_mono ((F _ X4 (SE WE)).run callerA [] s₁ H ⟨[.ref a],[]⟩ [.ref a] [.ref a] _ _ hr e0 (PH s₁ (.ref a)) (.cons rfl .nil) (Ln H hO hS)) λr s' h=>?_;cases r with
  | error e=>exact(Tq H e s' h).elim
  | ok fl=>
   cases fl with
   | next=>exact False.elim h
   | brk=>exact False.elim h
   | cont=>exact False.elim h
   | ret u=>
    have⟨v,H',os,bare,un,Wz,r',q⟩:=h;have q':v= .bl true:=q;subst q';obtain rfl:u=Value.bool true:=r';refine⟨rfl,OldK.of_keep λb o e=>?_,os,bare⟩;cases q:H b with
    | none=>exact un.keep b o e q (by intro z;exact absurd (show b∈([]:List Addr) from z) (by simp)) (by simp)
    | some u=>
     rcases hO b with z| ⟨ob,xs,z⟩
     ·rw[q]at z;cases z
     ·have z2:=un.nF b ob _ z;have⟨e1,_⟩:=aO b _ z;have⟨e2,_⟩:=Wz b _ z2;rw[e]at e1;cases e1;exact e2
 cases hk:K.lookup a with
 | some o=>
  have e:=KX a o hk;rw[ha]at e;cases e;refine core (λ_=>none) (λ_=>.inl rfl) (.inr ⟨_,vs.toArray,_,hk,rfl,rfl,rfl,by rw[List.size_toArray,Ui];exact hl,by simpa using rv⟩) (λb u z=>by have z':(none:Option HO)=some u:=z;cases z') (λb z=>absurd rfl z) λz=>absurd rfl z
 | none=>
  refine core (λb=>if b=a then some (.xD {cls:=.type "list",data:=.seq vs.toArray} (.lst (ns.map V.int))) else none) (λb=>?_) (.inl (.inr ⟨{cls:=.type "list",data:=.seq vs.toArray},aaw rfl⟩)) (λb u z=>?_) (λb z=>?_) λ_=>hk
  ·by_cases hb:b=a
   ·exact .inr ⟨_,_,aaw hb⟩
   ·exact .inl (aay hb)
  ·by_cases hb:b=a
   ·have z':=(aaw hb).symm.trans z;cases z';subst hb;exact⟨ha,by rw[aag];exact hl,vs,_,rv,ha⟩
   ·have z':=(aay hb).symm.trans z;cases z'
  ·by_cases hb:b=a
   ·exact hb
   ·exact aaE (aay hb) z
def vq{l:PySem.W.OpenLaw}{n k:Nat}{q:Program}{loose:List Str}{XP:(Str->Option Value)->Heap->Prop}{YP:World->Heap->Prop}{d:DefRec}{K:Params->fI}{CX:World->zC}{sp:World->Sp}{x:Str}
  (hn:l.most=some n) (So:n<=sizeLine) (PY:d.params.defaults=[]) (hr:bU k callerA)
  (hY:∀(w:World) (h:Heap),YP w h->(K w.params).In h)
  (F:∀(w:World) (mg:Str->Option Value) (fa:Addr) (h:Heap),(K w.params).In h->h.Ns mainGlobals mg->mg d.name=some (.ref fa)->
   ∃fd:FuncData,(∀(s:Shared) (u:Value),BindsTo s fd ⟨[u],[]⟩ [(x,u)])/\
    ∀base:Heap,(K w.params).In base->base.Ns mainGlobals mg->av l.prog w (K w.params) mg base (CX w) k fa fd [x] (sp w))
  (Ln:∀(w:World) (H:Hp) (a:Addr) (ns:List Int),ns.length<=n->Np H->fj (K w.params) H a (ns.map V.int)->sp w [.ref a] H (λv _=>v= .bl true) λ_ _ _=>False)
  (Tq:∀(w:World) (H:Hp) (s:Shared) (e:Value) (s':Shared),CX w [] H s (λ_ _ _=>False) e s'->False):
  PySem.W.WalkO q loose XP YP l.row.toRowW d [] (λf vs=>PySem.call f vs):=by
 refine Att.zh hn PY λw s₀ s₁ mg mb fa o pm cd doc a vs ns G Y ho hd Gz Ky N5 hints hlen hg=>?_;have KX:=hY w _ Y;have⟨fd,hb,hF⟩:=F w mg fa _ KX G.T.g Ky;exact GN KX G.T.g G.T.b G.T.builtins G.T.nolimit hg N5 hints (aaA hlen So) hr hF hb (λH hO hS=>Ln w H a ns hlen hO hS) λH e s'=>Tq w H s₁ e s'
end L2
/- ZO T2 KN (shape;LID,My.* are QT):
  My.Adr:a structure of J6 addresses VZ Wt QK names (classes,Ee);My.Txt K t:a structure (Prop) of J6 equations pP K;
  My.Ah:{K} {implicit addresses ..} (e1:nsIn K mainGlobals "law"=some (some (.ref f))) (e2:K.lookup f=some ⟨oc,od,.func (fnOf "law" "law" params body scope dV kV doc pm an bw ct),sl⟩) (e3:codeIn K bw "law"=true) .. :∃t,My.Txt K t
set_option maxRecDepth 100000 in
set_option maxHeartbeats 0 in
def PySem.Challenge.cw_LID_holds : PySem.Challenge.rw_LID.Holds := by
 w_on;o_law;k_head;(case hw=>w_witness2)
 k_fill
 refine L2.vq (l:=PySem.Challenge.rw_LID) (n:=63) (k:=40) (x:="script") (CX:=fun w=>..) (sp:=fun _=>My.Ov) rfl @_ rfl ⟨rfl,@_,@_⟩ (fun w h Y=>PySem.W.kIn_of Y) ?F ?S ?C
 case F=>
  intro w mg fa h KX G Ky;have T:∃t,My.Txt (L2.V9 KX) t:=by
   dsimp only[L2.V9]
   refine' My.Ah ?e1 ?e2 ?e3 ..
   (case e1=>PySem.W.k_is)
   (case e2=>PySem.W.k_is)
   ..
  have⟨t,T⟩:=T;have e0:=Ky.symm.trans (PySem.W.mg_of KX G T.law);cases e0;exact⟨_,λs u=>.of_eq rfl,λbase kb nb=>My.zG T kb nb⟩
 case S=>exactλw H a ns hl hO hS=>..
 case C=>exact ..
(J6 tactic k_is has no namespace:write k_is) -/
namespace L2
open PySem PySem.Spec PyProof.Rows
variable{P:Program}{w:World}{mg:Str->Option Value}{base:Heap}{qual:Str}{f x:Addr}{fd:FuncData}{ps N xs ys:List Str}{A:Around}{s:Shared}{env:Env}{outer:List Env}{X:Cx}{δ:List (Addr×Obj)}{scope:Scope}{Μ:List Nat}
def j5(s:Stmt):Arguments:=match s with
 | .FunctionDef _ a _ _ _ _ _ _ _ _=>a
 | _=>{posonlyargs:=[],args:=[],vararg:=none,kwonlyargs:=[],kw_defaults:=[],kwarg:=none,defaults:=[]}
def gB(s:Stmt):List Stmt:=match s with
 | .FunctionDef _ _ b _ _ _ _ _ _ _=>b
 | _=>[]
def τ(s:Stmt):Scope:=match s with
 | .FunctionDef _ _ _ _ _ _ sc _ _ _=>sc
 | _=>{kind:=.function,names:=[],isGenerator:=false,isCoroutine:=false}
abbrev Sl:zC:=λ_ _ _ _ _ _=>False
abbrev E0:XK:=λ_ _ _=>False
structure cQ(K:fI)(x qual:Str)(st:Stmt)(f:Addr)(fd:FuncData):Prop where
 ex:∃(oc:Value) (od:Option Addr) (kV doc pm:Value) (an:Option Addr) (bw ct:Value) (G_:Array (Option Value)),
  fd=PySem.W.fnOf x qual (j5 st) (gB st) (τ st) .none kV doc pm an bw ct/\K.lookup f=some ⟨oc,od,.func fd,G_⟩/\PySem.W.codeIn K bw qual=true
 kp:PySem.W.keepIn K (.ref f)=true
section
variable{K:fI}
def cQ.binds{x:Str}{st:Stmt}(F:cQ K x qual st f fd)
  (h:∀(kV doc pm:Value) (an:Option Addr) (bw ct:Value) (us:List Value),us.length=ps.length->bindArgs (PySem.W.fnOf x qual (j5 st) (gB st) (τ st) .none kV doc pm an bw ct) ⟨us,[]⟩=pure (ps.zip us)):i6 K fd ps []:=by
 have⟨oc,od,kV,doc,pm,an,bw,ct,G_,rfl,lk,Gz⟩:=F.ex;exact .all (h kV doc pm an bw ct)
def ET{x:Str}{st:Stmt}{oc:Value}{od an:Option Addr}{G_:Array (Option Value)}{kV doc pm bw ct:Value}(l:K.lookup f=some ⟨oc,od,.func (PySem.W.fnOf x qual (j5 st) (gB st) (τ st) .none kV doc pm an bw ct),G_⟩)
  (c:PySem.W.codeIn K bw qual=true) (k:PySem.W.keepIn K (.ref f)=true):cQ K x qual st f (PySem.W.fnOf x qual (j5 st) (gB st) (τ st) .none kV doc pm an bw ct):=⟨⟨oc,od,kV,doc,pm,an,bw,ct,G_,rfl,l,c⟩,k⟩
end
def Fg{k:Nat}(hr:bU k A):A.units+1 < cLine:=aa7 (Nat.add_le_add_left (by decide:1<=64) _) hr.units
def Ds{A B:Prop}(h:B):if false=true then A else B:=by rw[aay aaz];exact h
def D_{A B:Prop}(h:A):if true=true then A else B:=by rw[aaw rfl];exact h
def dq(H H':Hp):Prop:=∀b o,H b=some o->H' b=some o
def dq.refl(H:Hp):dq H H:=λ_ _ h=>h
def dq.trans{H H1 H2:Hp}(a:dq H H1)(b:dq H1 H2):dq H H2:=λc o h=>b c o (a c o h)
def dq.free{H H':Hp}(e:dq H H'){l:Addr}(h:H' l=Option.none):H l=Option.none:=by
 cases q:H l with
 | none=>rfl
 | some o=>
  rw[e l o q]at h;cases h
def dq.seq{K:fI}{H H':Hp}{a:Addr}{xs:List V}(e:dq H H')(h:fj K H a xs):fj K H' a xs:=by
 rcases h with (h| ⟨o,h⟩)| h
 ·exact .inl (.inl (e _ _ h))
 ·exact .inl (.inr ⟨o,e _ _ h⟩)
 ·exact .inr h
section
def J0(B:Heap)(l:List Env)(x:Addr)(o:Obj)(fl:Value)(h:Heap):Prop:=
 B.StaysIn h/\B.get? x=none/\h.FunFrames B l/\∃(vs:Array Value) (T:Addr) (oT:Obj) (ts:Array Value),h.get? x=some {o with data:=.fields vs}/\vs[2]? =some .none/\vs[1]? =some (.ref T)/\
  B.get? T=none/\T≠x/\h.get? T=some oT/\oT.data= .fields ts/\ts[3]? =some fl
section
variable{M:Model}{E:Value->Shared->Prop}{B:Heap}{l:List Env}{L:Addr}{o:Obj}{vs:Array Value}{Q:Unit->Shared->Prop}
def sE{h h':Heap}{T:Addr}{oT:Obj}{ts:Array Value}(hT:h.get? T=some oT)(hd:oT.data= .fields ts)(k:∀b,b≠T->h'.get? b=h.get? b):h.UpToSlots h':=λb ob e hn=>
 ⟨ob.slots,(k b λz=>by rw[z,hT]at e;cases e;exact hn _ hd).trans e⟩
def uh{h h':Heap}(hl:h.FunFrames B l)(u:h.UpToSlots h'):h'.FunFrames B l:=hl.of_keeps λb ob e hn=>by have⟨sl,q⟩:=u b ob e hn;exact⟨_,q,rfl⟩
def Hz{head:Value}{S6:Bool}(TH:A.frames=some (env::outer))(hf:env.frame=some L)(hB:B.StaysIn s.heap)(hn:B.get? x=none)(hl:s.heap.FunFrames B (env::outer))(hx:s.heap.get? x=some {o with data:=.fields vs})(h1:1 < vs.size)(h2:vs[2]? =some .none)
  (h:∀h',J0 B (env::outer) x o (rawInt L) h'->s.heap.UpToSlots h'->Q Unit.unit {s with heap:=h'}):
  wpAny M A (do let a<-frameOf env;let pl<-entryPlaceOf L S6;let n<-EntryCells.newEntry head a .none (rawInt L) .none pl;setField (.ref x) 1 n) Q E s:=by
 refine aaF (wpAny_frameOf_fun TH hl hf λg1 S1=>aaF (wpAny_entryPlaceOf λpl e6=>?_));have nx:x∉(env::outer).filterMap (·.frame):=λz=>by have⟨_,ob,e,d⟩:=hl.mem z;rw[hx]at e;cases e;exact d _ rfl
 have Xa:g1.get? x=some {o with data:=.fields vs}:=(S1.2.1 x nx).trans hx;unfold EntryCells.newEntry newFields;refine aaF (wpAny_newObj_type ?_ (e6.sizeOk5 _ _ _ _ _));have X5:=aaj (h:=g1) {cls:=.type "traceback",dict:=none,data:=.fields ([head,.ref L,.none,rawInt L,.none]++(if pl.isEmpty then List.replicate 6 Value.none else pl)).toArray} Xa;refine wpAny_setField X5 rfl h1 (h _ ?_ ?_)
 ·have up1:∀b ob,b≠x->g1.get? b=some ob->((g1.push {cls:=.type "traceback",dict:=none,data:=.fields ([head,.ref L,.none,rawInt L,.none]++(if pl.isEmpty then List.replicate 6 Value.none else pl)).toArray}).update x (Obj.mapFields (·.setIfInBounds 1 (Value.ref g1.objs.size)))).get? b=some ob:=λb ob nb e=>
   (Heap.get?_update_other _ _ (Ne.symm nb)).trans (aaj _ e)
  have neT:g1.objs.size≠x:=ach (aar Xa)
  refine⟨λb ob e=>up1 b ob (λz=>by rw[z,hn]at e;cases e) ((S1.2.1 b λz=>by rw[(hl.mem z).1]at e;cases e).trans (hB b ob e)),hn,hl.of_keeps λb ob e d=>?_,vs.setIfInBounds 1 (.ref g1.objs.size),g1.objs.size,_,_,Heap.get?_update_self _ X5 rfl,by rw[Array.getElem?_setIfInBounds_ne @_];exact h2,by simp[h1],?_,neT,
   (Heap.get?_update_other _ _ (Ne.symm neT)).trans (aaN g1 rfl),rfl,?_⟩
  ·have⟨sl,q⟩:=S1.2.2 b ob e;exact⟨_,up1 b _ (λz=>by rw[z,hx]at e;cases e;exact d _ rfl) q,rfl⟩
  ·cases q:B.get? g1.objs.size with
   | none=>rfl
   | some ob=>
    have:=aar (hB _ _ q);rw[<-S1.1]at this;exact aaE this (aby _)
  ·first
    | (simp;done)
    | (rcases e6 with rfl| ⟨_,_,_,_,_,_,_,rfl⟩ <;> simp)
 ·intro b ob e d;have⟨sl,q⟩:=S1.2.2 b ob e;refine⟨sl,?_⟩;rw[Heap.get?_update_other _ _ (λz:x=b=>by rw[<-z,hx]at e;cases e;exact d _ rfl)];exact aaj _ q
def PZ(TH:A.frames=some (env::outer))(hf:env.frame=some L)(R:J0 B (env::outer) x o .none s.heap)
  (h:∀h',J0 B (env::outer) x o (rawInt L) h'->s.heap.UpToSlots h'->Q Unit.unit {s with heap:=h'}):wpAny M A (noteFrame (.ref x) env) Q E s:=by
 have⟨hB,hn,hl,vs,T,oT,ts,hx,h2,h1,nT,Sd,hT,dT,h3⟩:=R;unfold noteFrame;simp only[hf];refine aaF (wpAny_field hx rfl h1 ?_);rw[if_pos (show(Value.ref T != Value.none)=true by simp)];refine aaF (wpAny_field hT dT h3 ?_);rw[if_neg (show¬((Value.none==rawInt L)=true) by simp[rawInt])];refine aaF (wpAny_setField hT dT (ab2.mp h3).1 ?_);have zB:∀b,b≠T->(s.heap.update T (Obj.mapFields (·.setIfInBounds 3 Value.none))).get? b=s.heap.get? b:=λb nb=>Heap.get?_update_other _ _ (Ne.symm nb);have u:=sE hT dT zB;exact Hz TH hf (λb ob e=>(zB b λz=>by rw[z,nT]at e;cases e).trans (hB b ob e)) hn (uh hl u) ((zB x (Ne.symm Sd)).trans hx) (ab2.mp h1).1 h2 λh' F' u'=>h h' F' (u.trans u')
def KH{fl:Value}(R:J0 B l x o fl s.heap)(h:∀h',J0 B l x o .none h'->s.heap.UpToSlots h'->Q Unit.unit {s with heap:=h'}):wpAny M A (setFlight (.ref x) none) Q E s:=by have⟨hB,hn,hl,vs,T,oT,ts,hx,h2,h1,nT,Sd,hT,dT,h3⟩:=R;unfold setFlight;refine aaF (wpAny_field hx rfl h1 ?_);rw[if_pos (show(Value.ref T != Value.none)=true by simp)];have z3:=(ab2.mp h3).1;have zB:∀b,b≠T->(s.heap.update T (Obj.mapFields (·.setIfInBounds 3 ((none:Option Addr).elim Value.none λf=>rawInt f)))).get? b=s.heap.get? b:=λb nb=>Heap.get?_update_other _ _ (Ne.symm nb);have u:=sE hT dT zB;refine wpAny_setField hT dT z3 (h _ ⟨λb ob e=>(zB b λz=>by rw[z,nT]at e;cases e).trans (hB b ob e),hn,uh hl u,vs,T,_,_,(zB x (Ne.symm Sd)).trans hx,h2,h1,nT,Sd,Heap.get?_update_self _ hT (Obj.isFreed_of_fields (Obj.data_mapFields dT _)),Obj.data_mapFields dT _,by simp[z3]⟩ u)
def NR{fl:Value}{h:Heap}(R:J0 B (env::outer) x o fl h):J0 B outer x o fl h:=by have⟨hB,hn,⟨_,_,hl⟩,r⟩:=R;exact⟨hB,hn,hl,r⟩
end
structure S5(P:Program)(w:World)(l:List Env)(H H':Hp)(h h' B:Heap)(x:Addr)(o:Obj):Prop where
 un:Un (pO l) [] H H' h h'
 ok:km P w H' B
 Rz:J0 B l x o .none h'
 SM:∀b u,h.get? b=some u->H b=none->b∉pO l->B.get? b=some u
 PK:∀b u,h.get? b=some u->b∉pO l->∃u',B.get? b=some u'
variable{l:List Env}{H H':Hp}{h h' SX B:Heap}{o:Obj}
end
def ck(P:Program)(w:World):zC:=λouter H s E e s'=>
 ∃x o H' B,e= .ref x/\s'.os=s.os/\AllBare s'.gens/\S5 P w outer H H' s.heap s'.heap B x o/\E o.cls o.dict H'
section
variable{σ:St}{H H':Hp}{SX B:Heap}{ox:Obj}
def S5.leave(I:Inv X δ σ H s)(hex:X.ex=[])(Oy:∀b∈pO X.outer,b∈pO X.stack)(ok:km X.prog X.w H' B)(f:J0 B X.outer x ox .none SX)(nx0:X.s₀.heap.get? x=none)
  (SM:∀b o,b≠x->s.heap.get? b=some o->H b=none->b∉pO X.stack->B.get? b=some o)
  (PK:∀b o,b≠x->s.heap.get? b=some o->b∉pO X.stack->∃o',B.get? b=some o')
  (sl:∀b o,s.heap.get? b=some o->b∈pO X.stack->∃sl,SX.get? b=some {o with slots:=sl})
  (free:∀b o,s.heap.get? b=some o->H b=none->H' b=none)
  (pJ:∀b xs,H b=some (.tup xs)->H' b=some (.tup xs)) (nF:∀b o u,H b=some (.xD o u)->H' b=some (.xD o u))
  (pK:∀b ps,H b=some (.Ki ps)->∃more,H' b=some (.Ki (ps++more))):S5 X.prog X.w X.outer X.H₀ H' X.s₀.heap SX B x ox:=by
 have nX:∀b o,X.s₀.heap.get? b=some o->b≠x:=λb o e z=>by rw[z,nx0]at e;cases e
 have jh:∀b:Addr,b∉X.ex:=λb z=>by rw[hex]at z;cases z
 have nS:∀b o,X.s₀.heap.get? b=some o->b∉pO X.outer->b∉pO X.stack:=λb o e hb z=>
  (aav.mp (I.vV b z)).elim (λq=>aaP (aat (aar e) I.ok.above) q) hb
 refine⟨⟨λb o e n hb _=>?_,λb o e n hb _=>?_,λb o e n _=>?_,λb o e _=>?_,λb xs e=>pJ b xs (I.base.pJ b xs e),λb o u e=>nF b o u (I.base.nF b o u e),λb ps e=>?_⟩,ok,f,λb o e n hb=>?_,λb o e hb=>?_⟩
 ·exact f.1 b o (SM b o (nX b o e) (I.base.keep b o e n hb (jh b)) (I.base.free b o e n (jh b)) (nS b o e hb))
 ·have⟨s1,e1⟩:=I.base.slot b o e n hb (jh b);have⟨s2,e2⟩:=sl b _ e1 (Oy b hb);exact⟨s2,e2⟩
 ·have⟨o',e1⟩:=I.base.there b o e (jh b);exact free b o' e1 (I.base.free b o e n (jh b))
 ·have⟨o',e1⟩:=I.base.there b o e (jh b);by_cases hb:b∈pO X.stack
  ·have⟨s2,e2⟩:=sl b _ e1 hb;exact⟨_,e2⟩
  ·have⟨o2,q⟩:=PK b o' (nX b o e) e1 hb;exact⟨o2,f.1 _ _ q⟩
 ·have⟨m1,e1⟩:=I.base.pK b ps e;have⟨m2,e2⟩:=pK b _ e1;exact⟨m1++m2,by rw[e2,Array.append_assoc]⟩
 ·exact SM b o (nX b o e) (I.base.keep b o e n hb (jh b)) (I.base.free b o e n (jh b)) (nS b o e hb)
 ·have⟨o',e1⟩:=I.base.there b o e (jh b);exact PK b o' (nX b o e) e1 (nS b o e hb)
end
def c9(CX:zC)(X:Cx)(R:St->XK):Prop:=∀(δ:List (Addr×Obj)) (σ:St) (H:Hp) (s:Shared) (e:Value) (s':Shared),Inv X δ σ H s->CX X.stack H s (R σ) e s'->X.xe e s'
section
variable{K:fI}{cd:Value}{s₀:Shared}{H₀:Hp}{E:XK}
def Kd:∀b∈pO outer,b∈pO (env::outer):=λb hb=>by have⟨en,he,hf⟩:=acf.mp hb;exact acf.mpr ⟨en,aad _ he,hf⟩
def ξ:c9 (ck P w) (wW (ck P w) P w K mg base N qual scope f cd A outer s₀ H₀ E) (λ_=>E):=by
 intro δ σ H s e s' I hx;have⟨x,o,H',B,rfl,os,bare,F,hE⟩:=hx;show wpAny _ _ (do noteFrame (.ref x) _;setFlight (.ref x) none) _ _ s';refine aaF (PZ (B:=B) I.ok.frames rfl F.Rz λh4 f4 u4=>KH f4 λh5 f5 u5=>?_);refine⟨x,o,H',B,rfl,os.trans I.os,bare,S5.leave I rfl Kd F.ok (NR f5) ?_ (λb o _=>F.SM b o) (λb o _=>F.PK b o) (λb o q hb=>?_) (λb o q n=>F.un.free b o q n (by simp)) F.un.pJ F.un.nF F.un.pK,hE⟩
 ·show s₀.heap.get? x=none;cases q:s₀.heap.get? x with
  | none=>rfl
  | some u=>
   have⟨u',e1⟩:=I.base.there x u q nofun;by_cases hb:x∈pO (wW (ck P w) P w K mg base N qual scope f cd A outer s₀ H₀ E).stack
   ·have⟨vs,_,_,_,hxx,_⟩:=F.Rz.2.2.2;have⟨_,o',Eb,hd⟩:=F.Rz.2.2.1.mem hb;rw[hxx]at Eb;cases Eb;exact aaE rfl (hd _)
   ·have⟨u2,e2⟩:=F.PK x u' e1 hb;rw[F.Rz.2.1]at e2;cases e2
 ·have⟨sl,e1⟩:=F.un.slot b o q (I.wK b hb) hb (by simp);have⟨_,o',Eb,hd⟩:=F.Rz.2.2.1.mem hb;rw[e1]at Eb;cases Eb;have⟨SJ,e2⟩:=(u4.trans u5) b _ e1 hd;exact⟨SJ,e2⟩
end
def Mq(sp:Sp)(p8:List V)(R:St->XK)(t:TA):TE:=λσ H Q=>t σ H λvs H1=>sp (vs++p8) H1 Q (R σ)
section
variable{CX:zC}{k:Nat}{sp:Sp}{p8:List V}{ds:List Value}{R:St->XK}{x:Str}{p pos:Pos}{e:Expr}{es:List Expr}{t:TA}
def wV{σ:St}{H:Hp}{Q:VK}{us:List Value}{vs:List V}(F:av X.prog X.w X.K X.mg X.base CX k f fd ps sp)(hr:bU k X.A)(hb:i6 X.K fd ps ds)(hd:ar p8 ds)(hx:c9 CX X R)
  (I:Inv X δ σ H s) (r:ar vs us) (h:sp (vs++p8) H Q (R σ)):wpAny (model X.prog X.w) X.A (call (.ref f) us) (EP X δ σ Q) X.xe s:=by
 have r2:ar (vs++p8) (us++ds):=r.append hd;have hl:(us++ds).length=ps.length:=by rw[<-r2.length];exact F.len _ _ _ _ h
 refine wpAny_call (codeAny_mono (F.run X.A X.stack s H ⟨us,[]⟩ (us++ds) (vs++p8) Q (R σ) hr I.RN (hb s us I.pG hl) r2 h) λr s' hq=>?_);cases r with
 | error e=>exact hx δ σ H s e s' I hq
 | ok fl=>
  cases fl with
  | ret u=>exact I.after hq
  | next=>exact False.elim hq
  | brk=>exact False.elim hq
  | cont=>exact False.elim hq
def HY(F:av X.prog X.w X.K X.mg X.base CX k f fd ps sp)(hr:bU k X.A)(hg:Gl X x)(hm:X.mg x=some (.ref f))(hk:PySem.W.keepIn X.K (.ref f)=true)(hb:i6 X.K fd ps ds)(hd:ar p8 ds)(hx:c9 CX X R)
  (ha:PA X (e::es) t) (ub:(x==("__debug__":Str))=false:=by decide) (he:starEach (e::es) X.env=(false,eval e X.env)::starEach es X.env:=by rfl) (e6:(backTo pos (starEach es X.env)).any (·.1)=false:=by rfl):
  PE X (.Call (.Name x p) (e::es) [] pos) (Mq sp p8 R t):=by
 intro δ s σ H Q I h;refine wpAny_Call_Name_kw (vQ I hg hm ?_ ub);refine PySem.W.callWith_K (h₀:=X.base) I.ok.mod.O4 hk (bH (ha pos δ s σ H _ I h) fun us s1 ⟨vs,H1,I1,r,q⟩=>⟨I1.pG,?_⟩) he e6;exact wV F hr hb hd hx I1 r q
end
def l'(env:Env):List (Str×NameKind)->List (Str×Addr)->List (Str×Addr)
 | [],acc=>acc
 | p::r,acc=>l' env r (if p.2== .free then (p.1,(env.cells.lookup p.1).getD 0)::acc else acc)
def qD(h:∀p∈scope.names,p.2= .free->(env.cells.lookup p.1).isSome=true):closureFor scope env=pure (l' env scope.names []):=by
 have key:∀(l:List (Str×NameKind)) (acc:List (Str×Addr)),(∀p∈l,p.2= .free->(env.cells.lookup p.1).isSome=true)->
   (forIn l acc (λ(p:Str×NameKind) (r:List (Str×Addr))=>(if p.2== .free then (do let c<-cellOf env p.1;pure (ForInStep.yield ((p.1,c)::r))) else pure (ForInStep.yield r):Sem (ForInStep (List (Str×Addr))))))=(pure (l' env l acc):Sem (List (Str×Addr))):=by
  intro l
  induction l with
  | nil=>intro acc _;rfl
  | cons p r ih=>
   intro acc hp;rw[List.forIn_cons];have WR:=λa=>ih a λq hq=>hp q (aad _ hq);have⟨n,k⟩:=p;by_cases hk:k= .free
   ·subst hk;have hs:=hp (n,.free) aae rfl;cases hl:env.cells.lookup n with
    | none=>rw[show env.cells.lookup (n,NameKind.free).1=none from hl]at hs;cases hs
    | some c=>
     have e1:l' env ((n,.free)::r) acc=l' env r ((n,c)::acc):=by show l' env r (if (NameKind.free==NameKind.free)=true then (n,(env.cells.lookup n).getD 0)::acc else acc)=_;rw[aaw @_,hl];rfl
     have e2:cellOf env n=pure c:=by unfold cellOf;rw[hl]
     rw[e1];have e3:(NameKind.free==NameKind.free)=true:=@_
     simp only[e3,if_true,e2,pure_bind];exact WR _
   ·have hb:(k==NameKind.free)=false:=by simpa using hk
    have e1:l' env ((n,k)::r) acc=l' env r acc:=by show l' env r (if (k==NameKind.free)=true then (n,(env.cells.lookup n).getD 0)::acc else acc)=_;rw[hb,aay @_]
    rw[e1];simp only[hb,Bool.false_eq_true,if_false,pure_bind];exact WR _
 have:=key scope.names [] h;unfold closureFor
 first
  | exact this
  | (simp only[bind_pure];exact this)
  | (rw[bind_pure];exact this)
def uH{env:Env}{y:Str}{c:Addr}:∀(l:List (Str×NameKind)) (acc:List (Str×Addr)),(∀p∈l,p.2= .free->(env.cells.lookup p.1).isSome=true)->
  (acc.lookup y=some c->env.cells.lookup y=some c)->(l' env l acc).lookup y=some c->env.cells.lookup y=some c
 | [],acc,_,ha,h=>ha h
 | (n,k)::r,acc,hp,ha,h=>by
  refine uH r _ (λq hq=>hp q (aad _ hq)) (λe=>?_) h;split at e
  ·rename_i hk;rw[abF]at e;cases q:(y==n) with
   | true=>
    rw[q]at e;have e':(env.cells.lookup n).getD 0=c:=aao e;have hn:y=n:=by simpa using q
    subst hn;have hs:=hp (y,k) List.mem_cons_self (by simpa using hk);cases z:env.cells.lookup y with
    | none=>rw[show env.cells.lookup (y,k).1=none from z]at hs;cases hs
    | some d=>rw[z]at e';rw[<-e'];rfl
   | false=>rw[q]at e;exact ha e
  ·exact ha e
def rW{env:Env}{y:Str}:∀(l:List (Str×NameKind)) (acc:List (Str×Addr)),((y,NameKind.free)∈l\/(acc.lookup y).isSome=true)->((l' env l acc).lookup y).isSome=true
 | [],acc,h=>by
  rcases h with h| h
  ·cases h
  ·exact h
 | (n,k)::r,acc,h=>by
  refine rW r _ ?_;by_cases hy:y=n
  ·subst hy;by_cases hk:k= .free
   ·subst hk;right;show(List.lookup y (if (NameKind.free==NameKind.free)=true then (y,(env.cells.lookup y).getD 0)::acc else acc)).isSome=true;rw[aaw @_,abF,beq_self_eq_true];rfl
   ·rcases h with h| h
    ·rcases aav.mp h with z| z
     ·exact aaE (Prod.mk.inj z).2.symm hk
     ·exact .inl z
    ·right;rw[if_neg (by simpa using hk)];exact h
  ·rcases h with h| h
   ·rcases aav.mp h with z| z
    ·exact aaE (Prod.mk.inj z).1 hy
    ·exact .inl z
   ·right;split
    ·rw[List.lookup_cons,show(y==n)=false by simpa using hy];exact h
    ·exact h
def Cx.comp(X:Cx)(Nc:List Str)(scope:Scope)(C:Addr)(s:Shared)(H:Hp)(fp:List Addr):Cx:={X with
 N:=Nc
 s₀:=s
 H₀:=H
 env:=compEnvC scope (l' X.env scope.names []) C X.env
 outer:=X.stack
 ex:=fp
 fn:=λ_=>false
 pn:=[]
 xe:=λ_ _=>False}
def Γ.of{P:List Str}{sc:Scope}(h:(sc.kind,sc.isCoroutine,sc.isGenerator)=(.function,false,false))(h2:N.Nodup/\N.take P.length=P/\(∀x∈P,sc.names.lookup x=some .local\/sc.names.lookup x=some .cell)/\(∀y∈sc.names,y.2≠ .free):=by decide+kernel):Γ N P sc:=by have⟨a,b,c,d⟩:=h2;exact⟨aaU (·.1) h,aaU (·.2.1) h,aaU (·.2.2) h,a,b,c,d⟩
structure ag(X:Cx)(scope:Scope)(xs ys:List Str)(Μ:List Nat):Prop where
 kind:scope.kind= .function
 GS:∀p∈scope.names,p.2≠ .cell
 names:∀p∈scope.names,p.2= .local->scope.names.lookup p.1=some .local
 own:∀x∈xs,scope.names.lookup x=some .local
 free:∀p∈scope.names,p.2= .free->X.env.scope.names.lookup p.1=some .cell
 nd:(xs++ys).Nodup
 cap:∀q∈ys.zip Μ,X.N[q.2]? =some q.1/\X.env.scope.names.lookup q.1=some .cell/\scope.names.lookup q.1=some .free
 len:ys.length=Μ.length
def ag.of{sc:Scope}(_:Γ N ps sc)(hN:X.N=N)(hs:X.env.scope=sc)(k:scope.kind= .function)(h:(∀p∈scope.names,p.2≠ .cell)/\(∀p∈scope.names,p.2= .local->scope.names.lookup p.1=some .local)/\(∀x∈xs,scope.names.lookup x=some .local)/\(∀p∈scope.names,p.2= .free->sc.names.lookup p.1=some .cell)/\(xs++ys).Nodup/\(∀q∈ys.zip Μ,N[q.2]? =some q.1/\sc.names.lookup q.1=some .cell/\scope.names.lookup q.1=some .free)/\ys.length=Μ.length:=by decide+kernel):ag X scope xs ys Μ:=by subst hN hs;have⟨a,b,c,d,e,f,g⟩:=h;exact⟨k,a,b,c,d,e,f,g⟩
def HS{env:Env}{y:Str}:∀{l:List (Str×NameKind)},(∀p∈l,p.2≠ .cell)->
  ((l.map λ(n,k)=>if (k==NameKind.free&&env.scope.kind== .function&&env.kindOf n==some .cell) then (n,NameKind.cell) else (n,k)).lookup y=some .cell\/
   (l.map λ(n,k)=>if (k==NameKind.free&&env.scope.kind== .function&&env.kindOf n==some .cell) then (n,NameKind.cell) else (n,k)).lookup y=some .free)->(y,NameKind.free)∈l
 | [],_,h=>by rcases h with h| h <;> cases h
 | (n,k)::r,hc,h=>by
  have ih:=@HS env y r (λp hp=>hc p (aad _ hp));rw[aaW]at h;by_cases q:(k==NameKind.free&&env.scope.kind== .function&&env.kindOf n==some .cell)=true
  ·have hk:k= .free:=by rw[aaC,aaC]at q;simpa using q.1.1
   subst hk;by_cases hy:y=n
   ·subst hy;exact aae
   ·refine aad _ (ih ?_);have hb:(y==n)=false:=by simpa using hy
    simp only[q,if_true,List.lookup_cons,hb]at h;exact h
  ·by_cases hy:y=n
   ·subst hy;have hb:(y==y)=true:=by simp
    simp only[q,Bool.false_eq_true,if_false,List.lookup_cons,hb]at h;rcases h with h| h
    ·exact aaE (aao h) (hc (y,k) aae)
    ·rw[<-aao h];exact aae
   ·refine aad _ (ih ?_);have hb:(y==n)=false:=by simpa using hy
    simp only[q,Bool.false_eq_true,if_false,List.lookup_cons,hb]at h;exact h
def xP{env:Env}{y:Str}(hk:env.scope.kind= .function)(hy:env.kindOf y=some .cell):∀{l:List (Str×NameKind)},l.lookup y=some .free->
  (l.map λ(n,k)=>if (k==NameKind.free&&env.scope.kind== .function&&env.kindOf n==some .cell) then (n,NameKind.cell) else (n,k)).lookup y=some .cell
 | [],h=>by cases h
 | (n,k)::r,h=>by
  have ih:=@xP env y hk hy r;rw[aaW];rw[abF]at h;by_cases e:y=n
  ·subst e;have hb:(y==y)=true:=by simp
   rw[hb]at h;have:k= .free:=aao h;subst this;have q:(NameKind.free==NameKind.free&&env.scope.kind== .function&&env.kindOf y==some .cell)=true:=by rw[hk,hy];rfl
   simp only[q,if_true,List.lookup_cons,hb]
  ·have hb:(y==n)=false:=by simpa using e
   rw[hb]at h;by_cases q:(k==NameKind.free&&env.scope.kind== .function&&env.kindOf n==some .cell)=true
   ·simp only[q,if_true,List.lookup_cons,hb];exact ih h
   ·simp only[q,Bool.false_eq_true,if_false,List.lookup_cons,hb];exact ih h
def ag.has(S:ag X scope xs ys Μ)(ok:X.Ok):∀p∈scope.names,p.2= .free->(X.env.cells.lookup p.1).isSome=true:=λp hp hf=>by have⟨c,e⟩:=ok.has p.1 (.inl (S.free p hp hf));rw[e];rfl
def Gi{α β:Type}:∀{xs:List α} {ys:List β} {j:Nat} {x:α} {y:β},xs[j]? =some x->ys[j]? =some y->(x,y)∈xs.zip ys
 | x::xs,y::ys,0,_,_,h1,h2=>by cases h1;cases h2;exact aae
 | x::xs,y::ys,j+1,_,_,h1,h2=>aad _ (Gi (xs:=xs) (ys:=ys) (j:=j) h1 h2)
 | [],_,_,_,_,h1,_=>by simp at h1
 | _::_,[],_,_,_,_,h2=>by simp at h2
def oJ(Μ:List Nat)(σ:St):St:=Μ.map λi=>(σ[i]?).join
def uV(n:Nat)(gg:TG):Prop:=∀v (os cs:St) H (Q:St->Hp->Prop),os.length=n->gg v (os++cs) H Q->gg v (os++cs) H λσ' H'=>(∃S3:St,S3.length=n/\σ'=S3++cs)/\Q σ' H'
def zT(J:It)(n:Nat)(gg:TG)(tc:TT)(te:TE)(cs:St)(Q:VK)(H1:Hp)(D:Addr):Prop:=
 ∃W:Nat->Nat->List V->Hp->Prop,(∃m,W 0 m [] (upd H1 D (.lst [])))/\∀i m ys H2,W i m ys H2->H2 D=some (.lst ys)/\
  ((J.stop i H2/\Q (.ref D) H2)\/(J.go i H2/\∀x H3,J.Qo i H2 x H3->∀os:St,os.length=n->gg x (os++cs) H3 λσ' Z9=>tc σ' Z9 λb H4=>match b with
   | true=>te σ' H4 λy H5=>H5 D=some (.lst ys)/\ys.length < sizeLine/\∃m',m' < m/\W (i+1) m' (ys++[y]) (upd H5 D (.lst (ys++[y])))
   | false=>∃m',m' < m/\W (i+1) m' ys H4))
def HC(wi:TI)(n:Nat)(gg:TG)(tc:TT)(te:TE)(Μ:List Nat):TE:=λσ H Q=>wi σ H λJ H1=>∀D,H1 D=none->zT J n gg tc te (oJ Μ σ) Q H1 D
def V7(cs:List Expr)(env:Env):Sem Bool:=match cs with
 | []=>pure true
 | c::_=>isTrue c env (eval c env)
def Tb(X:Cx)(cs:List Expr)(t:TT):Prop:=
 (cs=[]\/∃c,cs=[c])/\∀(δ:List (Addr×Obj)) (s:Shared) (σ:St) (H:Hp) (Q:Bool->Hp->Prop),Inv X δ σ H s->t σ H Q->wpAny (model X.prog X.w) X.A (V7 cs X.env) (TP X δ σ Q) X.xe s
def tR{elt target iter:Expr}{cs:List Expr}{scope:Scope}{pos:Pos}{it acc:Value}{env:Env}(h:cs=[]\/∃c,cs=[c]):
  compTurn (.ListComp elt [⟨target,iter,cs,0⟩] scope pos) 0 it acc env=(standAt iter.pos >>= λ_=>pyNext it >>= λr=>match r with
   | none=>pure (.done .next)
   | some v=>letOwnedTupleGo target it v >>= λ_=>assign target env v >>= λ_=>V7 cs env >>= λok=>
    (if ok=true then (eval elt env >>= λx=>call (.builtin "list.append") [acc,x] >>= λ_=>pure Unit.unit) >>= λ_=>again (.compLoop (.ListComp elt [⟨target,iter,cs,0⟩] scope pos) 0 it acc env)
     else again (.compLoop (.ListComp elt [⟨target,iter,cs,0⟩] scope pos) 0 it acc env))):=by
 rcases h with rfl| ⟨c,rfl⟩ <;> (unfold compTurn V7;dsimp only[List.getElem?_cons_zero,List.getElem?_cons_succ,List.getElem?_nil];simp only[List.forIn_cons,List.forIn_nil,bind_assoc,pure_bind,if_true];rfl)
section
variable{elt iter tg:Expr}{cs:List Expr}{pos:Pos}{wi:TI}{gg:TG}{tc:TT}{te:TE}
def tT(S:ag X scope xs ys Μ)(hc:X.calm=true)(hg:∀C s H fp,PG (Cx.comp X (xs++ys) scope C s H fp) tg gg)(hk:uV xs.length gg)(ht:∀C s H fp,Tb (Cx.comp X (xs++ys) scope C s H fp) cs tc)(he:∀C s H fp,PE (Cx.comp X (xs++ys) scope C s H fp) elt te)
   {σ:St} {H2:Hp} {s2:Shared} {it:Addr} {fp:List Addr} {tn:Nat->Heap->Prop} {J:It} {Q:V->Hp->Prop} {PQ:Value->Addr->Result->Shared->Prop} (I:Inv X δ σ H2 s2) (T:Turn X.prog X.w X.K tg J fp it tn) (t0:tn 0 s2.heap) (f2:∀b∈fp,rj X δ H2 b)
  (h:∀D,H2 D=none->zT J xs.length gg tc te (oJ Μ σ) Q H2 D)
  (Zn:∀D C s' H',Inv X δ σ H' s'->Q (.ref D) H'->(∃m,s'.heap.Ns C m)->H' C=none->X.s₀.heap.objs.size<=C->C≠X.env.locals->(∀z c,X.env.cells.lookup z=some c->c≠C)->(∀p∈X.pn++δ,p.1≠C)->PQ (.ref D) C (.ok .next) s'):
  wpAny (model X.prog X.w) X.A (newList []) (λacc s3=>wpAny (model X.prog X.w) X.A (newFunctionEnv scope X.env.globals (l' X.env scope.names []) [] X.env.qual none .none (some X.env)) (λP7 s4=>
   codeAny (model X.prog X.w) X.A (.compStart (.ListComp elt [⟨tg,iter,cs,0⟩] scope pos) 0 (.ref it) acc {P7 with scope:=relabel scope X.env}) (PQ acc P7.locals) s4) X.xe s3) X.xe s2:=by
 have hD:H2 s2.heap.objs.size=none:=I.fresh;have⟨W,⟨m0,w0⟩,step⟩:=h _ hD;refine wpAny_newObj_type ?_;have I3:Inv X δ σ (upd H2 s2.heap.objs.size (.lst [])) {s2 with heap:=s2.heap.push {cls:=.type "list",data:=.seq ([]:List Value).toArray}}:=Inv.MQ (t':=s2.toks) I (ys:=[]) (its:=[]) .nil (ab8 _);generalize ZE:upd H2 s2.heap.objs.size (.lst [])=H3 at I3 w0;generalize hs3:({s2 with heap:=s2.heap.push {cls:=.type "list",data:=.seq ([]:List Value).toArray}}:Shared)=s3 at I3;have Wv:∀b∈fp,H3 b=none:=λb hb=>by have⟨o,e,_⟩:=T.obj _ _ t0 b hb;rw[<-ZE,Θ (aaP (aar e))];exact(f2 b hb).1
 have t3:tn 0 s3.heap:=T.keep _ _ _ t0 λb hb o e=>by rw[<-hs3];exact aaj _ e
 refine wpAny_newFunctionEnv S.GS (λy hy=>nomatch hy) (λh4 ZU ZJ=>?_) S.kind;have hC:H3 s3.heap.objs.size=none:=I3.fresh
 have kp:∀b o,s3.heap.get? b=some o->h4.get? b=some o:=λb o e=>
  (ZJ.2 b (aaP (aar e))).trans (aaj _ e)
 generalize UX:({s3 with heap:=h4,toks:=s3.toks+([]:List (Str×Value)).length}:Shared)=s4;have e4:s4.heap=h4:=by rw[<-UX]
 have Jh:∀z c,X.env.cells.lookup z=some c->c≠s3.heap.objs.size:=λz c e q=>by have⟨v,w⟩:=I3.cell z c e;exact aby _ (q▸w.lt)
 have uf:∀z c,(l' X.env scope.names []).lookup z=some c->X.env.cells.lookup z=some c:=λz c e=>uH scope.names [] (S.has I.ok) nofun e;have YF:s3.heap.objs.size≠X.env.locals:=ach I3.lt;have ok:(Cx.comp X (xs++ys) scope s3.heap.objs.size s3 H3 fp).Ok:=by
  refine⟨I3.ok.mod,S.kind,I3.ok.glob,I3.ok.blt,aai _,λz z' c e1 e2=>I3.ok.inj z z' c (uf z c e1) (uf z' c e2),λz hz=>?_,λz c hz=>(by cases hz),I3.ok.hd,I3.ok.frames,.inl rfl,λb hb=>⟨?_,λz c e=>?_⟩,I3.bs,?_,λb o e hb=>?_,λb hb hf=>?_,I3.stack,I3.wK⟩
  ·have:=rW (env:=X.env) scope.names [] (.inl (HS S.GS hz));exact aa6.mp this
  ·have⟨o,e,_⟩:=T.obj _ _ t3 b hb;exact aaP (aar e)
  ·exact(f2 b hb).2.2.2.2.1 z c (uf z c e)
  ·exact aaA I3.ok.OO I3.sz
  ·have⟨_,_,_,hy,_⟩:=f2 b hb;have e0:=(I3.ok.bs b o e).1;rcases hy with hy| hy
   ·exact I3.ok.Nk b o e hy
   ·exact aaE (aat (aar e0) hy) (aby _)
  ·have⟨_,hl,hfs,_⟩:=f2 b hb;exact(aav.mp (I3.vV b hf)).elim hl hfs
 have hlen:((List.replicate xs.length (none:Option V))++oJ Μ σ).length=(xs++ys).length:=by rw[aah,aah,aaX,S.len];unfold oJ;rw[aag]
 have I4:Inv X δ σ H3 s4:=by rw[<-UX];exact I3.kept kp
 have Ic:Inv (Cx.comp X (xs++ys) scope s3.heap.objs.size s3 H3 fp) [] ((List.replicate xs.length (none:Option V))++oJ Μ σ) H3 s4:=by
  refine⟨ok,by rw[<-UX];rfl,I4.bare,Un.kept (by rw[e4];exact kp),⟨_,by rw[e4];exact ZU,λi z v e1 e2 e3=>?_⟩,λz c e=>I4.cell z c (uf z c e),hC,λz c e=>I4.ph z c (uf z c e),(λp hp=>nomatch hp),I4.aO,hlen⟩;have e1:(xs++ys)[i]? =some z:=e1;by_cases hi:i < xs.length
  ·rw[aap (by rw[aaX];exact hi),abO,aaw hi]at e2;cases e2
  ·obtain⟨j,rfl⟩:∃j,i=xs.length+j:=⟨i - xs.length,()⟩;have e1:ys[j]? =some z:=by rw[aax (),abz]at e1;exact e1
   have e2:(oJ Μ σ)[j]? =some (some v):=by rw[aax (by rw[aaX];omega),aaX,abz]at e2;exact e2
   unfold oJ at e2;rw[aak]at e2;cases hi:Μ[j]? with
   | none=>rw[hi]at e2;cases e2
   | some i=>
    rw[hi]at e2;have e2:(σ[i]?).join=some v:=aao e2;have e2:σ[i]? =some (some v):=by
     cases q:σ[i]? with
     | none=>rw[q]at e2;cases e2
     | some o=>rw[q]at e2;exact aaU some e2
    have⟨c1,c2,c3⟩:=S.cap (z,i) (Gi e1 hi);have c4:=xP (env:=X.env) I.ok.kind c2 c3;have c3:(z,NameKind.free)∈scope.names:=PySem.mem_of_lookup c3;have⟨m,hn,hl⟩:=I4.loc;have⟨u,r,lk⟩:=hl i z v c1 e2 (.inr (.inl c2));refine⟨u,r,.inr ⟨.inl c4,?_⟩⟩;rcases lk with ⟨k,_⟩| ⟨_,c,Al,z'⟩
    ·exact aaE ((show X.env.scope.names.lookup z=some .local from k).symm.trans c2) @_
    ·have⟨d,hd⟩:=aa6.mp (rW (env:=X.env) scope.names [] (.inl c3));have:=uf z d hd;rw[Al]at this;cases this;exact⟨c,hd,z'⟩
 have loop:codeAny (model X.prog X.w) X.A (.compLoop (.ListComp elt [⟨tg,iter,cs,0⟩] scope pos) 0 (.ref it) (.ref s2.heap.objs.size) (compEnvC scope (l' X.env scope.names []) s3.heap.objs.size X.env)) (PQ (.ref s2.heap.objs.size) s3.heap.objs.size) s4:=by
  have TL:∀{H':Hp},(∀b∈fp,H' b=none)->∀b∈fp,rj (Cx.comp X (xs++ys) scope s3.heap.objs.size s3 H3 fp) [] H' b:=λhn b hb=>
   ⟨hn b hb,(ok.Xw b hb).1,ok.Mr b hb,.inl hb,(ok.Xw b hb).2,(λp hp=>nomatch hp)⟩
  refine codeAny_loop rfl (λn s'=>∃(i:Nat) (zs:List V) (os:St) (H':Hp),os.length=xs.length/\Inv (Cx.comp X (xs++ys) scope s3.heap.objs.size s3 H3 fp) [] (os++oJ Μ σ) H' s'/\tn i s'.heap/\(∀b∈fp,H' b=none)/\W i n zs H') (λn s5 z=>?_) m0 ⟨0,[],List.replicate xs.length none,H3,by rw[aaX],Ic,T.keep _ _ _ t3 (λb hb o e=>by rw[e4];exact kp b o e),Wv,w0⟩;have⟨i,zs,os,H5,l5,I5,t5,S8,w5⟩:=z;show wpAny _ _ ((compTurn _ 0 (.ref it) _ _).onRaise _) _ _ s5;refine wpAny_noted ?_;rw[tR (ht s3.heap.objs.size s3 H3 fp).1];refine aaF (wpAny_standAt (aaF ?_));obtain⟨Dv,stop| go⟩:=step i n zs H5 w5
  ·have⟨stop,q⟩:=stop;refine bH (T.done (Cx.comp X (xs++ys) scope s3.heap.objs.size s3 H3 fp) rfl rfl rfl hc i [] s5 _ H5 _ I5 (TL S8) t5 stop) λr s6 xz=>?_;have⟨hr,I6⟩:=xz;subst hr;refine aa5 (Zn _ _ s6 H5 ?_ q ?_ I6.free ?_ YF Jh λp hp z=>?_)
   ·refine I3.Q_ I6.os I6.base I6.aO I6.bare λb hb=>?_;have⟨_,g1,_,g3,g4,g5⟩:=f2 b hb;exact⟨g3,g1,g4,g5⟩
   ·have⟨m,hn,_⟩:=I6.loc;exact⟨m,hn⟩
   ·exact I3.sz
   ·exact aaP (aar (I3.pin p hp).1) z
  ·have⟨go,turn⟩:=go;refine bH (T.item (Cx.comp X (xs++ys) scope s3.heap.objs.size s3 H3 fp) rfl rfl rfl hc i [] s5 _ H5 _ I5 (TL S8) t5 go) λr s6 xz=>?_;have⟨u,hr,h6⟩:=xz;subst hr;refine aaF (bH h6 λ_ s7 xz=>?_);have⟨y,H7,I7,r7,y7,t7,fr7⟩:=xz;have ZN:=I7.pinned (TL fr7) (T.obj _ _ t7);refine aaF (abZ (hg _ _ _ _ _ s7 _ H7 y u _ ZN r7 (hk y os _ H7 _ l5 (turn y _ y7 os l5))) (λ_ s8 z8=>?_) λ_ _ f=>f.elim);have⟨σ8,H8,I8,⟨X1,l8,e8⟩,q8⟩:=z8;subst e8;refine aaF (abZ ((ht _ _ _ _).2 _ s8 _ _ _ I8 q8) (λb s9 z9=>?_) λ_ _ f=>f.elim);have⟨H9,I9,q9⟩:=z9;cases b with
   | false=>
    have⟨m9,Z0,w9⟩:=q9;refine aa5 ⟨rfl,m9,Z0,i+1,zs,X1,_,l8,I9.jV,T.keep _ _ _ t7 λb hb o e=>(I9.pin (b,o) (aaD _ (aaD _ (eJ hb e)))).1,λb hb=>?_,w9⟩;have⟨o,e,_⟩:=T.obj _ _ t7 b hb;exact(I9.pin (b,o) (aaD _ (aaD _ (eJ hb e)))).2.1
   | true=>
    refine aaF (aaF (abZ (he _ _ _ _ _ s9 _ _ _ I9 q9) (λu10 s10 ZF=>?_) λ_ _ f=>f.elim));have⟨v10,Xx,YR,r10,V2,Yz,m10,UI,w10⟩:=ZF;refine aaF (abZ (uo (X:=Cx.comp X (xs++ys) scope s3.heap.objs.size s3 H3 fp) _ s10 _ Xx (.ref s2.heap.objs.size) [v10] _ [u10] (λ_ H'=>H'=upd Xx s2.heap.objs.size (.lst (zs++[v10]))) YR rfl (.cons r10 .nil) ⟨_,zs,v10,rfl,rfl,V2,Yz,rfl⟩) (λ_ S9 YD=>?_) λ_ _ f=>f.elim);have⟨_,H11,U6,_,ZK⟩:=YD;subst ZK;refine aa5 (aa5 ⟨rfl,m10,UI,i+1,zs++[v10],X1,_,l8,U6.jV,T.keep _ _ _ t7 λb hb o e=>(U6.pin (b,o) (aaD _ (aaD _ (eJ hb e)))).1,λb hb=>?_,w10⟩);have⟨o,e,_⟩:=T.obj _ _ t7 b hb;exact(U6.pin (b,o) (aaD _ (aaD _ (eJ hb e)))).2.1
 exact codeAny_compStart_list loop (T.self X.A 0 _ _ _ (T.keep _ _ _ t3 (λb hb o e=>by rw[e4];exact kp b o e)) loop)
def FO(S:ag X scope xs ys Μ)(hc:X.calm=true)(hi:PI X tg iter wi)(hg:∀C s H fp,PG (Cx.comp X (xs++ys) scope C s H fp) tg gg)(hk:uV xs.length gg)(ht:∀C s H fp,Tb (Cx.comp X (xs++ys) scope C s H fp) cs tc)(he:∀C s H fp,PE (Cx.comp X (xs++ys) scope C s H fp) elt te)(hs:∀x,foldedSetIterable iter X.env x=pure x:=by intro _;rfl):
  PE X (.ListComp elt [⟨tg,iter,cs,0⟩] scope pos) (HC wi xs.length gg tc te Μ):=by
 intro δ s σ H Q I h;rw[eval_ListComp];refine wpAny_comprehension_free (use:=none) rfl hs (qD (S.has I.ok)) S.kind S.names (bH (hi δ s σ H _ I h) λv s1 h1=>bH h1 λTd s2 h2=>?_);have⟨it,fp,tn,J,H2,rfl,I2,T,t0,f2,q⟩:=h2;refine tT S hc hg hk ht he (Q:=Q) I2 T t0 f2 q λD C s' H' I' q' n' hC hz hL N3 hp=>?_;have⟨m,n'⟩:=n';exact⟨m,n',λh' sb=>⟨.ref D,H',I'.turned (it:=C) (t':=s'.toks) (λb o hb e=>(sb.2 b hb).trans e) hC hL (.inr hz) N3 hp,rfl,q'⟩⟩
def yg{i:Nat}{y:Str}{py h7:Pos}(hN:X.N.Nodup)(Dw:X.N[i]? =some y)(hy:Loc X.env.scope y)(S:ag X scope xs ys Μ)(hc:X.calm=true)(hi:PI X tg iter wi)(hg:∀C s H fp,PG (Cx.comp X (xs++ys) scope C s H fp) tg gg)(hk:uV xs.length gg)(ht:∀C s H fp,Tb (Cx.comp X (xs++ys) scope C s H fp) cs tc)(he:∀C s H fp,PE (Cx.comp X (xs++ys) scope C s H fp) elt te)
  (Dy:swapsWith (.ListComp elt [⟨tg,iter,cs,0⟩] scope pos) (some (.Name y py)) h7.line X.env=pure true) (hs:∀x,foldedSetIterable iter X.env x=pure x)
  (hf:X.fn y=true\/X.env.scope.names.lookup y=some .local):
  PS X (.Assign [.Name y py] (.ListComp elt [⟨tg,iter,cs,0⟩] scope pos) h7) (λD σ H=>HC wi xs.length gg tc te Μ σ H λv H1=>D.nx (σ.set i (some v)) H1):=by
 intro δ s σ H D I h;rw[exec_Assign_Name_used _ _ _ _ Dy];refine aaF (wpAny_standAt (aaF ?_));show wpAny _ _ (do let _<-comprehension (.ListComp elt [⟨tg,iter,cs,0⟩] scope pos) scope X.env _ (newList []) false (eval iter X.env) (some (assign (.Name y py) X.env))) _ _ s;refine aaF (abZ (wpAny_comprehension_free (use:=some (assign (.Name y py) X.env)) (Q:=λ_ s'=>SP X δ D .next s') rfl hs (qD (S.has I.ok)) S.kind S.names (bH (hi δ s σ H _ I h) λv s1 h1=>bH h1 λTd s2 h2=>?_)) (λ_ s' hq=>aa5 (aa5 hq)) λ_ _ e=>e);have⟨it,fp,tn,J,H2,rfl,I2,T,t0,f2,q⟩:=h2;refine tT S hc hg hk ht he (Q:=λv H1=>D.nx (σ.set i (some v)) H1) I2 T t0 f2 q λDl C s' H' I' q' n' hC hz hL N3 hp=>?_;have⟨m,n'⟩:=n';show wpAny _ _ (assign (.Name y py) X.env (.ref Dl)) _ _ s';refine wpAny_assign_Name (um I' hN Dw hy (v:=.ref Dl) rfl (λs3 I3 Ws=>?_) hf);have⟨a,Ws,ha⟩:=Ws;have Z4:C≠a:=by
  rcases ha with rfl| ha
  ·exact hL
  ·exact(N3 _ _ ha).symm
 exact⟨m,n'.sameBut Ws Z4,λh' sb=>⟨_,H',I3.turned (it:=C) (t':=s3.toks) (λb o hb e=>(sb.2 b hb).trans e) hC hL (.inr hz) N3 hp,q'⟩⟩
end
section
variable{K:fI}
def cQ.Zw{x:Str}{st:Stmt}{k:Nat}{sp:Sp}(F:cQ K x qual st f fd)(S:Γ N ps (τ st))(len:∀vs H Q E,sp vs H Q E->vs.length=ps.length)
  (xT:∀(bw:Value) (A:Around) (outer:List Env) (s:Shared) (H:Hp) (vs:List V) (Q:VK) (E:XK),bU k (A.deeper (envOfC qual (τ st) s.heap.objs.size f bw))->sp vs H Q E->
   ∃t,EO (wW (ck P w) P w K mg base N qual (τ st) f bw A outer s H E) (gB st) t/\t {nx:=λ_ H'=>Q .aJ H',rt:=Q} (start N vs) H):av P w K mg base (ck P w) (k+1) f fd ps sp:=by
 have⟨oc,od,kV,doc,pm,an,bw,ct,G_,rfl,lk,Gz⟩:=F.ex;exact Qs lk Gz S len λA outer s H vs Q E hr Ln=>xT bw A outer s H vs Q E hr Ln
end
def cJ:c9 (ck P w) X (λ_=>E0):=by intro δ σ H s e s' _ hx;have⟨_,_,_,_,_,_,_,_,hE⟩:=hx;exact hE.elim
def log2_lt{n:Nat}{k:Nat}(h:n < 2 ^ k)(hk:0 < k):n.log2 < k:=by
 by_cases h0:n=0
 ·rw[h0,show Nat.log2 0=0 from rfl];exact hk
 ·exact(Nat.log2_lt h0).mpr h
def i4(i:Int):Prop:=i.natAbs < 2 ^ 8000
def CW{i j:Int}(hi:i4 i)(hj:i4 j):IntMulOk i j:=by
 have b:∀{i:Int},i4 i->Builtin.Int.intBits i<=8000:=λ{i} h=>by
  unfold Builtin.Int.intBits;split
  ·exact ab8 _
  ·have:=log2_lt (k:=8000) h @_;omega
 have b1:=b hi;have b2:=b hj;have h3:Builtin.Int.intTooBig (Builtin.Int.intBits i+Builtin.Int.intBits j)=false:=by
  unfold Builtin.Int.intTooBig;refine aam ?_;have:(bitsLine:Int)=134217728:=@_
  omega
 unfold IntMulOk;rw[h3,Bool.and_false];exact aaz
section
def Kn:jN X (binaryOp .Mult) (rI (λi j=>i4 i/\i4 j) λi j=>.int (i * j)):=Tc λ_ _ _ _ _ _ _ hc q=>mul_int q (CW hc.1 hc.2)
def xK:jN X (binaryOp .FloorDiv) (rI (λ_ j=>j≠0/\i4 j) λi j=>.int (i.fdiv j)):=Tc λ_ _ _ _ _ _ _ hc q=>
 floordiv_int hc.1 q (.inl (PyProof.noPylong_of_log2 (aat (log2_lt (k:=8000) hc.2 @_) @_)))
end
def Js:V->Option Value
 | .ty T=>some (.type T)
 | .ref C=>some (.ref C)
 | _=>none
def Jw{c:V}{u t:Value}(r:ax c u)(h:Js c=some t):u=t:=by
 cases c with
 | ty T=>cases r;exact aao h
 | ref C=>cases r;exact aao h
 | _=>cases h
section
def yr:dE X (.builtin "isinstance") (λxs H Q=>∃x c t t' b,xs=[x,c]/\ku X.K H x t/\Js c=some t'/\PySem.W.kitOne X.K t t'=some b/\Q (.bl b) H):=by intro δ s σ H xs us Q I r h;have⟨x,c,t,t',b,rfl,ty,hc,hk,q⟩:=h;have⟨u,u',rfl,r1,r2⟩:=IL r;cases Jw r2 hc;exact Ef I r1 ty hk λtk=>⟨.bl b,H,I.tok tk,rfl,q⟩
end
def lK:List V->List V->Bool
 | [],[]=>true
 | x::xs,y::ys=>uW x y&&lK xs ys
 | _,_=>false
def lE:∀(xs ys:List V) (e:Nat->Bool),(∀j x y,xs[j]? =some x->ys[j]? =some y->e j=uW x y)->((List.range (min xs.length ys.length)).all e&&xs.length==ys.length)=lK xs ys
 | [],[],e,_=>rfl
 | [],_::_,e,_=>by simp[lK]
 | _::_,[],e,_=>by simp[lK]
 | x::xs,y::ys,e,h=>by
  have ih:=lE xs ys (λj=>e (j+1)) λj x y h1 h2=>h (j+1) x y h1 h2;have h0:e 0=uW x y:=h 0 x y rfl rfl;show _=(uW x y&&lK xs ys);rw[<-ih,<-h0];have e1:min (x::xs).length (y::ys).length=min xs.length ys.length+1:=by simp only[List.length_cons];omega
  rw[e1,abt,abG,List.all_map];have e2:((x::xs).length==(y::ys).length)=(xs.length==ys.length):=by simp only[List.length_cons];rw[Bool.eq_iff_iff];simp
  rw[e2,Bool.and_assoc];rfl
def Rr(K:fI):R2:=λx y H Q=>∃a b xs ys,x= .ref a/\y= .ref b/\mq K H a xs/\mq K H b ys/\xs.all dZ=true/\ys.all dZ=true/\Q (.bl (lK xs ys)) H
def Pz(K:fI):R2:=λx y H Q=>∃a b xs ys,x= .ref a/\y= .ref b/\mq K H a xs/\mq K H b ys/\xs.all dZ=true/\ys.all dZ=true/\Q (.bl (!lK xs ys)) H
def mR:∀{xs:List V} {j:Nat} {x:V},xs.all dZ=true->xs[j]? =some x->dZ x=true
 | _::_,0,_,h,e=>by rw[abG,aaC]at h;cases e;exact h.1
 | _::_,j+1,_,h,e=>by rw[abG,aaC]at h;exact mR h.2 e
section
def ME(hu:X.A.units < cLine):jN X (compareOp .NotEq) (Pz X.K):=by
 intro δ s σ H x y v u Q I rx ry h;have⟨a,b,xs,ys,rfl,rfl,h1,h2,f1,f2,q⟩:=h;cases rx;cases ry;have⟨i1,v1,t1,_⟩:=I.tuple h1;have⟨i2,v2,t2,_⟩:=I.tuple h2;have l1:=v1.length;have l2:=v2.length;refine SeqAt.RcNeAt.tuples (e:=λj=>match xs[j]?,ys[j]? with| some x,some y=>uW x y| _,_=>true) (show s.heap.IsTuple a i1.toArray from t1) (show s.heap.IsTuple b i2.toArray from t2) hu (λj h1 h2=>?_) _ _ _ _ ?_
 ·have b1:j < i1.length:=by simpa using h1
  have b2:j < i2.length:=by simpa using h2
  have e1:xs[j]? =some (xs[j]'()):=aaa _;have e2:ys[j]? =some (ys[j]'()):=aaa _;have⟨u1,g1,r1⟩:=v1.get e1;have⟨u2,g2,r2⟩:=v2.get e2;rw[aaa b1]at g1;rw[aaa b2]at g2;have w1:i1.toArray[j]=u1:=by simpa using Option.some.inj g1
  have w2:i2.toArray[j]=u2:=by simpa using Option.some.inj g2
  rw[w1,w2];simp only[e1,e2];exact vx r1 r2 (mR f1 e1) (mR f2 e2)
 ·rw[List.size_toArray,List.size_toArray,<-l1,<-l2,lE xs ys _ (λj x y h1 h2=>by simp only[h1,h2])];exact⟨.bl (!lK xs ys),H,I,rfl,q⟩
def Hg(hu:X.A.units < cLine):jN X (compareOp .Eq) (Rr X.K):=by
 intro δ s σ H x y v u Q I rx ry h;have⟨a,b,xs,ys,rfl,rfl,h1,h2,f1,f2,q⟩:=h;cases rx;cases ry;have⟨i1,v1,t1,_⟩:=I.tuple h1;have⟨i2,v2,t2,_⟩:=I.tuple h2;have l1:=v1.length;have l2:=v2.length;refine SeqAt.eq_tupleAt (e:=λj=>match xs[j]?,ys[j]? with| some x,some y=>uW x y| _,_=>true) (show s.heap.IsTuple a i1.toArray from t1) (show s.heap.IsTuple b i2.toArray from t2) hu (λj h1 h2=>?_) ?_
 ·have b1:j < i1.length:=by simpa using h1
  have b2:j < i2.length:=by simpa using h2
  have e1:xs[j]? =some (xs[j]'()):=aaa _;have e2:ys[j]? =some (ys[j]'()):=aaa _;have⟨u1,g1,r1⟩:=v1.get e1;have⟨u2,g2,r2⟩:=v2.get e2;rw[aaa b1]at g1;rw[aaa b2]at g2;have w1:i1.toArray[j]=u1:=by simpa using Option.some.inj g1
  have w2:i2.toArray[j]=u2:=by simpa using Option.some.inj g2
  rw[w1,w2];simp only[e1,e2];exact vx r1 r2 (mR f1 e1) (mR f2 e2)
 ·rw[List.size_toArray,List.size_toArray,<-l1,<-l2,lE xs ys _ (λj x y h1 h2=>by simp only[h1,h2])];exact⟨.bl (lK xs ys),H,I,rfl,q⟩
end
def EE(bs:List Bool):(List.range bs.length).any (λi=>bs.getD i false)=bs.any id:=by
 induction bs with
 | nil=>rfl
 | cons b bs ih=>
  rw[aaI,abt,abP,List.any_map,abP,<-ih];rfl
def xi:∀{bs:List Bool} {us:List Value},ar (bs.map V.bl) us->us=bs.map Value.bool
 | [],_,r=>by cases r;rfl
 | b::bs,_,r=>by
  cases r with
  | cons h t=>
   cases h;rw[xi t];rfl
def yU{prog:Program}{bs:List Bool}:TruthOf prog w A (λi v=>(bs.map Value.bool).toArray[i]? =some v) (λi=>bs.getD i false):=by
 intro i v s Q E h q;have h':(bs.map Value.bool)[i]? =some v:=by simpa using h
 rw[aak]at h';cases e:bs[i]? with
 | none=>rw[e]at h';cases h'
 | some b=>
  rw[e]at h';cases h';have q':Q b s:=by
   have eb:bs.getD i false=b:=by rw[aab,e];rfl
   exact eb▸q
  exact wpAny_truthy_bool q'
def Rf(K:fI):List V->Hp->VK->Prop:=λxs H Q=>∃(p:Addr) (bs:List Bool),xs=[.ref p]/\fj K H p (bs.map V.bl)/\Q (.bl (bs.any id)) H
section
def Ig (hc : X.calm = true) : dE X (.builtin "any") (Rf X.K) :=by
  intro δ s σ H xs us Q I r h;obtain⟨p,bs,rfl,hq,q⟩ :=h;obtain⟨u,rfl,r1⟩ :=pE r;cases r1;obtain⟨its,rv,pl,hz⟩ :=I.list hq;have N_ :=xi rv;subst N_;refine call_any_walk (wpAny_pyIter_list pl.isList ?_);have lp : p < s.heap.objs.size :=by obtain⟨o,e,_⟩ :=pl.isList;exact aar e
  refine⟨s.heap.objs.size,_,_,_,_,_,λi =>bs.getD i false,rfl,Walks.list (show X.A.in1.handled = none from I.ok.hd hc) s.heap.objs.size p (aaP lp) (bs.map Value.bool).toArray,⟨⟨_,aaN _ rfl,rfl,rfl⟩,pl.isList.at λo e =>aaj _ e⟩,yU,λh' tk hk =>?_⟩;refine⟨.bl (bs.any id),H,I.kept λb o e =>hk b o (λz =>by have : b = s.heap.objs.size :=(by simpa using z);exact Nat.lt_irrefl _ (this ▸ Heap.lt_size e)) (Heap.get?_push_of_some _ e),?_,q⟩;rw[aaM,aag,EE];rfl
end
end L2
namespace PySem
open Sem (wp)
end PySem
namespace PySem.W
open PySem PySem.Builtin PySem.Builtin.ObjectAttr
end PySem.W
namespace PySem
open Sem (wp)
end PySem
namespace L2
open PySem PySem.Spec PyProof.Rows
def xO(a C:Addr)(od:Option Addr):HO:=.ext λh=>∃ob vs,h.get? a=some ob/\ob.cls= .ref C/\ob.dict=od/\ob.data= .fields vs
inductive Dt where
 | aJ
 | bl (b:Bool)
 | int (i:Int)
 | str (x:Str)
 | tup (xs:List Dt)
 | lst (xs:List Dt)
 | obj (C:Addr) (ns:List Str) (xs:List Dt)
 | loc (k:Nat)
 | ref (a:Addr)
 | ty (n:String)
 | hW (ns:List Int)
 | kt (xs:List Dt)
 | exc (C:Addr) (ns:List Str) (xs:List Dt)
 | OU (x C:Addr) (od:Option Addr) (ns:List Str) (xs:List Dt)
inductive MO where
 | lst (xs:List Dt)
 | ins (C:Addr) (ns:List Str) (xs:List Dt)
 | kE (ks:List Key) (xs:List Dt)
 | raw (u:Addr->HO)
abbrev Ms:=List MO
abbrev En:=List (Option Dt)
mutual
def Den(K:fI)(G:Hp)(L:List Addr):Dt->V->Prop
 | .aJ,v=>v= .aJ
 | .bl b,v=>v= .bl b
 | .int i,v=>v= .int i
 | .str x,v=>v= .str x
 | .tup ds,v=>∃a vs,v= .ref a/\G a=some (.tup vs)/\Λ K G L ds vs
 | .lst ds,v=>∃a vs,v= .ref a/\G a=some (.lst vs)/\Λ K G L ds vs
 | .obj C ns ds,v=>∃a dx vs,v= .ref a/\G a=some (.ins C dx (ns.zip vs))/\ns.length=ds.length/\Λ K G L ds vs
 | .loc k,v=>∃a,v= .ref a/\L[k]? =some a
 | .ref a,v=>v= .ref a
 | .ty n,v=>v= .ty n
 | .hW ns,v=>∃a,v= .ref a/\fj K G a (ns.map V.int)
 | .kt ds,v=>∃a vs,v= .ref a/\mq K G a vs/\Λ K G L ds vs
 | .exc C ns ds,v=>∃a od vs,v= .ref a/\G a=some (xO a C od)/\((ns=[]/\od=none)\/∃dx,od=some dx/\G dx=some (.xd (ns.zip vs)))/\ns.length=ds.length/\Λ K G L ds vs
 | .OU x _ od ns ds,v=>∃vs,v= .ref x/\((ns=[]/\od=none)\/∃dx,od=some dx/\G dx=some (.xd (ns.zip vs)))/\ns.length=ds.length/\Λ K G L ds vs
def Λ(K:fI)(G:Hp)(L:List Addr):List Dt->List V->Prop
 | [],vs=>vs=[]
 | d::ds,vs=>∃v r,vs=v::r/\Den K G L d v/\Λ K G L ds r
end
def Pre(L L':List Addr):Prop:=∃t,L'=L++t
def Pre.refl(L:List Addr):Pre L L:=⟨[],by simp⟩
def Pre.trans{a b c:List Addr}(h:Pre a b)(h':Pre b c):Pre a c:=by have⟨t,rfl⟩:=h;have⟨u,rfl⟩:=h';exact⟨t++u,by simp⟩
def Pre.get{a b:List Addr}(h:Pre a b){k:Nat}{x:Addr}(e:a[k]? =some x):b[k]? =some x:=by have⟨t,rfl⟩:=h;have hk:k < a.length:=(aaf.mp e).1;rw[aap hk];exact e
def dq.rd{H H':Hp}{a:Addr}{u:HO}(e:dq H H')(h:Rd H a u):Rd H' a u:=by
 rcases h with h| ⟨o,h⟩
 ·exact .inl (e _ _ h)
 ·exact .inr ⟨o,e _ _ h⟩
def dq.Qu{K:fI}{H H':Hp}{a:Addr}{xs:List V}(e:dq H H')(h:mq K H a xs):mq K H' a xs:=by
 rcases h with h| h
 ·exact .inl (e.rd h)
 ·exact .inr h
section
variable{K:fI}{G G':Hp}{L L':List Addr}
mutual
def Den.mono(g:dq G G')(l:Pre L L'):∀(d:Dt) (v:V),Den K G L d v->Den K G' L' d v
 | .aJ,_,h=>h
 | .bl _,_,h=>h
 | .int _,_,h=>h
 | .str _,_,h=>h
 | .tup ds,_,⟨a,vs,e,h1,h2⟩=>⟨a,vs,e,g _ _ h1,Λ.mono g l ds vs h2⟩
 | .lst ds,_,⟨a,vs,e,h1,h2⟩=>⟨a,vs,e,g _ _ h1,Λ.mono g l ds vs h2⟩
 | .obj C ns ds,_,⟨a,dx,vs,e,h1,hn,h2⟩=>⟨a,dx,vs,e,g _ _ h1,hn,Λ.mono g l ds vs h2⟩
 | .loc k,_,⟨a,e,h1⟩=>⟨a,e,l.get h1⟩
 | .ref _,_,h=>h
 | .ty _,_,h=>h
 | .hW _,_,⟨a,e,h1⟩=>⟨a,e,g.seq h1⟩
 | .kt ds,_,⟨a,vs,e,h1,h2⟩=>⟨a,vs,e,g.Qu h1,Λ.mono g l ds vs h2⟩
 | .exc _ _ ds,_,⟨a,od,vs,e,h1,h2,h3,h4⟩=>⟨a,od,vs,e,g _ _ h1,h2.imp (λz=>z) (λ⟨dx,z1,z2⟩=>⟨dx,z1,g _ _ z2⟩),h3,Λ.mono g l ds vs h4⟩
 | .OU _ _ _ _ ds,_,⟨vs,e,h2,h3,h4⟩=>⟨vs,e,h2.imp (λz=>z) (λ⟨dx,z1,z2⟩=>⟨dx,z1,g _ _ z2⟩),h3,Λ.mono g l ds vs h4⟩
def Λ.mono(g:dq G G')(l:Pre L L'):∀(ds:List Dt) (vs:List V),Λ K G L ds vs->Λ K G' L' ds vs
 | [],_,h=>h
 | d::ds,_,⟨v,r,e,h1,h2⟩=>⟨v,r,e,Den.mono g l d v h1,Λ.mono g l ds r h2⟩
end
def Λ.pair:∀{ds:List Dt} {vs:List V},Λ K G L ds vs->Paired (Den K G L) ds vs
 | [],_,h=>by have h:_=_:=h;subst h;exact .nil
 | d::ds,_,⟨v,r,e,h1,h2⟩=>by subst e;exact .cons h1 (Λ.pair h2)
def Λ.of:∀{ds:List Dt} {vs:List V},Paired (Den K G L) ds vs->Λ K G L ds vs
 | _,_,.nil=>rfl
 | _,_,.cons h t=>⟨_,_,rfl,h,Λ.of t⟩
end
section
variable{α β:Type}{F:α->β->Prop}
def BU:∀{xs:List α} {us:List β} {i:Nat} {x:α},Paired F xs us->xs[i]? =some x->∃u,us[i]? =some u/\F x u
 | _,_,_,_,.nil,e=>by simp at e
 | _,_,0,_,.cons r _,e=>by simp at e;subst e;exact⟨_,rfl,r⟩
 | _,_,i+1,x,.cons _ t,e=>by have⟨u,h1,h2⟩:=BU (i:=i) (x:=x) t (by simpa using e);exact⟨u,by simpa using h1,h2⟩
def Cn{x:α}{u:β}(r:F x u):∀{xs:List α} {us:List β} (i:Nat),Paired F xs us->Paired F (xs.set i x) (us.set i u)
 | _,_,_,.nil=>.nil
 | _,_,0,.cons _ t=>.cons r t
 | _,_,i+1,.cons q t=>.cons q (Cn r i t)
def pX:∀{xs ys:List α} {us ws:List β},Paired F xs us->Paired F ys ws->Paired F (xs++ys) (us++ws)
 | _,_,_,_,.nil,s=>s
 | _,_,_,_,.cons r t,s=>.cons r (pX t s)
def rO:∀{xs:List α} {us:List β} (n:Nat),Paired F xs us->Paired F (xs.take n) (us.take n)
 | _,_,0,_=>.nil
 | _,_,_+1,.nil=>.nil
 | _,_,n+1,.cons r t=>.cons r (rO n t)
def qI:∀{xs:List α} {us:List β} (n:Nat),Paired F xs us->Paired F (xs.drop n) (us.drop n)
 | _,_,0,r=>r
 | _,_,_+1,.nil=>.nil
 | _,_,n+1,.cons _ t=>qI n t
def vO{xs:List α}{us:List β}(h:Paired F xs us):∀k:Nat,Paired F (List.replicate k xs).flatten (List.replicate k us).flatten
 | 0=>.nil
 | k+1=>by rw[abe,abe,abu,abu];exact pX h (vO h k)
end
section
variable{K:fI}{G:Hp}{L:List Addr}
def Λ.length{ds:List Dt}{vs:List V}(h:Λ K G L ds vs):ds.length=vs.length:=Paired.length h.pair
def Λ.get{ds:List Dt}{vs:List V}{i:Nat}{d:Dt}(h:Λ K G L ds vs)(e:ds[i]? =some d):∃v,vs[i]? =some v/\Den K G L d v:=BU h.pair e
def Λ.app{ds es:List Dt}{vs us:List V}(h:Λ K G L ds vs)(h':Λ K G L es us):Λ K G L (ds++es) (vs++us):=.of (pX h.pair h'.pair)
def iy:∀{ns:List Int},Λ K G L (ns.map Dt.int) (ns.map V.int)
 | []=>rfl
 | n::ns=>⟨_,_,rfl,rfl,iy⟩
def bF{d:Dt}{vs:List V}(h:Λ K G L [d] vs):∃v,vs=[v]/\Den K G L d v:=by have⟨v,r,rfl,h1,h2⟩:=h;have h2:r=[]:=h2;subst h2;exact⟨v,rfl,h1⟩
def dM{d e:Dt}{vs:List V}(h:Λ K G L [d,e] vs):∃v u,vs=[v,u]/\Den K G L d v/\Den K G L e u:=by have⟨v,r,rfl,h1,h2⟩:=h;have⟨u,rfl,h3⟩:=bF h2;exact⟨v,u,rfl,h1,h3⟩
end
def EN(K:fI)(G:Hp)(L:List Addr)(H:Hp)(a:Addr):MO->Prop
 | .lst ds=>∃vs,H a=some (.lst vs)/\Λ K G L ds vs
 | .ins C ns ds=>∃dx vs,H a=some (.ins C dx (ns.zip vs))/\ns.length=ds.length/\Λ K G L ds vs
 | .kE ks ds=>∃vs,H a=some (.dK (ks.zip vs))/\ks.length=ds.length/\Λ K G L ds vs
 | .raw u=>H a=some (u a)
structure Rl(K:fI)(G:Hp)(L:List Addr)(M:Ms)(H:Hp):Prop where
 sub:dq G H
 len:L.length=M.length
 nd:L.Nodup
 gr:∀(k:Nat) (a:Addr) (m:MO),L[k]? =some a->M[k]? =some m->G a=none/\EN K G L H a m
structure Ex(G:Hp)(L:List Addr)(H:Hp)(G':Hp)(L':List Addr)(H':Hp):Prop where
 g:dq G G'
 l:Pre L L'
 fr:∀b,G b=none->H b≠none->G' b=none
 out:∀b o,H b=some o->b∉L->H' b=some o
 new:∀b∈L',b∈L\/H b=none
 EL:∀b,H b≠none->H' b≠none
def Ex.refl(G:Hp)(L:List Addr)(H:Hp):Ex G L H G L H:=⟨.refl _,.refl _,λ_ h _=>h,λ_ _ h _=>h,λ_ h=>.inl h,λ_ h=>h⟩
def Ex.trans{G:Hp}{L:List Addr}{H G1:Hp}{L1:List Addr}{H1 G2:Hp}{L2:List Addr}{H2:Hp}(a:Ex G L H G1 L1 H1)(b:Ex G1 L1 H1 G2 L2 H2):Ex G L H G2 L2 H2 where
 g:=a.g.trans b.g
 l:=a.l.trans b.l
 fr:=λx h1 h2=>b.fr x (a.fr x h1 h2) (a.EL x h2)
 out:=λx o h1 h2=>b.out x o (a.out x o h1 h2) λz=>(a.new x z).elim h2 λq=>by rw[h1]at q;cases q
 new:=λx h=>by
  rcases b.new x h with z| z
  ·exact a.new x z
  ·right;cases q:H x with
   | none=>rfl
   | some o=>exact absurd z (a.EL x (by rw[q];simp))
 EL:=λx h=>b.EL x (a.EL x h)
def EN.there{K:fI}{G:Hp}{L:List Addr}{H:Hp}{a:Addr}{m:MO}(h:EN K G L H a m):H a≠none:=by
 cases m with
 | lst ds=>have⟨vs,e,_⟩:=h;rw[e];simp
 | ins C ns ds=>have⟨dx,vs,e,_⟩:=h;rw[e];simp
 | kE ks ds=>have⟨vs,e,_⟩:=h;rw[e];simp
 | raw u=>have h:H a=some (u a):=h;rw[h];simp
def EN.mono{K:fI}{G G':Hp}{L L':List Addr}{H H':Hp}{a:Addr}{m:MO}(g:dq G G')(l:Pre L L')(e:H' a=H a)(h:EN K G L H a m):EN K G' L' H' a m:=by
 cases m with
 | lst ds=>have⟨vs,e1,h⟩:=h;exact⟨vs,e.trans e1,Λ.mono g l _ _ h⟩
 | ins C ns ds=>have⟨dx,vs,e1,h0,h⟩:=h;exact⟨dx,vs,e.trans e1,h0,Λ.mono g l _ _ h⟩
 | kE ks ds=>have⟨vs,e1,h0,h⟩:=h;exact⟨vs,e.trans e1,h0,Λ.mono g l _ _ h⟩
 | raw u=>exact e.trans h
section
variable{K:fI}{G:Hp}{L:List Addr}{M:Ms}{H:Hp}{p:Addr}{o:HO}
def Rl.wX(r:Rl K G L M H){a:Addr}(h:a∈L):∃(k:Nat) (m:MO),L[k]? =some a/\M[k]? =some m/\G a=none/\EN K G L H a m:=by
 have⟨k,hk,e⟩:=abf h;have e1:L[k]? =some a:=by rw[aaa hk,e]
 have e2:M[k]? =some (M[k]'(by rw[<-r.len];exact hk)):=aaa _;exact⟨k,_,e1,e2,r.gr k a _ e1 e2⟩
def Rl.Ra(r:Rl K G L M H)(hp:H p=none):p∉L:=λz=>by have⟨k,m,_,_,_,h⟩:=r.wX z;exact h.there hp
def Rl.KD(r:Rl K G L M H)(hp:H p=none):Rl K (upd G p o) L M (upd H p o) where
 sub:=λb u e=>by
  by_cases hb:b=p
  ·subst hb;rw[aq]at e⊢;exact e
  ·rw[Θ hb]at e⊢;exact r.sub b u e
 len:=r.len
 nd:=r.nd
 gr:=λk a m h1 h2=>by have⟨q1,q2⟩:=r.gr k a m h1 h2;have hb:a≠p:=λz=>q2.there (by rw[z];exact hp);exact⟨by rw[Θ hb];exact q1,q2.mono (λb u e=>by rw[Θ (λz=>by rw[z,r.sub.free hp]at e;cases e)];exact e) (.refl _) (Θ hb)⟩
def Rl.OY(r:Rl K G L M H)(hp:H p=none):Ex G L H (upd G p o) L (upd H p o) where
 g:=λb u e=>by rw[Θ (λz=>by rw[z,r.sub.free hp]at e;cases e)];exact e
 l:=.refl _
 fr:=λb h1 h2=>by rw[Θ (λz=>h2 (by rw[z];exact hp))];exact h1
 out:=λb u h1 _=>by rw[Θ (λz=>by rw[z,hp]at h1;cases h1)];exact h1
 new:=λb h=>.inl h
 EL:=λb h=>by rw[Θ (λz=>h (by rw[z];exact hp))];exact h
def Rl.KO{m:MO}(r:Rl K G L M H)(hp:H p=none)(hm:EN K G (L++[p]) (upd H p o) p m):Rl K G (L++[p]) (M++[m]) (upd H p o) where
 sub:=λb u e=>by rw[Θ (λz=>by rw[z,r.sub.free hp]at e;cases e)];exact r.sub b u e
 len:=by rw[aah,aah,r.len];rfl
 nd:=List.nodup_append.mpr ⟨r.nd,by simp,λa ha b hb=>by
  have e:b=p:=by simpa using hb
  rw[e];exactλz=>r.Ra hp (z▸ha)⟩
 gr:=λk a m' h1 h2=>by
  by_cases hk:k < L.length
  ·rw[aap hk]at h1;rw[aap (by rw[<-r.len];exact hk)]at h2;have⟨q1,q2⟩:=r.gr k a m' h1 h2;exact⟨q1,q2.mono (.refl _) ⟨[p],rfl⟩ (Θ λz=>q2.there (by rw[z];exact hp))⟩
  ·have e:k=L.length:=by have:=(aaf.mp h1).1;rw[aah]at this;simp at this;omega
   rw[e,aax (aai _)]at h1;rw[e,r.len,aax (aai _)]at h2;simp at h1 h2;subst h1 h2;exact⟨r.sub.free hp,hm⟩
def Rl.SO(r:Rl K G L M H)(hp:H p=none):Ex G L H G (L++[p]) (upd H p o) where
 g:=.refl _
 l:=⟨[p],rfl⟩
 fr:=λb h1 _=>h1
 out:=λb u h1 _=>by rw[Θ (λz=>by rw[z,hp]at h1;cases h1)];exact h1
 new:=λb h=>by
  rcases abm.mp h with z| z
  ·exact .inl z
  ·have e:b=p:=by simpa using z
   right;rw[e];exact hp
 EL:=λb h=>by rw[Θ (λz=>h (by rw[z];exact hp))];exact h
def Rl.setM{k:Nat}{a:Addr}{m:MO}(r:Rl K G L M H)(hk:L[k]? =some a)(hm:EN K G L (upd H a o) a m):Rl K G L (M.set k m) (upd H a o) where
 sub:=λb u e=>by have⟨k',m',e1,e2,q1,_⟩:=r.wX (aal hk);rw[Θ (λz=>by rw[z,q1]at e;cases e)];exact r.sub b u e
 len:=by rw[aa3];exact r.len
 nd:=r.nd
 gr:=λk' a' m' h1 h2=>by
  by_cases e:k'=k
  ·subst e;rw[hk]at h1;cases h1;have hl:k' < M.length:=by rw[<-r.len];exact(aaf.mp hk).1
   rw[aa0 hl]at h2;cases h2;have⟨_,_,_,_,q1,_⟩:=r.wX (aal hk);exact⟨q1,hm⟩
  ·rw[abb (λz=>e z.symm)]at h2;have⟨q1,q2⟩:=r.gr k' a' m' h1 h2;have ne:a'≠a:=λz=>by subst z;exact e ((List.getElem?_inj (aaf.mp h1).1 r.nd).mp (h1.trans hk.symm))
   exact⟨q1,q2.mono (.refl _) (.refl _) (Θ ne)⟩
def Rl.EH{k:Nat}{a:Addr}(r:Rl K G L M H)(hk:L[k]? =some a):Ex G L H G L (upd H a o) where
 g:=.refl _
 l:=.refl _
 fr:=λb h1 _=>h1
 out:=λb u h1 h2=>by rw[Θ (λz=>h2 (by rw[z];exact aal hk))];exact h1
 new:=λb h=>.inl h
 EL:=λb h=>by
  by_cases e:b=a
  ·rw[e,aq];simp
  ·rw[Θ e];exact h
end
structure kG(K:fI)(G:Hp)(L:List Addr)(ρ:En)(σ:St):Prop where
 len:ρ.length=σ.length
 gr:∀(i:Nat) (d:Dt),ρ[i]? =some (some d)->∃v,σ[i]? =some (some v)/\Den K G L d v
section
variable{K:fI}{G G':Hp}{L L':List Addr}{H H':Hp}{ρ:En}{σ:St}
def kG.mono(h:kG K G L ρ σ)(e:Ex G L H G' L' H'):kG K G' L' ρ σ:=⟨h.len,λi d q=>let ⟨v,a,b⟩:=h.gr i d q;⟨v,a,Den.mono e.g e.l d v b⟩⟩
def kG.set(h:kG K G L ρ σ)(i:Nat){d:Dt}{v:V}(q:Den K G L d v):kG K G L (ρ.set i (some d)) (σ.set i (some v)):=by
 refine⟨by rw[aa3,aa3];exact h.len,λj d' e=>?_⟩;by_cases hj:i=j
 ·subst hj;have hl:i < ρ.length:=by have:=(aaf.mp e).1;rwa[aa3]at this
  rw[aa0 hl]at e;cases e;exact⟨v,aa0 (by rw[<-h.len];exact hl),q⟩
 ·rw[abb hj]at e;have⟨u,a,b⟩:=h.gr j d' e;exact⟨u,by rw[abb hj];exact a,b⟩
end
abbrev DQ:=Dt->Ms->Prop
abbrev DX:=En->Addr->List (Str×Dt)->Ms->Prop
def RP(K:fI)(G:Hp)(L:List Addr)(H:Hp)(fs:List (Str×Dt))(od:Option Addr):Prop:=
 (fs=[]/\od=none)\/fs≠[]/\∃dx vs,od=some dx/\G dx=some (.xd ((fs.map (·.1)).zip vs))/\Λ K G L (fs.map (·.2)) vs
def sM(K:fI)(G:Hp)(L:List Addr)(H:Hp)(R:St->XK)(x:DX):Prop:=
 ∀σ ρ C fs M' G' L' H' od,x ρ C fs M'->Ex G L H G' L' H'->Rl K G' L' M' H'->kG K G' L' ρ σ->RP K G' L' H' fs od->R σ (.ref C) od H'
def sM.on{K:fI}{G:Hp}{L:List Addr}{H G1:Hp}{L1:List Addr}{H1:Hp}{R:St->XK}{x:DX}(h:sM K G L H R x)(e:Ex G L H G1 L1 H1):sM K G1 L1 H1 R x:=
 λσ ρ C fs M' G' L' H' od q e' r n y=>h σ ρ C fs M' G' L' H' od q (e.trans e') r n y
def jh:DX:=λ_ _ _ _=>False
def GG{K:fI}{G:Hp}{L:List Addr}{H:Hp}{R:St->XK}:sM K G L H R jh:=λ_ _ _ _ _ _ _ _ _ q=>q.elim
abbrev DE:=En->Ms->DQ->DX->Prop
abbrev DT:=En->Ms->(Bool->Ms->Prop)->DX->Prop
abbrev DA:=En->Ms->(List Dt->Ms->Prop)->DX->Prop
structure kD where
 nx:En->Ms->Prop
 rt:DQ
 bk:En->Ms->Prop:=λ_ _=>False
 ct:En->Ms->Prop:=λ_ _=>False
 x:DX:=jh
abbrev DS:=kD->En->Ms->Prop
inductive Fin(K:fI)(G0:Hp)(L0:List Addr)(H0:Hp)(q:DQ)(v:V)(H:Hp):Prop
 | mk (d:Dt) (G:Hp) (L:List Addr) (M:Ms) (e:Ex G0 L0 H0 G L H) (r:Rl K G L M H) (n:Den K G L d v) (h:q d M)
inductive tJ(K:fI)(G0:Hp)(L0:List Addr)(H0:Hp)(q:Bool->Ms->Prop)(b:Bool)(H:Hp):Prop
 | mk (G:Hp) (L:List Addr) (M:Ms) (e:Ex G0 L0 H0 G L H) (r:Rl K G L M H) (h:q b M)
inductive K4(K:fI)(G0:Hp)(L0:List Addr)(H0:Hp)(q:List Dt->Ms->Prop)(vs:List V)(H:Hp):Prop
 | mk (ds:List Dt) (G:Hp) (L:List Addr) (M:Ms) (e:Ex G0 L0 H0 G L H) (r:Rl K G L M H) (n:Λ K G L ds vs) (h:q ds M)
inductive d8(K:fI)(G0:Hp)(L0:List Addr)(H0:Hp)(q:En->Ms->Prop)(σ:St)(H:Hp):Prop
 | mk (ρ:En) (G:Hp) (L:List Addr) (M:Ms) (e:Ex G0 L0 H0 G L H) (r:Rl K G L M H) (n:kG K G L ρ σ) (h:q ρ M)
def sR(K:fI)(G0:Hp)(L0:List Addr)(H0:Hp)(Dn:kD):xB:=⟨d8 K G0 L0 H0 Dn.nx,Fin K G0 L0 H0 Dn.rt,d8 K G0 L0 H0 Dn.bk,d8 K G0 L0 H0 Dn.ct⟩
inductive yS(K:fI)(R:St->XK)(t:DE)(σ:St)(H:Hp)(Q:VK):Prop
 | mk (G:Hp) (L:List Addr) (ρ:En) (M:Ms) (q:DQ) (x:DX) (r:Rl K G L M H) (n:kG K G L ρ σ) (h:t ρ M q x) (hx:sM K G L H R x) (hQ:∀v H1,Fin K G L H q v H1->Q v H1)
inductive C2(K:fI)(R:St->XK)(t:DT)(σ:St)(H:Hp)(Q:Bool->Hp->Prop):Prop
 | mk (G:Hp) (L:List Addr) (ρ:En) (M:Ms) (q:Bool->Ms->Prop) (x:DX) (r:Rl K G L M H) (n:kG K G L ρ σ) (h:t ρ M q x) (hx:sM K G L H R x) (hQ:∀b H1,tJ K G L H q b H1->Q b H1)
inductive RD(K:fI)(R:St->XK)(t:DA)(σ:St)(H:Hp)(Q:List V->Hp->Prop):Prop
 | mk (G:Hp) (L:List Addr) (ρ:En) (M:Ms) (q:List Dt->Ms->Prop) (x:DX) (r:Rl K G L M H) (n:kG K G L ρ σ) (h:t ρ M q x) (hx:sM K G L H R x) (hQ:∀vs H1,K4 K G L H q vs H1->Q vs H1)
structure N9(A B:xB):Prop where
 nx:∀σ H,A.nx σ H->B.nx σ H
 rt:∀v H,A.rt v H->B.rt v H
 bk:∀σ H,A.bk σ H->B.bk σ H
 ct:∀σ H,A.ct σ H->B.ct σ H
inductive RS(K:fI)(R:St->XK)(t:DS)(De:xB)(σ:St)(H:Hp):Prop
 | mk (G:Hp) (L:List Addr) (ρ:En) (M:Ms) (Dn:kD) (r:Rl K G L M H) (n:kG K G L ρ σ) (h:t Dn ρ M) (hx:sM K G L H R Dn.x) (hQ:N9 (sR K G L H Dn) De)
def JE(X:Cx)(R:St->XK)(e:Expr)(t:DE):Prop:=PE X e (yS X.K R t)
def JT(X:Cx)(R:St->XK)(e:Expr)(t:DT):Prop:=PT X e (C2 X.K R t)
def JW(X:Cx)(R:St->XK)(e:Expr)(t:DT):Prop:=PW X e (C2 X.K R t)
def JA(X:Cx)(R:St->XK)(es:List Expr)(t:DA):Prop:=PA X es (RD X.K R t)
def JS(X:Cx)(R:St->XK)(st:Stmt)(t:DS):Prop:=PS X st (RS X.K R t)
def CH(X:Cx)(R:St->XK)(st:List Stmt)(t:DS):Prop:=EO X st (RS X.K R t)
section
variable{K:fI}{G0:Hp}{L0:List Addr}{H0 G1:Hp}{L1:List Addr}{H1:Hp}
def Fin.back{q:DQ}(e:Ex G0 L0 H0 G1 L1 H1){v:V}{H:Hp}(h:Fin K G1 L1 H1 q v H):Fin K G0 L0 H0 q v H:=let ⟨d,G,L,M,a,b,c,f⟩:=h;⟨d,G,L,M,e.trans a,b,c,f⟩
def d8.back{q:En->Ms->Prop}(e:Ex G0 L0 H0 G1 L1 H1){v:St}{H:Hp}(h:d8 K G1 L1 H1 q v H):d8 K G0 L0 H0 q v H:=let ⟨d,G,L,M,a,b,c,f⟩:=h;⟨d,G,L,M,e.trans a,b,c,f⟩
def tJ.back{q:Bool->Ms->Prop}(e:Ex G0 L0 H0 G1 L1 H1){v:Bool}{H:Hp}(h:tJ K G1 L1 H1 q v H):tJ K G0 L0 H0 q v H:=let ⟨G,L,M,a,b,f⟩:=h;⟨G,L,M,e.trans a,b,f⟩
def sR.back{Dn:kD}(e:Ex G0 L0 H0 G1 L1 H1):N9 (sR K G1 L1 H1 Dn) (sR K G0 L0 H0 Dn):=⟨λ_ _ h=>d8.back e h,λ_ _ h=>Fin.back e h,λ_ _ h=>d8.back e h,λ_ _ h=>d8.back e h⟩
def SP.imp{X:Cx}{δ:List (Addr×Obj)}{A B:xB}(e:N9 A B){f:Flow}{s:Shared}(h:SP X δ A f s):SP X δ B f s:=by
 cases f with
 | next=>have⟨a,b,I,q⟩:=h;exact⟨a,b,I,e.nx _ _ q⟩
 | brk=>have⟨a,b,I,q⟩:=h;exact⟨a,b,I,e.bk _ _ q⟩
 | cont=>have⟨a,b,I,q⟩:=h;exact⟨a,b,I,e.ct _ _ q⟩
 | ret u=>have⟨v,a,b,I,r,q⟩:=h;exact⟨v,a,b,I,r,e.rt _ _ q⟩
end
section
variable{X:Cx}{R:St->XK}{e:Expr}
def JE.of{te:TE}{t:DE}(h:PE X e te)(hw:∀σ H G L ρ M q x,Rl X.K G L M H->kG X.K G L ρ σ->t ρ M q x->sM X.K G L H R x->te σ H (Fin X.K G L H q)):JE X R e t:=by intro δ s σ H Q I ⟨G,L,ρ,M,q,x,r,n,ht,hx,hQ⟩;refine bH (h δ s σ H _ I (hw σ H G L ρ M q x r n ht hx)) λu s1 ⟨v,H1,I1,rv,f⟩=>⟨v,H1,I1,rv,hQ v H1 f⟩
def JT.of{te:TT}{t:DT}(h:PT X e te)(hw:∀σ H G L ρ M q x,Rl X.K G L M H->kG X.K G L ρ σ->t ρ M q x->sM X.K G L H R x->te σ H (tJ X.K G L H q)):JT X R e t:=by intro δ s σ H Q I ⟨G,L,ρ,M,q,x,r,n,ht,hx,hQ⟩;refine bH (h δ s σ H _ I (hw σ H G L ρ M q x r n ht hx)) λu s1 ⟨H1,I1,f⟩=>⟨H1,I1,hQ u H1 f⟩
def JW.of{te:TT}{t:DT}(h:PW X e te)(hw:∀σ H G L ρ M q x,Rl X.K G L M H->kG X.K G L ρ σ->t ρ M q x->sM X.K G L H R x->te σ H (tJ X.K G L H q)):JW X R e t:=by intro wh δ s σ H Q I ⟨G,L,ρ,M,q,x,r,n,ht,hx,hQ⟩;refine bH (h wh δ s σ H _ I (hw σ H G L ρ M q x r n ht hx)) λu s1 ⟨H1,I1,f⟩=>⟨H1,I1,hQ u H1 f⟩
def JA.of{es:List Expr}{te:TA}{t:DA}(h:PA X es te)(hw:∀σ H G L ρ M q x,Rl X.K G L M H->kG X.K G L ρ σ->t ρ M q x->sM X.K G L H R x->te σ H (K4 X.K G L H q)):JA X R es t:=by intro pos δ s σ H Q I ⟨G,L,ρ,M,q,x,r,n,ht,hx,hQ⟩;refine bH (h pos δ s σ H _ I (hw σ H G L ρ M q x r n ht hx)) λu s1 ⟨v,H1,I1,rv,f⟩=>⟨v,H1,I1,rv,hQ v H1 f⟩
def JS.of{st:Stmt}{te:TS}{t:DS}(h:PS X st te)(hw:∀σ H G L ρ M Dn,Rl X.K G L M H->kG X.K G L ρ σ->t Dn ρ M->sM X.K G L H R Dn.x->te (sR X.K G L H Dn) σ H):JS X R st t:=by intro δ s σ H De I ⟨G,L,ρ,M,Dn,r,n,ht,hx,hQ⟩;exact bH (h δ s σ H _ I (hw σ H G L ρ M Dn r n ht hx)) λu s1 f=>SP.imp hQ f
def CH.of{st:List Stmt}{te:TS}{t:DS}(h:EO X st te)(hw:∀σ H G L ρ M Dn,Rl X.K G L M H->kG X.K G L ρ σ->t Dn ρ M->sM X.K G L H R Dn.x->te (sR X.K G L H Dn) σ H):CH X R st t:=by intro δ s σ H De I ⟨G,L,ρ,M,Dn,r,n,ht,hx,hQ⟩;exact bH (h δ s σ H _ I (hw σ H G L ρ M Dn r n ht hx)) λu s1 f=>SP.imp hQ f
end
def lx(i:Nat):DE:=λρ M q _=>match ρ[i]? with
 | some (some d)=>q d M
 | _=>False
def dC(d:Dt):DE:=λ_ M q _=>q d M
def kj(f:Dt->Dt->Ms->DQ->Prop)(a b:DE):DE:=λρ M q x=>a ρ M (λd1 M1=>b ρ M1 (λd2 M2=>f d1 d2 M2 q) x) x
def Te(f:Dt->Ms->DQ->Prop)(a:DE):DE:=λρ M q x=>a ρ M (λd1 M1=>f d1 M1 q) x
def IA:DA:=λ_ M q _=>q [] M
def mv(a:DE)(r:DA):DA:=λρ M q x=>a ρ M (λd M1=>r ρ M1 (λds M2=>q (d::ds) M2) x) x
def Ba(f:List Dt->Ms->DQ->Prop)(a:DA):DE:=λρ M q x=>a ρ M (λds M1=>f ds M1 q) x
def oV(K:fI)(r:R2)(f:Dt->Dt->Ms->DQ->Prop):Prop:=
 ∀G0 L0 H0 G L M H v1 v2 d1 d2 q,Ex G0 L0 H0 G L H->Rl K G L M H->Den K G L d1 v1->Den K G L d2 v2->f d1 d2 M q->r v1 v2 H (Fin K G0 L0 H0 q)
def VT(K:fI)(r:V->Hp->VK->Prop)(f:Dt->Ms->DQ->Prop):Prop:=
 ∀G0 L0 H0 G L M H v1 d1 q,Ex G0 L0 H0 G L H->Rl K G L M H->Den K G L d1 v1->f d1 M q->r v1 H (Fin K G0 L0 H0 q)
def CN(K:fI)(r:List V->Hp->VK->Prop)(f:List Dt->Ms->DQ->Prop):Prop:=
 ∀G0 L0 H0 G L M H vs ds q,Ex G0 L0 H0 G L H->Rl K G L M H->Λ K G L ds vs->f ds M q->r vs H (Fin K G0 L0 H0 q)
section
variable{K:fI}{R:St->XK}{ta tb:DE}{tc:DA}{σ:St}{H G:Hp}{L:List Addr}{ρ:En}{M:Ms}{q:DQ}{x:DX}
def A2{r:R2}{f:Dt->Dt->Ms->DQ->Prop}(od:oV K r f)(rl:Rl K G L M H)(n:kG K G L ρ σ)(h:kj f ta tb ρ M q x)(hx:sM K G L H R x):Q3 r (yS K R ta) (yS K R tb) σ H (Fin K G L H q):=by refine⟨G,L,ρ,M,_,x,rl,n,h,hx,λv H1 xz=>?_⟩;have⟨d1,G1,L1,M1,e1,r1,n1,h1⟩:=xz;refine⟨G1,L1,ρ,M1,_,x,r1,n.mono e1,h1,hx.on e1,λv2 H2 xz=>?_⟩;have⟨d2,G2,L2,M2,e2,r2,n2,h2⟩:=xz;exact od G L H G2 L2 M2 H2 v v2 d1 d2 q (e1.trans e2) r2 (Den.mono e2.g e2.l _ _ n1) n2 h2
def QQ{r:V->Hp->VK->Prop}{f:Dt->Ms->DQ->Prop}(od:VT K r f)(rl:Rl K G L M H)(n:kG K G L ρ σ)(h:Te f ta ρ M q x)(hx:sM K G L H R x):XT r (yS K R ta) σ H (Fin K G L H q):=by refine⟨G,L,ρ,M,_,x,rl,n,h,hx,λv H1 xz=>?_⟩;have⟨d1,G1,L1,M1,e1,r1,n1,h1⟩:=xz;exact od G L H G1 L1 M1 H1 v d1 q e1 r1 n1 h1
def LU{r:List V->Hp->VK->Prop}{f:List Dt->Ms->DQ->Prop}(od:CN K r f)(rl:Rl K G L M H)(n:kG K G L ρ σ)(h:Ba f tc ρ M q x)(hx:sM K G L H R x):U3 r (RD K R tc) σ H (Fin K G L H q):=by refine⟨G,L,ρ,M,_,x,rl,n,h,hx,λv H1 xz=>?_⟩;have⟨d1,G1,L1,M1,e1,r1,n1,h1⟩:=xz;exact od G L H G1 L1 M1 H1 v d1 q e1 r1 n1 h1
end
section
variable{X:Cx}{R:St->XK}{a b c:Expr}{ta tb:DE}{pos:Pos}
def jv(i:Nat){x:Str}{pos:Pos}(hN:X.N[i]? =some x:=by rfl)(hv:UY X.env.scope x:=by first| exact Or.inl rfl| exact Or.inr (Or.inl rfl)| exact Or.inr (Or.inr rfl))(hd:(x==("__debug__":Str))=false:=by decide)
  (Gz:(x==("__classdict__":Str))=false:=by decide):JE X R (.Name x pos) (lx i):=.of (LZ hN hv hd Gz) λσ H G L ρ M q x r n h hx=>by
 unfold lx at h;split at h
 ·rename_i d e;have⟨v,e1,h1⟩:=n.gr i d e;exact⟨v,e1,d,G,L,M,.refl _ _ _,r,h1,h⟩
 ·exact h.elim
def N1{d:Dt}{v:V}{e:Expr}(h:PE X e (tC v))(hd:∀G L,Den X.K G L d v):JE X R e (dC d):=.of h λσ H G L ρ M q x r n h hx=>⟨d,G,L,M,.refl _ _ _,r,hd G L,h⟩
def υ{i j pos}:JE X R (.Constant (.int i) j pos) (dC (.int i)):=N1 NH λ_ _=>rfl
def Km{b j pos}:JE X R (.Constant (.bool b) j pos) (dC (.bl b)):=N1 Rv λ_ _=>rfl
def rN{j pos}:JE X R (.Constant .none j pos) (dC .aJ):=N1 L6 λ_ _=>rfl
def mH{x j pos}:JE X R (.Constant (.str x) j pos) (dC (.str x)):=N1 MG λ_ _=>rfl
def vj{op:Operator}{r:R2}{f:Dt->Dt->Ms->DQ->Prop}(ho:jN X (binaryOp op) r)(od:oV X.K r f)(ja:JE X R a ta)(jb:JE X R b tb):JE X R (.BinOp a op b pos) (kj f ta tb):=
 .of (P2 ho ja jb) λσ H G L ρ M q x r n h hx=>A2 od r n h hx
def Vy{op:UnaryOp}{r:V->Hp->VK->Prop}{f:Dt->Ms->DQ->Prop}(ho:Sj X (unaryOp op) r)(od:VT X.K r f)(ja:JE X R a ta):JE X R (.UnaryOp op a pos) (Te f ta):=
 .of (Ry ho ja) λσ H G L ρ M q x r n h hx=>QQ od r n h hx
def B'{op:CmpOp}{r:R2}{f:Dt->Dt->Ms->DQ->Prop}(ho:jN X (compareOp op) r)(od:oV X.K r f)(ja:JE X R a ta)(jb:JE X R b tb)(hm:behindInMarks op b=false):JE X R (.Compare a [op] [b] pos) (kj f ta tb):=
 .of (J8 ho ja jb hm) λσ H G L ρ M q x r n h hx=>A2 od r n h hx
def PB{r:R2}{f:Dt->Dt->Ms->DQ->Prop}(hr:IV X r)(od:oV X.K r f)(ja:JE X R a ta)(jb:JE X R b tb)(hs:wu b):JE X R (.Subscript a b pos) (kj f ta tb):=
 .of (RU hr ja jb hs) λσ H G L ρ M q x r n h hx=>A2 od r n h hx
def aK{env:Env}{es:List Expr}{c j p}:starEach (.Constant c j p::es) env=(false,eval (.Constant c j p) env)::starEach es env:=rfl
def Ly{env:Env}{es:List Expr}{c p}:starEach (.Name c p::es) env=(false,eval (.Name c p) env)::starEach es env:=rfl
def bM{env:Env}{es:List Expr}{a o b p}:starEach (.BinOp a o b p::es) env=(false,eval (.BinOp a o b p) env)::starEach es env:=rfl
def cf{env:Env}{es:List Expr}{a b c p}:starEach (.Call a b c p::es) env=(false,eval (.Call a b c p) env)::starEach es env:=rfl
def aU{env:Env}{es:List Expr}{a b p}:starEach (.Subscript a b p::es) env=(false,eval (.Subscript a b p) env)::starEach es env:=rfl
def mT{env:Env}{es:List Expr}{a b p}:starEach (.Tuple a b p::es) env=(false,eval (.Tuple a b p) env)::starEach es env:=rfl
def η:JA X R [] IA:=.of OE λσ H G L ρ M q x r n h hx=>⟨[],G,L,M,.refl _ _ _,r,rfl,h⟩
def θ{e:Expr}{es:List Expr}{te:DE}{t:DA}(ha:JE X R e te)(hr:JA X R es t)(hs:starEach (e::es) X.env=(false,eval e X.env)::starEach es X.env:=by first| exact aK| exact Ly| exact bM| exact cf| exact aU| exact mT| exact WQ| exact XS| rfl):JA X R (e::es) (mv te t):=
 .of (JQ ha hr hs) λσ H G L ρ M q x rl n h hx=>by refine⟨G,L,ρ,M,_,x,rl,n,h,hx,λv H1 xz=>?_⟩;have⟨d1,G1,L1,M1,e1,r1,n1,h1⟩:=xz;refine⟨G1,L1,ρ,M1,_,x,r1,n.mono e1,h1,hx.on e1,λv2 H2 xz=>?_⟩;have⟨d2,G2,L2,M2,e2,r2,n2,h2⟩:=xz;exact⟨d1::d2,G2,L2,M2,e1.trans e2,r2,⟨_,_,rfl,Den.mono e2.g e2.l _ _ n1,n2⟩,h2⟩
def Η{c:Str}{p:Pos}{es:List Expr}{te:DE}{t:DA}(ha:JE X R (.Name c p) te)(hr:JA X R es t):JA X R (.Name c p::es) (mv te t):=θ ha hr Ly
def O8(t:DA):DE:=λρ M q x=>t ρ M (λds M1=>ds.length<=sizeLine/\q (.tup ds) M1) x
def QR(t:DA):DE:=λρ M q x=>t ρ M (λds M1=>ds.length<=sizeLine/\q (.lst ds) M1) x
def Ls(t:DA):DE:=λρ M q x=>t ρ M (λds M1=>ds.length<=sizeLine/\q (.loc M1.length) (M1++[.lst ds])) x
def kg{K:fI}{G0:Hp}{L0:List Addr}{H0 G:Hp}{L:List Addr}{M:Ms}{H:Hp}{p:Addr}{o:HO}{d:Dt}{q:DQ}(e:Ex G0 L0 H0 G L H)(r:Rl K G L M H)(hp:H p=none)(hd:Den K (upd G p o) L d (.ref p))(h:q d M):Fin K G0 L0 H0 q (.ref p) (upd H p o):=
 ⟨d,upd G p o,L,M,e.trans (r.OY hp),r.KD hp,hd,h⟩
def p_{K:fI}{G:Hp}{L:List Addr}{M:Ms}{H:Hp}{p:Addr}{ds:List Dt}{vs:List V}(r:Rl K G L M H)(hp:H p=none)(h:Λ K G L ds vs):Den K (upd G p (.tup vs)) L (.tup ds) (.ref p):=
 ⟨p,vs,rfl,aq,Λ.mono (r.OY hp).g (.refl _) _ _ h⟩
def qb{K:fI}{G:Hp}{L:List Addr}{M:Ms}{H:Hp}{p:Addr}{ds:List Dt}{vs:List V}(r:Rl K G L M H)(hp:H p=none)(h:Λ K G L ds vs):Den K (upd G p (.lst vs)) L (.lst ds) (.ref p):=
 ⟨p,vs,rfl,aq,Λ.mono (r.OY hp).g (.refl _) _ _ h⟩
def gE{K:fI}{G0:Hp}{L0:List Addr}{H0 G:Hp}{L:List Addr}{M:Ms}{H:Hp}{p:Addr}{q:DQ}{ds:List Dt}{vs:List V}(e:Ex G0 L0 H0 G L H)(r:Rl K G L M H)(hp:H p=none)(hd:Λ K G L ds vs)(h:q (.loc M.length) (M++[.lst ds])):Fin K G0 L0 H0 q (.ref p) (upd H p (.lst vs)):=
 ⟨.loc M.length,G,L++[p],M++[.lst ds],e.trans (r.SO hp),r.KO (m:=.lst ds) hp ⟨vs,aq,Λ.mono (.refl _) ⟨[p],rfl⟩ _ _ hd⟩,⟨p,rfl,by rw[<-r.len,List.getElem?_append_right (Nat.le_refl _)];simp⟩,h⟩
variable{es:List Expr}{t:DA}
def bO{x1}(h:JA X R es t):JE X R (.Tuple es x1 pos) (O8 t):=.of (OG h) λσ H G L ρ M q x rl n h hx=>by refine⟨G,L,ρ,M,_,x,rl,n,h,hx,fun v H1 ⟨d1,G1,L1,M1,e1,r1,n1,h1⟩=>⟨by rw[<-n1.length];exact h1.1,λp hp=>?_⟩⟩;exact kg e1 r1 hp (p_ r1 hp n1) h1.2
def ng(h:JA X R es t):JE X R (.List es pos) (QR t):=.of (GJ h) λσ H G L ρ M q x rl n h hx=>by refine⟨G,L,ρ,M,_,x,rl,n,h,hx,fun v H1 ⟨d1,G1,L1,M1,e1,r1,n1,h1⟩=>⟨by rw[<-n1.length];exact h1.1,λp hp=>?_⟩⟩;exact kg e1 r1 hp (qb r1 hp n1) h1.2
def vt(h:JA X R es t):JE X R (.List es pos) (Ls t):=.of (GJ h) λσ H G L ρ M q x rl n h hx=>by refine⟨G,L,ρ,M,_,x,rl,n,h,hx,fun v H1 ⟨d1,G1,L1,M1,e1,r1,n1,h1⟩=>⟨by rw[<-n1.length];exact h1.1,λp hp=>?_⟩⟩;exact gE e1 r1 hp n1 h1.2
def lZ(t:DE):DT:=λρ M q x=>t ρ M (λd M1=>match d with
 | .bl b=>q b M1
 | _=>False) x
def RF(t u:DT):DT:=λρ M q x=>t ρ M (λc M1=>(c=true->u ρ M1 q x)/\(c=false->q false M1)) x
def WT(t u:DT):DT:=λρ M q x=>t ρ M (λc M1=>(c=true->q true M1)/\(c=false->u ρ M1 q x)) x
def R4(t:DT):DT:=λρ M q x=>t ρ M (λc M1=>q (!c) M1) x
def NU{K:fI}{t:DE}{σ:St}{H G:Hp}{L:List Addr}{ρ:En}{M:Ms}{q:Bool->Ms->Prop}{x:DX}(rl:Rl K G L M H)(n:kG K G L ρ σ)(h:lZ t ρ M q x)(hx:sM K G L H R x):tB (yS K R t) σ H (tJ K G L H q):=by
 refine⟨G,L,ρ,M,_,x,rl,n,h,hx,λv H1 xz=>?_⟩;have⟨d1,G1,L1,M1,e1,r1,n1,h1⟩:=xz
 (try dsimp only at h1)
 split at h1
 ·rename_i b;exact⟨b,n1,G1,L1,M1,e1,r1,h1⟩
 ·exact h1.elim
def fY{e:Expr}{t:DE}(h:JE X R e t)(he:∀whole,isTrue e X.env whole=(do let v<-whole;standAt e.pos;holding [v] (truthy v)):=by intro _;rfl):JT X R e (lZ t):=
 .of (Oq h he) λσ H G L ρ M q x rl n h hx=>NU rl n h hx
def f_{op:CmpOp}{r:R2}{f:Dt->Dt->Ms->DQ->Prop}(ho:jN X (compareOp op) r)(od:oV X.K r f)(ja:JE X R a ta)(jb:JE X R b tb)(hm:behindInMarks op b=false):JT X R (.Compare a [op] [b] pos) (lZ (kj f ta tb)):=
 .of (IY ho ja jb hm) λσ H G L ρ M q x rl n h hx=>by
  have h:kj f ta tb ρ M (λd M1=>match d with| .bl b=>q b M1| _=>False) x:=h;refine⟨G,L,ρ,M,_,x,rl,n,h,hx,λv H1 xz=>?_⟩;have⟨d1,G1,L1,M1,e1,r1,n1,h1⟩:=xz;refine⟨G1,L1,ρ,M1,_,x,r1,n.mono e1,h1,hx.on e1,λv2 H2 xz=>?_⟩;have⟨d2,G2,L2,M2,e2,r2,n2,h2⟩:=xz;have:=od G L H G2 L2 M2 H2 v v2 d1 d2 _ (e1.trans e2) r2 (Den.mono e2.g e2.l _ _ n1) n2 h2;have e:(λx H'=>∃k,x=V.bl k/\tJ X.K G L H q k H')=Fin X.K G L H (λd M1=>match d with| .bl b=>q b M1| _=>False):=by
   funext y H'
   apply propext;constructor
   ·rintro⟨k,rfl,G3,L3,M3,e3,r3,h3⟩;exact⟨.bl k,G3,L3,M3,e3,r3,rfl,h3⟩
   ·rintro⟨d,G3,L3,M3,e3,r3,n3,h3⟩;split at h3
    ·rename_i k;exact⟨k,n3,G3,L3,M3,e3,r3,h3⟩
    ·exact h3.elim
  rw[e];exact this
def JW.jt{e:Expr}{t:DT}(h:JW X R e t):JT X R e t:=h _
variable{t1 t2:DT}{rest:List Expr}
def Kz(ha:JT X R a t1):JW X R (.BoolOp .And [a] pos) t1:=pw_and1 ha
def iF(ha:JT X R a t1):JW X R (.BoolOp .Or [a] pos) t1:=pw_or1 ha
def Oh(ha:JT X R a t1)(hb:JW X R (.BoolOp .And (b::rest) pos) t2):JW X R (.BoolOp .And (a::b::rest) pos) (RF t1 t2):=.of (pw_and ha hb) λσ H G L ρ M q x rl n h hx=>by
 refine⟨G,L,ρ,M,_,x,rl,n,h,hx,λc H1 xz=>?_⟩;have⟨G1,L1,M1,e1,r1,h1⟩:=xz;cases c with
 | true=>exact D_ ⟨G1,L1,ρ,M1,_,x,r1,n.mono e1,h1.1 rfl,hx.on e1,λb H2 f=>tJ.back e1 f⟩
 | false=>exact Ds ⟨G1,L1,M1,e1,r1,h1.2 rfl⟩
def jC(ha:JT X R a t1)(hb:JW X R (.BoolOp .Or (b::rest) pos) t2):JW X R (.BoolOp .Or (a::b::rest) pos) (WT t1 t2):=.of (pw_or ha hb) λσ H G L ρ M q x rl n h hx=>by
 refine⟨G,L,ρ,M,_,x,rl,n,h,hx,λc H1 xz=>?_⟩;have⟨G1,L1,M1,e1,r1,h1⟩:=xz;cases c with
 | true=>exact D_ ⟨G1,L1,M1,e1,r1,h1.1 rfl⟩
 | false=>exact Ds ⟨G1,L1,ρ,M1,_,x,r1,n.mono e1,h1.2 rfl,hx.on e1,λb H2 f=>tJ.back e1 f⟩
def sA(ha:JT X R a t1):JT X R (.UnaryOp .Not a pos) (R4 t1):=.of (Nb ha) λσ H G L ρ M q x rl n h hx=>
 ⟨G,L,ρ,M,_,x,rl,n,h,hx,λ_ _ ⟨G,L,M,e,r,h⟩=>⟨G,L,M,e,r,h⟩⟩
def R6(t u:DE):DE:=λρ M q x=>t ρ M (λd M1=>match d with
 | .bl c=>(c=true->u ρ M1 q x)/\(c=false->q (.bl false) M1)
 | _=>False) x
def W2(t:DT)(u v:DE):DE:=λρ M q x=>t ρ M (λc M1=>(c=true->u ρ M1 q x)/\(c=false->v ρ M1 q x)) x
def qh{op}{t:DE}(h:JE X R a t):JE X R (.BoolOp op [a] pos) t:=MV h
def kY(ha:JE X R a ta)(hb:JE X R (.BoolOp .And (b::rest) pos) tb):JE X R (.BoolOp .And (a::b::rest) pos) (R6 ta tb):=.of (OJ ha hb) λσ H G L ρ M q x rl n h hx=>by
 refine⟨G,L,ρ,M,_,x,rl,n,h,hx,λv H1 xz=>?_⟩;have⟨d1,G1,L1,M1,e1,r1,n1,h1⟩:=xz
 (try dsimp only at h1)
 split at h1
 ·rename_i c;refine⟨c,n1,?_⟩;cases c with
  | true=>exact D_ ⟨G1,L1,ρ,M1,_,x,r1,n.mono e1,h1.1 rfl,hx.on e1,λb H2 f=>Fin.back e1 f⟩
  | false=>exact Ds ⟨.bl false,G1,L1,M1,e1,r1,rfl,h1.2 rfl⟩
 ·exact h1.elim
def Cu{c:Expr}(hc:JT X R c t1)(ha:JE X R a ta)(hb:JE X R b tb):JE X R (.IfExp c a b pos) (W2 t1 ta tb):=.of (GO hc ha hb) λσ H G L ρ M q x rl n h hx=>by
 refine⟨G,L,ρ,M,_,x,rl,n,h,hx,λc H1 xz=>?_⟩;have⟨G1,L1,M1,e1,r1,h1⟩:=xz;cases c with
 | true=>exact D_ ⟨G1,L1,ρ,M1,_,x,r1,n.mono e1,h1.1 rfl,hx.on e1,λb H2 f=>Fin.back e1 f⟩
 | false=>exact Ds ⟨G1,L1,ρ,M1,_,x,r1,n.mono e1,h1.2 rfl,hx.on e1,λb H2 f=>Fin.back e1 f⟩
end
def LJ:DS:=λDn ρ M=>Dn.nx ρ M
def Mn(t u:DS):DS:=λDn ρ M=>t {Dn with nx:=u Dn} ρ M
def Xb(c:DT)(t u:DS):DS:=λDn ρ M=>c ρ M (λb M1=>(b=true->t Dn ρ M1)/\(b=false->u Dn ρ M1)) Dn.x
def Om(t:DE):DS:=λDn ρ M=>t ρ M Dn.rt Dn.x
def wq(i:Nat)(t:DE):DS:=λDn ρ M=>t ρ M (λd M1=>Dn.nx (ρ.set i (some d)) M1) Dn.x
def ux(t:DE):DS:=λDn ρ M=>t ρ M (λ_ M1=>Dn.nx ρ M1) Dn.x
def V5(t:DS):DS:=λDn ρ M=>∃J:En->Ms->Prop,t {Dn with nx:=J} ρ M/\∀ρ' M',J ρ' M'->Dn.nx ρ' M'
section
variable{X:Cx}{R:St->XK}{st:Stmt}{rest:List Stmt}{t u:DS}{e:Expr}{te:DE}{pos:Pos}
def Ξ:CH X R [] LJ:=.of JL λσ H G L ρ M Dn rl n h hx=>⟨ρ,G,L,M,.refl _ _ _,rl,n,h⟩
def μ(h1:JS X R st t):CH X R [st] t:=Kb h1
def ζ(h1:JS X R st t)(h2:CH X R rest u):CH X R (st::rest) (Mn t u):=.of (Fx h1 h2) λσ H G L ρ M Dn rl n h hx=>by refine⟨G,L,ρ,M,_,rl,n,h,hx,⟨λσ1 H1 xz=>?_,λ_ _ f=>f,λ_ _ f=>f,λ_ _ f=>f⟩⟩;have⟨ρ1,G1,L1,M1,e1,r1,n1,h1⟩:=xz;exact⟨G1,L1,ρ1,M1,Dn,r1,n1,h1,hx.on e1,sR.back e1⟩
def y3:JS X R (.Continue pos) (λDn ρ M=>Dn.ct ρ M):=.of zd λσ H G L ρ M Dn rl n h hx=>⟨ρ,G,L,M,.refl _ _ _,rl,n,h⟩
def Δ(he:JE X R e te):JS X R (.Return (some e) pos) (Om te):=.of (L9 he) λσ H G L ρ M Dn rl n h hx=>⟨G,L,ρ,M,_,_,rl,n,h,hx,λ_ _ f=>f⟩
def dX(he:JE X R e te)(hs:swapsWith e none pos.line X.env=pure false:=by rfl):JS X R (.Expr e pos) (ux te):=.of (JB he hs) λσ H G L ρ M Dn rl n h hx=>by refine⟨G,L,ρ,M,_,_,rl,n,h,hx,λv H1 ⟨d1,G1,L1,M1,e1,r1,n1,h1⟩=>⟨ρ,G1,L1,M1,e1,r1,n.mono e1,h1⟩⟩
def aI{c:Expr}{a b:List Stmt}{tc:DT}(hc:JT X R c tc)(ha:CH X R a t)(hb:CH X R b u):JS X R (.If c a b pos) (Xb tc t u):=.of (PF hc ha hb) λσ H G L ρ M Dn rl n h hx=>by
 refine⟨G,L,ρ,M,_,_,rl,n,h,hx,λc H1 xz=>?_⟩;have⟨G1,L1,M1,e1,r1,h1⟩:=xz;cases c with
 | true=>exact D_ ⟨G1,L1,ρ,M1,Dn,r1,n.mono e1,h1.1 rfl,hx.on e1,sR.back e1⟩
 | false=>exact Ds ⟨G1,L1,ρ,M1,Dn,r1,n.mono e1,h1.2 rfl,hx.on e1,sR.back e1⟩
def Β(i:Nat){x:Str}{pos':Pos}(hN:X.N.Nodup)(he:JE X R e te)(hi:X.N[i]? =some x:=by rfl)(hx:Loc X.env.scope x:=by first| exact .inl rfl| exact .inr rfl)(hs:swapsWith e (some (.Name x pos')) pos.line X.env=pure false:=by rfl)(hf:X.fn x=true\/X.env.scope.names.lookup x=some .local:=by first| exact .inl rfl| exact .inr rfl| assumption):
  JS X R (.Assign [.Name x pos'] e pos) (wq i te):=.of (Mv hN hi hx he hs hf) λσ H G L ρ M Dn rl n h hx=>by
 refine⟨G,L,ρ,M,_,_,rl,n,h,hx,λv H1 ⟨d1,G1,L1,M1,e1,r1,n1,h1⟩=>⟨_,G1,L1,M1,e1,r1,(n.mono e1).set i n1,h1⟩⟩
def jK(h:JS X R st t):JS X R st (V5 t):=.of h λσ H G L ρ M Dn rl n h hx=>by have⟨J,h1,h2⟩:=h;refine⟨G,L,ρ,M,_,rl,n,h1,hx,⟨λσ1 H1 ⟨ρ1,G1,L1,M1,e1,r1,n1,h1⟩=>⟨ρ1,G1,L1,M1,e1,r1,n1,h2 _ _ h1⟩,λ_ _ f=>f,λ_ _ f=>f,λ_ _ f=>f⟩⟩
end
abbrev XR:=Addr->List (Str×Dt)->Ms->Prop
abbrev DF:=List Dt->Ms->DQ->XR->Prop
inductive cP(K:fI)(T:DF)(vs:List V)(H:Hp)(Q:VK)(E:XK):Prop
 | mk (G:Hp) (L:List Addr) (ds:List Dt) (M:Ms) (q:DQ) (x:XR) (r:Rl K G L M H) (n:Λ K G L ds vs) (h:T ds M q x) (hQ:∀v H1,Fin K G L H q v H1->Q v H1) (hE:∀C fs M1 G1 L1 H1 od,x C fs M1->Ex G L H G1 L1 H1->Rl K G1 L1 M1 H1->RP K G1 L1 H1 fs od->E (.ref C) od H1)
def nL(N:List Str)(ds:List Dt):En:=ds.map some++List.replicate (N.length - ds.length) none
def Ho{K:fI}{G:Hp}{L:List Addr}{N:List Str}{ds:List Dt}{vs:List V}(h:Λ K G L ds vs):kG K G L (nL N ds) (start N vs):=by
 have hl:=h.length;refine⟨by unfold nL start;simp[hl],λi d e=>?_⟩;unfold nL at e;unfold start;by_cases hi:i < ds.length
 ·rw[List.getElem?_append_left (by simpa using hi),List.getElem?_map]at e;rw[List.getElem?_append_left (by simpa [<-hl] using hi),List.getElem?_map];cases q:ds[i]? with
  | none=>rw[q]at e;cases e
  | some d'=>
   rw[q]at e;cases e;have⟨v,e1,h1⟩:=h.get q;exact⟨v,by rw[e1];rfl,h1⟩
 ·rw[List.getElem?_append_right (by simpa using Nat.le_of_not_lt hi),List.getElem?_replicate]at e;split at e <;> cases e
section
variable{P:Program}{w:World}{K:fI}{mg:Str->Option Value}{base:Heap}
def cQ.eB{x qual:Str}{st:Stmt}{f:Addr}{fd:FuncData}{N ps:List Str}{k:Nat}{T:DF}(F:cQ K x qual st f fd)(S:Γ N ps (τ st))(len:∀ds M q x,T ds M q x->ds.length=ps.length)
  (xT:∀(bw:Value) (A:Around) (outer:List Env) (s:Shared) (H:Hp) (E:XK),bU k (A.deeper (envOfC qual (τ st) s.heap.objs.size f bw))->
   ∃t,CH (wW (ck P w) P w K mg base N qual (τ st) f bw A outer s H E) (λ_=>E) (gB st) t/\∀ds M q x,T ds M q x->t {nx:=λ_ M'=>q .aJ M',rt:=q,x:=λ_=>x} (nL N ds) M):
  av P w K mg base (ck P w) (k+1) f fd ps (cP K T):=by
 refine F.Zw S (λvs H Q E h=>?_) (λbw A outer s H vs Q E hr h=>?_)
 ·have⟨G,L,ds,M,q,x,rl,n,hT,_⟩:=h;rw[<-n.length];exact len _ _ _ _ hT
 ·have⟨t,j,ht⟩:=xT bw A outer s H E hr;have⟨G,L,ds,M,q,x,rl,n,hT,hQ,hE⟩:=h;refine⟨_,j,G,L,nL N ds,M,_,rl,Ho n,ht ds M q x hT,λσ ρ C fs M' G' L' H' od hx e r _ y=>hE C fs M' G' L' H' od hx e r y,⟨λσ' H' ⟨ρ',G',L',M',e,r,_,h⟩=>hQ _ _ ⟨.aJ,G',L',M',e,r,rfl,h⟩,λv H' f=>hQ v H' f,λ_ _ ⟨_,_,_,_,_,_,_,h⟩=>h.elim,λ_ _ ⟨_,_,_,_,_,_,_,h⟩=>h.elim⟩⟩
structure aC(P:Program)(w:World)(K:fI)(mg:Str->Option Value)(base:Heap)(k:Nat)(x:Str)(ps:List Str)(T:DF)(f:Addr)(fd:FuncData):Prop where
 ok:av P w K mg base (ck P w) k f fd ps (cP K T)
 b:i6 K fd ps []
 m:mg x=some (.ref f)
 kp:PySem.W.keepIn K (.ref f)=true
end
def HZ(T:DF)(t:DA):DE:=λρ M q x=>t ρ M (λds M1=>T ds M1 q (λC fs M'=>x ρ C fs M')) x
section
variable{X:Cx}{R:St->XK}{T:DF}{k k':Nat}{f:Addr}{fd:FuncData}{ps:List Str}{x:Str}{p pos:Pos}{e:Expr}{es:List Expr}{t:DA}
def Φ(C:aC X.prog X.w X.K X.mg X.base k x ps T f fd)(hr:bU k' X.A)(hx:c9 (ck X.prog X.w) X R)(ha:JA X R (e::es) t)(hk:k<=k':=by decide)(hg:Gl X x:=by rfl)(ub:(x==("__debug__":Str))=false:=by decide)
  (he:starEach (e::es) X.env=(false,eval e X.env)::starEach es X.env:=by rfl) (e6:(backTo pos (starEach es X.env)).any (·.1)=false:=by rfl):JE X R (.Call (.Name x p) (e::es) [] pos) (HZ T t):=
 .of (HY C.ok (hr.mono hk) hg C.m C.kp C.b .nil hx ha ub he e6) λσ H G L ρ M q x rl n h hx=>by refine⟨G,L,ρ,M,_,x,rl,n,h,hx,λvs H1 xz=>?_⟩;have⟨ds,G1,L1,M1,e1,r1,n1,h1⟩:=xz;show cP X.K T (vs++[]) H1 _ _;rw[aaY];exact⟨G1,L1,ds,M1,q,_,r1,n1,h1,λv H' f=>Fin.back e1 f,λC fs M' G' L' H' od hq e' r' y=>hx σ ρ C fs M' G' L' H' od hq (e1.trans e') r' (n.mono (e1.trans e')) y⟩
end
structure Yl(K:fI)(J:It)(xs:List Dt)(G0:Hp)(L0:List Addr):Prop where
 go:∀(i:Nat) G L M H (d:Dt),dq G0 G->Pre L0 L->Rl K G L M H->xs[i]? =some d->J.go i H/\∀v H',J.Qo i H v H'->∃G',Ex G L H G' L H'/\Rl K G' L M H'/\Den K G' L d v
 stop:∀(i:Nat) G L M H,dq G0 G->Pre L0 L->Rl K G L M H->xs.length<=i->J.stop i H
inductive RM(K:fI)(G0:Hp)(L0:List Addr)(H0:Hp)(q:List Dt->Ms->Prop)(J:It)(H:Hp):Prop
 | mk (xs:List Dt) (G:Hp) (L:List Addr) (M:Ms) (e:Ex G0 L0 H0 G L H) (r:Rl K G L M H) (y:Yl K J xs G L) (h:q xs M)
inductive VH(K:fI)(R:St->XK)(t:DA)(σ:St)(H:Hp)(Q:It->Hp->Prop):Prop
 | mk (G:Hp) (L:List Addr) (ρ:En) (M:Ms) (q:List Dt->Ms->Prop) (x:DX) (r:Rl K G L M H) (n:kG K G L ρ σ) (h:t ρ M q x) (hx:sM K G L H R x) (hQ:∀J H1,RM K G L H q J H1->Q J H1)
def JI(X:Cx)(R:St->XK)(tg iter:Expr)(t:DA):Prop:=PI X tg iter (VH X.K R t)
def IT.imp{X:Cx}{δ:List (Addr×Obj)}{σ:St}{tg:Expr}{R R':It->Hp->Prop}(hR:∀J H,R J H->R' J H){v:Value}{s:Shared}(h:IT X δ σ tg R v s):IT X δ σ tg R' v s:=by have⟨it,fp,tn,J,H',a,b,c,d,e,f⟩:=h;exact⟨it,fp,tn,J,H',a,b,c,d,e,hR J H' f⟩
def Cd{K:fI}{G:Hp}{L:List Addr}{a:Addr}{ds:List Dt}{vs:List V}(h:∀G':Hp,dq G G'->fj K G' a vs)(n:Λ K G L ds vs):Yl K (SH K a) ds G L where
 go:=λi G1 L1 M1 H1 d g l r e=>by
  have⟨v,e1,n1⟩:=n.get e;have hs:=h H1 (g.trans r.sub)
  exact⟨⟨vs,v,hs,e1⟩,fun v' H' ⟨eH,y⟩=>by
   subst eH;have e2:=y vs hs;rw[e1]at e2;cases e2
   exact⟨G1,.refl _ _ _,r,Den.mono g l _ _ n1⟩⟩
 stop:=λi G1 L1 M1 H1 g l r e=>⟨vs,h H1 (g.trans r.sub),by rw[<-n.length];exact e⟩
def Fs{K:fI}{G:Hp}{L:List Addr}{a:Addr}{ds:List Dt}{vs:List V}(h:∀G':Hp,dq G G'->mq K G' a vs)(n:Λ K G L ds vs):Yl K (UZ K a) ds G L where
 go:=λi G1 L1 M1 H1 d g l r e=>by
  have⟨v,e1,n1⟩:=n.get e;have hs:=h H1 (g.trans r.sub)
  exact⟨⟨vs,v,hs,e1⟩,fun v' H' ⟨eH,y⟩=>by
   subst eH;have e2:=y vs hs;rw[e1]at e2;cases e2
   exact⟨G1,.refl _ _ _,r,Den.mono g l _ _ n1⟩⟩
 stop:=λi G1 L1 M1 H1 g l r e=>⟨vs,h H1 (g.trans r.sub),by rw[<-n.length];exact e⟩
def cM(lo:Int)(n:Nat):List Dt:=(List.range n).map λk:Nat=>Dt.int (lo+(k:Int))
def HG{K:fI}{G:Hp}{L:List Addr}{lo:Int}{n:Nat}:Yl K (RW lo n) (cM lo n) G L where
 go :=λi G1 L1 M1 H1 d g l r e=>by
  unfold cM at e;rw[aak]at e;have hi:i < n:=by
   cases q:(List.range n)[i]? with
   | none=>rw[q]at e;cases e
   | some j=>
    have:=(aaf.mp q).1;rwa[aa9]at this
  rw[aaO hi]at e;cases e;exact⟨hi,λv' H' ⟨eH,y⟩=>by subst eH y;exact⟨G1,.refl _ _ _,r,rfl⟩⟩
 stop:=λi G1 L1 M1 H1 g l r e=>by show n<=i;unfold cM at e;simpa using e
section
variable{X:Cx}{R:St->XK}{tg iter:Expr}
def JI.of{wi:TI}{t:DA}(h:PI X tg iter wi)(hw:∀σ H G L ρ M q x,Rl X.K G L M H->kG X.K G L ρ σ->t ρ M q x->sM X.K G L H R x->wi σ H (RM X.K G L H q)):JI X R tg iter t:=by intro δ s σ H Q I ⟨G,L,ρ,M,q,x,r,n,ht,hx,hQ⟩;exact bH (h δ s σ H _ I (hw σ H G L ρ M q x r n ht hx)) λu s1 f=>bH f λu2 s2 f2=>IT.imp hQ f2
def Pr(t:DA):DA:=λρ M q x=>t ρ M (λds M1=>match ds with
 | [.int j]=>(-(2 ^ 62)<=j/\j < 2 ^ 62)/\q (cM 0 j.toNat) M1
 | _=>False) x
def cq{a:Expr}{t:DA}{p pos:Pos}(hm:X.mg "range"=none)(ha:JA X R [a] t)(hg:Gl X "range":=by rfl)(hs:starEach [a] X.env=[(false,eval a X.env)]:=by rfl):JI X R tg (.Call (.Name "range" p) [a] [] pos) (Pr t):=
 .of (DU hg hm ha hs) λσ H G L ρ M q x rl n h hx=>by
  refine⟨G,L,ρ,M,_,x,rl,n,h,hx,λvs H1 xz=>?_⟩;have⟨ds,G1,L1,M1,e1,r1,n1,h1⟩:=xz
  (try dsimp only at h1)
  split at h1
  ·rename_i j;have⟨v,rfl,n2⟩:=bF n1;have n2:v= .int j:=n2;subst n2;exact⟨j,rfl,h1.1.1,h1.1.2,_,G1,L1,M1,e1,r1,HG,h1.2⟩
  ·exact h1.elim
def AS(t:DA):DA:=λρ M q x=>t ρ M (λds M1=>match ds with
 | [.int i,.int j]=>(-(2 ^ 62)<=i/\i < 2 ^ 62/\ -(2 ^ 62)<=j/\j < 2 ^ 62)/\q (cM i (j - i).toNat) M1
 | _=>False) x
def t_{a b:Expr}{t:DA}{p pos:Pos}(hm:X.mg "range"=none)(ha:JA X R [a,b] t)(hg:Gl X "range":=by rfl)(hs:starEach [a,b] X.env=[(false,eval a X.env),(false,eval b X.env)]:=by rfl)(N2:starEach [b] X.env=[(false,eval b X.env)]:=by rfl):
  JI X R tg (.Call (.Name "range" p) [a,b] [] pos) (AS t):=
 .of (D8 hg hm ha hs N2) λσ H G L ρ M q x rl n h hx=>by
  refine⟨G,L,ρ,M,_,x,rl,n,h,hx,λvs H1 xz=>?_⟩;have⟨ds,G1,L1,M1,e1,r1,n1,h1⟩:=xz
  (try dsimp only at h1)
  split at h1
  ·rename_i i j;have⟨v,u,rfl,n3,n2⟩:=dM n1;have n3:v= .int i:=n3;have n2:u= .int j:=n2;subst n3 n2;exact⟨i,j,rfl,h1.1,_,G1,L1,M1,e1,r1,HG,h1.2⟩
  ·exact h1.elim
end
def GD(K:fI)(gg:TG)(g:Dt->En->(En->Prop)->Prop):Prop:=
 ∀G L M H d v ρ σ (k:En->Prop) (Q:St->Hp->Prop),Rl K G L M H->Den K G L d v->kG K G L ρ σ->g d ρ k->(∀ρ' σ',kG K G L ρ' σ'->k ρ'->Q σ' H)->gg v σ H Q
def gN(i:Nat):Dt->En->(En->Prop)->Prop:=λd ρ k=>k (ρ.set i (some d))
def aM{K:fI}{i:Nat}:GD K (ij i) (gN i):=λG L M H d v ρ σ k Q rl n en h hQ=>hQ _ _ (en.set i n) h
def g2(i j:Nat):Dt->En->(En->Prop)->Prop:=λd ρ k=>match d with
 | .tup [a,b]=>k ((ρ.set i (some a)).set j (some b))
 | _=>False
def kZ{K:fI}{i j:Nat}:GD K (G7 K 2 (nj (ij i) (nj (ij j) Fc))) (g2 i j):=λG L M H d v ρ σ k Q rl n en h hQ=>by
 unfold g2 at h;split at h
 ·rename_i a b;have⟨p,vs,rfl,e,n⟩:=n;have⟨v1,v2,rfl,n1,n2⟩:=dM n;exact⟨p,_,rfl,.inl (.inl (rl.sub _ _ e)),rfl,v1,_,rfl,v2,_,rfl,rfl,hQ _ _ ((en.set i n1).set j n2) h⟩
 ·exact h.elim
def v8(g:Dt->En->(En->Prop)->Prop)(tb:DS)(Dn:kD):List Dt->En->Ms->Prop
 | [],ρ,M=>Dn.nx ρ M
 | x::xs,ρ,M=>g x ρ λρ'=>tb {Dn with nx:=v8 g tb Dn xs,ct:=v8 g tb Dn xs,bk:=Dn.nx} ρ' M
def QD(ti:DA)(g:Dt->En->(En->Prop)->Prop)(tb:DS):DS:=λDn ρ M=>ti ρ M (λxs M1=>v8 g tb Dn xs ρ M1) Dn.x
section
variable{X:Cx}{R:St->XK}{tg iter:Expr}{body:List Stmt}{ti:DA}{gg:TG}{g:Dt->En->(En->Prop)->Prop}{tb:DS}{pos:Pos}
def rG(hi:JI X R tg iter ti)(hg:PG X tg gg)(gd:GD X.K gg g)(hb:CH X R body tb)(hp:PassesOwn (model X.prog X.w) X.A X.env X.xe:=by first| exact PassesOwn.never| exact PassesOwn.leaving)(hc:X.calm=true:=by rfl)(hs:∀x,foldedSetIterable iter X.env x=pure x:=by intro _;rfl):
  JS X R (.For tg iter body [] pos) (QD ti g tb):=.of (Af hp hc hi hg hb hs) λσ H G L ρ M Dn rl n h hx=>by
 refine⟨G,L,ρ,M,_,_,rl,n,h,hx,λJ H1 xz=>?_⟩;have⟨xs,G1,L1,M1,e1,r1,y,h1⟩:=xz;refine⟨λi m σ' H'=>m+i=xs.length/\d8 X.K G1 L1 H1 (λρ' M'=>v8 g tb Dn (xs.drop i) ρ' M') σ' H',⟨xs.length,rfl,ρ,G1,L1,M1,.refl _ _ _,r1,n.mono e1,by rw[abQ];exact h1⟩,?_⟩;rintro i m σ' H' ⟨hm,ρ',G',L',M',e',r',n',h'⟩;by_cases hi:i < xs.length
 ·right;have hd:xs[i]? =some xs[i]:=aaa hi;have⟨go,yl⟩:=y.go i G' L' M' H' _ e'.g e'.l r' hd;rw[abi hi]at h';refine⟨go,d8 X.K G1 L1 H1 (λρ' M'=>v8 g tb Dn (xs.drop (i+1)) ρ' M'),λσ2 H2 f=>⟨m - 1,(),(),f⟩,λv H2 hy=>?_⟩;have⟨G2,e2,r2,n2⟩:=yl v H2 hy;refine gd G2 L' M' H2 _ v ρ' σ' _ _ r2 n2 (n'.mono e2) h' λρ3 σ3 n3 h3=>?_;refine⟨G2,L',ρ3,M',_,r2,n3,h3,hx.on (e1.trans (e'.trans e2)),⟨λ_ _ f=>d8.back (e'.trans e2) f,λ_ _ f=>Fin.back (e1.trans (e'.trans e2)) f,λ_ _ f=>d8.back (e1.trans (e'.trans e2)) f,λ_ _ f=>d8.back (e'.trans e2) f⟩⟩
 ·left;refine⟨y.stop i G' L' M' H' e'.g e'.l r' (),ρ',G',L',M',e1.trans e',r',n',?_⟩;rw[abR ()]at h';exact h'
end
abbrev DK:=En->Ms->(List Dt->(Ms->Prop)->Ms->Prop)->DX->Prop
structure Nf(K:fI)(J:It)(xs:List Dt)(ok:Ms->Prop)(G0:Hp)(L0:List Addr):Prop where
 go:∀(i:Nat) G L M H (d:Dt),dq G0 G->Pre L0 L->Rl K G L M H->ok M->xs[i]? =some d->J.go i H/\∀v H',J.Qo i H v H'->∃G',Ex G L H G' L H'/\Rl K G' L M H'/\Den K G' L d v
 stop:∀(i:Nat) G L M H,dq G0 G->Pre L0 L->Rl K G L M H->ok M->xs.length<=i->J.stop i H
inductive TB(K:fI)(G0:Hp)(L0:List Addr)(H0:Hp)(q:List Dt->(Ms->Prop)->Ms->Prop)(J:It)(H:Hp):Prop
 | mk (xs:List Dt) (ok:Ms->Prop) (G:Hp) (L:List Addr) (M:Ms) (e:Ex G0 L0 H0 G L H) (r:Rl K G L M H) (y:Nf K J xs ok G L) (h:q xs ok M)
inductive UQ(K:fI)(R:St->XK)(t:DK)(σ:St)(H:Hp)(Q:It->Hp->Prop):Prop
 | mk (G:Hp) (L:List Addr) (ρ:En) (M:Ms) (q:List Dt->(Ms->Prop)->Ms->Prop) (x:DX) (r:Rl K G L M H) (n:kG K G L ρ σ) (h:t ρ M q x) (hx:sM K G L H R x) (hQ:∀J H1,TB K G L H q J H1->Q J H1)
def JK(X:Cx)(R:St->XK)(tg iter:Expr)(t:DK):Prop:=PI X tg iter (UQ X.K R t)
def Vb(t:DA):DK:=λρ M q x=>t ρ M (λxs M1=>q xs (λ_=>True) M1) x
def oY{X:Cx}{R:St->XK}{tg iter:Expr}{t:DA}(h:JI X R tg iter t):JK X R tg iter (Vb t):=by intro δ s σ H Q I ⟨G,L,ρ,M,q,x,r,n,ht,hx,hQ⟩;refine h δ s σ H Q I ⟨G,L,ρ,M,_,x,r,n,ht,hx,λJ H1 ⟨xs,G1,L1,M1,e1,r1,y,hq⟩=>hQ J H1 ⟨xs,_,G1,L1,M1,e1,r1,⟨λi G L M H d g l r _ e=>y.go i G L M H d g l r e,λi G L M H g l r _ e=>y.stop i G L M H g l r e⟩,hq⟩⟩
def nh(Μ:List Nat)(ρ:En):En:=Μ.map λi=>(ρ[i]?).join
def gO(g:Dt->En->(En->Prop)->Prop)(tc:DT)(te:DE)(ρ0:En)(ok:Ms->Prop):List Dt->List Dt->Ms->(List Dt->Ms->Prop)->Prop
 | [],acc,M,k=>ok M/\k acc M
 | x::xs,acc,M,k=>ok M/\g x ρ0 λρ'=>tc ρ' M (λb M1=>match b with
  | true=>te ρ' M1 (λd M2=>gO g tc te ρ0 ok xs (acc++[d]) M2 k) jh
  | false=>gO g tc te ρ0 ok xs acc M1 k) jh
def FP(n:Nat)(ti:DK)(g:Dt->En->(En->Prop)->Prop)(tc:DT)(te:DE)(Μ:List Nat):DE:=λρ M q x=>ti ρ M (λxs ok M1=>xs.length<=sizeLine/\gO g tc te (List.replicate n none++nh Μ ρ) ok xs [] M1 (λys M2=>q (.lst ys) M2)) x
def JP(n:Nat)(ti:DK)(g:Dt->En->(En->Prop)->Prop)(tc:DT)(te:DE)(Μ:List Nat):DE:=λρ M q x=>ti ρ M (λxs ok M1=>xs.length<=sizeLine/\gO g tc te (List.replicate n none++nh Μ ρ) ok xs [] M1 (λys M2=>q (.loc M2.length) (M2++[.lst ys]))) x
def J1{K:fI}{G:Hp}{L:List Addr}{ρ:En}{σ os:St}{n:Nat}(h:kG K G L ρ σ)(Μ:List Nat)(hl:os.length=n):kG K G L (List.replicate n none++nh Μ ρ) (os++oJ Μ σ):=by
 have lc:(nh Μ ρ).length=(oJ Μ σ).length:=by unfold nh oJ;simp
 refine⟨by rw[aah,aah,aaX,hl,lc],λi d' e=>?_⟩;by_cases hi:i < n
 ·rw[aap (by rw[aaX];exact hi),abO,aaw hi]at e;cases e
 ·rw[aax (by rw[aaX];omega),aaX]at e;rw[aax (),hl];unfold nh at e;unfold oJ;rw[aak]at e⊢;cases q:Μ[i - n]? with
  | none=>rw[q]at e;cases e
  | some j=>
   rw[q]at e;have e:(ρ[j]?).join=some d':=aao e;have e:ρ[j]? =some (some d'):=by
    cases z:ρ[j]? with
    | none=>rw[z]at e;cases e
    | some o=>rw[z]at e;exact aaU some e
   have⟨v,hv,dn⟩:=h.gr j d' e;exact⟨v,by show some ((σ[j]?).join)=_;rw[hv];rfl,dn⟩
def xZ{K:fI}{J:It}{gg:TG}{g:Dt->En->(En->Prop)->Prop}{tc:DT}{te:DE}{Μ:List Nat}{nn:Nat}{ρ:En}{σ:St}{G1:Hp}{L1:List Addr}{M1:Ms}{H1:Hp}{xs:List Dt}{ok:Ms->Prop}{Dl:Addr}{Q:VK}{k:List Dt->Ms->Prop}(gd:GD K gg g)(r1:Rl K G1 L1 M1 H1)(n:kG K G1 L1 ρ σ)(y:Nf K J xs ok G1 L1)(hD:H1 Dl=none)(hz:xs.length<=sizeLine)
  (h:gO g tc te (List.replicate nn none++nh Μ ρ) ok xs [] M1 k)
  (fin:∀G2 L2 M2 H2 ds vs,Ex G1 L1 H1 G2 L2 H2->Rl K G2 L2 M2 H2->G2 Dl=none->Dl∉L2->H2 Dl=some (.lst vs)->Λ K G2 L2 ds vs->k ds M2->Q (.ref Dl) H2):
  zT J nn gg (C2 K (λ_=>E0) tc) (yS K (λ_=>E0) te) (oJ Μ σ) Q H1 Dl:=by
 refine⟨λi m ys H2=>m+i=xs.length/\H2 Dl=some (.lst ys)/\∃acc G2 L2 M2,Ex G1 L1 H1 G2 L2 H2/\Rl K G2 L2 M2 H2/\G2 Dl=none/\Dl∉L2/\Λ K G2 L2 acc ys/\acc.length<=i/\gO g tc te (List.replicate nn none++nh Μ ρ) ok (xs.drop i) acc M2 k,⟨xs.length,rfl,aq,[],G1,L1,M1,?_⟩,?_⟩
 ·have gn:G1 Dl=none:=r1.sub.free hD;refine⟨⟨.refl _,.refl _,λ_ h _=>h,λb u h1 _=>by rw[Θ (λz=>by rw[z,hD]at h1;cases h1)];exact h1,λ_ h=>.inl h,λb h=>by rw[Θ (λz=>h (by rw[z];exact hD))];exact h⟩,⟨λb u e=>by rw[Θ (λz=>by rw[z,gn]at e;cases e)];exact r1.sub b u e,r1.len,r1.nd,λi a m h1 h2=>?_⟩,gn,r1.Ra hD,rfl,aai _,by rw[abQ];exact h⟩;have⟨q1,q2⟩:=r1.gr i a m h1 h2;exact⟨q1,q2.mono (.refl _) (.refl _) (Θ λz=>q2.there (by rw[z];exact hD))⟩
 ·rintro i m ys H2 ⟨hm,Dv,acc,G2,L2,M2,e2,r2,g2,l2,n2,la,h2⟩;refine⟨Dv,?_⟩;have ne1:∀{b:Addr} {u:HO},H1 b=some u->b≠Dl:=λe z=>by rw[z,hD]at e;cases e
  by_cases hi:i < xs.length
  ·right;have hd:xs[i]? =some xs[i]:=aaa hi;rw[abi hi]at h2;have⟨aO,h2⟩:=h2;have⟨go,yl⟩:=y.go i G2 L2 M2 H2 _ e2.g e2.l r2 aO hd;refine⟨go,λv H3 hy os ZA=>?_⟩;have⟨G3,e3,r3,n3⟩:=yl v H3 hy;have h3:H3 Dl=some (.lst ys):=e3.out _ _ Dv l2;have g3:G3 Dl=none:=e3.fr _ g2 (by rw[Dv];simp);refine gd G3 L2 M2 H3 _ v _ _ _ _ r3 n3 (J1 ((n.mono e2).mono e3) Μ ZA) h2 λρ' σ' n' h'=>?_;refine⟨G3,L2,ρ',M2,_,jh,r3,n',h',GG,λb H4 xz=>?_⟩;have⟨G4,L4,M4,e4,r4,h4⟩:=xz;have S4:H4 Dl=some (.lst ys):=e4.out _ _ h3 l2;have g4:G4 Dl=none:=e4.fr _ g3 (by rw[h3];simp);have l4:Dl∉L4:=λz=>(e4.new _ z).elim l2 λq=>by rw[h3]at q;cases q
   have Se:=e3.trans e4;cases b with
   | false=>
    exact⟨m - 1,(),(),S4,acc,G4,L4,M4,e2.trans Se,r4,g4,l4,Λ.mono Se.g Se.l _ _ n2,(),h4⟩
   | true=>
    refine⟨G4,L4,ρ',M4,_,jh,r4,n'.mono e4,h4,GG,λv5 H5 xz=>?_⟩;have⟨d5,G5,L5,M5,e5,r5,n5,h5⟩:=xz;have YL:H5 Dl=some (.lst ys):=e5.out _ _ S4 l4;have g5:G5 Dl=none:=e5.fr _ g4 (by rw[S4];simp);have l5:Dl∉L5:=λz=>(e5.new _ z).elim l4 λq=>by rw[S4]at q;cases q
    have VS:=Se.trans e5;have Xh:ys.length=acc.length:=by rw[<-n2.length]
    refine⟨YL,(),m - 1,(),(),aq,acc++[d5],G5,L5,M5,?_,?_,g5,l5,(Λ.mono VS.g VS.l _ _ n2).app ⟨_,_,rfl,n5,rfl⟩,by rw[aah];show acc.length+1<=i+1;omega,h5⟩
    ·have OP:=e2.trans VS
     exact⟨OP.g,OP.l,OP.fr,λb u h1 h2=>by rw[Θ (ne1 h1)];exact OP.out b u h1 h2,OP.new,λb h=>by
      by_cases hb:b=Dl
      ·rw[hb,aq];simp
      ·rw[Θ hb];exact OP.EL b h⟩
    ·refine⟨λb u e=>by rw[Θ (λz=>by rw[z,g5]at e;cases e)];exact r5.sub b u e,r5.len,r5.nd,λi a m h1 h2=>?_⟩;have⟨q1,q2⟩:=r5.gr i a m h1 h2;exact⟨q1,q2.mono (.refl _) (.refl _) (Θ λz=>l5 (by rw[<-z];exact aal h1))⟩
  ·left;rw[abR ()]at h2;exact⟨y.stop i G2 L2 M2 H2 e2.g e2.l r2 h2.1 (),fin G2 L2 M2 H2 acc ys e2 r2 g2 l2 Dv n2 h2.2⟩
section
variable{K:fI}{G1:Hp}{L1:List Addr}{H1 G:Hp}{L:List Addr}{M:Ms}{H:Hp}{p:Addr}{ds:List Dt}{vs:List V}{q:DQ}
def JX(e:Ex G1 L1 H1 G L H)(r:Rl K G L M H)(OW:H1 p=none)(hg:G p=none)(hl:p∉L)(h:H p=some (.lst vs))(n:Λ K G L ds vs)(k:q (.lst ds) M):Fin K G1 L1 H1 q (.ref p) H:=by
 have g1:dq G (upd G p (.lst vs)):=λb u e=>by rw[Θ (λz=>by rw[z,hg]at e;cases e)];exact e
 refine⟨.lst ds,upd G p (.lst vs),L,M,⟨e.g.trans g1,e.l,λb h1 h2=>?_,e.out,e.new,e.EL⟩,⟨λb u e=>?_,r.len,r.nd,λk a m h1 h2=>?_⟩,⟨p,vs,rfl,aq,Λ.mono g1 (.refl _) _ _ n⟩,k⟩
 ·rw[Θ (λz=>h2 (by rw[z];exact OW))];exact e.fr b h1 h2
 ·by_cases hb:b=p
  ·rw[hb,aq]at e;rw[hb];cases e;exact h
  ·rw[Θ hb]at e;exact r.sub b u e
 ·have⟨q1,q2⟩:=r.gr k a m h1 h2;have hb:a≠p:=λz=>hl (by rw[<-z];exact aal h1);exact⟨by rw[Θ hb];exact q1,q2.mono g1 (.refl _) rfl⟩
def Ko(e:Ex G1 L1 H1 G L H)(r:Rl K G L M H)(OW:H1 p=none)(hg:G p=none)(hl:p∉L)(h:H p=some (.lst vs))(n:Λ K G L ds vs)(k:q (.loc M.length) (M++[.lst ds])):Fin K G1 L1 H1 q (.ref p) H:=by
 refine⟨.loc M.length,G,L++[p],M++[.lst ds],⟨e.g,e.l.trans ⟨[p],rfl⟩,e.fr,e.out,λb hb=>?_,e.EL⟩,⟨r.sub,by rw[List.length_append,List.length_append,r.len];rfl,List.nodup_append.mpr ⟨r.nd,by simp,λa ha b hb=>?_⟩,λk a m h1 h2=>?_⟩,⟨p,rfl,by rw[<-r.len,List.getElem?_append_right (Nat.le_refl _)];simp⟩,k⟩
 ·rcases abm.mp hb with z| z
  ·exact e.new b z
  ·have e:b=p:=by simpa using z
   right;rw[e];exact OW
 ·have e:b=p:=by simpa using hb
  rw[e];exactλz=>hl (z▸ha)
 ·by_cases hk:k < L.length
  ·rw[aap hk]at h1;rw[aap (by rw[<-r.len];exact hk)]at h2;have⟨q1,q2⟩:=r.gr k a m h1 h2;exact⟨q1,q2.mono (.refl _) ⟨[p],rfl⟩ rfl⟩
  ·have e:k=L.length:=by have:=(aaf.mp h1).1;rw[aah]at this;simp at this;omega
   rw[e,aax (aai _)]at h1;rw[e,r.len,aax (aai _)]at h2;simp at h1 h2;subst h1 h2;exact⟨hg,vs,h,Λ.mono (.refl _) ⟨[p],rfl⟩ _ _ n⟩
def R_(b:Bool)(q:DQ)(ys:List Dt)(M:Ms):Prop:=match b with
 | false=>q (.lst ys) M
 | true=>q (.loc M.length) (M++[.lst ys])
def Cw{b:Bool}(e:Ex G1 L1 H1 G L H)(r:Rl K G L M H)(OW:H1 p=none)(hg:G p=none)(hl:p∉L)(h:H p=some (.lst vs))(n:Λ K G L ds vs)(k:R_ b q ds M):Fin K G1 L1 H1 q (.ref p) H:=by
 cases b
 ·exact JX e r OW hg hl h n k
 ·exact Ko e r OW hg hl h n k
end
def c_{n i:Nat}(h:i < n):uV n (ij i):=λv os cs H Q hl hq=>⟨⟨os.set i (some v),by rw[aa3];exact hl,abJ _ _ ()⟩,hq⟩
def oy{K:fI}{n i j:Nat}(h:i < n)(h':j < n):uV n (G7 K 2 (nj (ij i) (nj (ij j) Fc))):=
 fun v os cs H Q hl ⟨a,xs,e,s,l,v1,r,e1,v2,r2,e2,e3,q⟩=>⟨a,xs,e,s,l,v1,r,e1,v2,r2,e2,e3,⟨(os.set i (some v1)).set j (some v2),by simp[hl],by
  rw[abJ _ _ (),abJ _ _ (by rw[aa3];omega)]⟩,q⟩
section
variable{X:Cx}{elt iter tg:Expr}{xs:List Str}{scope:Scope}{pos:Pos}{ys:List Str}{Μ:List Nat}
def dN{i:Nat}{x:Str}{px:Pos}(S:ag X scope xs ys Μ)(h:xs[i]? =some x)(C:Addr)(s:Shared)(H:Hp)(fp:List Addr):PG (Cx.comp X (xs++ys) scope C s H fp) (.Name x px) (ij i):=by
 have hm:x∈xs:=aal h;have hi:(xs++ys)[i]? =some x:=by rw[aap (aaf.mp h).1];exact h
 exact ay S.nd hi (.inl (lookup_relabel_local (S.own x hm))) (.inr (lookup_relabel_local (S.own x hm)))
def u6{x y:Str}{px py:Pos}{k:Nat}(hc:X.calm=true)(S:ag X scope [x,y] ys Μ)(C:Addr)(s:Shared)(H:Hp)(fp:List Addr):PG (Cx.comp X ([x,y]++ys) scope C s H fp) (.Tuple [.Name x px,.Name y py] k pos) (G7 X.K 2 (nj (ij 0) (nj (ij 1) Fc))):=
 lD (X:=Cx.comp X ([x,y]++ys) scope C s H fp) hc (bD (dN S (i:=0) rfl C s H fp) (bD (dN S (i:=1) rfl C s H fp) iR))
end
def sF:DT:=λ_ M q _=>q true M
def Vo(X:Cx)(cs:List Expr)(t:DT):Prop:=Tb X cs (C2 X.K (λ_=>E0) t)
def gQ{X:Cx}:Vo X [] sF:=⟨.inl rfl,λδ s σ H Q I ⟨G,L,ρ,M,q,x,r,n,h,hx,hQ⟩=>aa5 ⟨H,I,hQ true H ⟨G,L,M,.refl _ _ _,r,h⟩⟩⟩
def Ct{X:Cx}{c:Expr}{t:DT}(h:JT X (λ_=>E0) c t):Vo X [c] t:=⟨.inr ⟨c,rfl⟩,h⟩
def Lk(b:Bool)(g:Dt->En->(En->Prop)->Prop)(tc:DT)(te:DE)(cs:En)(q:DQ):List Dt->(Ms->Prop)->Ms->Prop:=λzs ok M1=>zs.length<=sizeLine/\gO g tc te cs ok zs [] M1 (R_ b q)
section
variable{X:Cx}{R:St->XK}{elt iter tg:Expr}{cs:List Expr}{xs:List Str}{scope:Scope}{pos:Pos}{gg:TG}{g:Dt->En->(En->Prop)->Prop}{ti:DK}{tc:DT}{te:DE}{ys:List Str}{Μ:List Nat}(b:Bool)(S:ag X scope xs ys Μ)(hi:JK X R tg iter ti)(hg:∀C s H fp,PG (Cx.comp X (xs++ys) scope C s H fp) tg gg)(gd:GD X.K gg g)(hk:uV xs.length gg)(ht:∀C s H fp,Vo (Cx.comp X (xs++ys) scope C s H fp) cs tc)(he:∀C s H fp,JE (Cx.comp X (xs++ys) scope C s H fp) (λ_=>E0) elt te)(hc:X.calm=true)(hs:∀x,foldedSetIterable iter X.env x=pure x)
include S hi hg gd hk ht he hc hs
def QS{t:DE}(e:∀ρ M q x,t ρ M q x->ti ρ M (Lk b g tc te (List.replicate xs.length none++nh Μ ρ) q) x):JE X R (.ListComp elt [⟨tg,iter,cs,0⟩] scope pos) t:=
 .of (FO (tc:=C2 X.K (λ_=>E0) tc) (te:=yS X.K (λ_=>E0) te) S hc hi hg hk ht he hs) λσ H G L ρ M q x rl n h hx=>⟨G,L,ρ,M,_,x,rl,n,e _ _ _ _ h,hx,λJ H1 ⟨xs,ok,G1,L1,M1,e1,r1,y,hz,h1⟩ D hD=>xZ gd r1 (n.mono e1) y hD hz h1 λG2 L2 M2 H2 ds vs e2 r2 g2 l2 h2 n2 k=>Fin.back e1 (Cw e2 r2 hD g2 l2 h2 n2 k)⟩
def P1{i:Nat}{y:Str}{py h7:Pos}(hN:X.N.Nodup)(Dw:X.N[i]? =some y)(hy:Loc X.env.scope y)(Dy:swapsWith (.ListComp elt [⟨tg,iter,cs,0⟩] scope pos) (some (.Name y py)) h7.line X.env=pure true)(hf:X.fn y=true\/X.env.scope.names.lookup y=some .local){t:DE}(e:∀ρ M q x,t ρ M q x->ti ρ M (Lk b g tc te (List.replicate xs.length none++nh Μ ρ) q) x):
  JS X R (.Assign [.Name y py] (.ListComp elt [⟨tg,iter,cs,0⟩] scope pos) h7) (wq i t):=.of (yg (tc:=C2 X.K (λ_=>E0) tc) (te:=yS X.K (λ_=>E0) te) hN Dw hy S hc hi hg hk ht he Dy hs hf) λσ H G L ρ M Dn rl n h hx=>by
 refine⟨G,L,ρ,M,_,_,rl,n,e _ _ _ _ h,hx,fun J H1 ⟨xs,ok,G1,L1,M1,e1,r1,y,hz,h1⟩ D hD=>xZ gd r1 (n.mono e1) y hD hz h1 λG2 L2 M2 H2 ds vs e2 r2 g2 l2 h2 n2 k=>?_⟩;have⟨d,G3,L3,M3,e3,r3,n3,h3⟩:=Cw (q:=λd M=>Dn.nx (ρ.set i (some d)) M) e2 r2 hD g2 l2 h2 n2 k;exact⟨_,G3,L3,M3,e1.trans e3,r3,((n.mono e1).mono e3).set i n3,h3⟩
end
def yb(te:DE)(cs:En):List Dt->List Dt->Ms->(List Dt->Ms->Prop)->Prop
 | [],acc,M,k=>k acc M
 | x::xs,acc,M,k=>te (some x::cs) M (λd M1=>yb te cs xs (acc++[d]) M1 k) jh
def uF(ti:DA)(te:DE)(Μ:List Nat):DE:=λρ M q x=>ti ρ M (λxs M1=>xs.length<=sizeLine/\yb te (nh Μ ρ) xs [] M1 (λys M2=>q (.lst ys) M2)) x
def xc{te:DE}{cs:En}:∀xs,yb te cs xs=gO (gN 0) sF te (none::cs) (λ_=>True) xs
 | []=>funext λacc=>funext λM=>funext λk=>(true_and _).symm
 | x::xs=>funext λacc=>funext λM=>funext λk=>by show te (some x::cs) M (λd M1=>yb te cs xs (acc++[d]) M1 k) jh=(True/\te (some x::cs) M (λd M1=>gO (gN 0) sF te (none::cs) (λ_=>True) xs (acc++[d]) M1 k) jh);rw[xc xs,true_and]
section
variable{X:Cx}{R:St->XK}{elt iter:Expr}{x:Str}{px:Pos}{scope:Scope}{pos:Pos}{ti:DA}{te:DE}{ys:List Str}{Μ:List Nat}
def Nd(S:ag X scope [x] ys Μ)(hi:JI X R (.Name x px) iter ti)(he:∀C s H fp,JE (Cx.comp X (x::ys) scope C s H fp) (λ_=>E0) elt te)(hc:X.calm=true:=by rfl)(hs:∀x,foldedSetIterable iter X.env x=pure x:=by intro _;rfl):JE X R (.ListComp elt [⟨.Name x px,iter,[],0⟩] scope pos) (uF ti te Μ):=QS false S (oY hi) (dN S (i:=0) rfl) aM (c_ (Nat.zero_lt_succ 0)) (λ_ _ _ _=>gQ) he hc hs λρ M q x h=>by unfold uF at h;simp only[xc]at h;exact h
def Bc{i:Nat}{y:Str}{py h7:Pos}(hN:X.N.Nodup)(Dw:X.N[i]? =some y)(hy:Loc X.env.scope y)(S:ag X scope [x] ys Μ)(hi:JI X R (.Name x px) iter ti)(he:∀C s H fp,JE (Cx.comp X (x::ys) scope C s H fp) (λ_=>E0) elt te)(hc:X.calm=true:=by rfl)(Dy:swapsWith (.ListComp elt [⟨.Name x px,iter,[],0⟩] scope pos) (some (.Name y py)) h7.line X.env=pure true:=by rfl)(hs:∀x,foldedSetIterable iter X.env x=pure x:=by intro _;rfl)(hf:X.fn y=true\/X.env.scope.names.lookup y=some .local:=by first| exact .inl rfl| exact .inr rfl| assumption):JS X R (.Assign [.Name y py] (.ListComp elt [⟨.Name x px,iter,[],0⟩] scope pos) h7) (wq i (uF ti te Μ)):=P1 false S (oY hi) (dN S (i:=0) rfl) aM (c_ (Nat.zero_lt_succ 0)) (λ_ _ _ _=>gQ) he hc hs hN Dw hy Dy hf λρ M q x h=>by unfold uF at h;simp only[xc]at h;exact h
end
def fin_same{K:fI}{G0:Hp}{L0:List Addr}{H0 G:Hp}{L:List Addr}{M:Ms}{H:Hp}{d:Dt}{v:V}{q:DQ}(e:Ex G0 L0 H0 G L H)(r:Rl K G L M H)(n:Den K G L d v)(h:q d M):Fin K G0 L0 H0 q v H:=⟨d,G,L,M,e,r,n,h⟩
def bV{K:fI}{G0:Hp}{L0:List Addr}{H0 G:Hp}{L:List Addr}{M:Ms}{H:Hp}{d:Dt}{v:V}{q:DQ}(e:Ex G0 L0 H0 G L H)(r:Rl K G L M H)(h:q d M)(n:Den K G L d v:=by rfl):Fin K G0 L0 H0 q v H:=⟨d,G,L,M,e,r,n,h⟩
def JM:Dt->Dt->Ms->DQ->Prop
 | .int i,.int j,M,q=>q (.int (i+j)) M
 | .str a,.str b,M,q=>a.length+b.length<=sizeLine/\q (.str (a++b)) M
 | .lst a,.lst b,M,q=>a.length+b.length<=sizeLine/\q (.lst (a++b)) M
 | .tup a,.tup b,M,q=>(a≠[]/\a.length+b.length<=sizeLine)/\q (.tup (a++b)) M
 | _,_,_,_=>False
def AM:Dt->Dt->Ms->DQ->Prop
 | .int i,.int j,M,q=>q (.int (i - j)) M
 | _,_,_,_=>False
def HX:Dt->Dt->Ms->DQ->Prop
 | .int i,.int j,M,q=>(i4 i/\i4 j)/\q (.int (i * j)) M
 | .lst a,.int k,M,q=>(-(2 ^ 63)<=k/\k < 2 ^ 63/\a.length * k.toNat<=sizeLine)/\q (.lst (List.replicate k.toNat a).flatten) M
 | _,_,_,_=>False
def NV:Dt->Dt->Ms->DQ->Prop
 | .int i,.int j,M,q=>(0 < j/\i4 j)/\q (.int (i / j)) M
 | _,_,_,_=>False
def BN:Dt->Dt->Ms->DQ->Prop
 | .int i,.int j,M,q=>(j≠0/\i4 j)/\q (.int (i.fdiv j)) M
 | _,_,_,_=>False
def Md:Dt->Dt->Ms->DQ->Prop
 | .int i,.int j,M,q=>0 < j/\q (.int (i % j)) M
 | _,_,_,_=>False
def MR:Dt->Dt->Ms->DQ->Prop
 | .int i,.int j,M,q=>G6 i j/\q (.int (i ^ j.toNat)) M
 | _,_,_,_=>False
def Oa:Dt->Ms->DQ->Prop
 | .int i,M,q=>q (.int (-i)) M
 | _,_,_=>False
section
variable{K:fI}
def VG:oV K (λx y H Q=>(∃i j,x=V.int i/\y= .int j/\Q (.int (i+j)) H)\/(∃i j,x=V.str i/\y= .str j/\i.length+j.length<=sizeLine/\Q (.str (i++j)) H)\/Nl x y H Q\/LG K x y H Q) JM:=by
 intro G0 L0 H0 G L M H v1 v2 d1 d2 q e r n1 n2 h;unfold JM at h;split at h
 ·rename_i i j;exact .inl ⟨i,j,n1,n2,bV e r h⟩
 ·rename_i a b;exact .inr (.inl ⟨a,b,n1,n2,h.1,bV e r h.2⟩)
 ·rename_i a b;have⟨p1,w1,rfl,e1,m1⟩:=n1;have⟨p2,w2,rfl,e2,m2⟩:=n2;refine .inr (.inr (.inl ⟨p1,p2,w1,w2,rfl,rfl,r.sub _ _ e1,r.sub _ _ e2,by rw[<-m1.length,<-m2.length];exact h.1,λp hp=>?_⟩));exact kg e r hp (qb r hp (m1.app m2)) h.2
 ·rename_i a b;have⟨p1,w1,rfl,e1,m1⟩:=n1;have⟨p2,w2,rfl,e2,m2⟩:=n2;have ne:w1≠[]:=λz=>h.1.1 (by have:=m1.length;rw[z]at this;exact List.eq_nil_of_length_eq_zero this);refine .inr (.inr (.inr ⟨p1,p2,w1,w2,rfl,rfl,.inl (.inl (r.sub _ _ e1)),.inl (.inl (r.sub _ _ e2)),ne,by rw[<-m1.length,<-m2.length];exact h.1.2,λz=>?_,λ_ p hp=>?_⟩))
  ·have hb:b=[]:=by have:=m2.length;rw[z]at this;exact List.eq_nil_of_length_eq_zero this
   subst hb;rw[aaY]at h;exact fin_same (d:=.tup a) e r ⟨p1,w1,rfl,e1,m1⟩ h.2
  ·exact kg e r hp (p_ r hp (m1.app m2)) h.2
 ·exact h.elim
def UL:oV K (Ei λi j=>.int (i - j)) AM:=by
 intro G0 L0 H0 G L M H v1 v2 d1 d2 q e r n1 n2 h;unfold AM at h;split at h
 ·exact⟨_,_,n1,n2,bV e r h⟩
 ·exact h.elim
def Wc:oV K (λx y H Q=>(rI (λi j=>i4 i/\i4 j) λi j=>.int (i * j)) x y H Q\/MD x y H Q) HX:=by
 intro G0 L0 H0 G L M H v1 v2 d1 d2 q e r n1 n2 h;unfold HX at h;split at h
 ·exact .inl ⟨_,_,n1,n2,h.1,bV e r h.2⟩
 ·rename_i a k;have⟨p1,w1,rfl,e1,m1⟩:=n1;refine .inr ⟨p1,k,w1,rfl,n2,r.sub _ _ e1,h.1.1,h.1.2.1,by rw[<-m1.length];exact h.1.2.2,λp hp=>?_⟩;exact kg e r hp (qb r hp (.of (vO m1.pair k.toNat))) h.2
 ·exact h.elim
def U5:oV K (rI (λ_ j=>j≠0/\i4 j) λi j=>.int (i.fdiv j)) NV:=by
 intro G0 L0 H0 G L M H v1 v2 d1 d2 q e r n1 n2 h;unfold NV at h;split at h
 ·rename_i i j;have h0:=h.1.1;refine⟨_,_,n1,n2,⟨(),h.1.2⟩,fin_same (d:=.int (i.fdiv j)) e r rfl ?_⟩;rw[ab3 i (aau h0)];exact h.2
 ·exact h.elim
def Rb:oV K (rI (λ_ j=>j≠0/\i4 j) λi j=>.int (i.fdiv j)) BN:=by
 intro G0 L0 H0 G L M H v1 v2 d1 d2 q e r n1 n2 h;unfold BN at h;split at h
 ·exact⟨_,_,n1,n2,h.1,bV e r h.2⟩
 ·exact h.elim
def T6:oV K (rI (λ_ j=>0 < j) λi j=>.int (i % j)) Md:=by
 intro G0 L0 H0 G L M H v1 v2 d1 d2 q e r n1 n2 h;unfold Md at h;split at h
 ·exact⟨_,_,n1,n2,h.1,bV e r h.2⟩
 ·exact h.elim
def Uz:oV K (rI G6 λi j=>.int (i ^ j.toNat)) MR:=by
 intro G0 L0 H0 G L M H v1 v2 d1 d2 q e r n1 n2 h;unfold MR at h;split at h
 ·exact⟨_,_,n1,n2,h.1,bV e r h.2⟩
 ·exact h.elim
def Wf:VT K (rU λi=>.int (-i)) Oa:=by
 intro G0 L0 H0 G L M H v1 d1 q e r n1 h;unfold Oa at h;split at h
 ·exact⟨_,n1,bV e r h⟩
 ·exact h.elim
end
section
variable{X:Cx}{R:St->XK}{a b c:Expr}{ta tb:DE}{pos:Pos}
def bx(ja:JE X R a ta)(jb:JE X R b tb):JE X R (.BinOp a .Add b pos) (kj JM ta tb):=vj (Nh.or (BD.or (EV.or Jr))) VG ja jb
def eT(ja:JE X R a ta)(jb:JE X R b tb):JE X R (.BinOp a .Sub b pos) (kj AM ta tb):=vj MI UL ja jb
def cW(ja:JE X R a ta)(jb:JE X R b tb):JE X R (.BinOp a .Mult b pos) (kj HX ta tb):=vj (Kn.or HE) Wc ja jb
def o9(ja:JE X R a ta)(jb:JE X R b tb):JE X R (.BinOp a .FloorDiv b pos) (kj NV ta tb):=vj xK U5 ja jb
def Aw(ja:JE X R a ta)(jb:JE X R b tb):JE X R (.BinOp a .FloorDiv b pos) (kj BN ta tb):=vj xK Rb ja jb
def cT(ja:JE X R a ta)(jb:JE X R b tb):JE X R (.BinOp a .Mod b pos) (kj Md ta tb):=vj Oz T6 ja jb
def Gu(ja:JE X R a ta)(jb:JE X R b tb):JE X R (.BinOp a .Pow b pos) (kj MR ta tb):=vj LX Uz ja jb
def La(ja:JE X R a ta):JE X R (.UnaryOp .USub a pos) (Te Oa ta):=Vy Nt Wf ja
end
def Sv:Dt->Dt->Ms->DQ->Prop
 | .int i,.int j,M,q=>q (.bl (decide (i < j))) M
 | _,_,_,_=>False
def SY:Dt->Dt->Ms->DQ->Prop
 | .int i,.int j,M,q=>q (.bl (decide (i<=j))) M
 | _,_,_,_=>False
def VQ:Dt->Dt->Ms->DQ->Prop
 | .int i,.int j,M,q=>q (.bl (decide (j < i))) M
 | _,_,_,_=>False
def VP:Dt->Dt->Ms->DQ->Prop
 | .int i,.int j,M,q=>q (.bl (decide (j<=i))) M
 | _,_,_,_=>False
def ue:Dt->Option V
 | .aJ=>some .aJ
 | .bl b=>some (.bl b)
 | .int i=>some (.int i)
 | .str x=>some (.str x)
 | _=>none
def g9:List Dt->Option (List V)
 | []=>some []
 | d::ds=>match ue d,g9 ds with
  | some v,some vs=>some (v::vs)
  | _,_=>none
section
variable{K:fI}{G:Hp}{L:List Addr}
def m_{d:Dt}{v u:V}(h:ue d=some u)(n:Den K G L d v):v=u/\dZ u=true:=by cases d <;> first| (cases h;exact⟨n,rfl⟩)| cases h
def fF:∀{ds:List Dt} {vs us:List V},g9 ds=some us->Λ K G L ds vs->vs=us/\us.all dZ=true
 | [],vs,us,h,n=>by cases h;exact⟨n,rfl⟩
 | d::ds,_,us,h,⟨v,r,e,n1,n2⟩=>by
  subst e;unfold g9 at h;split at h
  ·rename_i u1 u2 h1 h2;cases h;have⟨a1,a2⟩:=m_ h1 n1;have⟨b1,b2⟩:=fF h2 n2;subst a1 b1;exact⟨rfl,by rw[abG,a2,b2];rfl⟩
  ·cases h
end
def Ks:Dt->Dt->Ms->DQ->Prop
 | .int i,.int j,M,q=>q (.bl (decide (i=j))) M
 | .str i,.str j,M,q=>q (.bl (decide (i=j))) M
 | .bl i,.bl j,M,q=>q (.bl (decide (i=j))) M
 | .tup a,.tup b,M,q=>match g9 a,g9 b with
  | some us,some vs=>q (.bl (lK us vs)) M
  | _,_=>False
 | _,_,_,_=>False
def JZ:Dt->Dt->Ms->DQ->Prop
 | .int i,.int j,M,q=>q (.bl (!decide (i=j))) M
 | .str i,.str j,M,q=>q (.bl (!decide (i=j))) M
 | .bl i,.bl j,M,q=>q (.bl (!decide (i=j))) M
 | .tup a,.tup b,M,q=>match g9 a,g9 b with
  | some us,some vs=>q (.bl (!lK us vs)) M
  | _,_=>False
 | _,_,_,_=>False
def J5:Dt->Dt->Ms->DQ->Prop
 | .aJ,.aJ,M,q=>q (.bl true) M
 | .bl _,.aJ,M,q=>q (.bl false) M
 | .int _,.aJ,M,q=>q (.bl false) M
 | .str _,.aJ,M,q=>q (.bl false) M
 | .tup _,.aJ,M,q=>q (.bl false) M
 | .lst _,.aJ,M,q=>q (.bl false) M
 | _,_,_,_=>False
def uw:Dt->Dt->Ms->DQ->Prop
 | .aJ,.aJ,M,q=>q (.bl false) M
 | .bl _,.aJ,M,q=>q (.bl true) M
 | .int _,.aJ,M,q=>q (.bl true) M
 | .str _,.aJ,M,q=>q (.bl true) M
 | .tup _,.aJ,M,q=>q (.bl true) M
 | .lst _,.aJ,M,q=>q (.bl true) M
 | _,_,_,_=>False
section
variable{K:fI}
def WM:oV K (Ei λi j=>.bl (decide (i < j))) Sv:=by
 intro G0 L0 H0 G L M H v1 v2 d1 d2 q e r n1 n2 h;unfold Sv at h;split at h
 ·exact⟨_,_,n1,n2,bV e r h⟩
 ·exact h.elim
def X3:oV K (Ei λi j=>.bl (decide (i<=j))) SY:=by
 intro G0 L0 H0 G L M H v1 v2 d1 d2 q e r n1 n2 h;unfold SY at h;split at h
 ·exact⟨_,_,n1,n2,bV e r h⟩
 ·exact h.elim
def YU:oV K (Ei λi j=>.bl (decide (j < i))) VQ:=by
 intro G0 L0 H0 G L M H v1 v2 d1 d2 q e r n1 n2 h;unfold VQ at h;split at h
 ·exact⟨_,_,n1,n2,bV e r h⟩
 ·exact h.elim
def geD:oV K (Ei λi j=>.bl (decide (j<=i))) VP:=by
 intro G0 L0 H0 G L M H v1 v2 d1 d2 q e r n1 n2 h;unfold VP at h;split at h
 ·exact⟨_,_,n1,n2,bV e r h⟩
 ·exact h.elim
def j6{p q:Prop} [Decidable p] [Decidable q](h:p↔q):decide p=decide q:=decide_eq_decide.mpr h
def R9:oV K (λx y H Q=>W9 x y H Q\/Rr K x y H Q) Ks:=by
 intro G0 L0 H0 G L M H v1 v2 d1 d2 q e r n1 n2 h;unfold Ks at h;split at h
 ·rename_i i j;cases n1;cases n2;exact .inl ⟨rfl,fin_same (d:=.bl _) e r (by show V.bl _=V.bl _;rw[j6 (p:=V.int i=V.int j) (q:=i=j) ⟨λz=>V.int.inj z,λz=>by rw[z]⟩]) h⟩
 ·rename_i i j;cases n1;cases n2;exact .inl ⟨rfl,fin_same (d:=.bl _) e r (by show V.bl _=V.bl _;rw[j6 (p:=V.str i=V.str j) (q:=i=j) ⟨λz=>V.str.inj z,λz=>by rw[z]⟩]) h⟩
 ·rename_i i j;cases n1;cases n2;exact .inl ⟨rfl,fin_same (d:=.bl _) e r (by show V.bl _=V.bl _;rw[j6 (p:=V.bl i=V.bl j) (q:=i=j) ⟨λz=>V.bl.inj z,λz=>by rw[z]⟩]) h⟩
 ·rename_i a b;have⟨p1,w1,rfl,e1,m1⟩:=n1;have⟨p2,w2,rfl,e2,m2⟩:=n2;split at h
  ·rename_i us vs h1 h2;have⟨rfl,a2⟩:=fF h1 m1;have⟨rfl,b2⟩:=fF h2 m2;exact .inr ⟨p1,p2,_,_,rfl,rfl,.inl (.inl (r.sub _ _ e1)),.inl (.inl (r.sub _ _ e2)),a2,b2,bV e r h⟩
  ·exact h.elim
 ·exact h.elim
def Wb:oV K (λx y H Q=>XU x y H Q\/Pz K x y H Q) JZ:=by
 intro G0 L0 H0 G L M H v1 v2 d1 d2 q e r n1 n2 h;unfold JZ at h;split at h
 ·rename_i i j;cases n1;cases n2;exact .inl ⟨rfl,fin_same (d:=.bl _) e r (by show V.bl _=V.bl _;rw[j6 (p:=V.int i=V.int j) (q:=i=j) ⟨λz=>V.int.inj z,λz=>by rw[z]⟩]) h⟩
 ·rename_i i j;cases n1;cases n2;exact .inl ⟨rfl,fin_same (d:=.bl _) e r (by show V.bl _=V.bl _;rw[j6 (p:=V.str i=V.str j) (q:=i=j) ⟨λz=>V.str.inj z,λz=>by rw[z]⟩]) h⟩
 ·rename_i i j;cases n1;cases n2;exact .inl ⟨rfl,fin_same (d:=.bl _) e r (by show V.bl _=V.bl _;rw[j6 (p:=V.bl i=V.bl j) (q:=i=j) ⟨λz=>V.bl.inj z,λz=>by rw[z]⟩]) h⟩
 ·rename_i a b;have⟨p1,w1,rfl,e1,m1⟩:=n1;have⟨p2,w2,rfl,e2,m2⟩:=n2;split at h
  ·rename_i us vs h1 h2;have⟨rfl,a2⟩:=fF h1 m1;have⟨rfl,b2⟩:=fF h2 m2;exact .inr ⟨p1,p2,_,_,rfl,rfl,.inl (.inl (r.sub _ _ e1)),.inl (.inl (r.sub _ _ e2)),a2,b2,bV e r h⟩
  ·exact h.elim
 ·exact h.elim
def Us:oV K (λx y H Q=>y= .aJ/\Q (.bl (decide (x= .aJ))) H) J5:=by
 intro G0 L0 H0 G L M H v1 v2 d1 d2 q e r n1 n2 h;unfold J5 at h;split at h
 ·cases n1;exact⟨n2,fin_same (d:=.bl true) e r (by show V.bl _=V.bl _;rw[aaB rfl]) h⟩
 ·cases n1;exact⟨n2,fin_same (d:=.bl false) e r (by show V.bl _=V.bl _;rw[aam nofun]) h⟩
 ·cases n1;exact⟨n2,fin_same (d:=.bl false) e r (by show V.bl _=V.bl _;rw[aam nofun]) h⟩
 ·cases n1;exact⟨n2,fin_same (d:=.bl false) e r (by show V.bl _=V.bl _;rw[aam nofun]) h⟩
 ·have⟨p1,w1,rfl,_⟩:=n1;exact⟨n2,fin_same (d:=.bl false) e r (by show V.bl _=V.bl _;rw[aam nofun]) h⟩
 ·have⟨p1,w1,rfl,_⟩:=n1;exact⟨n2,fin_same (d:=.bl false) e r (by show V.bl _=V.bl _;rw[aam nofun]) h⟩
 ·exact h.elim
def LC:oV K (λx y H Q=>y= .aJ/\Q (.bl (!decide (x= .aJ))) H) uw:=by
 intro G0 L0 H0 G L M H v1 v2 d1 d2 q e r n1 n2 h;unfold uw at h;split at h
 ·cases n1;exact⟨n2,fin_same (d:=.bl false) e r (by show V.bl _=V.bl _;rw[aaB rfl];rfl) h⟩
 ·cases n1;exact⟨n2,fin_same (d:=.bl true) e r (by show V.bl _=V.bl _;rw[aam nofun];rfl) h⟩
 ·cases n1;exact⟨n2,fin_same (d:=.bl true) e r (by show V.bl _=V.bl _;rw[aam nofun];rfl) h⟩
 ·cases n1;exact⟨n2,fin_same (d:=.bl true) e r (by show V.bl _=V.bl _;rw[aam nofun];rfl) h⟩
 ·have⟨p1,w1,rfl,_⟩:=n1;exact⟨n2,fin_same (d:=.bl true) e r (by show V.bl _=V.bl _;rw[aam nofun];rfl) h⟩
 ·have⟨p1,w1,rfl,_⟩:=n1;exact⟨n2,fin_same (d:=.bl true) e r (by show V.bl _=V.bl _;rw[aam nofun];rfl) h⟩
 ·exact h.elim
end
section
variable{X:Cx}{R:St->XK}{a b c:Expr}{ta tb:DE}{pos:Pos}
def NW(ja:JE X R a ta)(jb:JE X R b tb):JE X R (.Compare a [.Lt] [b] pos) (kj Sv ta tb):=B' Lp WM ja jb (eD _)
def AZ(ja:JE X R a ta)(jb:JE X R b tb):JE X R (.Compare a [.LtE] [b] pos) (kj SY ta tb):=B' Lz X3 ja jb (eD _)
def Vc{k:Nat}(hr:bU k X.A)(ja:JE X R a ta)(jb:JE X R b tb):JE X R (.Compare a [.Eq] [b] pos) (kj Ks ta tb):=B' (Lq.or (Hg hr.BA)) R9 ja jb (eD _)
def N0(ja:JE X R a ta)(jb:JE X R b tb):JE X R (.Compare a [.IsNot] [b] pos) (kj uw ta tb):=B' BV LC ja jb (eD _)
def mK(ja:JE X R a ta)(jb:JE X R b tb):JT X R (.Compare a [.Lt] [b] pos) (lZ (kj Sv ta tb)):=f_ Lp WM ja jb (eD _)
def Qx(ja:JE X R a ta)(jb:JE X R b tb):JT X R (.Compare a [.LtE] [b] pos) (lZ (kj SY ta tb)):=f_ Lz X3 ja jb (eD _)
def GQ(ja:JE X R a ta)(jb:JE X R b tb):JT X R (.Compare a [.Gt] [b] pos) (lZ (kj VQ ta tb)):=f_ Pm YU ja jb (eD _)
def Li(ja:JE X R a ta)(jb:JE X R b tb):JT X R (.Compare a [.GtE] [b] pos) (lZ (kj VP ta tb)):=f_ Pf geD ja jb (eD _)
def cU{k:Nat}(hr:bU k X.A)(ja:JE X R a ta)(jb:JE X R b tb):JT X R (.Compare a [.Eq] [b] pos) (lZ (kj Ks ta tb)):=f_ (Lq.or (Hg hr.BA)) R9 ja jb (eD _)
def pj{k:Nat}(hr:bU k X.A)(ja:JE X R a ta)(jb:JE X R b tb):JT X R (.Compare a [.NotEq] [b] pos) (lZ (kj JZ ta tb)):=f_ (PJ.or (ME hr.BA)) Wb ja jb (eD _)
def AI(ja:JE X R a ta)(jb:JE X R b tb):JT X R (.Compare a [.Is] [b] pos) (lZ (kj J5 ta tb)):=f_ FI Us ja jb (eD _)
def Cj(ja:JE X R a ta)(jb:JE X R b tb):JT X R (.Compare a [.IsNot] [b] pos) (lZ (kj uw ta tb)):=f_ BV LC ja jb (eD _)
end
def gZ(M:Ms):Dt->Option (List Dt)
 | .lst xs=>some xs
 | .tup xs=>some xs
 | .hW ns=>some (ns.map .int)
 | .kt xs=>some xs
 | .loc k=>match M[k]? with
  | some (.lst xs)=>some xs
  | _=>none
 | _=>none
def pY{K:fI}{G:Hp}{L:List Addr}{M:Ms}{H:Hp}{d:Dt}{v:V}{xs:List Dt}(r:Rl K G L M H)(n:Den K G L d v)(h:gZ M d=some xs):∃a vs,v= .ref a/\(fj K H a vs\/mq K H a vs)/\Λ K G L xs vs:=by
 cases d with
 | lst ds=>cases h;have⟨a,vs,rfl,e,m⟩:=n;exact⟨a,vs,rfl,.inl (.of (r.sub _ _ e)),m⟩
 | tup ds=>cases h;have⟨a,vs,rfl,e,m⟩:=n;exact⟨a,vs,rfl,.inr (.of (r.sub _ _ e)),m⟩
 | kt ds=>cases h;have⟨a,vs,rfl,e,m⟩:=n;exact⟨a,vs,rfl,.inr (r.sub.Qu e),m⟩
 | hW ns=>cases h;have⟨a,rfl,e⟩:=n;exact⟨a,_,rfl,.inl (r.sub.seq e),iy⟩
 | loc k=>
  have⟨a,rfl,e⟩:=n;have h:(match M[k]? with| some (.lst xs)=>some xs| _=>none)=some xs:=h;split at h
  ·rename_i ys hm;cases h;have⟨_,vs,e1,m1⟩:=r.gr k a _ e hm;exact⟨a,vs,rfl,.inl (.of e1),m1⟩
  ·cases h
 | _=>cases h
def KG{K:fI}{G:Hp}{L:List Addr}{ds:List Dt}{vs:List V}{i:Int}{d:Dt}(n:Λ K G L ds vs)(h:jf ds i=some d):∃v,jf vs i=some v/\Den K G L d v:=by
 unfold jf at h⊢;rw[<-n.length];cases q:Gw ds.length i with
 | none=>rw[q]at h;cases h
 | some j=>
  rw[q]at h;have⟨v,e,m⟩:=n.get h;exact⟨v,e,m⟩
def e_:Dt->Dt->Ms->DQ->Prop
 | .str z,.int i,M,q=>z.length<=sizeLine/\match jf z.cps.toList i with
  | some c=>q (.str ⟨#[c]⟩) M
  | none=>False
 | d,.int i,M,q=>match gZ M d with
  | some xs=>(match jf xs i with
   | some y=>q y M
   | none=>False)
  | none=>False
 | _,_,_,_=>False
def lI:List Dt->Ms->DQ->Prop
 | [.str z],M,q=>z.length<=sizeLine/\q (.int z.length) M
 | [d],M,q=>match gZ M d with
  | some xs=>q (.int xs.length) M
  | none=>False
 | _,_,_=>False
section
variable{K:fI}
def Y7:oV K (Xv K) e_:=by
 intro G0 L0 H0 G L M H v1 v2 d1 d2 q e r n1 n2 h;unfold e_ at h;split at h
 ·rename_i z i;split at h
  ·rename_i c hc;exact .inr (.inr ⟨z,i,c,n1,n2,h.1,hc,bV e r h.2⟩)
  ·exact h.2.elim
 ·rename_i d i _;split at h
  ·rename_i xs hx;split at h
   ·rename_i y hy;have⟨a,vs,rfl,hs,m⟩:=pY r n1 hx;have⟨v,e1,m1⟩:=KG m hy;rcases hs with hs| hs
    ·exact .inl ⟨a,vs,i,v,rfl,n2,hs,e1,fin_same e r m1 h⟩
    ·exact .inr (.inl ⟨a,vs,i,v,rfl,n2,hs,e1,fin_same e r m1 h⟩)
   ·exact h.elim
  ·exact h.elim
 ·exact h.elim
def Ur:CN K (λxs H Q=>(∃z,xs=[V.str z]/\z.length<=sizeLine/\Q (.int z.length) H)\/(∃p ys,xs=[V.ref p]/\(fj K H p ys\/mq K H p ys)/\Q (.int ys.length) H)) lI:=by
 intro G0 L0 H0 G L M H vs ds q e r n h;unfold lI at h;split at h
 ·rename_i z;have⟨v,rfl,n1⟩:=bF n;cases n1;exact .inl ⟨z,rfl,h.1,bV e r h.2⟩
 ·rename_i d _;have⟨v,rfl,n1⟩:=bF n;split at h
  ·rename_i xs hx;have⟨a,ws,rfl,hs,m⟩:=pY r n1 hx;exact .inr ⟨a,ws,rfl,hs,fin_same (d:=.int xs.length) e r (by show V.int _=V.int _;rw[m.length]) h⟩
  ·exact h.elim
 ·exact h.elim
end
section
variable{X:Cx}{R:St->XK}{a b c:Expr}{ta tb:DE}{pos:Pos}
def Ρ(ja:JE X R a ta)(jb:JE X R b tb)(hs:wu b:=by exactλ_ _=>rfl):JE X R (.Subscript a b pos) (kj e_ ta tb):=PB NA Y7 ja jb hs
variable{x:Str}{p:Pos}{e:Expr}{es:List Expr}{t:DA}{id T:String}{r:List V->Hp->VK->Prop}{f:List Dt->Ms->DQ->Prop}
def fh(hc:dE X (.builtin id) r)(cd:CN X.K r f)(hm:X.mg x=none)(hv:bootBuiltins x=some (.builtin id))(ha:JA X R (e::es) t)(hg:Gl X x:=by rfl)(hn:x≠"__name__":=by decide)(ub:(x==("__debug__":Str))=false:=by decide)
  (he:starEach (e::es) X.env=(false,eval e X.env)::starEach es X.env:=by rfl) (e6:(backTo pos (starEach es X.env)).any (·.1)=false:=by rfl):JE X R (.Call (.Name x p) (e::es) [] pos) (Ba f t):=
 .of (FC hc hg hm hv ha hn ub he e6) λσ H G L ρ M q x r n h hx=>LU cd r n h hx
def xN(hc:dE X (.type T) r)(cd:CN X.K r f)(hm:X.mg x=none)(hv:bootBuiltins x=some (.type T))(ha:JA X R (e::es) t)(hg:Gl X x:=by rfl)(hn:x≠"__name__":=by decide)(ub:(x==("__debug__":Str))=false:=by decide)
  (he:starEach (e::es) X.env=(false,eval e X.env)::starEach es X.env:=by rfl) (e6:(backTo pos (starEach es X.env)).any (·.1)=false:=by rfl):JE X R (.Call (.Name x p) (e::es) [] pos) (Ba f t):=
 .of (DN hc hg hm hv ha hn ub he e6) λσ H G L ρ M q x r n h hx=>LU cd r n h hx
def fJ(hm:X.mg "len"=none)(ha:JA X R [e] t)(he:starEach [e] X.env=(false,eval e X.env)::starEach [] X.env:=by rfl)(e6:(backTo pos (starEach [] X.env)).any (·.1)=false:=by rfl)(hg:Gl X "len":=by rfl):JE X R (.Call (.Name "len" p) [e] [] pos) (Ba lI t):=
 fh (xg.or wC) Ur hm PySem.boot_len ha hg @_ @_ he e6
end
def NZ:List Dt->Ms->DQ->Prop
 | [.int i],M,q=>q (.int (if i < 0 then -i else i)) M
 | _,_,_=>False
def Kl:List Dt->Ms->DQ->Prop
 | [.int i,.int j],M,q=>q (.int (if j > i then j else i)) M
 | _,_,_=>False
def Jl:List Dt->Ms->DQ->Prop
 | [.int i,.int j],M,q=>q (.int (if j < i then j else i)) M
 | _,_,_=>False
def OA:List Dt->Ms->DQ->Prop
 | [d],M,q=>∃bs:List Bool,gZ M d=some (bs.map Dt.bl)/\(∀k,d≠ .kt k)/\(∀k,d≠ .tup k)/\q (.bl (bs.any id)) M
 | _,_,_=>False
def Lr:Dt->Option Value
 | .aJ=>some (.type "NoneType")
 | .bl _=>some (.type "bool")
 | .int _=>some (.type "int")
 | .str _=>some (.type "str")
 | .lst _=>some (.type "list")
 | .tup _=>some (.type "tuple")
 | _=>none
def Rx:Dt->Option Value
 | .ty T=>some (.type T)
 | .ref C=>some (.ref C)
 | _=>none
section
variable{K:fI}
def uk{G:Hp}{L:List Addr}:∀{l:List Str},Λ K G L (l.map Dt.str) (l.map V.str)
 | []=>rfl
 | _::_=>⟨_,_,rfl,rfl,uk⟩
def m8{G:Hp}{L:List Addr}:∀{bs:List Bool} {vs:List V},Λ K G L (bs.map Dt.bl) vs->vs=bs.map V.bl
 | [],_,h=>h
 | b::bs,_,⟨v,r,e,h1,h2⟩=>by subst e;rw[m8 h2,show v=V.bl b from h1];rfl
def Ue:CN K (λxs H Q=>∃i,xs=[V.int i]/\Q (.int (if i < 0 then -i else i)) H) NZ:=by
 intro G0 L0 H0 G L M H vs ds q e r n h;unfold NZ at h;split at h
 ·rename_i i;have⟨v,rfl,n1⟩:=bF n;cases n1;exact⟨i,rfl,bV e r h⟩
 ·exact h.elim
def WC:CN K (λxs H Q=>∃i j,xs=[V.int i,.int j]/\Q (.int (if j > i then j else i)) H) Kl:=by
 intro G0 L0 H0 G L M H vs ds q e r n h;unfold Kl at h;split at h
 ·rename_i i j;have⟨v,u,rfl,n1,n2⟩:=dM n;cases n1;cases n2;exact⟨i,j,rfl,bV e r h⟩
 ·exact h.elim
def WD:CN K (λxs H Q=>∃i j,xs=[V.int i,.int j]/\Q (.int (if j < i then j else i)) H) Jl:=by
 intro G0 L0 H0 G L M H vs ds q e r n h;unfold Jl at h;split at h
 ·rename_i i j;have⟨v,u,rfl,n1,n2⟩:=dM n;cases n1;cases n2;exact⟨i,j,rfl,bV e r h⟩
 ·exact h.elim
def Ve:CN K (Rf K) OA:=by
 intro G0 L0 H0 G L M H vs ds q e r n h;unfold OA at h;split at h
 ·rename_i d;have⟨bs,hs,nk,nt,h⟩:=h;have⟨v,rfl,n1⟩:=bF n;cases d with
  | lst xs=>
   cases hs;have⟨a,ws,rfl,e1,m⟩:=n1;exact⟨a,bs,rfl,by rw[<-m8 m];exact .of (r.sub _ _ e1),bV e r h⟩
  | loc k=>
   have⟨a,rfl,e1⟩:=n1;have hs:(match M[k]? with| some (.lst xs)=>some xs| _=>none)=some (bs.map Dt.bl):=hs;split at hs
   ·rename_i ys hm;cases hs;have⟨_,ws,e2,m⟩:=r.gr k a _ e1 hm;exact⟨a,bs,rfl,by rw[<-m8 m];exact .of e2,bV e r h⟩
   ·cases hs
  | tup xs=>exact aaE rfl (nt xs)
  | kt xs=>exact aaE rfl (nk xs)
  | hW ns=>
   have e0:ns.map Dt.int=bs.map Dt.bl:=aao hs;cases ns with
   | nil=>
    cases bs with
    | nil=>have⟨a,rfl,e1⟩:=n1;exact⟨a,[],rfl,r.sub.seq e1,bV e r h⟩
    | cons _ _=>cases e0
   | cons _ _=>
    cases bs with
    | nil=>cases e0
    | cons _ _=>cases e0
  | _=>cases hs
 ·exact h.elim
def DW{G:Hp}{L:List Addr}{M:Ms}{H:Hp}{d:Dt}{v:V}{t:Value}(r:Rl K G L M H)(n:Den K G L d v)(h:Lr d=some t):ku K H v t:=by
 cases d with
 | aJ=>cases h;cases n;exact .aJ
 | bl b=>cases h;cases n;exact .bl _
 | int i=>cases h;cases n;exact .int _
 | str x=>cases h;cases n;exact .str _
 | lst xs=>cases h;have⟨a,ws,rfl,e,_⟩:=n;exact .lst (r.sub _ _ e)
 | tup xs=>cases h;have⟨a,ws,rfl,e,_⟩:=n;exact .tup (r.sub _ _ e)
 | _=>cases h
def J3{G:Hp}{L:List Addr}{d:Dt}{v:V}{t:Value}(n:Den K G L d v)(h:Rx d=some t):Js v=some t:=by
 cases d with
 | ty T=>cases n;exact h
 | ref C=>cases n;exact h
 | _=>cases h
end
section
variable{X:Cx}{R:St->XK}{o a e e1 e2:Expr}{es:List Expr}{to ta te:DE}{t:DA}{name:Str}{apos a_ pos p p2:Pos}{T id:String}
def D':bootBuiltins "abs"=some (.builtin "abs"):=by decide+kernel
def C9:bootBuiltins "any"=some (.builtin "any"):=by decide+kernel
def Dp:bootBuiltins "max"=some (.builtin "max"):=by decide+kernel
def El:bootBuiltins "min"=some (.builtin "min"):=by decide+kernel
def oa:bootBuiltins "isinstance"=some (.builtin "isinstance"):=by decide+kernel
def pD:bootBuiltins "tuple"=some (.type "tuple"):=by decide+kernel
def qf:bootBuiltins "list"=some (.type "list"):=by decide+kernel
def Ni{x:Str}{T:String}(hm:X.mg x=none)(hv:bootBuiltins x=some (.type T))(hg:Gl X x:=by rfl)(hn:x≠"__name__":=by decide)(hd:(x==("__debug__":Str))=false:=by decide):JE X R (.Name x p) (dC (.ty T)):=N1 (J7 (v:=.ty T) hg hm hv rfl hn hd) λ_ _=>rfl
def rZ{x:Str}{z:Int}(hm:∃tk,X.mg x=some (.int z tk))(hg:Gl X x:=by rfl)(hd:(x==("__debug__":Str))=false:=by decide):JE X R (.Name x p) (dC (.int z)):=let ⟨tk,hm⟩:=hm;N1 (CJ (v:=.int z) hg hm ⟨tk,rfl⟩ hd) λ_ _=>rfl
end
def Sb(x:Str):It:=⟨λi _=>i < x.cps.size,λi H v H'=>H'=H/\∃c,x.cps[i]? =some c/\v= .str ⟨#[c]⟩,λi _=>x.cps.size<=i⟩
def D4{P:Program}{w:World}{K:fI}{tg:Expr}(x:Str)(t:Tok)(it:Addr):Turn P w K tg (Sb x) [it] it (λi h=>h.IsStrIter it "str_ascii_iterator" x t i) where
 mem:=by simp
 obj:=λi h st b hb=>by
  have e:b=it:=by simpa using hb
  subst e;have⟨o,e,c,d⟩:=st;exact⟨o,e,λv z=>by rw[d]at z;cases z⟩
 keep:=λi h h' st k=>let ⟨o,ho,r⟩:=st;⟨o,k it (by simp) o ho,r⟩
 item:=by intro X hP hw hK hc i δ s σ H E I hf st hg;subst hP hw hK;have⟨f0,f1,f2,f3,f4,f5⟩:=hf it (by simp);have hg:i < x.cps.size:=hg;refine wpAny_pyNext_ascii_item st (c:=x.cps[i]) (by simp[hg]) λh' wb sb=>?_;have I1:Inv X δ σ H {s with heap:=h',toks:=s.toks+1}:=I.turned (λb o hb e=>(sb.2 b hb).trans e) f0 f1 f3 f4 f5;have⟨o,e,c,d⟩:=id wb;exact⟨_,rfl,uN (s:={s with heap:=h',toks:=s.toks+1}) e c d @_ ⟨.str ⟨#[x.cps[i]]⟩,H,I1,⟨_,rfl⟩,⟨rfl,_,by simp[hg],rfl⟩,wb,λb hb=>(hf b hb).1⟩⟩
 done:=by intro X hP hw hK hc i δ s σ H E I hf st hg;subst hP hw hK;have⟨f0,f1,f2,f3,f4,f5⟩:=hf it (by simp);have hg:x.cps.size<=i:=hg;exact wpAny_pyNext_ascii_end (I.ok.hd hc) st (by simp;omega) λh' eb=>⟨rfl,I.turned (t':=s.toks) (λb o hb e=>eb b o hb e) f0 f1 f3 f4 f5⟩
 self:=λ_ _ _ _ _ st h=>wpAny_pyIter_striter_ascii st h
def Du{P:Program}{w:World}{K:fI}{tg:Expr}(x:Str)(t:Tok)(it:Addr):Turn P w K tg (Sb x) [it] it (λi h=>h.IsStrIter it "str_iterator" x t i) where
 mem:=by simp
 obj:=λi h st b hb=>by
  have e:b=it:=by simpa using hb
  subst e;have⟨o,e,c,d⟩:=st;exact⟨o,e,λv z=>by rw[d]at z;cases z⟩
 keep:=λi h h' st k=>let ⟨o,ho,r⟩:=st;⟨o,k it (by simp) o ho,r⟩
 item:=by intro X hP hw hK hc i δ s σ H E I hf st hg;subst hP hw hK;have⟨f0,f1,f2,f3,f4,f5⟩:=hf it (by simp);have hg:i < x.cps.size:=hg;refine wpAny_pyNext_wide_item st (c:=x.cps[i]) (by simp[hg]) λh' wb sb=>?_;have I1:Inv X δ σ H {s with heap:=h',toks:=s.toks+1}:=I.turned (λb o hb e=>(sb.2 b hb).trans e) f0 f1 f3 f4 f5;have⟨o,e,c,d⟩:=id wb;exact⟨_,rfl,uN (s:={s with heap:=h',toks:=s.toks+1}) e c d @_ ⟨.str ⟨#[x.cps[i]]⟩,H,I1,⟨_,rfl⟩,⟨rfl,_,by simp[hg],rfl⟩,wb,λb hb=>(hf b hb).1⟩⟩
 done:=by intro X hP hw hK hc i δ s σ H E I hf st hg;subst hP hw hK;have⟨f0,f1,f2,f3,f4,f5⟩:=hf it (by simp);have hg:x.cps.size<=i:=hg;exact wpAny_pyNext_wide_end (I.ok.hd hc) st (by simp;omega) λh' eb=>⟨rfl,I.turned (t':=s.toks) (λb o hb e=>eb b o hb e) f0 f1 f3 f4 f5⟩
 self:=λ_ _ _ _ _ st h=>wpAny_pyIter_striter_wide st h
def uZ(z:Str):List Dt:=z.cps.toList.map λc=>Dt.str ⟨#[c]⟩
def Oe{K:fI}{G:Hp}{L:List Addr}{z:Str}:Yl K (Sb z) (uZ z) G L where
 go :=λi G1 L1 M1 H1 d g l r e=>by
  unfold uZ at e;rw[aak]at e;cases q:z.cps.toList[i]? with
  | none=>rw[q]at e;cases e
  | some c=>
   rw[q]at e;cases e;have hi:i < z.cps.size:=by have:=(aaf.mp q).1;simpa using this
   refine⟨hi,λv' H' xz=>?_⟩;have⟨eH,c',e',y⟩:=xz;subst eH y;have:c'=c:=by rw[<-Array.getElem?_toList,q]at e';exact(aao e').symm
   subst this;exact⟨G1,.refl _ _ _,r,rfl⟩
 stop:=λi G1 L1 M1 H1 g l r e=>by unfold uZ at e;show z.cps.size<=i;simpa using e
def PC(M:Ms):Dt->Option (List Dt)
 | .lst xs=>some xs
 | .tup xs=>some xs
 | .hW ns=>some (ns.map .int)
 | .kt xs=>some xs
 | .str z=>some (uZ z)
 | _=>none
section
variable{X:Cx}{R:St->XK}{tg e:Expr}{te:DE}
def u_{δ:List (Addr×Obj)}{σ:St}{H:Hp}{s:Shared}{a:Addr}{vs:List V}{Q:It->Hp->Prop}{E:Value->Shared->Prop}(I:Inv X δ σ H s)(hq:fj X.K H a vs)(q:Q (SH X.K a) H):wpAny (model X.prog X.w) X.A (pyIter (.ref a)) (IT X δ σ tg Q) E s:=by
 have⟨its,rv,p,hz⟩:=I.list hq;refine wpAny_pyIter_list p.isList ?_;refine⟨s.heap.objs.size,[s.heap.objs.size],_,_,H,rfl,I.kept (t':=s.toks) λb o e=>aaj _ e,DP a _,⟨_,aaN _ rfl,rfl,rfl⟩,λb hb=>?_,q⟩;have e:b=s.heap.objs.size:=by simpa using hb
 subst e;exact I.z7 (aai _) (I.aO.fresh (aai _))
def Ge{δ:List (Addr×Obj)}{σ:St}{H:Hp}{s:Shared}{a:Addr}{vs:List V}{Q:It->Hp->Prop}{E:Value->Shared->Prop}(I:Inv X δ σ H s)(hq:mq X.K H a vs)(q:Q (UZ X.K a) H):wpAny (model X.prog X.w) X.A (pyIter (.ref a)) (IT X δ σ tg Q) E s:=by
 have⟨its,rv,p,hz⟩:=I.tuple hq;refine wpAny_pyIter_tuple (show s.heap.IsTuple a its.toArray from p) ?_;refine⟨s.heap.objs.size,[s.heap.objs.size],_,_,H,rfl,I.kept (t':=s.toks) λb o e=>aaj _ e,A4 a _,⟨_,aaN _ rfl,rfl,rfl⟩,λb hb=>?_,q⟩;have e:b=s.heap.objs.size:=by simpa using hb
 subst e;exact I.z7 (aai _) (I.aO.fresh (aai _))
def Mi{δ:List (Addr×Obj)}{σ:St}{H:Hp}{s:Shared}{z:Str}{t:Tok}{Q:It->Hp->Prop}{E:Value->Shared->Prop}(I:Inv X δ σ H s)(q:Q (Sb z) H):wpAny (model X.prog X.w) X.A (pyIter (.str z t)) (IT X δ σ tg Q) E s:=by
 have fp:∀b∈[s.heap.objs.size],rj X δ H b:=λb hb=>by
  have e:b=s.heap.objs.size:=by simpa using hb
  subst e;exact I.z7 (aai _) (I.aO.fresh (aai _))
 cases ha:z.cps.all (· < 128)
 ·exact wpAny_pyIter_wide ha ⟨s.heap.objs.size,[s.heap.objs.size],_,_,H,rfl,I.kept (t':=s.toks) λb o e=>aaj _ e,Du z t _,⟨_,aaN _ rfl,rfl,rfl⟩,fp,q⟩
 ·exact wpAny_pyIter_ascii ha ⟨s.heap.objs.size,[s.heap.objs.size],_,_,H,rfl,I.kept (t':=s.toks) λb o e=>aaj _ e,D4 z t _,⟨_,aaN _ rfl,rfl,rfl⟩,fp,q⟩
end
def Nv:DF:=λds _ q _=>∃ns:List Int,ds=[.hW ns]/\ns.length<=63/\∀M',q (.bl true) M'
def yD(K:fI):Sp:=λvs H Q _=>∃(a:Addr) (ns:List Int),vs=[.ref a]/\fj K H a (ns.map V.int)/\ns.length<=63/\∀H',Q (.bl true) H'
def Mx{P:Program}{w:World}{K:fI}{mg:Str->Option Value}{base:Heap}{k:Nat}{f:Addr}{fd:FuncData}{x:Str}(F:av P w K mg base (ck P w) k f fd [x] (cP K Nv)):av P w K mg base Sl k f fd [x] (yD K):=by
 have sp:∀vs H Q E,yD K vs H Q E->cP K Nv vs H Q E0:=by rintro vs H Q E ⟨a,ns,rfl,hS,hl,hQ⟩;refine⟨H,[],[.hW ns],[],λd _=>d= .bl true,λ_ _ _=>False,⟨.refl _,rfl,List.nodup_nil,λk a m h=>by simp at h⟩,⟨_,_,rfl,⟨a,rfl,hS⟩,rfl⟩,⟨ns,rfl,hl,λ_=>rfl⟩,fun v H' ⟨d,G',L',M',_,_,n,e⟩=>?_,λ_ _ _ _ _ _ _ h=>h.elim⟩;subst e;rw[show v=V.bl true from n];exact hQ H'
 refine⟨λvs H Q E h=>F.len vs H Q E0 (sp vs H Q E h),λA outer s H args us vs Q E hr he hb hv h=>codeAny_mono (F.run A outer s H args us vs Q E0 hr he hb hv (sp vs H Q E h)) λr s' hq=>?_⟩;cases r with
 | error e=>
  have⟨_,_,_,_,_,_,_,_,hE⟩:=hq;exact hE.elim
 | ok fl=>cases fl <;> exact hq
def L_(c:DT)(tb:DS):DS:=λDn ρ M=>∃W:Nat->En->Ms->Prop,(∃m,W m ρ M)/\∀m ρ M,W m ρ M->
 c ρ M (λb M1=>(b=true->∃N:En->Ms->Prop,(∀ρ' M',N ρ' M'->∃m',m' < m/\W m' ρ' M')/\tb {Dn with nx:=N,ct:=N,bk:=Dn.nx} ρ M1)/\(b=false->Dn.nx ρ M1)) Dn.x
def UU(i j:Nat)(t:DA):DS:=λDn ρ M=>t ρ M (λds M1=>match ds with
 | [a,b]=>Dn.nx ((ρ.set i (some a)).set j (some b)) M1
 | _=>False) Dn.x
section
variable{X:Cx}{R:St->XK}{c a b:Expr}{body:List Stmt}{tc:DT}{tb:DS}{pos:Pos}
def jT(hc:JT X R c tc)(hb:CH X R body tb)(hp:PassesOwn (model X.prog X.w) X.A X.env X.xe:=by first| exact PassesOwn.never| exact PassesOwn.leaving):JS X R (.While c body [] pos) (L_ tc tb):=.of (Hs hp hc hb) λσ H G L ρ M Dn rl n h hx=>by
 have⟨W,⟨m0,w0⟩,turn⟩:=h;refine⟨λm σ' H'=>d8 X.K G L H (W m) σ' H',⟨m0,ρ,G,L,M,.refl _ _ _,rl,n,w0⟩,λm σ' H' xz=>?_⟩;have⟨ρ',G',L',M',e',r',n',w'⟩:=xz;refine⟨G',L',ρ',M',_,_,r',n',turn m ρ' M' w',hx.on e',λv H1 xz=>?_⟩;have⟨G1,L1,M1,e1,r1,h1⟩:=xz;cases v with
 | true=>
  have⟨N,hN,hb⟩:=h1.1 rfl;refine D_ ⟨d8 X.K G L H N,fun σ2 H2 ⟨ρ2,G2,L2,M2,e2,r2,n2,h2⟩=>?_,?_⟩
  ·have⟨m',hm,w2⟩:=hN ρ2 M2 h2;exact⟨m',hm,ρ2,G2,L2,M2,e2,r2,n2,w2⟩
  ·have P5:=e'.trans e1;exact⟨G1,L1,ρ',M1,_,r1,n'.mono e1,hb,hx.on P5,⟨λ_ _ f=>d8.back P5 f,λ_ _ f=>Fin.back P5 f,λ_ _ f=>d8.back P5 f,λ_ _ f=>d8.back P5 f⟩⟩
 | false=>exact Ds ⟨ρ',G1,L1,M1,e'.trans e1,r1,n'.mono e1,h1.2 rfl⟩
def Mm{i j:Nat}{x y:Str}{t:DA}{px py pt:Pos}{kt k2 MC}(hN:X.N.Nodup)(hi:X.N[i]? =some x)(hj:X.N[j]? =some y)(ha:JA X R [a,b] t)(UJ:i≠j:=by decide)
  (hx:X.env.scope.names.lookup x=some .local:=by rfl) (hy:X.env.scope.names.lookup y=some .local:=by rfl)
  (hw:swappedStores [.Tuple [.Name x px,.Name y py] kt pt] (.Tuple [a,b] k2 MC) X.env=pure (some [x,y]):=by rfl) (hc:X.calm=true:=by rfl)
  (hs:swapsWithSole [.Tuple [.Name x px,.Name y py] kt pt] (.Tuple [a,b] k2 MC) pos.line X.env=pure false:=by rfl):
  JS X R (.Assign [.Tuple [.Name x px,.Name y py] kt pt] (.Tuple [a,b] k2 MC) pos) (UU i j t):=.of (MB hc hN hi hj UJ hx hy ha hw hs) λσ H G L ρ M Dn rl n h hx=>by
 refine⟨G,L,ρ,M,_,_,rl,n,h,hx,λvs H1 xz=>?_⟩;have⟨ds,G1,L1,M1,e1,r1,n1,h1⟩:=xz
 (try dsimp only at h1)
 split at h1
 ·have⟨v,u,rfl,m1,m2⟩:=dM n1;exact⟨v,u,rfl,_,G1,L1,M1,e1,r1,((n.mono e1).set i m1).set j m2,h1⟩
 ·exact h1.elim
end
section
variable{X:Cx}{R:St->XK}{e e2 o:Expr}{es:List Expr}{t:DA}{to ta tb:DE}{a b:Expr}{p pos apos a_:Pos}
def BX(hm:X.mg "abs"=none)(ha:JA X R [e] t)(he:starEach [e] X.env=(false,eval e X.env)::starEach [] X.env:=by rfl)(e6:(backTo pos (starEach [] X.env)).any (·.1)=false:=by rfl)(hg:Gl X "abs":=by rfl):JE X R (.Call (.Name "abs" p) [e] [] pos) (Ba NZ t):=
 fh HP Ue hm D' ha hg @_ @_ he e6
def RJ(hm:X.mg "max"=none)(ha:JA X R [e,e2] t)(hc:X.calm=true:=by rfl)(he:starEach [e,e2] X.env=(false,eval e X.env)::starEach [e2] X.env:=by rfl)(e6:(backTo pos (starEach [e2] X.env)).any (·.1)=false:=by rfl)(hg:Gl X "max":=by rfl):JE X R (.Call (.Name "max" p) [e,e2] [] pos) (Ba Kl t):=
 fh (Ek hc) WC hm Dp ha hg @_ @_ he e6
def QG(hm:X.mg "min"=none)(ha:JA X R [e,e2] t)(hc:X.calm=true:=by rfl)(he:starEach [e,e2] X.env=(false,eval e X.env)::starEach [e2] X.env:=by rfl)(e6:(backTo pos (starEach [e2] X.env)).any (·.1)=false:=by rfl)(hg:Gl X "min":=by rfl):JE X R (.Call (.Name "min" p) [e,e2] [] pos) (Ba Jl t):=
 fh (Eg hc) WD hm El ha hg @_ @_ he e6
def LD(hm:X.mg "any"=none)(ha:JA X R [e] t)(hc:X.calm=true:=by rfl)(he:starEach [e] X.env=(false,eval e X.env)::starEach [] X.env:=by rfl)(e6:(backTo pos (starEach [] X.env)).any (·.1)=false:=by rfl)(hg:Gl X "any":=by rfl):JE X R (.Call (.Name "any" p) [e] [] pos) (Ba OA t):=
 fh (Ig hc) Ve hm C9 ha hg @_ @_ he e6
end
def oE{te:DE}{cs:En}{f:Dt->Dt}{M:Ms}{k:List Dt->Ms->Prop}:∀(xs acc:List Dt),(∀x∈xs,∀q:DQ,q (f x) M->te (some x::cs) M q jh)->k (acc++xs.map f) M->yb te cs xs acc M k
 | [],acc,_,h=>by rw[List.map_nil,aaY]at h;exact h
 | x::xs,acc,ht,h=>ht x List.mem_cons_self _ (oE xs (acc++[f x]) (λy hy=>ht y (List.mem_cons_of_mem _ hy)) (by simpa using h))
def Ε{d y:Dt}{xs:List Dt}{i:Int}{M:Ms}{q:DQ}(hs:gZ M d=some xs)(h:jf xs i=some y)(k:q y M):e_ d (.int i) M q:=by
 cases d with
 | str z=>cases hs
 | _=>
  unfold e_;simp only[hs,h];exact k
def bf{d:Dt}{xs:List Dt}{M:Ms}{q:DQ}(hs:gZ M d=some xs)(k:q (.int xs.length) M):lI [d] M q:=by
 cases d with
 | str z=>cases hs
 | _=>
  unfold lI;simp only[hs];exact k
def cC{α:Type}{x:α}{xs:List α}:jf (x::xs) 0=some x:=az (j:=0) rfl
def EF(bs:List Bool):(List.range bs.length).all (λi=>bs.getD i false)=bs.all id:=by
 induction bs with
 | nil=>rfl
 | cons b bs ih=>
  rw[aaI,abt,abG,List.all_map,abG,<-ih];rfl
def PU(K:fI):List V->Hp->VK->Prop:=λxs H Q=>∃(p:Addr) (bs:List Bool),xs=[.ref p]/\fj K H p (bs.map V.bl)/\Q (.bl (bs.all id)) H
section
variable{X:Cx}
def Hk (hc : X.calm = true) : dE X (.builtin "all") (PU X.K) :=by
  intro δ s σ H xs us Q I r h;obtain⟨p,bs,rfl,hq,q⟩ :=h;obtain⟨u,rfl,r1⟩ :=pE r;cases r1;obtain⟨its,rv,pl,hz⟩ :=I.list hq;have N_ :=xi rv;subst N_;refine call_all_walk (wpAny_pyIter_list pl.isList ?_);have lp : p < s.heap.objs.size :=by obtain⟨o,e,_⟩ :=pl.isList;exact aar e
  refine⟨s.heap.objs.size,_,_,_,_,_,λi =>bs.getD i false,rfl,Walks.list (show X.A.in1.handled = none from I.ok.hd hc) s.heap.objs.size p (aaP lp) (bs.map Value.bool).toArray,⟨⟨_,aaN _ rfl,rfl,rfl⟩,pl.isList.at λo e =>aaj _ e⟩,yU,λh' tk hk =>?_⟩;refine⟨.bl (bs.all id),H,I.kept λb o e =>hk b o (λz =>by have : b = s.heap.objs.size :=(by simpa using z);exact Nat.lt_irrefl _ (this ▸ Heap.lt_size e)) (Heap.get?_push_of_some _ e),?_,q⟩;rw[aaM,aag,EF];rfl
end
def Oi:List Dt->Ms->DQ->Prop
 | [.lst xs],M,q=>∃bs:List Bool,xs=bs.map Dt.bl/\q (.bl (bs.all id)) M
 | _,_,_=>False
def Wm{K:fI}:CN K (PU K) Oi:=by
 intro G0 L0 H0 G L M H vs ds q e r n h;unfold Oi at h;split at h
 ·rename_i xs;have⟨bs,rfl,h⟩:=h;have⟨v,rfl,n1⟩:=bF n;have⟨a,ws,rfl,e1,m⟩:=n1;exact⟨a,bs,rfl,by rw[<-m8 m];exact .of (r.sub _ _ e1),bV e r h⟩
 ·exact h.elim
def Fv(i j:Nat)(t:DE):DS:=λDn ρ M=>t ρ M (λd M1=>match d with
 | .tup [a,b]=>Dn.nx ((ρ.set i (some a)).set j (some b)) M1
 | _=>False) Dn.x
section
variable{X:Cx}{R:St->XK}{e o:Expr}{es:List Expr}{t:DA}{to te:DE}{p pos apos a_:Pos}
def Es:bootBuiltins "all"=some (.builtin "all"):=by decide+kernel
def Lb(hm:X.mg "all"=none)(ha:JA X R [e] t)(hc:X.calm=true:=by rfl)(he:starEach [e] X.env=(false,eval e X.env)::starEach [] X.env:=by rfl)(e6:(backTo pos (starEach [] X.env)).any (·.1)=false:=by rfl)(hg:Gl X "all":=by rfl):JE X R (.Call (.Name "all" p) [e] [] pos) (Ba Oi t):=
 fh (Hk hc) Wm hm Es ha hg @_ @_ he e6
variable{i j k:Nat}{tg:Expr}
def CK(he:JE X R e te)(hg:PG X tg (G7 X.K 2 (nj (ij i) (nj (ij j) Fc))))(hs:swapsWithSole [tg] e pos.line X.env=pure false:=by rfl)(hw:swappedStores [tg] e X.env=pure none:=by rfl)
  (h1:(assignEach [tg] X.env).map (·.2)=[assign tg X.env]:=by rfl):JS X R (.Assign [tg] e pos) (Fv i j te):=.of (FE he hg hs hw h1) λσ H G L ρ M Dn rl n h hx=>by
 refine⟨G,L,ρ,M,_,_,rl,n,h,hx,λv H1 xz=>?_⟩;have⟨d1,G1,L1,M1,e1,r1,n1,h1⟩:=xz
 (try dsimp only at h1)
 split at h1
 ·rename_i a b;have⟨p,vs,rfl,e,m⟩:=n1;have⟨v1,v2,rfl,m1,m2⟩:=dM m;exact⟨p,_,rfl,.inl (.inl (r1.sub _ _ e)),rfl,v1,_,rfl,v2,_,rfl,rfl,_,G1,L1,M1,e1,r1,((n.mono e1).set i m1).set j m2,h1⟩
 ·exact h1.elim
end
mutual
def Dt.under(n:Nat):Dt->Prop
 | .aJ=>True
 | .bl _=>True
 | .int _=>True
 | .str _=>True
 | .tup ds=>Dt.bo n ds
 | .lst ds=>Dt.bo n ds
 | .obj _ _ ds=>Dt.bo n ds
 | .loc k=>k < n
 | .ref _=>True
 | .ty _=>True
 | .hW _=>True
 | .kt ds=>Dt.bo n ds
 | .exc _ _ ds=>Dt.bo n ds
 | .OU _ _ _ _ ds=>Dt.bo n ds
def Dt.bo(n:Nat):List Dt->Prop
 | []=>True
 | d::ds=>Dt.under n d/\Dt.bo n ds
end
def MO.under(n:Nat):MO->Prop
 | .lst ds=>Dt.bo n ds
 | .ins _ _ ds=>Dt.bo n ds
 | .kE _ ds=>Dt.bo n ds
 | .raw _=>True
mutual
inductive BH(n:Nat)(E:Ms):Dt->Dt->Prop
 | old {d:Dt} (h:d.under n):BH n E d d
 | tup {ds es:List Dt} (h:fg n E ds es):BH n E (.tup ds) (.tup es)
 | lst {ds es:List Dt} (h:fg n E ds es):BH n E (.lst ds) (.lst es)
 | obj {C:Addr} {ns:List Str} {ds es:List Dt} (h:fg n E ds es):BH n E (.obj C ns ds) (.obj C ns es)
 | vK {k:Nat} {ds es:List Dt} (hk:n<=k) (e:E[k - n]? =some (.lst ds)) (h:fg n E ds es):BH n E (.loc k) (.lst es)
 | Qa {k:Nat} {C:Addr} {ns:List Str} {ds es:List Dt} (hk:n<=k) (e:E[k - n]? =some (.ins C ns ds)) (h:fg n E ds es):BH n E (.loc k) (.obj C ns es)
inductive fg(n:Nat)(E:Ms):List Dt->List Dt->Prop
 | nil:fg n E [] []
 | cons {d e:Dt} {ds es:List Dt} (h:BH n E d e) (t:fg n E ds es):fg n E (d::ds) (e::es)
end
def fg.length{n:Nat}{E:Ms}:∀{ds es:List Dt},fg n E ds es->ds.length=es.length
 | [],es,h=>by cases h;rfl
 | d::ds,es,h=>by
  cases h with
  | cons h t=>rw[aaI,aaI,fg.length t]
def fg.old{n:Nat}{E:Ms}:∀{ds:List Dt},Dt.bo n ds->fg n E ds ds
 | [],_=>.nil
 | _::_,h=>.cons (.old h.1) (fg.old h.2)
section
variable{K:fI}{G G':Hp}{L0 t:List Addr}{n:Nat}
mutual
def uJ(hn:L0.length=n)(g:dq G G'):∀(d:Dt) (v:V),d.under n->Den K G (L0++t) d v->Den K G' L0 d v
 | .aJ,_,_,h=>h
 | .bl _,_,_,h=>h
 | .int _,_,_,h=>h
 | .str _,_,_,h=>h
 | .tup ds,_,u,⟨a,vs,e,h1,h2⟩=>⟨a,vs,e,g _ _ h1,bI hn g ds vs u h2⟩
 | .lst ds,_,u,⟨a,vs,e,h1,h2⟩=>⟨a,vs,e,g _ _ h1,bI hn g ds vs u h2⟩
 | .obj C ns ds,_,u,⟨a,dx,vs,e,h1,hl,h2⟩=>⟨a,dx,vs,e,g _ _ h1,hl,bI hn g ds vs u h2⟩
 | .loc k,_,u,⟨a,e,h1⟩=>⟨a,e,by
   have u:k < n:=u
   rwa[aap (by rw[hn];exact u)]at h1⟩
 | .ref _,_,_,h=>h
 | .ty _,_,_,h=>h
 | .hW _,_,_,⟨a,e,h1⟩=>⟨a,e,g.seq h1⟩
 | .kt ds,_,u,⟨a,vs,e,h1,h2⟩=>⟨a,vs,e,g.Qu h1,bI hn g ds vs u h2⟩
 | .exc _ _ ds,_,u,⟨a,od,vs,e,h1,h2,h3,h4⟩=>⟨a,od,vs,e,g _ _ h1,h2.imp (λz=>z) (λ⟨dx,z1,z2⟩=>⟨dx,z1,g _ _ z2⟩),h3,bI hn g ds vs u h4⟩
 | .OU _ _ _ _ ds,_,u,⟨vs,e,h2,h3,h4⟩=>⟨vs,e,h2.imp (λz=>z) (λ⟨dx,z1,z2⟩=>⟨dx,z1,g _ _ z2⟩),h3,bI hn g ds vs u h4⟩
def bI(hn:L0.length=n)(g:dq G G'):∀(ds:List Dt) (vs:List V),Dt.bo n ds->Λ K G (L0++t) ds vs->Λ K G' L0 ds vs
 | [],_,_,h=>h
 | d::ds,_,u,⟨v,r,e,h1,h2⟩=>⟨v,r,e,uJ hn g d v u.1 h1,bI hn g ds r u.2 h2⟩
end
def CT{H:Hp}{a:Addr}(hn:L0.length=n)(g:dq G G'){m:MO}(u:m.under n)(h:EN K G (L0++t) H a m):EN K G' L0 H a m:=by
 cases m with
 | lst ds=>have⟨vs,e,h⟩:=h;exact⟨vs,e,bI hn g _ _ u h⟩
 | ins C ns ds=>have⟨dx,vs,e,hl,h⟩:=h;exact⟨dx,vs,e,hl,bI hn g _ _ u h⟩
 | kE ks ds=>have⟨vs,e,hl,h⟩:=h;exact⟨vs,e,hl,bI hn g _ _ u h⟩
 | raw u=>exact h
end
open Classical in
noncomputable def pP(G H:Hp)(t:List Addr):Hp:=λb=>if b∈t then H b else G b
def Ck{G H:Hp}{t:List Addr}{b:Addr}(h:b∈t):pP G H t b=H b:=by unfold pP;rw[if_pos h]
def mY{G H:Hp}{t:List Addr}{b:Addr}(h:b∉t):pP G H t b=G b:=by unfold pP;rw[if_neg h]
section
variable{K:fI}{G:Hp}{L0 t:List Addr}{M0 E:Ms}{H:Hp}
def ia(r:Rl K G (L0++t) (M0++E) H):dq G (pP G H t):=λb u e=>by
 by_cases hb:b∈t
 ·have⟨_,_,_,_,g,_⟩:=r.wX (a:=b) (aaD _ hb);rw[g]at e;cases e
 ·rw[mY hb];exact e
def FQ(r:Rl K G (L0++t) (M0++E) H)(hn:L0.length=M0.length){k:Nat}{a:Addr}{m:MO}(hk:M0.length<=k)(e:(L0++t)[k]? =some a)(em:E[k - M0.length]? =some m):pP G H t a=H a/\EN K G (L0++t) H a m:=by
 have e2:(M0++E)[k]? =some m:=by rw[aax hk];exact em
 have⟨_,q⟩:=r.gr k a m e e2;rw[aax (by rw[hn];exact hk)]at e;exact⟨Ck (aal e),q⟩
def JO(r:Rl K G (L0++t) (M0++E) H)(hn:L0.length=M0.length){d d':Dt}(f:BH M0.length E d d'):∀v,Den K G (L0++t) d v->Den K (pP G H t) L0 d' v:=by
 refine BH.rec (motive_1:=λd d' _=>∀v,Den K G (L0++t) d v->Den K (pP G H t) L0 d' v) (motive_2:=λds es _=>∀vs,Λ K G (L0++t) ds vs->Λ K (pP G H t) L0 es vs) ?_ ?_ ?_ ?_ ?_ ?_ ?_ ?_ f
 ·exactλ{d} u v h=>uJ hn (ia r) d v u h
 ·exactλ{ds es} f ih v ⟨a,vs,e,h1,h2⟩=>⟨a,vs,e,ia r _ _ h1,ih vs h2⟩
 ·exactλ{ds es} f ih v ⟨a,vs,e,h1,h2⟩=>⟨a,vs,e,ia r _ _ h1,ih vs h2⟩
 ·exactλ{C ns ds es} f ih v ⟨a,dx,vs,e,h1,hl,h2⟩=>⟨a,dx,vs,e,ia r _ _ h1,hl.trans f.length,ih vs h2⟩
 ·intro k ds es hk em f ih v ⟨a,e,h1⟩;have⟨o,vs,e1,h2⟩:=FQ r hn hk h1 em;exact⟨a,vs,e,o.trans e1,ih vs h2⟩
 ·intro k C ns ds es hk em f ih v ⟨a,e,h1⟩;have⟨o,dx,vs,e1,hl,h2⟩:=FQ r hn hk h1 em;exact⟨a,dx,vs,e,o.trans e1,hl.trans f.length,ih vs h2⟩
 ·exactλvs h=>h
 ·exactλ{d e ds es} f t ih1 Zf vs ⟨v,r,e,h1,h2⟩=>⟨v,r,e,ih1 v h1,Zf r h2⟩
end
def Tg(n:Nat)(q:DQ):DQ:=λd M=>∃M' E d',M=M'++E/\M'.length=n/\(∀m∈M',MO.under n m)/\BH n E d d'/\q d' M'
def Fin.xD{K:fI}{G0:Hp}{L0:List Addr}{M0:Ms}{H0:Hp}{q:DQ}{v:V}{H:Hp}(r0:Rl K G0 L0 M0 H0)(f:Fin K G0 L0 H0 (Tg M0.length q) v H):Fin K G0 L0 H0 q v H:=by
 have⟨d,G,L,M,ex,r,dn,M',E,d',rfl,hl,hu,fz,hq⟩:=f;have⟨t,rfl⟩:=ex.l;have hn:L0.length=M'.length:=by rw[hl];exact r0.len
 have Xr:∀b,b∈L0->b∉t:=λb h1 h2=>(ab0.mp r.nd).2.2 b h1 b h2 rfl;have sm:=ia r;refine⟨d',pP G H t,L0,M',⟨ex.g.trans sm,.refl _,λb h1 h2=>?_,ex.out,λb h=>.inl h,ex.EL⟩,⟨λb u e=>?_,hn,(ab0.mp r.nd).1,λk a m h1 h2=>?_⟩,JO r hn (hl▸fz) v dn,hq⟩
 ·have hb:b∉t:=λz=>(ex.new b (aaD _ z)).elim (λy=>Xr b y z) h2;rw[mY hb];exact ex.fr b h1 h2
 ·by_cases hb:b∈t
  ·rw[Ck hb]at e;exact e
  ·rw[mY hb]at e;exact r.sub b u e
 ·have k1:k < L0.length:=(aaf.mp h1).1;have e1:(L0++t)[k]? =some a:=by rw[aap k1];exact h1
  have e2:(M'++E)[k]? =some m:=by rw[aap (by rw[<-hn];exact k1)];exact h2
  have⟨g,q⟩:=r.gr k a m e1 e2;exact⟨by rw[mY (Xr a (aal h1))];exact g,CT (n:=M'.length) hn sm (by rw[hl];exact hu m (aal h2)) q⟩
section
variable{X:Cx}{R:St->XK}{e:Expr}{t:DE}
def fT{st:Stmt}:JS X R st (λ_ _ _=>False):=λ_ _ _ _ _ _ ⟨_,_,_,_,_,_,_,h,_,_⟩=>h.elim
end
def HK(C:Addr)(m:Str)(sp:Sp)(p8:List V)(R:St->XK)(ta:TE)(t:TA):TE:=λσ H Q=>ta σ H λx H1=>∃a dx fs,x= .ref a/\H1 a=some (.ins C dx fs)/\fs.lookup m=none/\
 t σ H1 λvs H2=>sp (x::(vs++p8)) H2 Q (R σ)
def Mj(C:Addr)(sp:Sp)(p8:List V)(R:St->XK)(t:TA):TE:=λσ H Q=>t σ H λvs H1=>∀x dx,H1 x=none->H1 dx=none->dx≠x->
 sp (.ref x::(vs++p8)) (upd (upd H1 dx (.own x)) x (.ins C dx [])) (λv H2=>v= .aJ/\Q (.ref x) H2) (R σ)
section
variable{X:Cx}{CX:zC}{k:Nat}{f C:Addr}{fd:FuncData}{ps:List Str}{sp:Sp}{p8:List V}{ds:List Value}{R:St->XK}{x m:Str}{p pos apos:Pos}{e o:Expr}{es:List Expr}{ta:TE}{t:TA}
def Fb{pl:Sem Bool}(he:PE X o ta)(c:CI X.K C)(hm:K2 X.K C m f)(F:av X.prog X.w X.K X.mg X.base CX k f fd ps sp)(hr:bU k X.A)(hb:i6 X.K fd ps ds)(hd:ar p8 ds)(hx:c9 CX X R)(ha:PA X (e::es) t)
  (Oy:starEach (e::es) X.env=(false,eval e X.env)::starEach es X.env:=by rfl) (e6:(backTo pos (starEach es X.env)).any (·.1)=false:=by rfl)
  (ht:eval (.Call (.Attribute o m apos) (e::es) [] pos) X.env=(do
   let ov<-eval o X.env
   standAt apos.atName
   let (f,first)<-holding [ov] (getMethod ov m pl)
   callWith pos f first (backTo pos (starEach (e::es) X.env)) (backToKw pos (keywordEach [] X.env))):=by rfl):
  PE X (.Call (.Attribute o m apos) (e::es) [] pos) (HK C m sp p8 R ta t):=by
 intro δ s σ H Q I h;refine PySem.W.methodCall_KW (pl:=pl) (bH (he δ s σ H _ I h) λu s1 xz=>?_) ht;have⟨x,H1,I1,rx,a,dx,fs,ex,ea,l,q⟩:=xz;subst ex;obtain rfl:u=Value.ref a:=rx;refine qB I1 ea c hm l ?_;refine PySem.W.callWith_K (first:=[.ref a]) (h₀:=X.base) I.ok.mod.O4 hm.kp (bH (ha pos δ s1 σ H1 _ I1 q) fun us s2 ⟨vs,H2,I2,r,q2⟩=>⟨I2.pG,?_⟩) Oy e6;exact wV (us:=.ref a::us) (vs:=.ref a::vs) F hr hb hd hx I2 (.cons rfl r) q2
def Em{pl:Sem Bool}(he:PE X o ta)(c:CI X.K C)(hm:K2 X.K C m f)(F:av X.prog X.w X.K X.mg X.base CX k f fd ps sp)(hr:bU k X.A)(hb:i6 X.K fd ps ds)(hd:ar p8 ds)(hx:c9 CX X R)
  (ht:eval (.Call (.Attribute o m apos) [] [] pos) X.env=(do
   let ov<-eval o X.env
   standAt apos.atName
   let (f,first)<-holding [ov] (getMethod ov m pl)
   callWith pos f first (backTo pos (starEach [] X.env)) (backToKw pos (keywordEach [] X.env))):=by rfl):
  PE X (.Call (.Attribute o m apos) [] [] pos) (HK C m sp p8 R ta O_):=by
 intro δ s σ H Q I h;refine PySem.W.methodCall_KW (pl:=pl) (bH (he δ s σ H _ I h) λu s1 xz=>?_) ht;have⟨x,H1,I1,rx,a,dx,fs,ex,ea,l,q⟩:=xz;subst ex;obtain rfl:u=Value.ref a:=rx;refine qB I1 ea c hm l ?_;exact PySem.W.callWith_K0 (first:=[.ref a]) I1.pG hm.kp (wV (us:=[.ref a]) (vs:=[.ref a]) F hr hb hd hx I1 (.cons rfl .nil) q)
def DB{δ:List (Addr×Obj)}{σ:St}{H:Hp}{s:Shared}{Q:VK}{us:List Value}{vs:List V}(M:Mk X.K C f)(F:av X.prog X.w X.K X.mg X.base CX k f fd ps sp)(hr:bU (k+1) X.A)(hb:i6 X.K fd ps ds)(hd:ar p8 ds)
  (hx:c9 CX X R) (I:Inv X δ σ H s) (r:ar vs us)
  (h:∀x dx,H x=none->H dx=none->dx≠x->sp (.ref x::(vs++p8)) (upd (upd H dx (.own x)) x (.ins C dx [])) (λv H2=>v= .aJ/\Q (.ref x) H2) (R σ)):
  wpAny (model X.prog X.w) X.A (call (.ref C) us) (EP X δ σ Q) X.xe s:=by
 have hq:=h (s.heap.objs.size+1) s.heap.objs.size (I.aO.fresh (Nat.le_succ _)) (I.aO.fresh (aai _)) (aaP (abq _));have I2:=Inv.made (C:=C) I;have r2:ar (V.ref (s.heap.objs.size+1)::(vs++p8)) (Value.ref (s.heap.objs.size+1)::(us++ds)):=.cons rfl (r.append hd);have hl:(Value.ref (s.heap.objs.size+1)::us++ds).length=ps.length:=by have e:=r2.length;rw[F.len _ _ _ _ hq]at e;exact e.symm
 refine wpAny_call (ES (f:=f) I.pG M.makes M.init (aca.mp M.fn) (codeAny_mono (F.run _ X.stack _ _ ⟨Value.ref (s.heap.objs.size+1)::us,[]⟩ (Value.ref (s.heap.objs.size+1)::(us++ds)) _ _ (R σ) (hr.make C us [])
  (I2.RN.make C us []) (hb _ (Value.ref (s.heap.objs.size+1)::us) I2.pG hl) r2 hq) λr s' mj=>?_))
 cases r with
 | error e=>exact hx δ σ _ _ e s' I2 mj
 | ok fl=>
  cases fl with
  | ret u=>
   have⟨v,H',I3,rv,ev,q3⟩:=I2.after mj;subst ev;exact⟨rv,⟨V.ref (s.heap.objs.size+1),H',I3,rfl,q3⟩⟩
  | next=>exact False.elim mj
  | brk=>exact False.elim mj
  | cont=>exact False.elim mj
def GK(M:Mk X.K C f)(F:av X.prog X.w X.K X.mg X.base CX k f fd ps sp)(hr:bU (k+1) X.A)(hg:Gl X x)(hm:X.mg x=some (.ref C))(hb:i6 X.K fd ps ds)(hd:ar p8 ds)(hx:c9 CX X R)
  (ha:PA X (e::es) t) (ub:(x==("__debug__":Str))=false:=by decide) (he:starEach (e::es) X.env=(false,eval e X.env)::starEach es X.env:=by rfl) (e6:(backTo pos (starEach es X.env)).any (·.1)=false:=by rfl):
  PE X (.Call (.Name x p) (e::es) [] pos) (Mj C sp p8 R t):=by
 intro δ s σ H Q I h;refine wpAny_Call_Name_kw (vQ I hg hm ?_ ub);refine PySem.W.callWith_K (h₀:=X.base) I.ok.mod.O4 M.kp (bH (ha pos δ s σ H _ I h) fun us s1 ⟨vs,H1,I1,r,q⟩=>⟨I1.pG,?_⟩) he e6;exact DB M F hr hb hd hx I1 r q
end
def KS(C:Addr)(M:Ms)(d:Dt)(ns:List Str)(ds:List Dt):Prop:=d= .obj C ns ds\/∃k,d= .loc k/\M[k]? =some (.ins C ns ds)
section
variable{K:fI}{G:Hp}{L:List Addr}{M:Ms}{H:Hp}{C:Addr}{d:Dt}{v:V}{ns:List Str}{ds:List Dt}
def Hc(r:Rl K G L M H)(n:Den K G L d v)(o:KS C M d ns ds):∃a dx vs,v= .ref a/\H a=some (.ins C dx (ns.zip vs))/\ns.length=ds.length/\Λ K G L ds vs:=by
 rcases o with rfl| ⟨k,rfl,hm⟩
 ·have⟨a,dx,vs,e,h1,hl,h2⟩:=n;exact⟨a,dx,vs,e,r.sub _ _ h1,hl,h2⟩
 ·have⟨a,e,h1⟩:=n;have⟨_,dx,vs,h2,hl,h3⟩:=r.gr k a _ h1 hm;exact⟨a,dx,vs,e,h2,hl,h3⟩
def zq{f:Str}:∀{ns:List Str} {ds:List Dt} {vs:List V} {d:Dt},Λ K G L ds vs->(ns.zip ds).lookup f=some d->∃v,(ns.zip vs).lookup f=some v/\Den K G L d v
 | [],_,_,_,_,h=>by simp at h
 | _::_,[],_,_,_,h=>by simp at h
 | g::ns,d::ds,_,d',⟨v,r,rfl,h1,h2⟩,h=>by
  rw[abn,abF]at h;rw[abn,abF];cases q:f==g with
  | true=>rw[q]at h;cases h;exact⟨v,rfl,h1⟩
  | false=>rw[q]at h;exact zq h2 h
def qP{f:Str}:∀{ns:List Str} {ds:List Dt} {vs:List V},Λ K G L ds vs->(ns.zip ds).lookup f=none->(ns.zip vs).lookup f=none
 | [],_,_,_,_=>by simp
 | _::_,[],_,h,_=>by have h:_=_:=h;subst h;simp
 | g::ns,d::ds,_,⟨v,r,rfl,h1,h2⟩,h=>by
  rw[abn,abF]at h;rw[abn,abF];cases q:f==g with
  | true=>rw[q]at h;cases h
  | false=>rw[q]at h;exact qP h2 h
def ze{f:Str}{v:V}:∀{ns:List Str} {vs:List V},ns.length=vs.length->f∉ns->i9 f v (ns.zip vs)=(ns++[f]).zip (vs++[v])
 | [],[],_,_=>rfl
 | g::ns,x::vs,hl,h=>by have hg:¬g=f:=λz=>h (by rw[z];exact aae);show(if g=f then (g,v)::ns.zip vs else (g,x)::i9 f v (ns.zip vs))=(g,x)::(ns++[f]).zip (vs++[v]);rw[if_neg hg,ze (by simpa using hl) λz=>h (List.mem_cons_of_mem _ z)]
 | [],_::_,hl,_=>by simp at hl
 | _::_,[],hl,_=>by simp at hl
end
def NS(C:Addr)(f:Str)(t:DE):DE:=λρ M q x=>t ρ M (λd M1=>∃ns ds v,KS C M1 d ns ds/\(ns.zip ds).lookup f=some v/\q v M1) x
def LP(C:Addr)(m:Str)(T:DF)(to:DE)(ta:DA):DE:=λρ M q x=>to ρ M (λd M1=>(∃ns ds,KS C M1 d ns ds/\(ns.zip ds).lookup m=none)/\ta ρ M1 (λds M2=>T (d::ds) M2 q (λC fs M'=>x ρ C fs M')) x) x
def RI(C:Addr)(T:DF)(ta:DA):DE:=λρ M q x=>ta ρ M (λds M1=>T (.loc M1.length::ds) (M1++[.ins C [] []]) (λd M2=>d= .aJ/\q (.loc M1.length) M2) (λC fs M'=>x ρ C fs M')) x
def Le(C:Addr)(f:Str)(to tv:DE):DS:=λDn ρ M=>tv ρ M (λy M1=>to ρ M1 (λd M2=>∃k ns ds,d= .loc k/\M2[k]? =some (.ins C ns ds)/\f∉ns/\ns.length < 1000/\Dn.nx ρ (M2.set k (.ins C (ns++[f]) (ds++[y])))) Dn.x) Dn.x
structure e7(P:Program)(w:World)(K:fI)(mg:Str->Option Value)(base:Heap)(k:Nat)(C:Addr)(m:Str)(ps:List Str)(T:DF)(f:Addr)(fd:FuncData):Prop where
 ok:av P w K mg base (ck P w) k f fd ps (cP K T)
 b:i6 K fd ps []
 c:CI K C
 m:K2 K C m f
structure JG(P:Program)(w:World)(K:fI)(mg:Str->Option Value)(base:Heap)(k:Nat)(x:Str)(C:Addr)(ps:List Str)(T:DF)(f:Addr)(fd:FuncData):Prop where
 ok:av P w K mg base (ck P w) k f fd ps (cP K T)
 b:i6 K fd ps []
 k:Mk K C f
 m:mg x=some (.ref C)
section
variable{X:Cx}{R:St->XK}{C:Addr}{f m x:Str}{T:DF}{k k':Nat}{a:Addr}{fd:FuncData}{ps:List Str}{e o value:Expr}{es:List Expr}{pos pos' apos p:Pos}{to te tv:DE}{ta:DA}
def xW(c:CI X.K C)(n:hI X.K C f)(he:JE X R e te)(hb:attributeBase e f X.env (eval e X.env)=eval e X.env:=by rfl):JE X R (.Attribute e f pos) (NS C f te):=
 .of (Mb he hb) λσ H G L ρ M q x rl en h hx=>by refine⟨G,L,ρ,M,_,x,rl,en,h,hx,λv H1 xz=>?_⟩;have⟨d1,G1,L1,M1,e1,r1,n1,ns,ds,y,ob,hl,h1⟩:=xz;have⟨p,dx,vs,rfl,hp,_,dn⟩:=Hc r1 n1 ob;have⟨u,hu,du⟩:=zq dn hl;exact⟨p,C,dx,_,u,rfl,hp,c,n,hu,y,G1,L1,M1,e1,r1,du,h1⟩
def fQ{pl:Sem Bool}(D:e7 X.prog X.w X.K X.mg X.base k C m ps T a fd)(hr:bU k' X.A)(hx:c9 (ck X.prog X.w) X R)(ho:JE X R o to)(ha:JA X R (e::es) ta)(hk:k<=k':=by decide)
  (Oy:starEach (e::es) X.env=(false,eval e X.env)::starEach es X.env:=by rfl) (e6:(backTo pos (starEach es X.env)).any (·.1)=false:=by rfl)
  (ht:eval (.Call (.Attribute o m apos) (e::es) [] pos) X.env=(do
   let ov<-eval o X.env
   standAt apos.atName
   let (f,first)<-holding [ov] (getMethod ov m pl)
   callWith pos f first (backTo pos (starEach (e::es) X.env)) (backToKw pos (keywordEach [] X.env))):=by rfl):
  JE X R (.Call (.Attribute o m apos) (e::es) [] pos) (LP C m T to ta):=
 .of (Fb (pl:=pl) ho D.c D.m D.ok (hr.mono hk) D.b .nil hx ha Oy e6 ht) λσ H G L ρ M q x rl en h hx=>by refine⟨G,L,ρ,M,_,x,rl,en,h,hx,λv H1 xz=>?_⟩;have⟨d1,G1,L1,M1,e1,r1,n1,⟨ns,ds,ob,hl⟩,h1⟩:=xz;have⟨p,dx,vs,rfl,hp,_,dn⟩:=Hc r1 n1 ob;refine⟨p,dx,_,rfl,hp,qP dn hl,G1,L1,ρ,M1,_,x,r1,en.mono e1,h1,hx.on e1,λus H2 xz=>?_⟩;have⟨yT,G2,L2,M2,e2,r2,n2,h2⟩:=xz;show cP X.K T (V.ref p::(us++[])) H2 _ _;rw[aaY];have Fl:=e1.trans e2;exact⟨G2,L2,d1::yT,M2,q,_,r2,⟨_,_,rfl,Den.mono e2.g e2.l _ _ n1,n2⟩,h2,λv H' f=>Fin.back Fl f,λC fs M' G' L' H' od hq e' r' y=>hx σ ρ C fs M' G' L' H' od hq (Fl.trans e') r' (en.mono (Fl.trans e')) y⟩
def gI{pl:Sem Bool}(D:e7 X.prog X.w X.K X.mg X.base k C m ps T a fd)(hr:bU k' X.A)(hx:c9 (ck X.prog X.w) X R)(ho:JE X R o to)(hk:k<=k':=by decide)
  (ht:eval (.Call (.Attribute o m apos) [] [] pos) X.env=(do
   let ov<-eval o X.env
   standAt apos.atName
   let (f,first)<-holding [ov] (getMethod ov m pl)
   callWith pos f first (backTo pos (starEach [] X.env)) (backToKw pos (keywordEach [] X.env))):=by rfl):
  JE X R (.Call (.Attribute o m apos) [] [] pos) (LP C m T to IA):=
 .of (Em (pl:=pl) ho D.c D.m D.ok (hr.mono hk) D.b .nil hx ht) λσ H G L ρ M q x rl en h hx=>by refine⟨G,L,ρ,M,_,x,rl,en,h,hx,λv H1 xz=>?_⟩;have⟨d1,G1,L1,M1,e1,r1,n1,⟨ns,ds,ob,hl⟩,h1⟩:=xz;have⟨p,dx,vs,rfl,hp,_,dn⟩:=Hc r1 n1 ob;refine⟨p,dx,_,rfl,hp,qP dn hl,?_⟩;show cP X.K T (V.ref p::([]++[])) H1 _ _;exact⟨G1,L1,[d1],M1,q,_,r1,⟨_,_,rfl,n1,rfl⟩,h1,λv H' f=>Fin.back e1 f,λC fs M' G' L' H' od hq e' r' y=>hx σ ρ C fs M' G' L' H' od hq (e1.trans e') r' (en.mono (e1.trans e')) y⟩
def GU(D:JG X.prog X.w X.K X.mg X.base k x C ps T a fd)(hr:bU k' X.A)(hx:c9 (ck X.prog X.w) X R)(ha:JA X R (e::es) ta)(hk:k+1<=k':=by decide)(hg:Gl X x:=by rfl)(ub:(x==("__debug__":Str))=false:=by decide)
  (he:starEach (e::es) X.env=(false,eval e X.env)::starEach es X.env:=by rfl) (e6:(backTo pos (starEach es X.env)).any (·.1)=false:=by rfl):JE X R (.Call (.Name x p) (e::es) [] pos) (RI C T ta):=
 .of (GK D.k D.ok (hr.mono hk) hg D.m D.b .nil hx ha ub he e6) λσ H G L ρ M q x rl en h hx=>by
  refine⟨G,L,ρ,M,_,x,rl,en,h,hx,λvs H1 xz y dx hy XF pL=>?_⟩;have⟨ds,G1,L1,M1,e1,r1,n1,h1⟩:=xz;show cP X.K T (V.ref y::(vs++[])) _ _ _;rw[aaY];have ra:=r1.KD (o:=.own y) XF;have ea:=r1.OY (o:=.own y) XF;have Xc:upd H1 dx (HO.own y) y=none:=by rw[Θ (Ne.symm pL)];exact hy
  have rb:=ra.KO (p:=y) (o:=.ins C dx []) (m:=.ins C [] []) Xc ⟨dx,[],aq,rfl,rfl⟩;have eb:=ra.SO (p:=y) (o:=.ins C dx []) Xc;have e2:=ea.trans eb;have Fl:=e1.trans e2;refine⟨_,_,.loc M1.length::ds,_,_,_,rb,⟨_,_,rfl,⟨y,rfl,?_⟩,Λ.mono e2.g e2.l _ _ n1⟩,h1,fun v H' ⟨d,G',L',M',e',r',dn,hd,hq⟩=>?_,λC fs M' G' L' H' od hq e' r' z=>hx σ ρ C fs M' G' L' H' od hq (Fl.trans e') r' (en.mono (Fl.trans e')) z⟩
  ·rw[<-r1.len,List.getElem?_append_right (Nat.le_refl _)];simp
  ·subst hd;refine⟨dn,.loc M1.length,G',L',M',Fl.trans e',r',⟨y,rfl,e'.l.get ?_⟩,hq⟩;rw[<-r1.len,List.getElem?_append_right (Nat.le_refl _)];simp
def BK(c:CI X.K C)(n:hI X.K C f)(ho:JE X R o to)(hv:JE X R value tv)(hs:swapsWith value (some (.Attribute o f pos')) pos.line X.env=pure false:=by rfl):JS X R (.Assign [.Attribute o f pos'] value pos) (Le C f to tv):=
 .of (Ng ho hv hs) λσ H G L ρ M Dn rl en h hx=>by refine⟨G,L,ρ,M,_,_,rl,en,h,hx,λy H1 xz=>?_⟩;have⟨dy,G1,L1,M1,e1,r1,n1,h1⟩:=xz;refine⟨G1,L1,ρ,M1,_,_,r1,en.mono e1,h1,hx.on e1,λu H2 xz=>?_⟩;have⟨du,G2,L2,M2,e2,r2,n2,k,ns,ds,ed,hm,hf,hz,h2⟩:=xz;subst ed;have⟨p,rfl,hp⟩:=n2;have⟨_,dx,vs,hH,hl,dn⟩:=r2.gr k p _ hp hm;have Xd:ns.length=vs.length:=hl.trans dn.length;refine⟨p,C,dx,_,rfl,hH,c,n,by rw[abL,<-Xd,Nat.min_self];exact hz,?_⟩;rw[ze Xd hf];exact⟨ρ,G2,L2,_,(e1.trans e2).trans (r2.EH hp),r2.setM (m:=.ins C (ns++[f]) (ds++[dy])) hp ⟨dx,_,aq,by rw[aah,aah,hl];rfl,dn.app ⟨_,_,rfl,Den.mono e2.g e2.l _ _ n1,rfl⟩⟩,(en.mono (e1.trans e2)).mono (r2.EH (o:=.own p) hp),h2⟩
end
def GV:List Dt->Ms->DQ->Prop
 | [d],M,q=>match gZ M d with
  | some xs=>q (.loc M.length) (M++[.lst xs])
  | none=>False
 | _,_,_=>False
section
variable{K:fI}
def RO:CN K (λxs H Q=>∃p ys,xs=[V.ref p]/\(fj K H p ys\/mq K H p ys)/\∀l,H l=none->Q (.ref l) (upd H l (.lst ys))) GV:=by
 intro G0 L0 H0 G L M H vs ds q e r n h;unfold GV at h;split at h
 ·rename_i d;have⟨v,rfl,n1⟩:=bF n;split at h
  ·rename_i xs hs;have⟨a,us,rfl,hq,dn⟩:=pY r n1 hs;exact⟨a,us,rfl,hq,λl hl=>gE e r hl dn h⟩
  ·exact h.elim
 ·exact h.elim
end
section
variable{X:Cx}{R:St->XK}{e o i value:Expr}{t:DA}{to ti tv:DE}{p pos apos a_ sU:Pos}
def GA(hm:X.mg "list"=none)(ha:JA X R [e] t)(hg:Gl X "list":=by rfl)(he:starEach [e] X.env=(false,eval e X.env)::starEach [] X.env:=by rfl)(e6:(backTo pos (starEach [] X.env)).any (·.1)=false:=by rfl):JE X R (.Call (.Name "list" p) [e] [] pos) (Ba GV t):=
 xN xt RO hm qf ha hg @_ @_ he e6
def PX(to:DE)(t:DA):DE:=λρ M q x=>to ρ M (λd M1=>(∃k xs,d= .loc k/\M1[k]? =some (.lst xs))/\t ρ M1 (λds M2=>∃k xs y,d= .loc k/\ds=[y]/\M2[k]? =some (.lst xs)/\xs.length < sizeLine/\q .aJ (M2.set k (.lst (xs++[y])))) x) x
def iq(ho:JE X R o to)(ha:JA X R [e] t)(sv:attributeBase o "append" X.env (eval o X.env)=eval o X.env:=by rfl)
  (Ar:((backTo a_ (starEach [e] X.env)).all (λx=> !x.1)&&(backToKw a_ (keywordEach [] X.env)).all (λx=>x.1.isSome)
   &&decide (([e]:List Expr).length+([]:List Keyword).length+(if ([]:List Keyword).isEmpty then 0 else 1) < 30))=true:=by rfl)
  (sk:(apos.endLine==a_.line)=true:=by rfl) (hs:starEach [e] X.env=(false,eval e X.env)::starEach [] X.env:=by rfl) (kX:(backTo a_ (starEach [] X.env)).any (·.1)=false:=by rfl):
  JE X R (.Call (.Attribute o "append" apos) [e] [] a_) (PX to t):=
 .of (Gy PySem.F.plainAttrs_list PySem.F.slot_list_append PySem.F.type_list_append (r:=BP) uo ho ha sv Ar sk hs kX) λσ H G L ρ M q x rl n h hx=>by refine⟨G,L,ρ,M,_,x,rl,n,h,hx,λv H1 xz=>?_⟩;have⟨d1,G1,L1,M1,e1,r1,n1,⟨k,xs,ed,hm⟩,h1⟩:=xz;subst ed;have⟨a,rfl,hk⟩:=n1;have⟨_,vs,hH,_⟩:=r1.gr k a _ hk hm;refine⟨.inl ⟨rfl,vs,.of hH⟩,G1,L1,ρ,M1,_,x,r1,n.mono e1,h1,hx.on e1,λus H2 xz=>?_⟩;have⟨ds,G2,L2,M2,e2,r2,n2,k',xs',y,ek,ed,NY,hz,h2⟩:=xz;cases ek;subst ed;have⟨u,rfl,n3⟩:=bF n2;have F_:=e2.l.get hk;have⟨_,B3,ON,EW⟩:=r2.gr k a _ F_ NY;refine⟨a,B3,u,rfl,rfl,ON,by rw[<-EW.length];exact hz,.aJ,G2,L2,_,(e1.trans e2).trans (r2.EH F_),r2.setM (m:=.lst (xs'++[y])) F_ ⟨_,aq,EW.app ⟨_,_,rfl,n3,rfl⟩⟩,rfl,h2⟩
def qo(to ti tv:DE):DS:=λDn ρ M=>tv ρ M (λy M1=>to ρ M1 (λd M2=>ti ρ M2 (λdi M3=>∃k i xs j,d= .loc k/\di= .int i/\M3[k]? =some (.lst xs)/\Gw xs.length i=some j/\Dn.nx ρ (M3.set k (.lst (xs.set j y)))) Dn.x) Dn.x) Dn.x
def ik(ho:JE X R o to)(hi:JE X R i ti)(hv:JE X R value tv)(hs:swapsWithSole [.Subscript o i sU] value pos.line X.env=pure false:=by rfl)(hw:swappedStores [.Subscript o i sU] value X.env=pure none:=by rfl)
  (h1:(assignEach [.Subscript o i sU] X.env).map (·.2)=[assign (.Subscript o i sU) X.env]:=by rfl)
  (ha:∀v,assign (.Subscript o i sU) X.env v=(do
   let ov<-holding [v] (eval o X.env)
   let iv<-holding [v,ov] (eval i X.env)
   standAt sU
   holding [v,ov,iv] (setItem ov iv v)
   release [v,ov,iv] []):=by intro _;rfl):JS X R (.Assign [.Subscript o i sU] value pos) (qo to ti tv):=
 .of (FE hv (Ou (t:=LK) ho hi IM ha) hs hw h1) λσ H G L ρ M Dn rl n h hx=>by refine⟨G,L,ρ,M,_,_,rl,n,h,hx,λv H1 xz=>?_⟩;have⟨dv,G1,L1,M1,e1,r1,n1,h1⟩:=xz;refine⟨G1,L1,ρ,M1,_,_,r1,n.mono e1,h1,hx.on e1,λov H2 xz=>?_⟩;have⟨d,G2,L2,M2,e2,r2,n2,h2⟩:=xz;refine⟨G2,L2,ρ,M2,_,_,r2,(n.mono e1).mono e2,h2,(hx.on e1).on e2,λiv H3 xz=>?_⟩;have⟨di,G3,L3,M3,e3,r3,n3,k,i,xs,j,ed,ei,hm,hj,h3⟩:=xz;subst ed ei;have⟨a,rfl,hk⟩:=n2;have n3:iv= .int i:=n3;subst n3;have zY:=e3.l.get hk;have⟨_,vs,hH,dn⟩:=r3.gr k a _ zY hm;have Jz:=e2.trans e3;have Ta:=Den.mono Jz.g Jz.l _ _ n1;refine⟨a,vs,i,j,rfl,rfl,hH,by rw[<-dn.length];exact hj,ρ,G3,L3,_,((e1.trans e2).trans e3).trans (r3.EH zY),r3.setM (m:=.lst (xs.set j dv)) zY ⟨_,aq,.of (Cn Ta j dn.pair)⟩,(((n.mono e1).mono e2).mono e3).mono (r3.EH (o:=.own a) zY),h3⟩
end
structure Src(K:fI)(a:Addr)(xs:List Dt)(ok:Ms->Prop)(G0:Hp)(L0:List Addr):Prop where
 at_:∀G L M H,dq G0 G->Pre L0 L->Rl K G L M H->ok M->∃vs,fj K H a vs/\Λ K G L xs vs
def iC(M:Ms):Dt->Option (List Dt×(Ms->Prop))
 | .lst xs=>some (xs,λ_=>True)
 | .hW ns=>some (ns.map .int,λ_=>True)
 | .loc k=>match M[k]? with
  | some (.lst xs)=>some (xs,λM'=>M'[k]? =some (.lst xs))
  | _=>none
 | _=>none
def qT{K:fI}{G:Hp}{L:List Addr}{M:Ms}{H:Hp}{d:Dt}{v:V}{xs:List Dt}{ok:Ms->Prop}(r:Rl K G L M H)(n:Den K G L d v)(h:iC M d=some (xs,ok)):∃a vs,v= .ref a/\fj K H a vs/\Src K a xs ok G L/\ok M:=by
 cases d with
 | lst ds=>
  cases h;have⟨a,vs,rfl,e,m⟩:=n;exact⟨a,vs,rfl,.of (r.sub _ _ e),⟨λG' L' M' H' g l r' _=>⟨vs,.of (r'.sub _ _ (g _ _ e)),Λ.mono g l _ _ m⟩⟩,trivial⟩
 | hW ns=>
  cases h;have⟨a,rfl,e⟩:=n;exact⟨a,_,rfl,r.sub.seq e,⟨λG' L' M' H' g l r' _=>⟨_,r'.sub.seq (g.seq e),iy⟩⟩,trivial⟩
 | loc k=>
  have⟨a,rfl,e⟩:=n;have h:(match M[k]? with| some (.lst xs)=>some (xs,λM':Ms=>M'[k]? =some (.lst xs))| _=>none)=some (xs,ok):=h;split at h
  ·rename_i ys hm;cases h;have⟨_,vs,e1,m1⟩:=r.gr k a _ e hm;refine⟨a,vs,rfl,.of e1,⟨λG' L' M' H' g l r' hk=>?_⟩,hm⟩;have⟨_,B3,e2,m2⟩:=r'.gr k a _ (l.get e) hk;exact⟨B3,.of e2,m2⟩
  ·cases h
 | _=>cases h
def Ii{K:fI}{G:Hp}{L:List Addr}{a:Addr}{xs:List Dt}{ok:Ms->Prop}(s:Src K a xs ok G L):Nf K (SH K a) xs ok G L where
 go:=λi G1 L1 M1 H1 d g l r k e=>by
  have⟨vs,hs,n⟩:=s.at_ G1 L1 M1 H1 g l r k;have⟨v,e1,n1⟩:=n.get e
  exact⟨⟨vs,v,hs,e1⟩,fun v' H' ⟨eH,y⟩=>by
   subst eH;have e2:=y vs hs;rw[e1]at e2;cases e2
   exact⟨G1,.refl _ _ _,r,n1⟩⟩
 stop:=λi G1 L1 M1 H1 g l r k e=>by have⟨vs,hs,n⟩:=s.at_ G1 L1 M1 H1 g l r k;exact⟨vs,hs,by rw[<-n.length];exact e⟩
def js(M:Ms):Dt->Option (List Dt×(Ms->Prop))
 | .loc k=>iC M (.loc k)
 | d=>(PC M d).map λxs=>(xs,λ_=>True)
def gw(t:DE):DK:=λρ M q x=>t ρ M (λd M1=>match js M1 d with
 | some (xs,ok)=>q xs ok M1
 | none=>False) x
def bR{X:Cx}{R:St->XK}{tg e:Expr}{te:DE}(h:JE X R e te):JK X R tg e (gw te):=by
 intro δ s σ H Q I ⟨G,L,ρ,M,q,x,rl,n,ht,hx,hQ⟩;refine bH (h δ s σ H (Fin X.K G L H _) I ⟨G,L,ρ,M,_,x,rl,n,ht,hx,λ_ _ f=>f⟩) λu s1 xz=>?_;have⟨v,H1,I1,rv,d,G1,L1,M1,e1,r1,n1,h1⟩:=xz
 (try dsimp only at h1)
 cases hi:js M1 d with
 | none=>rw[hi]at h1;exact h1.elim
 | some p=>
  have⟨xs,ok⟩:=p;rw[hi]at h1;have fin:∀J,Nf X.K J xs ok G1 L1->Q J H1:=λJ y=>hQ J H1 ⟨xs,ok,G1,L1,M1,e1,r1,y,h1⟩;have up:∀{J},ok=(λ_=>True)->Yl X.K J xs G1 L1->Nf X.K J xs ok G1 L1:=λeo y=>by subst eo;exact⟨λi G L M H d g l r _ e=>y.go i G L M H d g l r e,λi G L M H g l r _ e=>y.stop i G L M H g l r e⟩
  cases d with
  | loc k=>
   have⟨a,vs,rfl,hs,sr,_⟩:=qT r1 n1 hi;cases rv;exact u_ I1 hs (fin _ (Ii sr))
  | lst ds=>
   cases hi;have⟨a,vs,rfl,e,m⟩:=n1;cases rv;exact u_ I1 (vs:=vs) (.of (r1.sub _ _ e)) (fin _ (up rfl (Cd (λG' g=>.of (g _ _ e)) m)))
  | hW ns=>
   cases hi;have⟨a,rfl,e⟩:=n1;cases rv;exact u_ I1 (r1.sub.seq e) (fin _ (up rfl (Cd (λG' g=>g.seq e) iy)))
  | tup ds=>
   cases hi;have⟨a,vs,rfl,e,m⟩:=n1;cases rv;exact Ge I1 (vs:=vs) (.of (r1.sub _ _ e)) (fin _ (up rfl (Fs (λG' g=>.of (g _ _ e)) m)))
  | kt ds=>
   cases hi;have⟨a,vs,rfl,e,m⟩:=n1;cases rv;exact Ge I1 (r1.sub.Qu e) (fin _ (up rfl (Fs (λG' g=>g.Qu e) m)))
  | str z=>
   cases hi;cases n1;have⟨t,rfl⟩:=rv;exact Mi I1 (fin _ (up rfl Oe))
  | _=>cases hi
def vE(g:Dt->En->(En->Prop)->Prop)(tb:DS)(Dn:kD)(ok:Ms->Prop):List Dt->En->Ms->Prop
 | [],ρ,M=>ok M/\Dn.nx ρ M
 | x::xs,ρ,M=>ok M/\g x ρ λρ'=>tb {Dn with nx:=vE g tb Dn ok xs,ct:=vE g tb Dn ok xs,bk:=Dn.nx} ρ' M
def uP(ti:DK)(g:Dt->En->(En->Prop)->Prop)(tb:DS):DS:=λDn ρ M=>ti ρ M (λxs ok M1=>vE g tb Dn ok xs ρ M1) Dn.x
section
variable{X:Cx}{R:St->XK}{tg iter:Expr}{body:List Stmt}{ti:DK}{gg:TG}{g:Dt->En->(En->Prop)->Prop}{tb:DS}{pos:Pos}
def cH(hi:JK X R tg iter ti)(hg:PG X tg gg)(gd:GD X.K gg g)(hb:CH X R body tb)(hp:PassesOwn (model X.prog X.w) X.A X.env X.xe:=by first| exact PassesOwn.never| exact PassesOwn.leaving)(hc:X.calm=true:=by rfl)(hs:∀x,foldedSetIterable iter X.env x=pure x:=by intro _;rfl):
  JS X R (.For tg iter body [] pos) (uP ti g tb):=.of (Af hp hc hi hg hb hs) λσ H G L ρ M Dn rl n h hx=>by
 refine⟨G,L,ρ,M,_,_,rl,n,h,hx,λJ H1 xz=>?_⟩;have⟨xs,ok,G1,L1,M1,e1,r1,y,h1⟩:=xz;refine⟨λi m σ' H'=>m+i=xs.length/\d8 X.K G1 L1 H1 (λρ' M'=>vE g tb Dn ok (xs.drop i) ρ' M') σ' H',⟨xs.length,rfl,ρ,G1,L1,M1,.refl _ _ _,r1,n.mono e1,by rw[abQ];exact h1⟩,?_⟩;rintro i m σ' H' ⟨hm,ρ',G',L',M',e',r',n',h'⟩;by_cases hi:i < xs.length
 ·right;have hd:xs[i]? =some xs[i]:=aaa hi;rw[abi hi]at h';have⟨aO,h'⟩:=h';have⟨go,yl⟩:=y.go i G' L' M' H' _ e'.g e'.l r' aO hd;refine⟨go,d8 X.K G1 L1 H1 (λρ' M'=>vE g tb Dn ok (xs.drop (i+1)) ρ' M'),λσ2 H2 f=>⟨m - 1,(),(),f⟩,λv H2 hy=>?_⟩;have⟨G2,e2,r2,n2⟩:=yl v H2 hy;refine gd G2 L' M' H2 _ v ρ' σ' _ _ r2 n2 (n'.mono e2) h' λρ3 σ3 n3 h3=>?_;refine⟨G2,L',ρ3,M',_,r2,n3,h3,hx.on (e1.trans (e'.trans e2)),⟨λ_ _ f=>d8.back (e'.trans e2) f,λ_ _ f=>Fin.back (e1.trans (e'.trans e2)) f,λ_ _ f=>d8.back (e1.trans (e'.trans e2)) f,λ_ _ f=>d8.back (e'.trans e2) f⟩⟩
 ·left;rw[abR ()]at h';exact⟨y.stop i G' L' M' H' e'.g e'.l r' h'.1 (),ρ',G',L',M',e1.trans e',r',n',h'.2⟩
end
def kB(te:DE)(cs:En)(ok:Ms->Prop):List Dt->List Dt->Ms->(List Dt->Ms->Prop)->Prop
 | [],acc,M,k=>ok M/\k acc M
 | x::xs,acc,M,k=>ok M/\te (some x::cs) M (λd M1=>kB te cs ok xs (acc++[d]) M1 k) jh
def uX(ti:DK)(te:DE)(Μ:List Nat):DE:=λρ M q x=>ti ρ M (λxs ok M1=>xs.length<=sizeLine/\kB te (nh Μ ρ) ok xs [] M1 (λys M2=>q (.lst ys) M2)) x
def mF(ti:DK)(te:DE)(Μ:List Nat):DE:=λρ M q x=>ti ρ M (λxs ok M1=>xs.length<=sizeLine/\kB te (nh Μ ρ) ok xs [] M1 (λys M2=>q (.loc M2.length) (M2++[.lst ys]))) x
def mC{te:DE}{cs:En}{ok:Ms->Prop}:∀xs,kB te cs ok xs=gO (gN 0) sF te (none::cs) ok xs
 | []=>rfl
 | x::xs=>funext λacc=>funext λM=>funext λk=>by show(ok M/\te (some x::cs) M (λd M1=>kB te cs ok xs (acc++[d]) M1 k) jh)=(ok M/\te (some x::cs) M (λd M1=>gO (gN 0) sF te (none::cs) ok xs (acc++[d]) M1 k) jh);rw[mC xs]
section
variable{X:Cx}{R:St->XK}{elt iter:Expr}{x:Str}{px:Pos}{scope:Scope}{pos:Pos}{ti:DK}{te:DE}{ys:List Str}{Μ:List Nat}
def jZ(S:ag X scope [x] ys Μ)(hi:JK X R (.Name x px) iter ti)(he:∀C s H fp,JE (Cx.comp X (x::ys) scope C s H fp) (λ_=>E0) elt te)(hc:X.calm=true:=by rfl)(hs:∀x,foldedSetIterable iter X.env x=pure x:=by intro _;rfl):JE X R (.ListComp elt [⟨.Name x px,iter,[],0⟩] scope pos) (uX ti te Μ):=QS false S hi (dN S (i:=0) rfl) aM (c_ (Nat.zero_lt_succ 0)) (λ_ _ _ _=>gQ) he hc hs λρ M q x h=>by unfold uX at h;simp only[mC]at h;exact h
def E8(S:ag X scope [x] ys Μ)(hi:JK X R (.Name x px) iter ti)(he:∀C s H fp,JE (Cx.comp X (x::ys) scope C s H fp) (λ_=>E0) elt te)(hc:X.calm=true:=by rfl)(hs:∀x,foldedSetIterable iter X.env x=pure x:=by intro _;rfl):JE X R (.ListComp elt [⟨.Name x px,iter,[],0⟩] scope pos) (mF ti te Μ):=QS true S hi (dN S (i:=0) rfl) aM (c_ (Nat.zero_lt_succ 0)) (λ_ _ _ _=>gQ) he hc hs λρ M q x h=>by unfold mF at h;simp only[mC]at h;exact h
def gL{i:Nat}{y:Str}{py h7:Pos}(hN:X.N.Nodup)(Dw:X.N[i]? =some y)(hy:Loc X.env.scope y)(S:ag X scope [x] ys Μ)(hi:JK X R (.Name x px) iter ti)(he:∀C s H fp,JE (Cx.comp X (x::ys) scope C s H fp) (λ_=>E0) elt te)(hc:X.calm=true:=by rfl)(Dy:swapsWith (.ListComp elt [⟨.Name x px,iter,[],0⟩] scope pos) (some (.Name y py)) h7.line X.env=pure true:=by rfl)(hs:∀x,foldedSetIterable iter X.env x=pure x:=by intro _;rfl)(hf:X.fn y=true\/X.env.scope.names.lookup y=some .local:=by first| exact .inl rfl| exact .inr rfl| assumption):JS X R (.Assign [.Name y py] (.ListComp elt [⟨.Name x px,iter,[],0⟩] scope pos) h7) (wq i (uX ti te Μ)):=P1 false S hi (dN S (i:=0) rfl) aM (c_ (Nat.zero_lt_succ 0)) (λ_ _ _ _=>gQ) he hc hs hN Dw hy Dy hf λρ M q x h=>by unfold uX at h;simp only[mC]at h;exact h
def fc{i:Nat}{y:Str}{py h7:Pos}(hN:X.N.Nodup)(Dw:X.N[i]? =some y)(hy:Loc X.env.scope y)(S:ag X scope [x] ys Μ)(hi:JK X R (.Name x px) iter ti)(he:∀C s H fp,JE (Cx.comp X (x::ys) scope C s H fp) (λ_=>E0) elt te)(hc:X.calm=true:=by rfl)(Dy:swapsWith (.ListComp elt [⟨.Name x px,iter,[],0⟩] scope pos) (some (.Name y py)) h7.line X.env=pure true:=by rfl)(hs:∀x,foldedSetIterable iter X.env x=pure x:=by intro _;rfl)(hf:X.fn y=true\/X.env.scope.names.lookup y=some .local:=by first| exact .inl rfl| exact .inr rfl| assumption):JS X R (.Assign [.Name y py] (.ListComp elt [⟨.Name x px,iter,[],0⟩] scope pos) h7) (wq i (mF ti te Μ)):=P1 true S hi (dN S (i:=0) rfl) aM (c_ (Nat.zero_lt_succ 0)) (λ_ _ _ _=>gQ) he hc hs hN Dw hy Dy hf λρ M q x h=>by unfold mF at h;simp only[mC]at h;exact h
end
def tV:∀{ns:List Int} {us:List Value},ar (ns.map V.int) us->∃ts:List (Int×Tok),us=ts.map (λp=>Value.int p.1 p.2)/\ts.map (·.1)=ns
 | [],_,h=>by cases h;exact⟨[],rfl,rfl⟩
 | n::ns,_,h=>by
  cases h with
  | cons r t=>
   have⟨tk,rfl⟩:=r;have⟨ts,rfl,rfl⟩:=tV t;exact⟨(n,tk)::ts,rfl,rfl⟩
def Q7(K:fI):List V->Hp->VK->Prop:=λxs H Q=>∃(p:Addr) (ns:List Int),xs=[.ref p]/\fj K H p (ns.map V.int)/\Q (.int ns.sum) H
def FA{X:Cx}(hc:X.calm=true):dE X (.builtin "sum") (Q7 X.K):=by
 intro δ s σ H xs us Q I r h;have⟨p,ns,rfl,hq,q⟩:=h;have⟨u,rfl,r1⟩:=pE r;cases r1;have⟨its,rv,pl,hz⟩:=I.list hq;have⟨ts,rfl,rfl⟩:=tV rv;have e:(ts.map λp=>Value.int p.1 p.2).toArray=intItems ts.toArray:=by simp[intItems]
 have hl:=pl.isList;rw[e]at hl;refine sum_intListG (I.ok.hd hc) hl λh' tk t' hk=>?_;refine⟨.int (ts.map (·.1)).sum,H,I.kept hk,⟨t',?_⟩,q⟩;rw[preSum_eq,List.take_of_length_le (by simp)]
def MU:List Dt->Ms->DQ->Prop
 | [d],M,q=>∃ns:List Int,gZ M d=some (ns.map .int)/\(∃xs ok,iC M d=some (xs,ok))/\q (.int ns.sum) M
 | _,_,_=>False
def rB{K:fI}{G:Hp}{L:List Addr}:∀{ns:List Int} {vs:List V},Λ K G L (ns.map Dt.int) vs->vs=ns.map V.int
 | [],_,h=>h
 | _::_,_,⟨v,r,e,h1,h2⟩=>by have h1:v=_:=h1;rw[e,h1,rB h2];rfl
def ni{M:Ms}{d:Dt}{xs:List Dt}{ok:Ms->Prop}(h:iC M d=some (xs,ok)):gZ M d=some xs:=by
 cases d with
 | lst ds=>cases h;rfl
 | hW ns=>cases h;rfl
 | loc k=>
  have h:(match M[k]? with| some (.lst xs)=>some (xs,λM':Ms=>M'[k]? =some (.lst xs))| _=>none)=some (xs,ok):=h;show(match M[k]? with| some (.lst xs)=>some xs| _=>none)=some xs;split at h
  ·rename_i ys hm;cases h;rfl
  ·cases h
 | _=>cases h
def Uh{K:fI}:CN K (Q7 K) MU:=by
 intro G0 L0 H0 G L M H vs ds q e r n h;unfold MU at h;split at h
 ·rename_i d;have⟨v,rfl,n1⟩:=bF n;have⟨ns,hs,⟨xs,ok,hl⟩,hq⟩:=h;have⟨a,us,rfl,sq,sr,aO⟩:=qT r n1 hl;rw[ni hl]at hs;cases hs;have⟨ws,SU,dn⟩:=sr.at_ G L M H (.refl _) (.refl _) r aO;rw[rB dn]at SU;exact⟨a,ns,rfl,SU,.int ns.sum,G,L,M,e,r,rfl,hq⟩
 ·exact h.elim
def Dh:bootBuiltins "sum"=some (.builtin "sum"):=by decide+kernel
def AF:bootBuiltins "enumerate"=some (.type "enumerate"):=by decide+kernel
section
variable{X:Cx}{R:St->XK}{e a b:Expr}{t:DA}{ta tb:DE}{p pos:Pos}
def O7(hm:X.mg "sum"=none)(ha:JA X R [e] t)(hc:X.calm=true:=by rfl)(hg:Gl X "sum":=by rfl)(he:starEach [e] X.env=(false,eval e X.env)::starEach [] X.env:=by rfl)(e6:(backTo pos (starEach [] X.env)).any (·.1)=false:=by rfl):JE X R (.Call (.Name "sum" p) [e] [] pos) (Ba MU t):=
 fh (FA hc) Uh hm Dh ha hg @_ @_ he e6
def QE:Dt->Dt->Ms->DQ->Prop:=λd e M q=>∃u xs us,ue d=some u/\gZ M e=some xs/\g9 xs=some us/\q (.bl (O3 u us)) M
def VA{K:fI}:oV K (WO K false) QE:=by intro G0 L0 H0 G L M H v1 v2 d1 d2 q e r n1 n2 ⟨u,xs,us,h1,h2,h3,hq⟩;have⟨rfl,fu⟩:=m_ h1 n1;have⟨a,vs,rfl,sq,dn⟩:=pY r n2 h2;have⟨rfl,fs⟩:=fF h3 dn;exact⟨a,vs,rfl,sq,fu,fs,.bl _,G,L,M,e,r,rfl,hq⟩
def Bj(ja:JE X R a ta)(jb:JE X R b tb)(hm:behindInMarks .In b=false:=by rfl):JT X R (.Compare a [.In] [b] pos) (lZ (kj QE ta tb)):=f_ Dx VA ja jb hm
end
def Inv.uj{X:Cx}{δ:List (Addr×Obj)}{σ:St}{H:Hp}{s:Shared}{h':Heap}{its:List Addr}{T:Addr}{o:HO}{t':Nat}(I:Inv X δ σ H s)(k:∀b u,b∉its->s.heap.get? b=some u->h'.get? b=some u)(f:∀b∈its,rj X δ H b)(hT:s.heap.objs.size<=T)(new:bL X.prog X.w (upd H T o) h' T o):
  Inv X δ σ (upd H T o) {s with heap:=h',toks:=t'}:=by
 have hn:=I.aO.fresh hT;have P9:∀b u,H b=some u->b∉its:=λb u e z=>by rw[(f b z).1]at e;cases e
 refine I.call (ch:=its) (g':=s.gens) (d':=s.drawn) (t':=t') ⟨λb u q _ _ hb=>k b u hb q,λb u q _ _ hb=>⟨u.slots,k b u hb q⟩,λb u q n _=>?_,λb u q hb=>⟨u,k b u hb q⟩,λb xs q=>?_,λb u xs q=>?_,λb ps q=>⟨#[],?_⟩⟩ (λb u e=>?_) I.bare λb hb=>?_
 ·rw[Θ (aaP (aat (aar q) hT))];exact n
 ·rw[Θ (bJ q hn)];exact q
 ·rw[Θ (bJ q hn)];exact q
 ·rw[Θ (bJ q hn),q];simp
 ·by_cases hb:b=T
  ·subst hb;rw[aq]at e;cases e;exact new
  ·rw[Θ hb]at e;refine(I.aO b u e).Ai (λc v hc q=>k c v ?_ q) (λc q=>by rw[Θ (bJ q hn)];exact q) λc xs q=>by rw[Θ (bJ q hn)];exact q
   rcases hc with z| z
   ·rw[z];exact P9 b u e
   ·exact P9 c _ z
 ·have⟨f0,f1,f2,f3,f4,f5⟩:=f b hb;exact⟨f3,f1,f4,f5⟩
def W_(K:fI)(l:Addr):It:=
 ⟨λi H=>∃xs x,fj K H l xs/\xs[i]? =some x,λi H v H'=>∃p x,H p=none/\v= .ref p/\H'=upd H p (.tup [.int i,x])/\∀xs,fj K H l xs->xs[i]? =some x,λi H=>∃xs,fj K H l xs/\xs.length<=i⟩
def CZ{P:Program}{w:World}{K:fI}{elts:List Expr}{x1:Nat}{tp:Pos}(l it e:Addr)(pL:e≠it):Turn P w K (.Tuple elts x1 tp) (W_ K l) [e,it] e (λi h=>(∃old,IsEnum h e it i old)/\h.IsListIter it l i) where
 mem:=by simp
 obj:=λi h st b hb=>by
  have⟨⟨old,he⟩,hi⟩:=st;rcases aav.mp hb with rfl| hb
  ·exact⟨_,he,λv z=>by
    have z':Data.fields _=Data.cell v:=z
    cases z'⟩
  ·have e:b=it:=by simpa using hb
   subst e;have⟨o,e,c,d⟩:=hi;exact⟨o,e,λv z=>by rw[d]at z;cases z⟩
 keep:=λi h h' st k=>by have⟨⟨old,he⟩,hi⟩:=st;exact⟨⟨old,k e (by simp) _ he⟩,hi.at λo q=>k it (by simp) o q⟩
 item:=by
  intro X hP hw hK hc i δ s σ H E I hf st hg;subst hP hw hK;have⟨⟨old,he⟩,hi⟩:=st;have⟨xs,x,hq,hx⟩:=hg;have⟨its,rv,p,hz⟩:=I.list hq;have⟨u,hu,ru⟩:=rv.get hx;refine wpAny_pyNext_enum_item he hi p.isList (x:=u) (by simpa using hu) pL λh' ho Er hT hsz hk=>?_;refine⟨_,rfl,wpAny_letOwnedTupleGo_enum (s:={s with heap:=h',toks:=s.toks+1}) ho λh2 YV sb=>?_⟩;have sb:Heap.SameBut e h' h2:=sb;have elt:e < s.heap.objs.size:=aar he;have Zk:it < s.heap.objs.size:=by have⟨o,q,_⟩:=hi;exact aar q
  have neT:s.heap.objs.size≠e:=ach elt;have hT2:h2.get? s.heap.objs.size=some {cls:=.type "tuple",data:=.seq #[.int i s.toks,u]}:=(sb.2 _ neT).trans hT;have I2:Inv X δ σ (upd H s.heap.objs.size (.tup [.int i,x])) {s with heap:=h2,toks:=s.toks+1}:=by
   refine I.uj (its:=[e,it]) (λb o hb q=>?_) hf (aai _) ?_
   ·have h1:b≠e:=λz=>hb (by simp[z]);have h3:b≠it:=λz=>hb (by simp[z]);exact(sb.2 b h1).trans (hk b o h1 h3 q)
   ·refine⟨by simp[sizeLine_eq],[.int i s.toks,u],.cons ⟨_,rfl⟩ (.cons ru .nil),?_⟩;exact⟨_,hT2,rfl,0,rfl⟩
  have iter:h2.IsListIter it l (i+1):=Er.at λo q=>(sb.2 it (Ne.symm pL)).trans q;refine⟨.ref s.heap.objs.size,_,I2,rfl,⟨s.heap.objs.size,x,I.aO.fresh (Nat.le_refl _),rfl,rfl,λys hy=>by rw[I.bS hy hq];exact hx⟩,⟨⟨u,by simpa using YV⟩,iter⟩,λb hb=>?_⟩;have nb:b≠s.heap.objs.size:=by
   rcases aav.mp hb with rfl| hb
   ·exact aaP elt
   ·have:b=it:=by simpa using hb
    subst this;exact aaP Zk
  rw[Θ nb];exact(hf b hb).1
 done:=by intro X hP hw hK hc i δ s σ H E I hf st hg;subst hP hw hK;have⟨⟨old,he⟩,hi⟩:=st;have⟨xs,hq,hx⟩:=hg;have⟨its,rv,p,hz⟩:=I.list hq;have hl:=rv.length;have⟨f0,f1,f2,f3,f4,f5⟩:=hf it (by simp);refine wpAny_pyNext_enum_end (I.ok.hd hc) he hi p.isList (by simp;omega) λh' ext=>⟨rfl,I.turned (t':=s.toks) (λb o hb q=>ext b o hb q) f0 f1 f3 f4 f5⟩
 self:=λ_ _ _ _ _ st h=>by have⟨⟨old,he⟩,_⟩:=st;exact wpAny_pyIter_enum he h
def gG:Nat->List Dt->List Dt
 | _,[]=>[]
 | n,x::xs=>.tup [.int n,x]::gG (n+1) xs
def fo:∀(n:Nat) (xs:List Dt),(gG n xs).length=xs.length
 | _,[]=>rfl
 | n,_::xs=>by unfold gG;rw[List.length_cons,List.length_cons,fo]
def nK:∀{n i:Nat} {xs:List Dt} {d:Dt},(gG n xs)[i]? =some d->∃x,xs[i]? =some x/\d= .tup [.int ((n+i:Nat):Int),x]
 | n,i,[],d,h=>by simp[gG]at h
 | n,0,x::xs,d,h=>by unfold gG at h;simp at h;exact⟨x,rfl,by rw[<-h];simp⟩
 | n,i+1,x::xs,d,h=>by unfold gG at h;have⟨y,h1,h2⟩:=nK (n:=n+1) (i:=i) (xs:=xs) (d:=d) (by simpa using h);exact⟨y,by simpa using h1,by rw[h2,show n+1+i=n+(i+1) by omega]⟩
def Fe{K:fI}{G:Hp}{L:List Addr}{a:Addr}{xs:List Dt}{ok:Ms->Prop}(s:Src K a xs ok G L):Nf K (W_ K a) (gG 0 xs) ok G L where
 go:=λi G1 L1 M1 H1 d g l r k e=>by have⟨vs,hs,n⟩:=s.at_ G1 L1 M1 H1 g l r k;have⟨y,ey,rfl⟩:=nK e;have⟨v,e1,n1⟩:=n.get ey;refine⟨⟨vs,v,hs,e1⟩,λv' H' xz=>?_⟩;have⟨p,x,hp,ev,eH,hx⟩:=xz;subst ev eH;have e2:=hx vs hs;rw[e1]at e2;cases e2;refine⟨_,r.OY hp,r.KD hp,p_ (ds:=[.int ((0+i:Nat):Int),y]) r hp ⟨_,_,rfl,?_,_,_,rfl,n1,rfl⟩⟩;show V.int i=V.int _;rw[acd]
 stop:=λi G1 L1 M1 H1 g l r k e=>by have⟨vs,hs,n⟩:=s.at_ G1 L1 M1 H1 g l r k;exact⟨vs,hs,by rw[<-n.length,<-fo 0];exact e⟩
def RC(t:DA):DK:=λρ M q x=>t ρ M (λds M1=>∃d xs ok,ds=[d]/\iC M1 d=some (xs,ok)/\q (gG 0 xs) ok M1) x
def mw{X:Cx}{R:St->XK}{elts:List Expr}{x1:Nat}{tp:Pos}{a:Expr}{t:DA}{p pos:Pos}(hm:X.mg "enumerate"=none)(ha:JA X R [a] t)(hg:Gl X "enumerate":=by rfl)(hs:starEach [a] X.env=[(false,eval a X.env)]:=by rfl):JK X R (.Tuple elts x1 tp) (.Call (.Name "enumerate" p) [a] [] pos) (RC t):=by
 intro δ s σ H Q I ⟨G,L,ρ,M,q,x,rl,n,ht,hx,hQ⟩;refine Call_ (lJ I hg hm AF (PyProof.Rows.callWith_type1 (bH (ha pos δ s σ H (K4 X.K G L H _) I ⟨G,L,ρ,M,_,x,rl,n,ht,hx,λ_ _ f=>f⟩) λus s1 xz=>?_) hs rfl));have⟨vs,H1,I1,rv,ds,G1,L1,M1,e1,r1,n1,d,xs,ok,ed,hl,h1⟩:=xz;subst ed;have⟨v,rfl,n2⟩:=bF n1;have⟨b,ws,rfl,sq,sr,_⟩:=qT r1 n2 hl;have⟨u,rfl,ru⟩:=ar.one rv;cases ru;have⟨its,_,pl,_⟩:=I1.list sq;refine call_enumerate_list pl.isList λh' he hi hz hk=>?_;have I2:Inv X δ σ H1 {s1 with heap:=h'}:=I1.kept (t':=s1.toks) hk;refine wpAny_pyIter_enum (s:={s1 with heap:=h'}) he ⟨s1.heap.objs.size+1,[s1.heap.objs.size+1,s1.heap.objs.size],_,_,H1,rfl,I2,CZ b s1.heap.objs.size (s1.heap.objs.size+1) (ach (abq _)),⟨⟨_,he⟩,hi⟩,λc hc=>?_,hQ _ _ ⟨_,ok,G1,L1,M1,e1,r1,Fe sr,h1⟩⟩;have hc:s1.heap.objs.size<=c:=by
  rcases aav.mp hc with rfl| hc
  ·exact Nat.le_succ _
  ·have:c=s1.heap.objs.size:=by simpa using hc
   rw[this];exact aai _
 have f:=I1.z7 (H':=H1) hc (I1.aO.fresh hc);exact f
def Fz(M:Ms):Dt->Option Value
 | .loc k=>match M[k]? with
  | some (.lst _)=>some (.type "list")
  | _=>none
 | d=>Lr d
def LA(K:fI):List Dt->Ms->DQ->Prop:=λds M q=>∃d c t t' b,ds=[d,c]/\Fz M d=some t/\Rx c=some t'/\PySem.W.kitOne K t t'=some b/\q (.bl b) M
section
variable{K:fI}
def Bm{G:Hp}{L:List Addr}{M:Ms}{H:Hp}{d:Dt}{v:V}{t:Value}(r:Rl K G L M H)(n:Den K G L d v)(h:Fz M d=some t):ku K H v t:=by
 by_cases hd:∃k,d= .loc k
 ·have⟨k,rfl⟩:=hd;have⟨a,rfl,e⟩:=n;have h:(match M[k]? with| some (.lst _)=>some (Value.type "list")| _=>none)=some t:=h;split at h
  ·rename_i xs hm;cases h;have⟨_,vs,e1,_⟩:=r.gr k a _ e hm;exact .lst e1
  ·cases h
 ·refine DW r n ?_;cases d with
  | loc k=>exact aaE ⟨k,rfl⟩ hd
  | _=>exact h
def RY:CN K (λxs H Q=>∃x c t t' b,xs=[x,c]/\ku K H x t/\Js c=some t'/\PySem.W.kitOne K t t'=some b/\Q (.bl b) H) (LA K):=by intro G0 L0 H0 G L M H vs ds q e r n ⟨d,c,t,t',b,ed,h1,h2,hb,h⟩;subst ed;have⟨v,u,rfl,n1,n2⟩:=dM n;exact⟨v,u,t,t',b,rfl,Bm r n1 h1,J3 n2 h2,hb,bV e r h⟩
end
section
variable{X:Cx}{R:St->XK}{e e2:Expr}{t:DA}{p pos:Pos}
def AW(K:fI)(hm:X.mg "isinstance"=none)(ha:JA X R [e,e2] t)(he:starEach [e,e2] X.env=(false,eval e X.env)::starEach [e2] X.env:=by rfl)(e6:(backTo pos (starEach [e2] X.env)).any (·.1)=false:=by rfl)(hg:Gl X "isinstance":=by rfl)(hK:X.K=K:=by rfl):JE X R (.Call (.Name "isinstance" p) [e,e2] [] pos) (Ba (LA K) t):=by subst hK;exact fh yr RY hm oa ha hg @_ @_ he e6
def ui:∀{zs:List Str} {us:List Value},Paired (λ(z:Str) (u:Value)=>∃tk,u= .str z tk) zs us->ar (zs.map V.str) us
 | _,_,.nil=>.nil
 | _,_,.cons h t=>.cons h (ui t)
def LO{x:Str}{zs:List Str}(hm:∃a o its n,X.mg x=some (.ref a)/\X.K.lookup a=some o/\o.cls= .type "tuple"/\o.data= .seq its n/\its.size<=sizeLine/\Paired (λ(z:Str) (u:Value)=>∃tk,u= .str z tk) zs its.toList)(hg:Gl X x:=by rfl)(hd:(x==("__debug__":Str))=false:=by decide):JE X R (.Name x pos) (dC (.kt (zs.map .str))):=by have⟨a,o,its,n,h1,h2,h3,h4,h5,h6⟩:=hm;exact N1 (v:=.ref a) (CJ hg h1 rfl hd) λG L=>⟨a,zs.map V.str,rfl,.inr ⟨o,its,n,h2,h3,h4,h5,ui h6⟩,uk⟩
end
def dw{te:DE}{cs:En}{ok:Ms->Prop}{f:Dt->Dt}:∀{xs acc:List Dt} {M:Ms} {k:List Dt->Ms->Prop},ok M->(∀x∈xs,∀q:DQ,q (f x) M->te (some x::cs) M q jh)->k (acc++xs.map f) M->kB te cs ok xs acc M k
 | [],acc,M,k,ho,_,h=>⟨ho,by simpa using h⟩
 | x::xs,acc,M,k,ho,hf,h=>⟨ho,hf x List.mem_cons_self _ (dw ho (λy hy=>hf y (List.mem_cons_of_mem _ hy)) (by simpa using h))⟩
def bC{g:Dt->En->(En->Prop)->Prop}{tb:DS}{Dn:kD}{ok:Ms->Prop}(J:List Dt->En->Ms->Prop)(aO:∀xs ρ M,J xs ρ M->ok M)
  (step:∀x xs ρ M,J (x::xs) ρ M->(∀ρ M,J xs ρ M->vE g tb Dn ok xs ρ M)->g x ρ λρ'=>tb {Dn with nx:=vE g tb Dn ok xs,ct:=vE g tb Dn ok xs,bk:=Dn.nx} ρ' M)
  (fin:∀ρ M,J [] ρ M->Dn.nx ρ M):∀(xs:List Dt) (ρ:En) (M:Ms),J xs ρ M->vE g tb Dn ok xs ρ M
 | [],ρ,M,h=>⟨aO _ _ _ h,fin _ _ h⟩
 | x::xs,ρ,M,h=>⟨aO _ _ _ h,step x xs ρ M h λρ' M' h'=>bC J aO step fin xs ρ' M' h'⟩
section
variable{K:fI}{G:Hp}{L:List Addr}
mutual
def L8:∀(d:Dt) (v:V),Den K G L d v->d.under L.length
 | .aJ,_,_=>trivial
 | .bl _,_,_=>trivial
 | .int _,_,_=>trivial
 | .str _,_,_=>trivial
 | .tup ds,_,⟨a,vs,e,h1,h2⟩=>eQ ds vs h2
 | .lst ds,_,⟨a,vs,e,h1,h2⟩=>eQ ds vs h2
 | .obj C ns ds,_,⟨a,dx,vs,e,h1,hl,h2⟩=>eQ ds vs h2
 | .loc k,_,⟨a,e,h1⟩=>(aaf.mp h1).1
 | .ref _,_,_=>trivial
 | .ty _,_,_=>trivial
 | .hW _,_,_=>trivial
 | .kt ds,_,⟨a,vs,e,h1,h2⟩=>eQ ds vs h2
 | .exc _ _ ds,_,⟨a,od,vs,e,h1,h2,h3,h4⟩=>eQ ds vs h4
 | .OU _ _ _ _ ds,_,⟨vs,e,h2,h3,h4⟩=>eQ ds vs h4
def eQ:∀(ds:List Dt) (vs:List V),Λ K G L ds vs->Dt.bo L.length ds
 | [],_,_=>trivial
 | d::ds,_,⟨v,r,e,h1,h2⟩=>⟨L8 d v h1,eQ ds r h2⟩
end
def Rl.un{M:Ms}{H:Hp}(r:Rl K G L M H):∀m∈M,MO.under M.length m:=λm hm=>by
 have⟨k,hk,e⟩:=abf hm;have em:M[k]? =some m:=by rw[aaa hk,e]
 have el:L[k]? =some (L[k]'(by rw[r.len];exact hk)):=aaa _;have⟨_,q⟩:=r.gr k _ m el em;rw[<-r.len];cases m with
 | lst ds=>have⟨vs,_,h⟩:=q;exact eQ _ _ h
 | ins C ns ds=>have⟨dx,vs,_,_,h⟩:=q;exact eQ _ _ h
 | kE ks ds=>have⟨vs,_,_,h⟩:=q;exact eQ _ _ h
 | raw u=>trivial
end
def u9(M0:Ms)(q:DQ):DQ:=λd M=>∃E d',M=M0++E/\BH M0.length E d d'/\q d' M0
def Fin.u9{K:fI}{G0:Hp}{L0:List Addr}{M0:Ms}{H0:Hp}{q:DQ}{v:V}{H:Hp}(r0:Rl K G0 L0 M0 H0)(f:Fin K G0 L0 H0 (u9 M0 q) v H):Fin K G0 L0 H0 q v H:=by have⟨d,G,L,M,ex,r,dn,E,d',e,fz,hq⟩:=f;exact Fin.xD r0 ⟨d,G,L,M,ex,r,dn,M0,E,d',e,rfl,r0.un,fz,hq⟩
def Sa(t:DE):DE:=λρ M q x=>t ρ M (u9 M q) x
def cX{X:Cx}{R:St->XK}{e:Expr}{t:DE}(h:JE X R e t):JE X R e (Sa t):=.of h λσ H G L ρ M q x rl n ht hx=>⟨G,L,ρ,M,_,x,rl,n,ht,hx,λv H1 f=>Fin.u9 rl f⟩
def Kj{M0:Ms}{q:DQ}{d:Dt}(hu:d.under M0.length)(h:q d M0):u9 M0 q d M0:=⟨[],d,by simp,.old hu,h⟩
def gX{M0 E:Ms}{q:DQ}{d d':Dt}(f:BH M0.length E d d')(h:q d' M0):u9 M0 q d (M0++E):=⟨E,d',rfl,f,h⟩
def fv(f:Expr->Option Dt):List Expr->Option (List Dt)
 | []=>some []
 | e::es=>match f e,fv f es with
  | some d,some ds=>some (d::ds)
  | _,_=>none
def fV:Nat->Expr->Option Dt
 | 0,e=>match e with
  | .Constant (.int i) _ _=>some (.int i)
  | .Constant (.str x) _ _=>some (.str x)
  | _=>none
 | n+1,e=>match e with
  | .Constant (.int i) _ _=>some (.int i)
  | .Constant (.str x) _ _=>some (.str x)
  | .Tuple es _ _=>if es.length<=100 then (fv (fV n) es).map .tup else none
  | .List es _=>if es.length<=100 then (fv (fV n) es).map .lst else none
  | _=>none
def AV{n:Nat}{e:Expr}{d:Dt}{es:List Expr}{env:Env}(h:fV n e=some d):starEach (e::es) env=(false,eval e env)::starEach es env:=by cases n <;> (unfold fV at h;split at h <;> first| rfl| cases h)
def jW{f:Expr->Option Dt}:∀{es:List Expr} {ds:List Dt},fv f es=some ds->ds.length=es.length
 | [],ds,h=>by cases h;rfl
 | e::es,ds,h=>by
  unfold fv at h;split at h
  ·rename_i d Kr h1 h2;cases h;rw[aaI,aaI,jW h2]
  ·cases h
section
variable{X:Cx}{R:St->XK}
def qx{n:Nat}(ih:∀(e:Expr) (d:Dt),fV n e=some d->JE X R e (dC d)):∀(es:List Expr) (ds:List Dt),fv (fV n) es=some ds->JA X R es (λ_ M q _=>q ds M)
 | [],ds,h=>by cases h;exact η
 | e::es,ds,h=>by
  unfold fv at h;split at h
  ·rename_i d Kr h1 h2;cases h;exact θ (ih e d h1) (qx ih es Kr h2) (hs:=AV h1)
  ·cases h
def BM{n:Nat}(h:n<=100):n<=sizeLine:=aaA h @_
def JE.imp{e:Expr}{t t':DE}(h:JE X R e t)(hi:∀ρ M q x,t' ρ M q x->t ρ M q x):JE X R e t':=.of h λσ H G L ρ M q x rl n ht hx=>⟨G,L,ρ,M,q,x,rl,n,hi _ _ _ _ ht,hx,λ_ _ f=>f⟩
def gM:∀(n:Nat) {e:Expr} {d:Dt},fV n e=some d->JE X R e (dC d)
 | 0,e,d,h=>by
  unfold fV at h;split at h
  ·cases h;exact υ
  ·cases h;exact mH
  ·cases h
 | n +1,e,d,h=>by
  unfold fV at h;split at h
  ·cases h;exact υ
  ·cases h;exact mH
  ·split at h
   ·rename_i es _ _ hl;cases hc:fv (fV n) es with
    | none=>rw[hc]at h;cases h
    | some ds=>
     rw[hc]at h;cases h;exact(bO (qx (λe d=>gM n) es ds hc)).imp λρ M q x hq=>⟨BM (by rw[jW hc];exact hl),hq⟩
   ·cases h
  ·split at h
   ·rename_i es _ hl;cases hc:fv (fV n) es with
    | none=>rw[hc]at h;cases h
    | some ds=>
     rw[hc]at h;cases h;exact(ng (qx (λe d=>gM n) es ds hc)).imp λρ M q x hq=>⟨BM (by rw[jW hc];exact hl),hq⟩
   ·cases h
  ·cases h
end
def C5:bootBuiltins "zip"=some (.type "zip"):=by decide+kernel
def Inv.JD{X:Cx}{δ:List (Addr×Obj)}{σ:St}{H:Hp}{s:Shared}{h':Heap}{its:List Addr}{t':Nat}(I:Inv X δ σ H s)(k:∀b u,b∉its->s.heap.get? b=some u->h'.get? b=some u)(f:∀b∈its,rj X δ H b):
  Inv X δ σ H {s with heap:=h',toks:=t'}:=by
 have P9:∀b u,H b=some u->b∉its:=λb u e z=>by rw[(f b z).1]at e;cases e
 refine I.call (ch:=its) (g':=s.gens) (d':=s.drawn) (t':=t') ⟨λb u q _ _ hb=>k b u hb q,λb u q _ _ hb=>⟨u.slots,k b u hb q⟩,λb u q n _=>n,λb u q hb=>⟨u,k b u hb q⟩,λb xs q=>q,λb u xs q=>q,λb ps q=>⟨#[],by rw[q];simp⟩⟩ (λb u e=>?_) I.bare λb hb=>?_
 ·refine(I.aO b u e).Ai (λc v hc q=>k c v ?_ q) (λc q=>q) λc xs q=>q;rcases hc with z| z
  ·rw[z];exact P9 b u e
  ·exact P9 c _ z
 ·have⟨f0,f1,f2,f3,f4,f5⟩:=f b hb;exact⟨f3,f1,f4,f5⟩
def WL(K:fI)(l1 l2:Addr):It:=
 ⟨λi H=>∃xs ys x y,fj K H l1 xs/\fj K H l2 ys/\xs[i]? =some x/\ys[i]? =some y,
  λi H v H'=>∃p x y,H p=none/\v= .ref p/\H'=upd H p (.tup [x,y])/\(∀xs,fj K H l1 xs->xs[i]? =some x)/\∀ys,fj K H l2 ys->ys[i]? =some y,
  λi H=>∃xs ys,fj K H l1 xs/\fj K H l2 ys/\(xs.length<=i\/ys.length<=i)⟩
def Hf{P:Program}{w:World}{K:fI}{elts:List Expr}{x1:Nat}{tp:Pos}{l1 l2 i1 i2 TI TO z:Addr}(D:ZipApart z TI TO i1 i2 l1 l2):Turn P w K (.Tuple elts x1 tp) (WL K l1 l2) [z,TI,TO,i1,i2] z (λi h=>(∃a b,IsZip h z TI TO .none/\IsPair h TI (.ref i1) (.ref i2)/\IsPair h TO a b)/\h.IsListIter i1 l1 i/\h.IsListIter i2 l2 i) where
 mem:=by simp
 obj:=λi h st b hb=>by
  have⟨⟨a,c,hz,Gv,IU⟩,h1,h2⟩:=st;simp only[List.mem_cons,List.not_mem_nil,or_false]at hb;rcases hb with rfl| rfl| rfl| rfl| rfl
  ·exact⟨_,hz,λv z=>by
    have z':Data.fields _=Data.cell v:=z
    cases z'⟩
  ·exact⟨_,Gv,λv z=>by
    have z':Data.seq _=Data.cell v:=z
    cases z'⟩
  ·exact⟨_,IU,λv z=>by
    have z':Data.seq _=Data.cell v:=z
    cases z'⟩
  ·have⟨o,e,c,d⟩:=h1;exact⟨o,e,λv z=>by rw[d]at z;cases z⟩
  ·have⟨o,e,c,d⟩:=h2;exact⟨o,e,λv z=>by rw[d]at z;cases z⟩
 keep:=λi h h' st k=>by have⟨⟨a,c,hz,Gv,IU⟩,h1,h2⟩:=st;exact⟨⟨a,c,k z (by simp) _ hz,k TI (by simp) _ Gv,k TO (by simp) _ IU⟩,h1.at λo q=>k i1 (by simp) o q,h2.at λo q=>k i2 (by simp) o q⟩
 item:=by
  intro X hP hw hK hc i δ s σ H E I hf st hg;subst hP hw hK;have⟨⟨a,c,hz,Gv,IU⟩,h1,h2⟩:=st;have⟨xs,ys,x,y,QX,OS,hx,hy⟩:=hg;have⟨Wl,Tw,p1,_⟩:=I.list QX;have⟨u1,hu1,TM⟩:=Tw.get hx;have⟨FU,TN,p2,_⟩:=I.list OS;have⟨u2,hu2,ru2⟩:=TN.get hy;refine wpAny_pyNext_zip_item D hz Gv IU h1 h2 p1.isList p2.isList (x:=u1) (y:=u2) (by simpa using hu1) (by simpa using hu2) λh' SG Wa n6 KZ hT hsz hk=>?_;refine⟨_,rfl,wpAny_letOwnedTupleGo_zip (s:={s with heap:=h'}) SG λh3 hz3 sb=>?_⟩;have sb:Heap.SameBut z h' h3:=sb;have XW:z < s.heap.objs.size:=aar hz;have neT:s.heap.objs.size≠z:=ach XW;have hT3:h3.get? s.heap.objs.size=some {cls:=.type "tuple",data:=.seq #[u1,u2]}:=(sb.2 _ neT).trans hT;have lt:∀b∈[z,TI,TO,i1,i2],b < s.heap.objs.size:=λb hb=>by
   simp only[List.mem_cons,List.not_mem_nil,or_false]at hb;rcases hb with rfl| rfl| rfl| rfl| rfl
   ·exact XW
   ·exact aar Gv
   ·exact aar IU
   ·have⟨o,q,_⟩:=h1;exact aar q
   ·have⟨o,q,_⟩:=h2;exact aar q
  have I2:Inv X δ σ (upd H s.heap.objs.size (.tup [x,y])) {s with heap:=h3,toks:=s.toks}:=by
   refine I.uj (its:=[z,TI,TO,i1,i2]) (λb o hb q=>?_) hf (aai _) ?_
   ·simp only[List.mem_cons,List.not_mem_nil,or_false,not_or]at hb;have⟨b1,b2,b3,b4,b5⟩:=hb;exact(sb.2 b b1).trans (hk b o b1 b3 b4 b5 q)
   ·refine⟨by simp[sizeLine_eq],[u1,u2],.cons TM (.cons ru2 .nil),?_⟩;exact⟨_,hT3,rfl,0,rfl⟩
  refine⟨.ref s.heap.objs.size,_,I2,rfl,⟨s.heap.objs.size,x,y,I.aO.fresh (aai _),rfl,rfl,λzs T1=>by rw[I.bS T1 QX];exact hx,λzs T1=>by rw[I.bS T1 OS];exact hy⟩,⟨⟨u1,u2,hz3,(sb.2 _ D.TIz).trans (hk _ _ D.TIz D.TITO D.TIi1 D.TIi2 Gv),(sb.2 _ D.TOz).trans Wa⟩,n6.at λo q=>(sb.2 i1 D.i1z).trans q,KZ.at λo q=>(sb.2 i2 D.i2z).trans q⟩,λb hb=>?_⟩;rw[Θ (aaP (lt b hb))];exact(hf b hb).1
 done:=by intro X hP hw hK hc i δ s σ H E I hf st hg;subst hP hw hK;have⟨⟨a,c,hz,Gv,IU⟩,h1,h2⟩:=st;have⟨xs,ys,QX,OS,hx⟩:=hg;have⟨Wl,Tw,p1,_⟩:=I.list QX;have⟨FU,TN,p2,_⟩:=I.list OS;have UK:=Tw.length;have Fu:=TN.length;refine wpAny_pyNext_zip_end (I.ok.hd hc) D hz Gv IU h1 h2 p1.isList p2.isList (by rcases hx with hx| hx;(left;simp;omega);(right;simp;omega)) λh' ext=>⟨rfl,I.JD (t':=s.toks) (its:=[z,TI,TO,i1,i2]) (λb o hb q=>?_) hf⟩;simp only[List.mem_cons,List.not_mem_nil,or_false,not_or]at hb;have⟨b1,b2,b3,b4,b5⟩:=hb;exact ext b o b1 b3 b4 b5 q
 self:=λ_ _ _ _ _ st h=>by have⟨⟨a,c,hz,_,_⟩,_⟩:=st;exact wpAny_pyIter_zip hz h
def s_(xs ys:List Dt):List Dt:=(xs.zip ys).map λp=>.tup [p.1,p.2]
def E6{xs ys:List Dt}{i:Nat}{d:Dt}(h:(s_ xs ys)[i]? =some d):∃x y,xs[i]? =some x/\ys[i]? =some y/\d= .tup [x,y]:=by
 unfold s_ at h;rw[aak]at h;cases e:(xs.zip ys)[i]? with
 | none=>rw[e]at h;cases h
 | some p=>
  rw[e]at h;cases h;have⟨h1,h2⟩:=List.getElem?_zip_eq_some.mp e;exact⟨p.1,p.2,h1,h2,rfl⟩
def yP(xs ys:List Dt):(s_ xs ys).length=min xs.length ys.length:=by unfold s_;rw[List.length_map,List.length_zip]
def KQ{K:fI}{G:Hp}{L:List Addr}{a b:Addr}{xs ys:List Dt}{ok OT:Ms->Prop}(s:Src K a xs ok G L)(s':Src K b ys OT G L):Nf K (WL K a b) (s_ xs ys) (λM=>ok M/\OT M) G L where
 go:=λi G1 L1 M1 H1 d g l r k e=>by have⟨vs,hs,n⟩:=s.at_ G1 L1 M1 H1 g l r k.1;have⟨Sw,SQ,n'⟩:=s'.at_ G1 L1 M1 H1 g l r k.2;have⟨x,y,ex,ey,rfl⟩:=E6 e;have⟨v,e1,n1⟩:=n.get ex;have⟨v',Xi,Zs⟩:=n'.get ey;refine⟨⟨vs,Sw,v,v',hs,SQ,e1,Xi⟩,λw H' xz=>?_⟩;have⟨p,x2,y2,hp,ev,eH,hx,hy⟩:=xz;subst ev eH;have e2:=hx vs hs;rw[e1]at e2;cases e2;have e3:=hy Sw SQ;rw[Xi]at e3;cases e3;exact⟨_,r.OY hp,r.KD hp,p_ (ds:=[x,y]) r hp ⟨_,_,rfl,n1,_,_,rfl,Zs,rfl⟩⟩
 stop:=λi G1 L1 M1 H1 g l r k e=>by have⟨vs,hs,n⟩:=s.at_ G1 L1 M1 H1 g l r k.1;have⟨Sw,SQ,n'⟩:=s'.at_ G1 L1 M1 H1 g l r k.2;refine⟨vs,Sw,hs,SQ,?_⟩;rw[<-n.length,<-n'.length];rw[yP]at e;omega
def Vg(t:DA):DK:=λρ M q x=>t ρ M (λds M1=>∃d d' xs ys ok OT,ds=[d,d']/\iC M1 d=some (xs,ok)/\iC M1 d'=some (ys,OT)/\q (s_ xs ys) (λM=>ok M/\OT M) M1) x
def Gg{X:Cx}{R:St->XK}{elts:List Expr}{x1:Nat}{tp:Pos}{a a':Expr}{t:DA}{p pos:Pos}(hm:X.mg "zip"=none)(ha:JA X R [a,a'] t)(hg:Gl X "zip":=by rfl)(hs:starEach [a,a'] X.env=(false,eval a X.env)::starEach [a'] X.env:=by rfl)(e6:(backTo pos (starEach [a'] X.env)).any (·.1)=false:=by rfl):JK X R (.Tuple elts x1 tp) (.Call (.Name "zip" p) [a,a'] [] pos) (Vg t):=by
 intro δ s σ H Q I ⟨G,L,ρ,M,q,x,rl,n,ht,hx,hQ⟩;refine Call_ (lJ I hg hm C5 (PyProof.Rows.callWith_type1 (bH (ha pos δ s σ H (K4 X.K G L H _) I ⟨G,L,ρ,M,_,x,rl,n,ht,hx,λ_ _ f=>f⟩) λus s1 xz=>?_) hs e6));have⟨vs,H1,I1,rv,ds,G1,L1,M1,e1,r1,n1,d,d',xs,ys,ok,OT,ed,hl,Lu,h1⟩:=xz;subst ed;have⟨v,v',rfl,n2,Zc⟩:=dM n1;have⟨b,ws,rfl,sq,sr,_⟩:=qT r1 n2 hl;have⟨b',ws',rfl,sq',Yp,_⟩:=qT r1 Zc Lu;cases rv with
 | cons ru rv=>
  cases rv with
  | cons YB rv=>
   cases rv;cases ru;cases YB;have⟨its,_,pl,_⟩:=I1.list sq;have⟨its',_,WH,_⟩:=I1.list sq';have Uj:b < s1.heap.objs.size:=by have⟨o,q,_⟩:=pl.isList;exact aar q
   have Sk:b' < s1.heap.objs.size:=by have⟨o,q,_⟩:=WH.isList;exact aar q
   refine call_zip_2 pl.isList WH.isList λh' hz Gv IU hi Er hsz hk=>?_;have I2:Inv X δ σ H1 {s1 with heap:=h'}:=I1.kept (t':=s1.toks) hk;have D:ZipApart (s1.heap.objs.size+4) (s1.heap.objs.size+2) (s1.heap.objs.size+3) s1.heap.objs.size (s1.heap.objs.size+1) b b':=by have ne:∀i j:Nat,i≠j->s1.heap.objs.size+i≠s1.heap.objs.size+j:=λi j h z=>h (Nat.add_left_cancel z);have n1:∀i:Nat,b≠s1.heap.objs.size+i:=λi=>aaP (aat Uj (abr _ _));have n2:∀i:Nat,b'≠s1.heap.objs.size+i:=λi=>aaP (aat Sk (abr _ _));exact⟨ne 2 4 @_,ne 3 4 @_,ne 0 4 @_,ne 1 4 @_,ne 2 3 @_,ne 2 0 @_,ne 2 1 @_,ne 3 0 @_,ne 3 1 @_,ne 0 1 @_,n1 4,n1 3,n1 0,n1 1,n2 4,n2 3,n2 0,n2 1⟩
   refine wpAny_pyIter_zip (s:={s1 with heap:=h'}) hz ⟨s1.heap.objs.size+4,[s1.heap.objs.size+4,s1.heap.objs.size+2,s1.heap.objs.size+3,s1.heap.objs.size,s1.heap.objs.size+1],_,_,H1,rfl,I2,Hf D,⟨⟨_,_,hz,Gv,IU⟩,hi,Er⟩,λc hc=>?_,hQ _ _ ⟨_,_,G1,L1,M1,e1,r1,KQ sr Yp,h1⟩⟩;have hc:s1.heap.objs.size<=c:=by
    simp only[List.mem_cons,List.not_mem_nil,or_false]at hc;rcases hc with rfl| rfl| rfl| rfl| rfl
    ·exact abr _ _
    ·exact abr _ _
    ·exact abr _ _
    ·exact aai _
    ·exact abr _ _
   have f:=I1.z7 (H':=H1) hc (I1.aO.fresh hc);exact f
section
variable{X:Cx}{R:St->XK}{elt iter c:Expr}{x y:Str}{px py tp:Pos}{scope:Scope}{pos:Pos}{ti:DK}{tc:DT}{te:DE}{ys:List Str}{Μ:List Nat}{kk:Nat}
def yu(S:ag X scope [x] ys Μ)(hi:JK X R (.Name x px) iter ti)(ht:∀C s H fp,JT (Cx.comp X (x::ys) scope C s H fp) (λ_=>E0) c tc)(he:∀C s H fp,JE (Cx.comp X (x::ys) scope C s H fp) (λ_=>E0) elt te)(hc:X.calm=true:=by rfl)(hs:∀x,foldedSetIterable iter X.env x=pure x:=by intro _;rfl):JE X R (.ListComp elt [⟨.Name x px,iter,[c],0⟩] scope pos) (FP 1 ti (gN 0) tc te Μ):=QS false S hi (dN S (i:=0) rfl) aM (c_ (Nat.zero_lt_succ 0)) (λC s H fp=>Ct (ht C s H fp)) he hc hs λ_ _ _ _ h=>h
end
def d4{g:Dt->En->(En->Prop)->Prop}{tc:DT}{te:DE}{ρ0:En}{ok:Ms->Prop}{M:Ms}{k:List Dt->Ms->Prop}(ho:ok M)(b:Dt->Bool)(f:Dt->Dt):∀(xs acc:List Dt),(∀x∈xs,∀(q:DQ) (p:Ms->Prop),(b x=true->q (f x) M)->(b x=false->p M)->g x ρ0 λρ'=>tc ρ' M (λb' M1=>match b' with| true=>te ρ' M1 q jh| false=>p M1) jh)->
  k (acc++(xs.filter b).map f) M->gO g tc te ρ0 ok xs acc M k
 | [],acc,_,h=>⟨ho,by simpa using h⟩
 | x::xs,acc,ht,h=>⟨ho,ht x List.mem_cons_self _ _ (λhb=>d4 ho b f xs _ (λy hy=>ht y (List.mem_cons_of_mem _ hy)) (by simpa [hb] using h)) λhb=>d4 ho b f xs _ (λy hy=>ht y (List.mem_cons_of_mem _ hy)) (by simpa [hb] using h)⟩
def Dd(xs:List V)(k:Nat):sQ xs (some (k:Int)) none=xs.drop k:=by
 unfold sQ;rw[HT.pV,HT.zb];by_cases h:k<=xs.length
 ·rw[abU h,abg (by rw[abw];omega)]
 ·rw[Nat.min_eq_right (),List.drop_eq_nil_of_le (Nat.le_refl _),List.drop_eq_nil_of_le ()];simp
section
variable{κ:Type} [DecidableEq κ]
def nN(Ι:List (κ×V))(k:κ):Option V:=(Ι.find? λkv=>decide (kv.1=k)).map (·.2)
def jg(Ι:List (κ×V))(k:κ)(v:V):List (κ×V):=
 if (Ι.any λkv=>decide (kv.1=k))=true then Ι.map (λkv=>if kv.1=k then (kv.1,v) else kv) else Ι++[(k,v)]
def jQ{p:κ×V}{r:List (κ×V)}{k:κ}(e:p.1=k):nN (p::r) k=some p.2:=by simp[nN,List.find?_cons,e]
def jH{p:κ×V}{r:List (κ×V)}{k:κ}(e:¬p.1=k):nN (p::r) k=nN r k:=by simp[nN,List.find?_cons,e]
def rM(k:κ):∀Ι:List (κ×V),(Ι.any λkv=>decide (kv.1=k))=(nN Ι k).isSome
 | []=>rfl
 | p::r=>by
  rw[abP];by_cases e:p.1=k
  ·simp only[jQ e,decide_eq_true e,Bool.true_or,Option.isSome_some]
  ·rw[jH e,aam e,Bool.false_or];exact rM k r
def jG(Ι:List (κ×V))(k:κ)(v:V):(jg Ι k v).length<=Ι.length+1:=by
 unfold jg;split
 ·rw[aag];omega
 ·rw[aah,aaI,List.length_nil];omega
def jM.oG{o:Option V}{u:Option Value}(r:jM o u):o.isSome=u.isSome:=by
 cases o with
 | none=>cases u with
  | none=>rfl
  | some _=>exact(show False from r).elim
 | some _=>cases u with
  | none=>exact(show False from r).elim
  | some _=>rfl
def KV.val{Ι:List (κ×V)}{vs:List (κ×Value)}(r:KV Ι vs)(k:κ):jM (nN Ι k) (valueAt vs k):=by
 unfold KV at r
 induction r with
 | nil=>exact True.intro
 | @cons p q ps qs h t ih=>
  have⟨h1,h2⟩:=h;by_cases e:p.1=k
  ·have e':q.1=k:=h1.symm.trans e;have b:valueAt (q::qs) k=some q.2:=by simp[valueAt,List.find?_cons,e']
   rw[jQ e,b];exact h2
  ·have e':¬q.1=k:=λz=>e (h1.trans z);have b:valueAt (q::qs) k=valueAt qs k:=by simp[valueAt,List.find?_cons,e']
   rw[jH e,b];exact ih
def KV.any{Ι:List (κ×V)}{vs:List (κ×Value)}(r:KV Ι vs)(k:κ):(Ι.any λkv=>decide (kv.1=k))=vs.any λkv=>decide (kv.1=k):=by
 unfold KV at r
 induction r with
 | nil=>rfl
 | cons h t ih=>rw[abP,abP,ih,h.1]
def KV.Ol{Ι:List (κ×V)}{vs:List (κ×Value)}(r:KV Ι vs)(k:κ){y:V}{u:Value}(ry:ax y u):
  KV (Ι.map λkv=>if kv.1=k then (kv.1,y) else kv) (vs.map λkv=>if kv.1=k then (kv.1,u) else kv):=by
 unfold KV at r⊢
 induction r with
 | nil=>exact .nil
 | @cons p q ps qs h t ih=>
  rw[aaW,aaW];refine .cons ?_ ih;have⟨h1,h2⟩:=h;by_cases e:p.1=k
  ·rw[aaw e,aaw (h1.symm.trans e)];exact⟨h1,ry⟩
  ·rw[aay e,aay (λz=>e (h1.trans z))];exact⟨h1,h2⟩
def KV.put{Ι:List (κ×V)}{vs:List (κ×Value)}(r:KV Ι vs)(k:κ){y:V}{u:Value}(ry:ax y u):KV (jg Ι k y) (stored vs k u):=by
 unfold jg stored;rw[r.any k];by_cases e:(vs.any λkv=>decide (kv.1=k))=true
 ·rw[aaw e,aaw e];exact r.Ol k ry
 ·rw[aay e,aay e];exact Paired.snoc r ⟨rfl,ry⟩
def KV.length{Ι:List (κ×V)}{vs:List (κ×Value)}(r:KV Ι vs):Ι.length=vs.length:=Paired.length r
end
def yj{P:Program}{w:World}{k:Key}{u:Value}(r:ax (kV k) u):(bQ P w).is k u=true:=by
 cases k with
 | inl i=>have⟨t,e⟩:=(show∃t,u=Value.int i t from r);subst e;exact xF P w i t
 | inr x=>have⟨t,e⟩:=(show∃t,u=Value.str x t from r);subst e;exact yf P w x t
def tZ{P:Program}{w:World}:∀{ks:List Key} {us:List Value},ar (ks.map kV) us->ItemsAre (bQ P w) ks us
 | [],_,r=>by rw[List.map_nil]at r;cases r;exact .nil
 | k::ks,_,r=>by
  rw[aaW]at r;cases r with
  | cons h t=>exact .cons (yj h) (tZ t)
abbrev KT(H:Hp):List (List Key×V)->List (List Key×Addr×Value)->Prop:=Paired λp q=>p.1=q.1/\H q.2.1=some (.tup (p.1.map kV))/\ax p.2 q.2.2
def KT.val{H:Hp}{Ι:List (List Key×V)}{xs:List (List Key×Addr×Value)}(r:KT H Ι xs)(k:List Key):jM (nN Ι k) ((atKey xs k).map (·.2)):=by
 induction r with
 | nil=>exact True.intro
 | @cons p q ps qs h t ih=>
  have⟨h1,_,h2⟩:=h;by_cases e:p.1=k
  ·have e':q.1=k:=h1.symm.trans e;have b:atKey (q::qs) k=some q.2:=by simp[atKey,List.find?_cons,e']
   rw[jQ e,b];exact h2
  ·have e':¬q.1=k:=λz=>e (h1.trans z);have b:atKey (q::qs) k=atKey qs k:=by simp[atKey,List.find?_cons,e']
   rw[jH e,b];exact ih
def KT.Ol{H:Hp}{Ι:List (List Key×V)}{xs:List (List Key×Addr×Value)}(r:KT H Ι xs)(k:List Key){y:V}{u:Value}(ry:ax y u):
  KT H (Ι.map λkv=>if kv.1=k then (kv.1,y) else kv) (xs.map (putAt k u)):=by
 induction r with
 | nil=>exact .nil
 | @cons p q ps qs h t ih=>
  rw[aaW,aaW];refine .cons ?_ ih;have⟨h1,h2,h3⟩:=h;unfold putAt;by_cases e:p.1=k
  ·rw[aaw e,aaw (h1.symm.trans e)];exact⟨h1,h2,ry⟩
  ·rw[aay e,aay (λz=>e (h1.trans z))];exact⟨h1,h2,h3⟩
def KT.put{H:Hp}{Ι:List (List Key×V)}{xs:List (List Key×Addr×Value)}(r:KT H Ι xs)(k:List Key){b:Addr}{y:V}{u:Value}(hb:H b=some (.tup (k.map kV)))(ry:ax y u):
  KT H (jg Ι k y) (storedH xs k b u):=by
 have e:(Ι.any λkv=>decide (kv.1=k))=(atKey xs k).isSome:=by rw[rM,(r.val k).oG,Option.isSome_map]
 unfold jg storedH;rw[e];by_cases q:(atKey xs k).isSome=true
 ·rw[aaw q,aaw q];exact r.Ol k ry
 ·rw[aay q,aay q];exact Paired.snoc r ⟨rfl,hb,ry⟩
def KT.keeps{H H':Hp}{Ι:List (List Key×V)}{xs:List (List Key×Addr×Value)}(r:KT H Ι xs)(ht:∀b ys,H b=some (.tup ys)->H' b=some (.tup ys)):KT H' Ι xs:=
 Paired.OD r λ_ _ z=>⟨z.1,ht _ _ z.2.1,z.2.2⟩
section
variable{P:Program}{w:World}{H:Hp}{h:Heap}{a:Addr}
def LB{u:HO}(ok:km P w H h)(e:Rd H a u):bL P w H h a u:=e.ok ok
def pw{Ι:List (Key×V)}(ok:km P w H h)(e:Rd H a (.dK Ι)):Ι.length<=sizeLine/\(a==sysModules)=false/\∃vs,KV Ι vs/\h.DictOf (bQ P w) a vs:=
 show bL P w H h a (.dK Ι) from LB ok e
def FG{Ι:List (Key×V)}(ok:km P w H h)(e:H a=some (.dK Ι)):Ι.length<=sizeLine/\(a==sysModules)=false/\∃vs,KV Ι vs/\h.DictOf (bQ P w) a vs:=pw ok (.inl e)
def wF{ks:List Key}(ok:km P w H h)(e:H a=some (.tup (ks.map kV))):(tupleKind (bQ P w)).is h ks a:=by have⟨_,its,r,o,h1,h2,n,h3⟩:=(show bL P w H h a (.tup (ks.map kV)) from ok a _ e);exact⟨o,its.toArray,n,h1,h2,h3,by simpa using tZ r⟩
def yL{Ι:List (List Key×V)}(ok:km P w H h)(e:Rd H a (.dT Ι)):Ι.length<=sizeLine/\(a==sysModules)=false/\
  ∃xs,KT H Ι xs/\h.DictOfH (tupleKind (bQ P w)) a xs:=by
 have⟨z,y,xs,r,o,es,ep,h1,h2,h3,h4,h5⟩:=(show bL P w H h a (.dT Ι) from LB ok e);refine⟨z,y,xs,r,o,es,ep,h1,h2,h3,h4,λx hx=>?_,h5⟩;have all:∀{l:List (List Key×V)} {m:List (List Key×Addr×Value)},KT H l m->∀x∈m,(tupleKind (bQ P w)).is h x.1 x.2.1:=by
  intro l m q
  induction q with
  | nil=>intro x hx;exact nomatch hx
  | @cons p q ps qs hq t ih=>
   intro x hx;rcases aav.mp hx with e| hx
   ·subst e;exact wF ok (by rw[<-hq.1];exact hq.2.1)
   ·exact ih x hx
 exact all r x hx
def Qp{Ι:List (List Key×V)}(ok:km P w H h)(e:H a=some (.dT Ι)):Ι.length<=sizeLine/\(a==sysModules)=false/\
  ∃xs,KT H Ι xs/\h.DictOfH (tupleKind (bQ P w)) a xs:=yL ok (.inl e)
end
def Et(H:Hp)(a:Addr)(y:V)(r:Option V):Prop:=
 (∃Ι k,Rd H a (.dK Ι)/\y=kV k/\r=nN Ι k)\/∃Ι k b,Rd H a (.dT Ι)/\y= .ref b/\H b=some (.tup (k.map kV))/\r=nN Ι k
def Ik(H:Hp)(a:Addr)(y v:V)(H':Hp):Prop:=
 (∃Ι k,H a=some (.dK Ι)/\y=kV k/\Ι.length < sizeLine/\H'=upd H a (.dK (jg Ι k v)))\/
 ∃Ι k b,H a=some (.dT Ι)/\y= .ref b/\H b=some (.tup (k.map kV))/\Ι.length < sizeLine/\H'=upd H a (.dT (jg Ι k v))
def Ik.k{H:Hp}{a:Addr}{Ι:List (Key×V)}{k:Key}{v:V}(e:H a=some (.dK Ι))(hl:Ι.length < sizeLine):Ik H a (kV k) v (upd H a (.dK (jg Ι k v))):=.inl ⟨Ι,k,e,rfl,hl,rfl⟩
section
variable{X:Cx}{δ:List (Addr×Obj)}{σ:St}{H:Hp}{s:Shared}{a:Addr}{y v:V}{u r:Value}{o:Option V}{A:Around}{E:Value->Shared->Prop}
def Inv.big(I:Inv X δ σ H s):sysModules < s.heap.objs.size:=by have h:mainGlobals < s.heap.objs.size:=(I.mod.glob.keeps I.bk).lt;exact Nat.lt_trans @_ h
def Di{Q:Value->Shared->Prop}(hu:A.units+1 < cLine)(I:Inv X δ σ H s)(g:Et H a y (some v))(ry:ax y u)(h:∀w' s',Inv X δ σ H s'->ax v w'->Q w' s'):
  wpAny (model X.prog X.w) A (getItem (.ref a) u) Q E s:=by
 rcases g with ⟨Ι,k,e,ey,l⟩| ⟨Ι,k,b,e,ey,eb,l⟩
 ·subst ey;have⟨z,hd,vs,rel,dd⟩:=pw I.aO e;have⟨w',hw,Dq⟩:=jM.some_of (v:=v) (o:=valueAt vs k) (by rw[l];exact rel.val k);exact wpAny_getItem_of (yj ry) dd.mapOf hw (h w' _ (I.tok _) Dq)
 ·subst ey;cases(show u=Value.ref b from ry);have⟨z,hd,xs,rel,dd⟩:=yL I.aO e;have⟨w',hw,Dq⟩:=jM.some_of (v:=v) (o:=(atKey xs k).map (·.2)) (by rw[l];exact rel.val k);have⟨p,hp,Tz⟩:=abS.mp hw;refine wpAny_getItem_heap (tupleKind_room_in1 hu) (wF I.aO eb) dd hp ?_;rw[Tz];exact h w' _ (I.tok _) Dq
def Uy{Q:Value->Shared->Prop}(hu:A.units+1 < cLine)(I:Inv X δ σ H s)(g:Et H a y o)(ry:ax y u)(h:∀s',Inv X δ σ H s'->Q (.bool o.isSome) s'):
  wpAny (model X.prog X.w) A (compareOp .In u (.ref a)) Q E s:=by
 rcases g with ⟨Ι,k,e,ey,l⟩| ⟨Ι,k,b,e,ey,eb,l⟩
 ·subst ey;have⟨z,hd,vs,rel,dd⟩:=pw I.aO e;refine wpAny_in_of (yj ry) hd dd.mapOf ?_;rw[<-(rel.val k).oG,<-l];exact h _ (I.tok _)
 ·subst ey;cases(show u=Value.ref b from ry);have⟨z,hd,xs,rel,dd⟩:=yL I.aO e;refine wpAny_in_heap (tupleKind_room_in1 hu) (wF I.aO eb) hd dd ?_;have q:=(rel.val k).oG;rw[Option.isSome_map]at q;rw[<-q,<-l];exact h _ (I.tok _)
def vY{h':Heap}{t':Nat}{ob:HO}(I:Inv X δ σ H s)(mu:OV (H a))(hs:Heap.SameBut a s.heap h')(he:∃q,h'.get? a=some q)(new:bL X.prog X.w (upd H a ob) h' a ob):
  Inv X δ σ (upd H a ob) {s with heap:=h',toks:=t'}:=
 I.write (x:=a) (e:=a) mu (.inl rfl) (λb q hb z=>(hs.2 b hb).trans z) he new
def vB{P:Program}{w:World}{H':Hp}{h':Heap}{Ι:List (Key×V)}{vs:List (Key×Value)}(z:Ι.length<=sizeLine)(hd:(a==sysModules)=false)(rel:KV Ι vs)(dd:h'.DictOf (bQ P w) a vs):
  bL P w H' h' a (.dK Ι):=⟨z,hd,vs,rel,dd⟩
def ED{H':Hp}{Q:Unit->Shared->Prop}(hu:A.units+1 < cLine)(I:Inv X δ σ H s)(g:Ik H a y v H')(ry:ax y u)(rv:ax v r)(h:∀s',Inv X δ σ H' s'->Q Unit.unit s'):
  wpAny (model X.prog X.w) A (setItem (.ref a) u r) Q E s:=by
 rcases g with ⟨Ι,k,e,ey,l,eH⟩| ⟨Ι,k,b,e,ey,eb,l,eH⟩
 ·subst ey eH;have⟨z,hd,vs,rel,dd⟩:=FG I.aO e;have hz:vs.length<=sizeLine:=by rw[<-rel.length];exact z
  have hl:(jg Ι k v).length<=sizeLine:=by have:=jG Ι k v;omega
  refine wpAny_setItem_pairs (hsz:=hz) (yj ry) dd λh' O1 hs=>h _ ?_;have he:∃q,h'.get? a=some q:=let ⟨q,_,_,hq,_⟩:=O1;⟨q,hq⟩
  exact vY I (by rw[e];exact True.intro) hs he (vB hl hd (rel.put k rv) O1)
 ·subst ey eH;cases(show u=Value.ref b from ry);have⟨z,hd,xs,rel,dd⟩:=Qp I.aO e;have hz:xs.length<=sizeLine:=by rw[<-Paired.length rel];exact z
  have hl:(jg Ι k v).length<=sizeLine:=by have:=jG Ι k v;omega
  refine wpAny_setItem_heap (hsz:=hz) (tupleKind_room_in1 hu) (wF I.aO eb) dd λh' O1 hs=>h _ ?_;have⟨q,es,ep,hq,h2,h3,h4,_,h5⟩:=O1;refine vY I (by rw[e];exact True.intro) hs ⟨q,hq⟩ ⟨hl,hd,_,(rel.put k eb rv).keeps λc ys ec=>?_,q,es,ep,hq,h2,h3,h4,h5⟩;rw[Θ (Rg ec e nofun)];exact ec
end
section
variable{X:Cx}{δ:List (Addr×Obj)}{σ:St}{H:Hp}{s:Shared}{a:Addr}{Ι:List (Key×V)}{k:Key}{u:Value}{A:Around}{E:Value->Shared->Prop}
def Px{Q:Value->Shared->Prop}(I:Inv X δ σ H s)(e:Rd H a (.dK Ι))(h:∀t s',Inv X δ σ H s'->Q (.int Ι.length t) s'):wpAny (model X.prog X.w) A (call (.builtin "len") [.ref a]) Q E s:=by have⟨z,hd,vs,rel,dd⟩:=pw I.aO e;refine call_len_dict hd dd (by rw[<-rel.length];rw[sizeLine_eq]at z;omega) ?_;rw[<-rel.length];exact h _ _ (I.tok _)
end
def HL(i:Expr):Prop:=∀ov iv,subscripted i false ov iv=operate [ov,iv] (getItem ov iv)
def BQ{prog:Program}{w:World}{A:Around}{E:Value->Shared->Prop}{s:Shared}{env:Env}{value slice:Expr}{pos:Pos}{T id:String}{Q:Value->Shared->Prop}
  (hl:typeLookup (.type T) "__getitem__"=pure (some (.builtin id))) (hs:HL slice)
  (h:wpAny (model prog w) A (eval value env) (λo s₁=>wpAny (model prog w) A (eval slice env) (λi s₂=>s₂.TypeIs o T/\wpAny (model prog w) A (getItem o i) Q E s₂) E s₁) E s):
  wpAny (model prog w) A (eval (.Subscript value slice pos) env) Q E s:=by
 refine Subscript_ (abZ h (λo s₁ h₁=>abZ h₁ (λi s₂ h₂=>?_) λ_ _ x=>x) λ_ _ x=>x);have⟨hT,h₂⟩:=h₂;unfold subscriptTail;refine aaF ?_;rw[getitemInPython_of_ne hT.not_modules];refine aaF (wpAny_specialOf hT hl ?_);have fin:wpAny (model prog w) A (subscripted slice false o i) (λr s₃=>wpAny (model prog w) A (letTemporaryGo value o r >>= λ_=>pure r) Q E s₃) E s₂:=by rw[hs o i];exact wpAny_operating (abZ h₂ (λr s₃ h₃=>aaF (wpAny_letTemporaryGo (aa5 h₃))) λ_ _ x=>x)
 first
  | exact aa5 (aaF fin)
  | exact aaF (aa5 (aaF fin))
  | exact aaF fin
def yE{X:Cx}{δ:List (Addr×Obj)}{σ:St}{H:Hp}{s:Shared}{a:Addr}{y:V}{o:Option V}(I:Inv X δ σ H s)(g:Et H a y o):s.TypeIs (.ref a) "dict":=by
 rcases g with ⟨Ι,k,e,_,_⟩| ⟨Ι,k,b,e,_,_,_⟩
 ·have⟨_,_,vs,_,dd⟩:=pw I.aO e;exact dd.typeIs
 ·have⟨_,_,xs,_,dd⟩:=yL I.aO e;exact dd.typeIs
def RV(td ty:TE):TE:=λσ H Q=>td σ H λx H1=>ty σ H1 λy H2=>∃a v,x= .ref a/\Et H2 a y (some v)/\Q v H2
def Q6(td ty tv:TE):TS:=λD σ H=>tv σ H λv H1=>td σ H1 λx H2=>ty σ H2 λy H3=>∃a H4,x= .ref a/\Ik H3 a y v H4/\D.nx σ H4
section
variable{X:Cx}{o i e value:Expr}{pos pos' sU:Pos}{td ty tv:TE}
def IZ(hu:X.A.units+1 < cLine)(ho:PE X o td)(hi:PE X i ty)(hs:HL i):PE X (.Subscript o i pos) (RV td ty):=by intro δ s σ H Q I h;refine BQ PySem.F.slot_dict_getitem.lookup hs (bH (ho δ s σ H _ I h) fun u s1 ⟨x,H1,I1,rx,q1⟩=>bH (hi δ s1 σ H1 _ I1 q1) λiv s2 xz=>?_);have⟨y,H2,I2,ry,a,v,ex,g,q2⟩:=xz;subst ex;obtain rfl:u=Value.ref a:=rx;exact⟨yE I2 g,Di hu I2 g ry λw' s3 I3 Dq=>⟨v,H2,I3,Dq,q2⟩⟩
def J4(hu:X.A.units+1 < cLine)(ho:PE X o td)(hi:PE X i ty)(hv:PE X value tv)(hs:swapsWith value (some (.Subscript o i pos')) pos.line X.env=pure false):
  PS X (.Assign [.Subscript o i pos'] value pos) (Q6 td ty tv):=by
 intro δ s σ H D I h;refine wpAny_Assign_Subscript (bH (hv δ s σ H _ I h) fun r s1 ⟨v,H1,I1,rv,q1⟩=>bH (ho δ s1 σ H1 _ I1 q1) fun u s2 ⟨x,H2,I2,rx,q2⟩=>bH (hi δ s2 σ H2 _ I2 q2) λiv s3 xz=>?_) hs;have⟨y,H3,I3,ry,a,H4,ex,g,q3⟩:=xz;subst ex;obtain rfl:u=Value.ref a:=rx;exact ED hu I3 g ry rv λs4 I4=>⟨σ,H4,I4,q3⟩
end
def HJ{P:Program}{w:World}{H:Hp}(h:Heap)(hb:sysModules < h.objs.size):bL P w H (h.push {cls:=.type "dict",data:=.dict #[]}) h.objs.size (.dK []):=
 ⟨ab8 _,beq_eq_false_iff_ne.mpr (Ne.symm (aaP hb)),[],.nil,Heap.DictOf.new h⟩
def NL:TE:=λ_ H Q=>∀p,H p=none->Q (.ref p) (upd H p (.dK []))
section
variable{X:Cx}{pos:Pos}
def Hy:PE X (.Dict [] [] pos) NL:=λδ s σ H Q I h=>
 wpAny_Dict_empty ⟨.ref s.heap.objs.size,_,I.laid (a:=s.heap.objs.size) (o:=.dK []) (t':=s.toks) (λ_ _ q=>aaj _ q) (aai _) (HJ s.heap I.big),rfl,h _ (I.aO.fresh (aai _))⟩
end
def n_(Ι more:List (Key×V)):List (Key×V):=more.foldl (λacc kv=>jg acc kv.1 kv.2) Ι
def KV.merge:∀{more:List (Key×V)} {rs:List (Key×Value)} {Ι:List (Key×V)} {vs:List (Key×Value)},KV more rs->KV Ι vs->KV (n_ Ι more) (merged vs rs):=by
 intro more rs Ι vs r;unfold KV at r
 induction r generalizing Ι vs with
 | nil=>intro q;exact q
 | @cons p q ps qs h t ih=>
  intro r0;have e:KV (jg Ι p.1 p.2) (stored vs q.1 q.2):=by have:=r0.put p.1 h.2;rw[<-h.1];exact this
  exact ih e
def kC:∀(more Ι:List (Key×V)),(n_ Ι more).length<=Ι.length+more.length
 | [],Ι=>by show Ι.length<=Ι.length+0;omega
 | p::r,Ι=>by have h1:=kC r (jg Ι p.1 p.2);have h2:=jG Ι p.1 p.2;show(n_ (jg Ι p.1 p.2) r).length<=_;rw[aaI];omega
structure M1(X:Cx)(o:Expr)(m:Str)(apos:Pos)(e:Expr)(a_:Pos):Prop where
 base:attributeBase o m X.env (eval o X.env)=eval o X.env
 few:((backTo a_ (starEach [e] X.env)).all (λx=> !x.1)&&(backToKw a_ (keywordEach [] X.env)).all (λx=>x.1.isSome)
  &&decide (([e]:List Expr).length+([]:List Keyword).length+(if ([]:List Keyword).isEmpty then 0 else 1) < 30))=true
 line:(apos.endLine==a_.line)=true
 trees:backTo a_ (starEach [e] X.env)=[(false,eval e X.env)]
def WW(H:Hp)(a:Addr):Prop:=(∃Ι,Rd H a (.dK Ι))\/∃Ι,Rd H a (.dT Ι)
def MA{X:Cx}{δ:List (Addr×Obj)}{σ:St}{H:Hp}{s:Shared}{a:Addr}(I:Inv X δ σ H s)(d:WW H a):
  s.TypeIs (.ref a) "dict"/\(∀b,Value.ref a= .ref b->∃ob,s.heap.get? b=some ob/\ob.dict=none)/\(a==sysModules)=false:=by
 rcases d with ⟨Ι,e⟩| ⟨Ι,e⟩
 ·have⟨_,hd,vs,_,dd⟩:=pw I.aO e;refine⟨dd.typeIs,λb q=>?_,hd⟩;cases q;have⟨ob,_,_,h1,h2,_⟩:=dd;exact⟨ob,h1,h2.2.1⟩
 ·have⟨_,hd,xs,_,dd⟩:=yL I.aO e;refine⟨dd.typeIs,λb q=>?_,hd⟩;cases q;have⟨ob,_,_,h1,h2,_⟩:=dd;exact⟨ob,h1,h2.2.1⟩
section
variable{X:Cx}{δ:List (Addr×Obj)}{σ:St}{H:Hp}{s:Shared}{a:Addr}{Ι:List (Key×V)}{A:Around}{E:Value->Shared->Prop}
def Ir{Q:Value->Shared->Prop}(I:Inv X δ σ H s)(e:Rd H a (.dK Ι))(h:∀p s',H p=none->Inv X δ σ (upd H p (.dK Ι)) s'->Q (.ref p) s'):wpAny (model X.prog X.w) A (call (.type "dict") [.ref a]) Q E s:=by have⟨z,hd,vs,rel,dd⟩:=pw I.aO e;refine kt_call_dict hd dd (by rw[<-rel.length];exact z) λh' O1 hs=>?_;refine h _ _ (I.aO.fresh (aai _)) (I.laid (a:=s.heap.objs.size) (o:=.dK Ι) (t':=s.toks) (λb q hq=>?_) (aai _) (vB z (beq_eq_false_iff_ne.mpr (Ne.symm (aaP I.big))) rel O1));exact(hs.2 b (aaP (aar hq))).trans (aaj _ hq)
end
end L2
namespace Att
open PySem PySem.W PySem.Calls PyProof.Rows
end Att
namespace L2
open PySem PySem.Spec PyProof.Rows
end L2
/- ZO T2 KN (shape;LID,My.* are QT):
  My.Adr:a structure of J6 addresses VZ Wt QK names (classes,Ee);My.Txt K t:a structure (Prop) of J6 equations pP K;
  My.Ah:{K} {implicit addresses ..} (e1:nsIn K mainGlobals "law"=some (some (.ref f))) (e2:K.lookup f=some ⟨oc,od,.func (fnOf "law" "law" params body scope dV kV doc pm an bw ct),sl⟩) (e3:codeIn K bw "law"=true) .. :∃t,My.Txt K t
set_option maxRecDepth 100000 in
set_option maxHeartbeats 0 in
def PySem.Challenge.cw_LID_holds : PySem.Challenge.rw_LID.Holds := by
 w_on;o_law;k_head;(case hw=>w_witness2)
 k_fill
 refine L2.vq (l:=PySem.Challenge.rw_LID) (n:=63) (k:=40) (x:="script") (CX:=fun w=>..) (sp:=fun _=>My.Ov) rfl @_ rfl ⟨rfl,@_,@_⟩ (fun w h Y=>PySem.W.kIn_of Y) ?F ?S ?C
 case F=>
  intro w mg fa h KX G Ky;have T:∃t,My.Txt (L2.V9 KX) t:=by
   dsimp only[L2.V9]
   refine' My.Ah ?e1 ?e2 ?e3 ..
   (case e1=>PySem.W.k_is)
   (case e2=>PySem.W.k_is)
   ..
  have⟨t,T⟩:=T;have e0:=Ky.symm.trans (PySem.W.mg_of KX G T.law);cases e0;exact⟨_,λs u=>.of_eq rfl,λbase kb nb=>My.zG T kb nb⟩
 case S=>exactλw H a ns hl hO hS=>..
 case C=>exact ..
(J6 tactic k_is has no namespace:write k_is) -/
namespace L2
open PySem PySem.Spec PyProof.Rows
section
variable{X:Cx}
def DY:dE X (.builtin "len") (λxs H Q=>∃a Ι,xs=[V.ref a]/\H a=some (.dK Ι)/\Q (.int Ι.length) H):=by intro δ s σ H xs us Q I r h;have⟨a,Ι,rfl,ha,q⟩:=h;have⟨u,rfl,ru⟩:=pE r;cases ru;exact Px I (.inl ha) λt s' I'=>⟨.int Ι.length,H,I',⟨t,rfl⟩,q⟩
end
variable{X:Cx}{G:Hp}{L:List Addr}{d:Dt}{v:V}{R:St->XK}{o e l iter tg:Expr}{to te ta tb:DE}{pos apos a_:Pos}{k' n kk:Nat}{δ:List (Addr×Obj)}{σ:St}{s:Shared}{b:Bool}{vs:List V}{a:Addr}{t:DA}{scope:Scope}{ti:DK}{ys:List Str}{Μ:List Nat}{ks:List Key}{P:Program}{Ι:List (Key×V)}
def IC:Dt->Option Key
 | .int i=>some (.inl i)
 | .str z=>some (.inr z)
 | _=>none
def eI(ks:List Key)(ds:List Dt)(k:Key):Option Dt:=((ks.zip ds).find? λp=>decide (p.1=k)).map (·.2)
def pR{K:fI}{k:Key}(h:IC d=some k)(n:Den K G L d v):v=kV k:=by
 cases d with
 | int i=>cases h;exact n
 | str z=>cases h;exact n
 | _=>cases h
def nM{K:fI}{G:Hp}{L:List Addr}{k:Key}:∀{ks:List Key} {ds:List Dt} {vs:List V} {d:Dt},Λ K G L ds vs->eI ks ds k=some d->∃v,nN (ks.zip vs) k=some v/\Den K G L d v
 | [],_,_,_,_,h=>by cases h
 | _::_,[],_,_,_,h=>by cases h
 | c::ks,d0::ds,_,d,⟨v0,vs,e,n0,n⟩,h=>by
  subst e;rw[abn];by_cases hc:c=k
  ·have h':eI (c::ks) (d0::ds) k=some d0:=by unfold eI;rw[List.zip_cons_cons,List.find?_cons_of_pos (by simpa using hc)];rfl
   rw[h']at h;cases h;exact⟨v0,jQ hc,n0⟩
  ·have h':eI (c::ks) (d0::ds) k=eI ks ds k:=by unfold eI;rw[List.zip_cons_cons,List.find?_cons_of_neg (by simpa using hc)]
   rw[h']at h;have⟨v,h1,h2⟩:=nM n h;exact⟨v,by rw[jH hc];exact h1,h2⟩
def Py(to ti:DE):DE:=λρ M q x=>to ρ M (λd M1=>ti ρ M1 (λdi M2=>∃k ks ds key v,d= .loc k/\M2[k]? =some (.kE ks ds)/\IC di=some key/\eI ks ds key=some v/\q v M2) x) x
section
variable{i:Expr}{ti:DE}{p:Pos}
def GC(hr:bU k' X.A)(ho:JE X R o to)(hi:JE X R i ti)(hs:HL i:=by intro _ _;rfl):JE X R (.Subscript o i pos) (Py to ti):=
 .of (IZ (Fg hr) ho hi hs) λσ H G L ρ M q x rl n h hx=>by refine⟨G,L,ρ,M,_,x,rl,n,h,hx,λv H1 xz=>?_⟩;have⟨d1,G1,L1,M1,e1,r1,n1,h1⟩:=xz;refine⟨G1,L1,ρ,M1,_,x,r1,n.mono e1,h1,hx.on e1,λv2 H2 xz=>?_⟩;have⟨d2,G2,L2,M2,e2,r2,n2,k,ks,ds,key,y,ed,hm,hk,hg,h2⟩:=xz;subst ed;have⟨a,rfl,ML⟩:=n1;have F_:=e2.l.get ML;have⟨_,vs,hH,hl,dn⟩:=r2.gr k a _ F_ hm;have⟨u,hu,du⟩:=nM dn hg;refine⟨a,u,rfl,.inl ⟨_,key,.inl hH,pR hk n2,hu.symm⟩,fin_same (e1.trans e2) r2 du h2⟩
end
inductive EJ(K:fI)(H:Hp):Nat->V->V->Bool->Prop
 | flat {n:Nat} {x y:V} (h1:dZ x=true) (h2:dZ y=true):EJ K H n x y (uW x y)
 | tup {n:Nat} {a b:Addr} {xs ys:List V} {f:Nat->Bool} (h1:mq K H a xs) (h2:mq K H b ys) (h:∀j x y,xs[j]? =some x->ys[j]? =some y->EJ K H n x y (f j)):EJ K H (n+1) (.ref a) (.ref b) ((List.range (min xs.length ys.length)).all f&&xs.length==ys.length)
 | lst {n:Nat} {a b:Addr} {xs ys:List V} {f:Nat->Bool} (h1:fj K H a xs) (h2:fj K H b ys) (hl:xs.length=ys.length) (h:∀j x y,xs[j]? =some x->ys[j]? =some y->EJ K H n x y (f j)):EJ K H (n+1) (.ref a) (.ref b) ((List.range xs.length).all f)
 | len {n:Nat} {a b:Addr} {xs ys:List V} (h1:fj K H a xs) (h2:fj K H b ys) (hl:xs.length≠ys.length):EJ K H (n+1) (.ref a) (.ref b) false
def Ht{x:V}(h:dZ x=true):uW x x=true:=by cases x <;> first| rfl| (show(_==_)=true;simp)| cases h
section
variable{H:Hp}
def yn(I:Inv X δ σ H s){x y:V}(h:EJ X.K H n x y b):x=y->b=true:=by
 induction h with
 | flat h1 h2=>intro e;subst e;exact Ht h1
 | @tup n a b xs ys f h1 h2 h ih=>
  intro e;cases e;cases I.j8 h1 h2;rw[Nat.min_self,beq_self_eq_true,Bool.and_true];refine aa2.mpr λj hj=>?_;have hj:=aba.mp hj;exact ih j _ _ (aaa hj) (aaa hj) rfl
 | @lst n a b xs ys f h1 h2 hl h ih=>
  intro e;cases e;cases I.bS h1 h2;refine aa2.mpr λj hj=>?_;have hj:=aba.mp hj;exact ih j _ _ (aaa hj) (aaa hj) rfl
 | len h1 h2 hl=>
  intro e;cases e;cases I.bS h1 h2;exact aaE rfl hl
def hX{xs:List V}{its:List Value}(r:ar xs its){j:Nat}(h:j < its.toArray.size):∃x,xs[j]? =some x/\ax x its.toArray[j]:=by
 have hj:j < its.length:=by simpa using h
 have hx:j < xs.length:=by rw[r.length];exact hj
 have⟨u,g,ru⟩:=r.get (aaa hx);rw[aaa hj]at g;cases g;exact⟨_,List.getElem?_eq_getElem hx,by simpa using ru⟩
def Nz(I:Inv X δ σ H s){x y:V}(h:EJ X.K H n x y b):∀{A:Around} {u v:Value},ax x u->ax y v->A.units+n < cLine->SeqAt.EqAt A s u v b:=by
 induction h with
 | flat h1 h2=>exactλru rv _=>vx ru rv h1 h2
 | @tup n a b xs ys f h1 h2 h ih=>
  intro A u v ru rv hu;cases ru;cases rv;by_cases e:a=b
  ·have:=yn I (.tup h1 h2 h) (aaU V.ref e);rw[this,e];exact SeqAt.EqAt.same _
  ·have⟨i1,v1,t1,_⟩:=I.tuple h1;have⟨i2,v2,t2,_⟩:=I.tuple h2
   have:=SeqAt.RcAt.tuples (A:=A) (e:=f) (show s.heap.IsTuple a i1.toArray from t1) (show s.heap.IsTuple b i2.toArray from t2) () (λj g1 g2=>by
    have⟨x,hx,rx⟩:=hX v1 g1;have⟨y,hy,ry⟩:=hX v2 g2
    exact ih j x y hx hy rx ry (by show A.units+1+n < cLine;omega))
   rw[aaM,aaM,<-v1.length,<-v2.length]at this;exact SeqAt.EqAt.of_refs e this
 | @lst n a b xs ys f h1 h2 hl h ih=>
  intro A u v ru rv hu;cases ru;cases rv;by_cases e:a=b
  ·have:=yn I (.lst h1 h2 hl h) (aaU V.ref e);rw[this,e];exact SeqAt.EqAt.same _
  ·have⟨i1,v1,t1,_⟩:=I.list h1;have⟨i2,v2,t2,_⟩:=I.list h2
   have:=SeqAt.RcAt.lists (A:=A) (e:=f) t1.isList t2.isList (by rw[aaM,aaM,<-v1.length,<-v2.length];exact hl) () (λj g1 g2=>by
    have⟨x,hx,rx⟩:=hX v1 g1;have⟨y,hy,ry⟩:=hX v2 g2
    exact ih j x y hx hy rx ry (by show A.units+1+n < cLine;omega))
   rw[aaM,<-v1.length]at this;exact SeqAt.EqAt.of_refs e this
 | @len n a b xs ys h1 h2 hl=>
  intro A u v ru rv hu;cases ru;cases rv;have e:a≠b:=λe=>by subst e;cases I.bS h1 h2;exact hl rfl
  have⟨i1,v1,t1,_⟩:=I.list h1;have⟨i2,v2,t2,_⟩:=I.list h2;exact SeqAt.EqAt.of_refs e (SeqAt.RcAt.lists_lengths t1.isList t2.isList (by rw[List.size_toArray,List.size_toArray,<-v1.length,<-v2.length];simpa using hl) ())
end
def pM(M:Ms):Dt->Option (List Dt)
 | .lst xs=>some xs
 | .hW ns=>some (ns.map .int)
 | .loc k=>match M[k]? with
  | some (.lst xs)=>some xs
  | _=>none
 | _=>none
inductive D3(M:Ms):Nat->Dt->Dt->Bool->Prop
 | flat {n:Nat} {d e:Dt} {x y:V} (h1:ue d=some x) (h2:ue e=some y):D3 M n d e (uW x y)
 | tup {n:Nat} {ds es:List Dt} {f:Nat->Bool} (h:∀j d e,ds[j]? =some d->es[j]? =some e->D3 M n d e (f j)):D3 M (n+1) (.tup ds) (.tup es) ((List.range (min ds.length es.length)).all f&&ds.length==es.length)
 | lst {n:Nat} {d e:Dt} {ds es:List Dt} {f:Nat->Bool} (h1:pM M d=some ds) (h2:pM M e=some es) (hl:ds.length=es.length) (h:∀j d e,ds[j]? =some d->es[j]? =some e->D3 M n d e (f j)):D3 M (n+1) d e ((List.range ds.length).all f)
 | len {n:Nat} {d e:Dt} {ds es:List Dt} (h1:pM M d=some ds) (h2:pM M e=some es) (hl:ds.length≠es.length):D3 M (n+1) d e false
def eO{K:fI}{M:Ms}{H:Hp}{xs:List Dt}(r:Rl K G L M H)(n:Den K G L d v)(h:pM M d=some xs):∃a vs,v= .ref a/\fj K H a vs/\Λ K G L xs vs:=by
 cases d with
 | lst ds=>cases h;have⟨a,vs,rfl,e,m⟩:=n;exact⟨a,vs,rfl,.of (r.sub _ _ e),m⟩
 | hW ns=>cases h;have⟨a,rfl,e⟩:=n;exact⟨a,_,rfl,r.sub.seq e,iy⟩
 | loc k=>
  have⟨a,rfl,e⟩:=n;have h:(match M[k]? with| some (.lst xs)=>some xs| _=>none)=some xs:=h;split at h
  ·rename_i ys hm;cases h;have⟨_,vs,e1,m1⟩:=r.gr k a _ e hm;exact⟨a,vs,rfl,.of e1,m1⟩
  ·cases h
 | _=>cases h
def Λ.back{K:fI}{ds:List Dt}{i:Nat}(h:Λ K G L ds vs)(e:vs[i]? =some v):∃d,ds[i]? =some d/\Den K G L d v:=by
 have hi:i < ds.length:=by rw[h.length];exact(aaf.mp e).1
 have⟨v',e',n⟩:=h.get (aaa hi);rw[e]at e';cases e';exact⟨_,aaa hi,n⟩
def Pe{K:fI}{M:Ms}{H:Hp}(r:Rl K G L M H){e:Dt}(h:D3 M n d e b):∀{v u:V},Den K G L d v->Den K G L e u->EJ K H n v u b:=by
 induction h with
 | flat h1 h2=>
  intro v u n1 n2;have⟨rfl,f1⟩:=m_ h1 n1;have⟨rfl,f2⟩:=m_ h2 n2;exact .flat f1 f2
 | @tup n ds es f h ih=>
  intro v u n1 n2;have⟨a,vs,rfl,e1,m1⟩:=n1;have⟨b,us,rfl,e2,m2⟩:=n2;rw[m1.length,m2.length];refine .tup (.of (r.sub _ _ e1)) (.of (r.sub _ _ e2)) λj x y hx hy=>?_;have⟨d,hd,dn⟩:=m1.back hx;have⟨e,he,en⟩:=m2.back hy;exact ih j d e hd he dn en
 | @lst n d e ds es f h1 h2 hl h ih=>
  intro v u n1 n2;have⟨a,vs,rfl,s1,m1⟩:=eO r n1 h1;have⟨b,us,rfl,s2,m2⟩:=eO r n2 h2;rw[m1.length];refine .lst s1 s2 (by rw[<-m1.length,<-m2.length];exact hl) λj x y hx hy=>?_;have⟨d,hd,dn⟩:=m1.back hx;have⟨e,he,en⟩:=m2.back hy;exact ih j d e hd he dn en
 | @len n d e ds es h1 h2 hl=>
  intro v u n1 n2;have⟨a,vs,rfl,s1,m1⟩:=eO r n1 h1;have⟨b,us,rfl,s2,m2⟩:=eO r n2 h2;exact .len s1 s2 (by rw[<-m1.length,<-m2.length];exact hl)
section
variable{a b u:Expr}{tl tu:DE}{p p2:Pos}
def Ww{A:Around}{k:Nat}(hr:bU k A)(hn:n<=64):A.units+n < cLine:=aa7 (Nat.add_le_add_left hn _) hr.units
def CU(xs:List V)(k:Nat):sQ xs none (some (k:Int))=xs.take k:=by
 unfold sQ;rw[HT.pV,HT.zb,abQ,Nat.sub_zero];by_cases h:k<=xs.length
 ·rw[abU h]
 ·rw[Nat.min_eq_right (),abg (aai _),abg ()]
def Qw(te tl:DE):DE:=λρ M q x=>te ρ M (λd M1=>tl ρ M1 (λdi M2=>∃ds n,pM M2 d=some ds/\di= .int (n:Nat)/\q (.loc M2.length) (M2++[.lst (ds.drop n)])) x) x
def ow(he:JE X R e te)(hl:JE X R l tl):JE X R (.Subscript e (.Slice (some l) none none p2) pos) (Qw te tl):=
 .of (r_ vv he (mS hl) BL) λσ H G L ρ M q x rl n h hx=>by refine⟨G,L,ρ,M,_,x,rl,n,h,hx,λv H1 xz=>?_⟩;have⟨d1,G1,L1,M1,e1,r1,n1,h1⟩:=xz;refine⟨G1,L1,ρ,M1,_,x,r1,n.mono e1,h1,hx.on e1,λv2 H2 xz=>?_⟩;have⟨d2,G2,L2,M2,e2,r2,n2,ds,k,ed,ei,h2⟩:=xz;subst ei;have⟨a,vs,rfl,sq,m⟩:=eO r2 (Den.mono e2.g e2.l _ _ n1) ed;have n2:v2= .int k:=n2;subst n2;refine⟨k,rfl,a,vs,rfl,sq,λp hp=>?_⟩;rw[Dd];exact gE (e1.trans e2) r2 hp (Λ.of (qI k m.pair)) h2
end
open PySem PySem.SeqAt
section
variable{elt c:Expr}{x z:Str}{px pz tp:Pos}{tc:DT}
def tj{i:Nat}{y:Str}{py h7:Pos}(hN:X.N.Nodup)(Dw:X.N[i]? =some y)(hy:Loc X.env.scope y)(S:ag X scope [x,z] ys Μ)(hi:JK X R (.Tuple [.Name x px,.Name z pz] kk tp) iter ti)(ht:∀C s H fp,JT (Cx.comp X (x::z::ys) scope C s H fp) (λ_=>E0) c tc)(he:∀C s H fp,JE (Cx.comp X (x::z::ys) scope C s H fp) (λ_=>E0) elt te)(hc:X.calm=true:=by rfl)(Dy:swapsWith (.ListComp elt [⟨.Tuple [.Name x px,.Name z pz] kk tp,iter,[c],0⟩] scope pos) (some (.Name y py)) h7.line X.env=pure true:=by rfl)(hs:∀x,foldedSetIterable iter X.env x=pure x:=by intro _;rfl)(hf:X.fn y=true\/X.env.scope.names.lookup y=some .local:=by first| exact .inl rfl| exact .inr rfl| assumption):JS X R (.Assign [.Name y py] (.ListComp elt [⟨.Tuple [.Name x px,.Name z pz] kk tp,iter,[c],0⟩] scope pos) h7) (wq i (JP 2 ti (g2 0 1) tc te Μ)):=P1 true S hi (u6 hc S) kZ (oy (Nat.zero_lt_succ 1) (abq 1)) (λC s H fp=>Ct (ht C s H fp)) he hc hs hN Dw hy Dy hf λ_ _ _ _ h=>h
end
def zH(M:Ms):Dt->Option (List Dt)
 | .lst xs=>some xs
 | .loc k=>match M[k]? with
  | some (.lst xs)=>some xs
  | _=>none
 | _=>none
def wL{K:fI}{M:Ms}{H:Hp}{xs:List Dt}(r:Rl K G L M H)(n:Den K G L d v)(h:zH M d=some xs):∃a vs,v= .ref a/\H a=some (.lst vs)/\Λ K G L xs vs:=by
 cases d with
 | lst ds=>cases h;have⟨a,vs,rfl,e,m⟩:=n;exact⟨a,vs,rfl,r.sub _ _ e,m⟩
 | loc k=>
  have⟨a,rfl,e⟩:=n;have h:(match M[k]? with| some (.lst xs)=>some xs| _=>none)=some xs:=h;split at h
  ·rename_i ys hm;cases h;have⟨_,vs,e1,m1⟩:=r.gr k a _ e hm;exact⟨a,vs,rfl,e1,m1⟩
  ·cases h
 | _=>cases h
def Lw:Dt->Dt->Ms->DQ->Prop:=λd e M q=>∃xs ys,zH M d=some xs/\zH M e=some ys/\xs.length+ys.length<=sizeLine/\q (.lst (xs++ys)) M
def Pt{K:fI}:oV K Nl Lw:=by intro G0 L0 H0 G L M H v1 v2 d1 d2 q e r n1 n2 ⟨xs,ys,h1,h2,hz,hq⟩;have⟨p1,w1,rfl,e1,m1⟩:=wL r n1 h1;have⟨p2,w2,rfl,e2,m2⟩:=wL r n2 h2;refine⟨p1,p2,w1,w2,rfl,rfl,e1,e2,by rw[<-m1.length,<-m2.length];exact hz,λp hp=>?_⟩;exact kg e r hp (qb r hp (m1.app m2)) hq
section
variable{a b:Expr}
def me(ja:JE X R a ta)(jb:JE X R b tb):JE X R (.BinOp a .Add b pos) (kj Lw ta tb):=vj EV Pt ja jb
end
def pI(n:Nat):sliceRange ((n:Int) - 1) (-1) (-1)=(List.range n).reverse:=by
 have e:sliceRange ((n:Int) - 1) (-1) (-1)=(List.range n).map λk=>n - 1 - k:=by
  unfold sliceRange;have hc:(if (n:Int) - 1 > -1 then ((n:Int) - 1 - -1 - -1 - 1) / (- -1) else 0)=n:=by
   split
   ·have:((n:Int) - 1 - -1 - -1 - 1)=n:=()
    rw[this];show(n:Int) / 1=n;exact Int.ediv_one _
   ·omega
  simp only[show¬((-1:Int) > 0) by decide,if_false,hc,Int.toNat_natCast];apply aaZ;intro k hk;have:=aba.mp hk;omega
 rw[e];apply aa8
 ·simp
 ·intro i h1 h2;simp
def tI(items:Array Value):slicePick items none none (some (-1))=items.toList.reverse.toArray:=by
 have e:slicePick items none none (some (-1))=((sliceRange ((items.size:Int) - 1) (-1) (-1)).filterMap (items[·]?)).toArray:=rfl;rw[e,pI,List.filterMap_reverse];have p:=pick_run items 0 items.size;rw[abQ]at p;have e2:(List.range items.size).map (0+ ·)=List.range items.size:=by
  have:(λx:Nat=>0+x)=id:=by funext x;simp
  rw[this,List.map_id]
 rw[e2]at p;rw[p,abg (by rw[Array.length_toList];exact aai _)]
def w4{α β:Type}{F:α->β->Prop}:∀{xs:List α} {ys:List β},Paired F xs ys->Paired F xs.reverse ys.reverse
 | _,_,.nil=>.nil
 | _,_,.cons r t=>by rw[List.reverse_cons,List.reverse_cons];exact pX (w4 t) (.cons r .nil)
section
variable{tl:DE}{p2:Pos}
def OI(te tl:DE):DE:=λρ M q x=>te ρ M (λd M1=>tl ρ M1 (λdi M2=>∃ds n,pM M2 d=some ds/\di= .int (n:Nat)/\q (.loc M2.length) (M2++[.lst (ds.take n)])) x) x
def Cf(he:JE X R e te)(hl:JE X R l tl):JE X R (.Subscript e (.Slice none (some l) none p2) pos) (OI te tl):=
 .of (r_ vv he BL (mS hl)) λσ H G L ρ M q x rl n h hx=>by refine⟨G,L,ρ,M,_,x,rl,n,h,hx,λv H1 xz=>?_⟩;have⟨d1,G1,L1,M1,e1,r1,n1,h1⟩:=xz;refine⟨G1,L1,ρ,M1,_,x,r1,n.mono e1,h1,hx.on e1,λv2 H2 xz=>?_⟩;have⟨d2,G2,L2,M2,e2,r2,n2,ds,k,ed,ei,h2⟩:=xz;subst ei;have⟨a,vs,rfl,sq,m⟩:=eO r2 (Den.mono e2.g e2.l _ _ n1) ed;have n2:v2= .int k:=n2;subst n2;refine⟨k,rfl,a,vs,rfl,sq,λp hp=>?_⟩;rw[CU];exact gE (e1.trans e2) r2 hp (Λ.of (rO k m.pair)) h2
end
def uz(g:Dt->En->(En->Prop)->Prop)(te:DE)(ρ0:En)(ok:Ms->Prop):List Dt->List Dt->Ms->(List Dt->Ms->Prop)->Prop
 | [],acc,M,k=>ok M/\k acc M
 | x::xs,acc,M,k=>ok M/\g x ρ0 λρ'=>te ρ' M (λd M2=>uz g te ρ0 ok xs (acc++[d]) M2 k) jh
def xq(n:Nat)(ti:DK)(g:Dt->En->(En->Prop)->Prop)(te:DE)(Μ:List Nat):DE:=λρ M q x=>ti ρ M (λxs ok M1=>xs.length<=sizeLine/\uz g te (List.replicate n none++nh Μ ρ) ok xs [] M1 (λys M2=>q (.lst ys) M2)) x
def va{g:Dt->En->(En->Prop)->Prop}{te:DE}{cs:En}{ok:Ms->Prop}:∀xs,uz g te cs ok xs=gO g sF te cs ok xs
 | []=>rfl
 | x::xs=>funext λacc=>funext λM=>funext λk=>by show(ok M/\g x cs λρ'=>te ρ' M (λd M1=>uz g te cs ok xs (acc++[d]) M1 k) jh)=(ok M/\g x cs λρ'=>te ρ' M (λd M1=>gO g sF te cs ok xs (acc++[d]) M1 k) jh);rw[va xs]
section
variable{elt:Expr}{x y:Str}{px py tp:Pos}
def KY(S:ag X scope [x,y] ys Μ)(hi:JK X R (.Tuple [.Name x px,.Name y py] kk tp) iter ti)(he:∀C s H fp,JE (Cx.comp X (x::y::ys) scope C s H fp) (λ_=>E0) elt te)(hc:X.calm=true:=by rfl)(hs:∀x,foldedSetIterable iter X.env x=pure x:=by intro _;rfl):JE X R (.ListComp elt [⟨.Tuple [.Name x px,.Name y py] kk tp,iter,[],0⟩] scope pos) (xq 2 ti (g2 0 1) te Μ):=QS false S hi (u6 hc S) kZ (oy (Nat.zero_lt_succ 1) (Nat.lt_succ_self 1)) (λ_ _ _ _=>gQ) he hc hs λρ M q x h=>by unfold xq at h;simp only[va]at h;exact h
end
def tW{g:Dt->En->(En->Prop)->Prop}{te:DE}{ρ0:En}{ok:Ms->Prop}{M:Ms}{k:List Dt->Ms->Prop}(ho:ok M)(f:Dt->Dt):∀(xs acc:List Dt),(∀x∈xs,∀q:DQ,q (f x) M->g x ρ0 λρ'=>te ρ' M q jh)->k (acc++xs.map f) M->uz g te ρ0 ok xs acc M k
 | [],acc,_,h=>⟨ho,by simpa using h⟩
 | x::xs,acc,ht,h=>⟨ho,ht x List.mem_cons_self _ (tW ho f xs _ (λy hy=>ht y (List.mem_cons_of_mem _ hy)) (by simpa using h))⟩
def Df(xs:List V)(a b:Nat):sQ xs (some (a:Int)) (some (b:Int))=(xs.drop a).take (b - a):=by
 unfold sQ;rw[HT.pV,HT.pV];by_cases ha:a<=xs.length
 ·rw[abU ha];by_cases hb:b<=xs.length
  ·rw[abU hb]
  ·rw[Nat.min_eq_right (),abg (by rw[abw];omega),abg (by rw[abw];omega)]
 ·have h1:min a xs.length=xs.length:=Nat.min_eq_right ();rw[h1,List.drop_of_length_le (aai xs.length),List.drop_of_length_le (show xs.length<=a by omega)];simp
section
variable{u a b:Expr}{tl tu:DE}{p2:Pos}
def QP(te tl tu:DE):DE:=λρ M q x=>te ρ M (λd M1=>tl ρ M1 (λdi M2=>∃n:Nat,di= .int n/\tu ρ M2 (λdu M3=>∃ds m,pM M3 d=some ds/\du= .int (m:Nat)/\q (.loc M3.length) (M3++[.lst ((ds.drop n).take (m - n))])) x) x) x
def Ec(he:JE X R e te)(hl:JE X R l tl)(hu:JE X R u tu):JE X R (.Subscript e (.Slice (some l) (some u) none p2) pos) (QP te tl tu):=
 .of (r_ vv he (mS hl) (mS hu)) λσ H G L ρ M q x rl n h hx=>by refine⟨G,L,ρ,M,_,x,rl,n,h,hx,λv H1 xz=>?_⟩;have⟨d1,G1,L1,M1,e1,r1,n1,h1⟩:=xz;refine⟨G1,L1,ρ,M1,_,x,r1,n.mono e1,h1,hx.on e1,λv2 H2 xz=>?_⟩;have⟨d2,G2,L2,M2,e2,r2,n2,k,ek,h2⟩:=xz;subst ek;have n2:v2= .int k:=n2;subst n2;refine⟨k,rfl,G2,L2,ρ,M2,_,x,r2,(n.mono e1).mono e2,h2,(hx.on e1).on e2,λv3 H3 xz=>?_⟩;have⟨d3,G3,L3,M3,e3,r3,n3,ds,m,ed,em,h3⟩:=xz;subst em;have Jz:=e2.trans e3;have⟨a,vs,rfl,sq,dn⟩:=eO r3 (Den.mono Jz.g Jz.l _ _ n1) ed;have n3:v3= .int m:=n3;subst n3;refine⟨m,rfl,a,vs,rfl,sq,λp hp=>?_⟩;rw[Df];exact gE (e1.trans Jz) r3 hp (Λ.of (rO (m - k) (qI k dn.pair))) h3
def Lh:Dt->Dt->Ms->DQ->Prop:=λd e M q=>∃xs k,zH M d=some xs/\e= .int k/\ -(2 ^ 63)<=k/\k < 2 ^ 63/\xs.length * k.toNat<=sizeLine/\q (.loc M.length) (M++[.lst (List.replicate k.toNat xs).flatten])
def RL{K:fI}:oV K MD Lh:=by intro G0 L0 H0 G L M H v1 v2 d1 d2 q e r n1 n2 ⟨xs,k,h1,h2,a,b,hz,hq⟩;have⟨p1,w1,rfl,e1,m1⟩:=wL r n1 h1;subst h2;have n2:v2= .int k:=n2;subst n2;refine⟨p1,k,w1,rfl,rfl,e1,a,b,by rw[<-m1.length];exact hz,λp hp=>?_⟩;exact gE e r hp (Λ.of (vO m1.pair k.toNat)) hq
def Bx(ja:JE X R a ta)(jb:JE X R b tb):JE X R (.BinOp a .Mult b pos) (kj Lh ta tb):=vj HE RL ja jb
end
section
def MT(l:List Value)(k:Nat)(y:Value):(l.toArray.extract 0 k).push y++l.toArray.extract k=(l.take k++y::l.drop k).toArray:=by apply Array.toList_inj.mp;simp;exact List.take_of_length_le (by simp)
def Cc:V->List V->Hp->VK->Prop:=λx vs H Q=>∃l xs y,∃i:Nat,x= .ref l/\vs=[.int (i:Int),y]/\H l=some (.lst xs)/\xs.length < sizeLine/\i<=xs.length/\Q .aJ (upd H l (.lst (xs.take i++y::xs.drop i)))
def DL:VD X "list.insert" Cc:=by
 intro δ s σ H x vs v us Q I rx rv h;have⟨l,xs,y,i,rfl,rfl,hH,hz,hi,q⟩:=h;cases rx;have⟨u1,u,rfl,TM,ru⟩:=rv.two;have⟨tk,rfl⟩:=TM;have⟨z,its,n,r,hl,e⟩:=I.EZ hH;have X0:sizeLine < 2 ^ 63:=@_
 have ZX:i < 2 ^ 63:=aa7 hi (Nat.lt_trans hz X0);have hf:¬(!Builtin.List.listFitsIndex (i:Int))=true:=by
  have:Builtin.List.listFitsIndex (i:Int)=true:=by
   clear X0 hz hi q;have a1: -(2 ^ 63:Int)<=(i:Int):=()
   have a2:(i:Int) < 2 ^ 63:=()
   unfold Builtin.List.listFitsIndex;rw[aaB a1,aaB a2];rfl
  rw[this];decide
 have hlen:=r.length;have hsz:its.toArray.size<=sizeLine:=by rw[aaM,<-hlen];exact Nat.le_of_lt hz
 obtain⟨j,hj⟩:∃j:Int,j=(i:Int):=⟨_,rfl⟩;rw[<-hj]at hf⊢;have hM:=PySem.AutoSeq1.list_insert_list_int_val_1 l its.toArray n j tk u hf hsz;refine call_meets F.slot_list_insert ⟨_,e,rfl⟩ F.entry_list_insert (F.args_list_insert_3 _ _ _) hM ⟨e,?_⟩;refine⟨.aJ,_,I.R7 (its':=its.take i++u::its.drop i) hH e ?_ ((r.take i).append (.cons ru (r.drop i))) ?_,rfl,q⟩
 ·show(its.toArray.extract 0 (if j < 0 then (j+(its.toArray.size:Int)).toNat else min j.toNat its.toArray.size)).push u++its.toArray.extract (if j < 0 then (j+(its.toArray.size:Int)).toNat else min j.toNat its.toArray.size)=_;have e2:(if j < 0 then (j+(its.toArray.size:Int)).toNat else min j.toNat its.toArray.size)=i:=by rw[aay (),aaM,hj,aaL];omega
  rw[e2];exact MT its i u
 ·rw[aah,aaI,ab7,abw,abU hi,show i+(xs.length - i+1)=xs.length+1 by omega];exact hz
end
def Λ.Xj{K:fI}{G:Hp}{L:List Addr}:∀{ds:List Dt} {vs:List V} (n:Nat),Λ K G L ds vs->Λ K G L (ds.take n) (vs.take n)
 | _,_,0,_=>rfl
 | [],_,n+1,h=>by cases h;rfl
 | _::_,_,n+1,⟨v,vs,e,h1,h2⟩=>by subst e;exact⟨v,vs.take n,rfl,h1,Λ.Xj n h2⟩
def Λ.WY{K:fI}{G:Hp}{L:List Addr}:∀{ds:List Dt} {vs:List V} (n:Nat),Λ K G L ds vs->Λ K G L (ds.drop n) (vs.drop n)
 | _,_,0,h=>h
 | [],_,n+1,h=>by cases h;rfl
 | _::_,_,n+1,⟨v,vs,e,h1,h2⟩=>by subst e;exact Λ.WY n h2
section
variable{f:Expr}
def M7(to:DE)(t:DA):DE:=λρ M q x=>to ρ M (λd M1=>(∃k xs,d= .loc k/\M1[k]? =some (.lst xs))/\t ρ M1 (λds M2=>∃k xs y,∃i:Nat,d= .loc k/\ds=[.int (i:Int),y]/\M2[k]? =some (.lst xs)/\xs.length < sizeLine/\i<=xs.length/\q .aJ (M2.set k (.lst (xs.take i++y::xs.drop i)))) x) x
def Iq(ho:JE X R o to)(ha:JA X R [e,f] t)(sv:attributeBase o "insert" X.env (eval o X.env)=eval o X.env:=by rfl)
  (Ar:((backTo a_ (starEach [e,f] X.env)).all (λx=> !x.1)&&(backToKw a_ (keywordEach [] X.env)).all (λx=>x.1.isSome)
   &&decide (([e,f]:List Expr).length+([]:List Keyword).length+(if ([]:List Keyword).isEmpty then 0 else 1) < 30))=true:=by rfl)
  (sk:(apos.endLine==a_.line)=true:=by rfl) (hs:starEach [e,f] X.env=(false,eval e X.env)::starEach [f] X.env:=by rfl) (kX:(backTo a_ (starEach [f] X.env)).any (·.1)=false:=by rfl):
  JE X R (.Call (.Attribute o "insert" apos) [e,f] [] a_) (M7 to t):=
 .of (Gy PySem.F.plainAttrs_list PySem.F.slot_list_insert PySem.F.type_list_insert (r:=Cc) DL ho ha sv Ar sk hs kX) λσ H G L ρ M q x rl n h hx=>by refine⟨G,L,ρ,M,_,x,rl,n,h,hx,λv H1 xz=>?_⟩;have⟨d1,G1,L1,M1,e1,r1,n1,⟨k,xs,ed,hm⟩,h1⟩:=xz;subst ed;have⟨a,rfl,hk⟩:=n1;have⟨_,vs,hH,_⟩:=r1.gr k a _ hk hm;refine⟨.inl ⟨rfl,vs,.of hH⟩,G1,L1,ρ,M1,_,x,r1,n.mono e1,h1,hx.on e1,λus H2 xz=>?_⟩;have⟨ds,G2,L2,M2,e2,r2,n2,k',xs',y,i,ek,ed,NY,hz,hi,h2⟩:=xz;cases ek;subst ed;have⟨u1,u,rfl,n3,n4⟩:=dM n2;have n3:u1= .int (i:Int):=n3;subst n3;have F_:=e2.l.get hk;have⟨_,B3,ON,EW⟩:=r2.gr k a _ F_ NY;refine⟨a,B3,u,i,rfl,rfl,ON,by rw[<-EW.length];exact hz,by rw[<-EW.length];exact hi,.aJ,G2,L2,_,(e1.trans e2).trans (r2.EH F_),r2.setM (m:=.lst (xs'.take i++y::xs'.drop i)) F_ ⟨_,aq,(EW.Xj i).app ⟨_,_,rfl,n4,EW.WY i⟩⟩,rfl,h2⟩
end
def K9(ks:List Key)(k:Key):Bool:=ks.any λc=>decide (c=k)
def rS{k:Key}:∀{ks:List Key} {vs:List V},ks.length=vs.length->(nN (ks.zip vs) k).isSome=K9 ks k
 | [],[],_=>rfl
 | c::ks,v::vs,h=>by
  have h:ks.length=vs.length:=by simpa using h
  rw[abn];by_cases e:c=k
  ·rw[jQ e];subst e;simp[K9]
  ·rw[jH e,rS h];unfold K9;rw[abP,aam e,Bool.false_or]
section
variable{i a b:Expr}{ti:DE}{p:Pos}
def An:JE X R (.Dict [] [] pos) (λ_ M q _=>q (.loc M.length) (M++[.kE [] []])):=
 .of Hy λσ H G L ρ M q x rl n h hx=>by intro p hp;exact⟨.loc M.length,G,L++[p],_,rl.SO hp,rl.KO (m:=.kE [] []) hp ⟨[],aq,rfl,rfl⟩,⟨p,rfl,by rw[<-rl.len,List.getElem?_append_right (Nat.le_refl _)];simp⟩,h⟩
def RK:Dt->Dt->Ms->DQ->Prop:=λdi d M q=>∃k ks ds key,d= .loc k/\M[k]? =some (.kE ks ds)/\IC di=some key/\q (.bl (K9 ks key)) M
def OB(hu:X.A.units+1 < cLine):jN X (compareOp .In) (λy x H Q=>∃a o,x=V.ref a/\Et H a y o/\Q (.bl o.isSome) H):=by intro δ s σ H x y u v Q I rx ry ⟨a,o,ex,g,q⟩;subst ex;obtain rfl:v=Value.ref a:=ry;exact Uy hu I g rx λs3 I3=>⟨.bl o.isSome,H,I3,rfl,q⟩
def Vh{K:fI}:oV K (λy x H Q=>∃a o,x=V.ref a/\Et H a y o/\Q (.bl o.isSome) H) RK:=by intro G0 L0 H0 G L M H v1 v2 d1 d2 q e r n1 n2 ⟨k,ks,ds,key,ed,hm,hk,h⟩;subst ed;have⟨a,rfl,ML⟩:=n2;have⟨_,vs,hH,hl,dn⟩:=r.gr k a _ ML hm;refine⟨a,_,rfl,.inl ⟨_,key,.inl hH,pR hk n1,rfl⟩,?_⟩;have Fu:ks.length=vs.length:=hl.trans dn.length;rw[rS Fu];exact bV e r h
def M_(hr:bU k' X.A)(ja:JE X R a ta)(jb:JE X R b tb)(hm:behindInMarks .In b=false:=by rfl):JT X R (.Compare a [.In] [b] pos) (lZ (kj RK ta tb)):=f_ (OB (Fg hr)) Vh ja jb hm
end
def fG(ks:List Key)(k:Key):List Key:=if K9 ks k=true then ks else ks++[k]
def kx{α:Type}(k:Key)(v:α):List Key->List α->List α
 | c::ks,x::xs=>(if c=k then v else x)::kx k v ks xs
 | _,_=>[]
def eA{α:Type}(ks:List Key)(k:Key)(xs:List α)(v:α):List α:=if K9 ks k=true then kx k v ks xs else xs++[v]
def oH{α:Type}{k:Key}{v:α}:∀{ks:List Key} {xs:List α},ks.length=xs.length->(kx k v ks xs).length=ks.length
 | [],[],_=>rfl
 | _::ks,_::xs,h=>by
  have h:ks.length=xs.length:=by simpa using h
  show(kx k v ks xs).length+1=ks.length+1;rw[oH h]
def uI{k:Key}{v:V}:∀{ks:List Key} {vs:List V},ks.length=vs.length->(ks.zip vs).map (λkv=>if kv.1=k then (kv.1,v) else kv)=ks.zip (kx k v ks vs)
 | [],[],_=>rfl
 | c::ks,x::vs,h=>by
  have h:ks.length=vs.length:=by simpa using h
  rw[abn,aaW,uI h];show _=(c,if c=k then v else x)::ks.zip (kx k v ks vs)
  congr 1
  show(if c=k then (c,v) else (c,x))=_;split <;> rfl
def nE{K:fI}{G:Hp}{L:List Addr}{k:Key}{d:Dt}{v:V}(n:Den K G L d v):∀{ks:List Key} {ds:List Dt} {vs:List V},Λ K G L ds vs->ks.length=ds.length->Λ K G L (kx k d ks ds) (kx k v ks vs)
 | [],[],_,h,_=>by cases h;rfl
 | c::ks,x::ds,_,⟨y,vs,e,n0,ns⟩,hl=>by
  subst e;have hl:ks.length=ds.length:=by simpa using hl
  refine⟨_,_,rfl,?_,nE n ns hl⟩;show Den K G L (if c=k then d else x) (if c=k then v else y);split
  ·exact n
  ·exact n0
def E7{k:Key}(h:ks.length=vs.length):jg (ks.zip vs) k v=(fG ks k).zip (eA ks k vs v):=by
 unfold jg fG eA;rw[rM,rS h];split
 ·exact uI h
 ·rw[List.zip_append h];rfl
def wj(to ti tv:DE):DS:=λDn ρ M=>tv ρ M (λy M1=>to ρ M1 (λd M2=>ti ρ M2 (λdi M3=>∃k ks ds key,d= .loc k/\M3[k]? =some (.kE ks ds)/\IC di=some key/\ks.length < 1000/\Dn.nx ρ (M3.set k (.kE (fG ks key) (eA ks key ds y)))) Dn.x) Dn.x) Dn.x
section
variable{i value:Expr}{ti tv:DE}{pos':Pos}
def xu(hr:bU k' X.A)(ho:JE X R o to)(hi:JE X R i ti)(hv:JE X R value tv)(hs:swapsWith value (some (.Subscript o i pos')) pos.line X.env=pure false:=by rfl):JS X R (.Assign [.Subscript o i pos'] value pos) (wj to ti tv):=
 .of (J4 (Fg hr) ho hi hv hs) λσ H G L ρ M Dn rl n h hx=>by
  refine⟨G,L,ρ,M,_,_,rl,n,h,hx,λv H1 xz=>?_⟩;have⟨dv,G1,L1,M1,e1,r1,n1,h1⟩:=xz;refine⟨G1,L1,ρ,M1,_,_,r1,n.mono e1,h1,hx.on e1,λov H2 xz=>?_⟩;have⟨d,G2,L2,M2,e2,r2,n2,h2⟩:=xz;refine⟨G2,L2,ρ,M2,_,_,r2,(n.mono e1).mono e2,h2,(hx.on e1).on e2,λiv H3 xz=>?_⟩;have⟨di,G3,L3,M3,e3,r3,n3,k,ks,ds,key,ed,hm,hk,hlen,h3⟩:=xz;subst ed;have⟨a,rfl,Gb⟩:=n2;have zY:=e3.l.get Gb;have⟨_,vs,hH,hl,dn⟩:=r3.gr k a _ zY hm;have Jz:=e2.trans e3;have Ta:=Den.mono Jz.g Jz.l _ _ n1;have Fu:ks.length=vs.length:=hl.trans dn.length;obtain rfl:iv=kV key:=pR hk n3;have z:(ks.zip vs).length < sizeLine:=by rw[abL];exact aa7 (Nat.min_le_left _ _) (Nat.lt_trans hlen @_)
  refine⟨a,_,rfl,Ik.k hH z,ρ,G3,L3,_,((e1.trans e2).trans e3).trans (r3.EH zY),r3.setM (m:=.kE (fG ks key) (eA ks key ds dv)) zY ⟨eA ks key vs v,by rw[aq,E7 Fu],?_,?_⟩,(((n.mono e1).mono e2).mono e3).mono (r3.EH (o:=.own a) zY),h3⟩
  ·unfold fG eA;split
   ·rw[oH hl]
   ·rw[aah,aah,hl];rfl
  ·unfold eA;split
   ·exact nE Ta dn hl
   ·exact dn.app ⟨_,_,rfl,Ta,rfl⟩
end
section
variable{i f a b v1 v2:Expr}{ti tx t1 t2:DE}{p:Pos}
def vz:dE X (.type "dict") (λxs H Q=>∃a Ι,xs=[V.ref a]/\Rd H a (.dK Ι)/\∀p,H p=none->Q (.ref p) (upd H p (.dK Ι))):=by
 intro δ s σ H xs us Q I r ⟨a,Ι,ex,e,q⟩;subst ex;cases r with
 | cons r1 r2=>
  cases r2;cases r1;exact Ir I e λp s' hp I'=>⟨.ref p,_,I',rfl,q p hp⟩
def H_:List Dt->Ms->DQ->Prop
 | [d],M,q=>∃k ks ds,d= .loc k/\M[k]? =some (.kE ks ds)/\q (.loc M.length) (M++[.kE ks ds])
 | _,_,_=>False
def R0{K:fI}:CN K (λxs H Q=>∃a Ι,xs=[V.ref a]/\Rd H a (.dK Ι)/\∀p,H p=none->Q (.ref p) (upd H p (.dK Ι))) H_:=by
 intro G0 L0 H0 G L M H vs ds q e r n h;unfold H_ at h;split at h
 ·rename_i d;have⟨v,rfl,n1⟩:=bF n;have⟨k,ks,ds,ed,hm,h⟩:=h;subst ed;have⟨a,rfl,hk⟩:=n1;have⟨_,vs,hH,hl,dn⟩:=r.gr k a _ hk hm;refine⟨a,_,rfl,.inl hH,λp hp=>?_⟩;exact⟨.loc M.length,G,L++[p],_,e.trans (r.SO hp),r.KO (m:=.kE ks ds) hp ⟨vs,aq,hl,Λ.mono (.refl _) ⟨[p],rfl⟩ _ _ dn⟩,⟨p,rfl,by rw[<-r.len,List.getElem?_append_right (Nat.le_refl _)];simp⟩,h⟩
 ·exact h.elim
def Aj:bootBuiltins "dict"=some (.type "dict"):=by decide+kernel
def LW(hm:X.mg "dict"=none)(ha:JA X R [e] t)(hg:Gl X "dict":=by rfl)(he:starEach [e] X.env=(false,eval e X.env)::starEach [] X.env:=by rfl)(e6:(backTo pos (starEach [] X.env)).any (·.1)=false:=by rfl):JE X R (.Call (.Name "dict" p) [e] [] pos) (Ba H_ t):=
 xN vz R0 hm Aj ha hg @_ @_ he e6
end
def PL:Dt->Bool
 | .aJ=>true
 | _=>false
def Jm{K:fI}(n:Den K G L d v):decide (v= .aJ)=PL d:=by
 cases d with
 | aJ=>cases n;rfl
 | bl b=>cases n;rfl
 | int i=>cases n;rfl
 | str x=>cases n;rfl
 | tup ds=>have⟨a,vs,rfl,_⟩:=n;rfl
 | lst ds=>have⟨a,vs,rfl,_⟩:=n;rfl
 | obj C ns ds=>have⟨a,dx,vs,rfl,_⟩:=n;rfl
 | loc k=>have⟨a,rfl,_⟩:=n;rfl
 | ref a=>cases n;rfl
 | ty m=>cases n;rfl
 | hW ns=>have⟨a,rfl,_⟩:=n;rfl
 | kt ds=>have⟨a,vs,rfl,_⟩:=n;rfl
 | exc C ns ds=>have⟨a,od,vs,rfl,_⟩:=n;rfl
 | OU x C od ns ds=>have⟨vs,rfl,_⟩:=n;rfl
def QL:Dt->Dt->Ms->DQ->Prop:=λd e M q=>e= .aJ/\q (.bl (PL d)) M
def VX{K:fI}:oV K (λx y H Q=>y= .aJ/\Q (.bl (decide (x= .aJ))) H) QL:=by intro G0 L0 H0 G L M H v1 v2 d1 d2 q e r n1 n2 ⟨e2,h⟩;subst e2;refine⟨n2,?_⟩;rw[Jm n1];exact bV e r h
section
variable{a b:Expr}
def MH(ja:JE X R a ta)(jb:JE X R b tb):JT X R (.Compare a [.Is] [b] pos) (lZ (kj QL ta tb)):=f_ FI VX ja jb (eD _)
end
def IH{α β:Type}{F:α->β->Prop}:∀{xs:List α} {ys:List β},Paired F xs ys->∀{i:Nat} {x:α},xs[i]? =some x->∃y,ys[i]? =some y/\F x y
 | _,_,.nil,i,x,h=>by simp at h
 | _,_,.cons r t,0,x,h=>by obtain rfl:=aao h;exact⟨_,rfl,r⟩
 | _,_,.cons r t,i+1,x,h=>by have⟨y,e,f⟩:=IH t (show _=some x by simpa using h);exact⟨y,by simpa using e,f⟩
def Ro(td te:TE):TE:=λσ H Q=>td σ H λx H1=>∃a,x= .ref a/\WW H1 a/\te σ H1 λy H2=>∃b Ι more,y= .ref b/\a≠b/\H2 a=some (.dK Ι)/\Rd H2 b (.dK more)/\Ι.length+more.length<=sizeLine/\Q .aJ (upd H2 a (.dK (n_ Ι more)))
section
variable{td te:TE}
def Kk(ho:PE X o td)(he:PE X e te)(m:M1 X o "update" apos e a_):PE X (.Call (.Attribute o "update" apos) [e] [] a_) (Ro td te):=by
 intro δ s σ H Q I h;refine wpAny_Call_method m.base m.few m.line PySem.F.plainAttrs_dict PySem.F.slot_dict_update PySem.F.type_dict_update (bH (ho δ s σ H _ I h) λu s1 xz=>?_);have⟨x,H1,I1,rx,a,ex,d,q1⟩:=xz;subst ex;obtain rfl:u=Value.ref a:=rx;have⟨t1,t2,_⟩:=MA I1 d;refine⟨t1,t2,?_⟩;rw[m.trees];refine Calls.callWith_builtin rfl (Calls.evalArgs_plain (Calls.spliced_cons (bH (he δ s1 σ H1 _ I1 q1) fun iv s2 ⟨y,H2,I2,ry,b,Ι,more,ey,pL,hA,hB,hz,q2⟩=>Calls.spliced_nil ?_)));subst ey;obtain rfl:iv=Value.ref b:=ry;have⟨z1,d1,vs,r1,Xo⟩:=FG I2.aO hA;have⟨z2,d2,rs,r2,SA⟩:=pw I2.aO hB;refine call_meetsIn PySem.F.slot_dict_update Xo.typeIs PySem.F.entry_dict_update (PySem.F.args_dict_update_2 _ _) (meets_dict_update (bQ X.prog X.w) a b pL d2) ⟨vs,rs,Xo,SA,by rw[<-r1.length,<-r2.length];exact hz,λh' hm _ hs=>?_⟩;have hex:∃q,h'.get? a=some q:=let ⟨q,_,_,hq,_⟩:=hm;⟨q,hq⟩
 exact⟨.aJ,_,vY (t':=s2.toks) I2 (by rw[hA];exact True.intro) hs hex (vB (aaA (kC more Ι) hz) d1 (KV.merge r2 r1) hm),rfl,q2⟩
end
section
variable{k a b:Expr}{tl tk:DE}{p2:Pos}
def oU(ks:List Key):List Key->List Key
 | []=>ks
 | k::r=>oU (fG ks k) r
def r8(ks:List Key)(ds:List Dt):List Key->List Dt->List Dt
 | k::r,d::yT=>r8 (fG ks k) (eA ks k ds d) r yT
 | _,_=>ds
def MP{α:Type}{k:Key}{xs:List α}{v:α}(h:ks.length=xs.length):(fG ks k).length=(eA ks k xs v).length:=by
 unfold fG eA;split
 ·rw[oH h]
 ·rw[aah,aah,h];rfl
def L7{K:fI}{k:Key}{ds:List Dt}(n:Den K G L d v)(h:Λ K G L ds vs)(hl:ks.length=ds.length):Λ K G L (eA ks k ds d) (eA ks k vs v):=by
 unfold eA;split
 ·exact nE n h hl
 ·exact h.app ⟨_,_,rfl,n,rfl⟩
def CD{K:fI}{G:Hp}{L:List Addr}:∀{uG:List Key} {yT:List Dt} {B3:List V} {ks:List Key} {ds:List Dt} {vs:List V},uG.length=yT.length->Λ K G L yT B3->ks.length=ds.length->Λ K G L ds vs->
  ∃us,n_ (ks.zip vs) (uG.zip B3)=(oU ks uG).zip us/\(oU ks uG).length=(r8 ks ds uG yT).length/\Λ K G L (r8 ks ds uG yT) us
 | [],[],_,ks,ds,vs,_,h2,hl,h=>by cases h2;exact⟨vs,rfl,hl,h⟩
 | k::uG,d::yT,_,ks,ds,vs,Fu,⟨v,B3,e,n0,ns⟩,hl,h=>by
  subst e;have Fu:uG.length=yT.length:=by simpa using Fu
  have⟨us,e1,e2,e3⟩:=CD (ks:=fG ks k) (ds:=eA ks k ds d) (vs:=eA ks k vs v) Fu ns (MP hl) (L7 n0 h hl);refine⟨us,?_,e2,e3⟩;rw[abn];show n_ (jg (ks.zip vs) k v) (uG.zip B3)=(oU (fG ks k) uG).zip us;rw[E7 (hl.trans h.length),e1]
def BF(to te:DE):DE:=λρ M q x=>to ρ M (λd M1=>(∃k ks ds,d= .loc k/\M1[k]? =some (.kE ks ds))/\te ρ M1 (λd2 M2=>∃k k2 ks ds uG yT,d= .loc k/\d2= .loc k2/\k≠k2/\M2[k]? =some (.kE ks ds)/\M2[k2]? =some (.kE uG yT)/\ks.length+uG.length<=1000/\q .aJ (M2.set k (.kE (oU ks uG) (r8 ks ds uG yT)))) x) x
def Ad(ho:JE X R o to)(he:JE X R e te)(m:M1 X o "update" apos e a_:=by exact⟨rfl,rfl,rfl,rfl⟩):JE X R (.Call (.Attribute o "update" apos) [e] [] a_) (BF to te):=
 .of (Kk ho he m) λσ H G L ρ M q x rl n h hx=>by
  refine⟨G,L,ρ,M,_,x,rl,n,h,hx,λv H1 xz=>?_⟩;have⟨d1,G1,L1,M1,e1,r1,n1,⟨k0,ks0,ds0,ed0,hm0⟩,h1⟩:=xz;subst ed0;have⟨a,rfl,hk⟩:=n1;have⟨_,vs0,Zv,_,_⟩:=r1.gr k0 a _ hk hm0;refine⟨a,rfl,.inl ⟨_,.inl Zv⟩,G1,L1,ρ,M1,_,x,r1,n.mono e1,h1,hx.on e1,λv2 H2 xz=>?_⟩;have⟨d2,G2,L2,M2,e2,r2,n2,k,k2,ks,ds,uG,yT,ed,UG,pL,hm,NY,hz,h3⟩:=xz;cases ed;subst UG;have zY:=e2.l.get hk;have⟨b,rfl,W4⟩:=n2;have⟨_,vs,hH,hl,dn⟩:=r2.gr k0 a _ zY hm;have⟨_,B3,ON,Fu,EW⟩:=r2.gr k2 b _ W4 NY;have z1:(ks.zip vs).length<=ks.length:=by rw[abL];exact Nat.min_le_left _ _
  have z2:(uG.zip B3).length<=uG.length:=by rw[abL];exact Nat.min_le_left _ _
  have sz:(1000:Nat)<=sizeLine:=@_
  have⟨us,u1,u2,u3⟩:=CD Fu EW hl dn;have ab:a≠b:=λz=>by subst z;have i1:=(aaf.mp zY).1;have:=(List.getElem?_inj (l:=L2) i1 r2.nd).mp (zY.trans W4.symm);exact pL this
  refine⟨b,_,_,rfl,ab,hH,.inl ON,(),?_⟩;exact⟨.aJ,G2,L2,_,(e1.trans e2).trans (r2.EH zY),r2.setM (m:=.kE (oU ks uG) (r8 ks ds uG yT)) zY ⟨us,by rw[aq,u1],u2,u3⟩,rfl,h3⟩
end
def IJ(P:Program)(w:World)(a:Addr)(Ι:List (Key×V))(ep:Nat)(h:Heap):Prop:=Ι.length<=sizeLine/\(a==sysModules)=false/\∃vs,KV Ι vs/\h.DictAt (bQ P w) a vs ep
def AG(P:Program)(w:World)(a:Addr)(Ι:List (Key×V))(ep:Nat):HO:=.ext (IJ P w a Ι ep)
section
variable{P':Program}{w w':World}{H:Hp}{h:Heap}{ep:Nat}
def Cg(ok:km P w H h)(e:H a=some (AG P' w' a Ι ep)):IJ P' w' a Ι ep h:=(ok a _ e).1
def NO(x:IJ P' w' a Ι ep h):bL P w H h a (AG P' w' a Ι ep):=by
 refine⟨x,?_,λh1 h2 y k=>?_⟩
 ·have⟨_,_,vs,_,o,es,e,_⟩:=x;exact⟨o,e⟩
 ·have⟨z,hd,vs,r,o,es,e,c⟩:=y;exact⟨z,hd,vs,r,o,es,k _ e,c⟩
end
section
variable{H:Hp}{ep:Nat}
def Inv.Mh(I:Inv X δ σ H s)(mu:OV (H a))(x:IJ X.prog X.w a Ι ep s.heap):Inv X δ σ (upd H a (AG X.prog X.w a Ι ep)) s:=by
 have he:∃u,s.heap.get? a=some u:=let ⟨_,_,_,_,o,_,e,_⟩:=x;⟨o,e⟩
 exact I.write (x:=a) (e:=a) (h':=s.heap) (t':=s.toks) mu (.inl rfl) (λb u _ q=>q) he (NO x)
def Inv.walkOut(I:Inv X δ σ H s)(e:H a=some (AG X.prog X.w a Ι ep)):Inv X δ σ (upd H a (.dK Ι)) s:=by
 have⟨z,hd,vs,r,dd⟩:=Cg I.aO e;have he:∃u,s.heap.get? a=some u:=let ⟨o,_,e,_⟩:=dd;⟨o,e⟩
 exact I.write (x:=a) (e:=a) (h':=s.heap) (t':=s.toks) (by rw[e];exact True.intro) (.inl rfl) (λb u _ q=>q) he (vB z hd r dd.dictOf)
def QH{w:World}{k:Key}{u:Value}(h:(bQ P w).is k u=true):ax (kV k) u:=by
 rcases aZ h with ⟨i,t,rfl,rfl⟩| ⟨x,t,rfl,rfl⟩
 ·exact⟨t,rfl⟩
 ·exact⟨t,rfl⟩
end
def Vz(P:Program)(w:World)(a:Addr)(Ι:List (Key×V))(ep:Nat):It:=
 ⟨λi H=>H a=some (AG P w a Ι ep)/\i < Ι.length,λi H x H'=>H'=H/\∃kv,Ι[i]? =some kv/\x=kV kv.1,λi H=>H a=some (AG P w a Ι ep)/\Ι.length<=i⟩
def D9{w:World}{K:fI}(a it:Addr)(Ι:List (Key×V))(ep:Nat):Turn P w K tg (Vz P w a Ι ep) [it] it (λi h=>h.IsKeyIter it a i Ι.length ep) where
 mem:=by simp
 obj:=λi h st b hb=>by
  have e:b=it:=by simpa using hb
  subst e;have⟨o,e,c,d⟩:=st;exact⟨o,e,λv z=>by rw[d]at z;cases z⟩
 keep:=λi h h' st k=>by have⟨o,e,r⟩:=st;exact⟨o,k it (by simp) o e,r⟩
 item:=by
  intro X hP hw hK hc i δ s σ H E I hf st hg;subst hP hw hK;have⟨hq,hi⟩:=hg;have⟨z,hd,vs,rel,dd⟩:=Cg I.aO hq;have⟨f0,f1,f2,f3,f4,f5⟩:=hf it (by simp);have hx:Ι[i]? =some Ι[i]:=aaa hi;have⟨q,OS,r1,r2⟩:=IH rel hx;have⟨k,v⟩:=q;have V':s.heap.IsKeyIter it a i vs.length ep:=by rw[<-rel.length];exact st
  refine wpAny_pyNext_dict_item V' dd OS λkey h' hk wb sb=>?_;have wb:h'.IsKeyIter it a (i+1) Ι.length ep:=by rw[rel.length];exact wb
  have I1:Inv X δ σ H {s with heap:=h'}:=I.turned (t':=s.toks) (λb o hb e=>(sb.2 b hb).trans e) f0 f1 f3 f4 f5;have⟨o,e,c,d⟩:=id wb;exact⟨key,rfl,uN (s:={s with heap:=h'}) e c d @_ ⟨kV k,H,I1,QH hk,⟨rfl,Ι[i],hx,by rw[r1]⟩,wb,λb hb=>(hf b hb).1⟩⟩
 done:=by
  intro X hP hw hK hc i δ s σ H E I hf st hg;subst hP hw hK;have⟨hq,hi⟩:=hg;have⟨z,hd,vs,rel,dd⟩:=Cg I.aO hq;have⟨f0,f1,f2,f3,f4,f5⟩:=hf it (by simp);have V':s.heap.IsKeyIter it a i vs.length ep:=by rw[<-rel.length];exact st
  exact wpAny_pyNext_dict_end (I.ok.hd hc) V' dd (List.getElem?_eq_none (by rw[<-rel.length];exact hi)) λh' eb=>⟨rfl,I.turned (t':=s.toks) (λb o hb e=>eb b o hb e) f0 f1 f3 f4 f5⟩
 self:=λ_ _ _ _ _ st h=>wpAny_pyIter_keyiter st h
section
variable{H:Hp}{Q:It->Hp->Prop}{E:Value->Shared->Prop}
def JV(I:Inv X δ σ H s)(e:H a=some (.dK Ι))(q:∀ep,Q (Vz X.prog X.w a Ι ep) (upd H a (AG X.prog X.w a Ι ep))):wpAny (model X.prog X.w) X.A (pyIter (.ref a)) (IT X δ σ tg Q) E s:=by
 have⟨z,hd,vs,rel,dd⟩:=FG I.aO e;have⟨ep,dd⟩:=dd.dictAt;refine wpAny_pyIter_dict hd dd ?_;have I1:=I.Mh (by rw[e];exact True.intro) (show IJ X.prog X.w a Ι ep s.heap from⟨z,hd,vs,rel,dd⟩);refine⟨s.heap.objs.size,[s.heap.objs.size],_,_,_,rfl,I1.kept (t':=s.toks) λb o e=>aaj _ e,D9 a _ Ι ep,⟨_,aaN _ rfl,rfl,by rw[rel.length];rfl⟩,λb hb=>?_,q ep⟩;have e:b=s.heap.objs.size:=by simpa using hb
 subst e;exact I1.z7 (aai _) (I1.aO.fresh (aai _))
end
def Xq(P:Program)(w:World)(D:xB):St->Hp->Prop:=λσ H=>∃a Ι ep,H a=some (AG P w a Ι ep)/\D.nx σ (upd H a (.dK Ι))
section
variable{st:Stmt}{t:TS}{i:Expr}{td ty:TE}
def C7(h:PS X st t):PS X st (λD σ H=>t {D with nx:=Xq X.prog X.w D} σ H):=by
 intro δ s σ H D I h';refine bH (h δ s σ H _ I h') λf s' sp=>?_;cases f with
 | next=>
  have⟨σ',H',I',a,Ι,ep,e,q⟩:=sp;exact⟨σ',_,I'.walkOut e,q⟩
 | brk=>exact sp
 | cont=>exact sp
 | ret u=>exact sp
def LY(P:Program)(w:World)(td ty:TE):TE:=λσ H Q=>td σ H λx H1=>ty σ H1 λy H2=>∃a Ι ep k v,x= .ref a/\H2 a=some (AG P w a Ι ep)/\y=kV k/\nN Ι k=some v/\Q v H2
def FJ(ho:PE X o td)(hi:PE X i ty)(hs:HL i):PE X (.Subscript o i pos) (LY X.prog X.w td ty):=by intro δ s σ H Q I h;refine BQ PySem.F.slot_dict_getitem.lookup hs (bH (ho δ s σ H _ I h) fun u s1 ⟨x,H1,I1,rx,q1⟩=>bH (hi δ s1 σ H1 _ I1 q1) λiv s2 xz=>?_);have⟨y,H2,I2,ry,a,Ι,ep,k,v,ex,e,ey,l,q2⟩:=xz;subst ex ey;obtain rfl:u=Value.ref a:=rx;have⟨z,hd,vs,rel,dd⟩:=Cg I2.aO e;have dd:=dd.dictOf;have⟨w',hw,Dq⟩:=jM.some_of (v:=v) (o:=valueAt vs k) (by rw[<-l];exact rel.val k);exact⟨dd.typeIs,wpAny_getItem_of (yj ry) dd.mapOf hw ⟨v,H2,I2.tok _,Dq,q2⟩⟩
end
def FF:Key->Dt
 | .inl i=>.int i
 | .inr x=>.str x
def Jv{K:fI}{G:Hp}{L:List Addr}:∀k:Key,Den K G L (FF k) (kV k)
 | .inl _=>rfl
 | .inr _=>rfl
def so{K:fI}{G:Hp}{L:List Addr}:∀is:List Int,Λ K G L (is.map Dt.int) (is.map V.int)
 | []=>rfl
 | _::is=>⟨_,_,rfl,rfl,so is⟩
def yt{K:fI}{G:Hp}{L:List Addr}:∀{is:List Int} {vs:List V},Λ K G L (is.map Dt.int) vs->vs=is.map V.int
 | [],vs,h=>h
 | i::is,vs,h=>by have⟨v,r,rfl,h1,h2⟩:=h;have h1:v= .int i:=h1;rw[h1,yt h2];rfl
def Jt(P:Program)(w:World)(ks:List Key)(is:List Int)(ep:Nat):Addr->HO:=λa=>AG P w a (ks.zip (is.map V.int)) ep
def tN(g:Dt->En->(En->Prop)->Prop)(tb:DS)(Dn:kD)(k:Nat)(u:Addr->HO)(m:MO):List Key->En->Ms->Prop
 | [],ρ,M=>M[k]? =some (.raw u)/\Dn.nx ρ (M.set k m)
 | x::xs,ρ,M=>M[k]? =some (.raw u)/\g (FF x) ρ λρ'=>tb {Dn with nx:=tN g tb Dn k u m xs,ct:=tN g tb Dn k u m xs,bk:=λρ M=>M[k]? =some (.raw u)/\Dn.nx ρ (M.set k m)} ρ' M
def QM(P:Program)(w:World)(te:DE)(g:Dt->En->(En->Prop)->Prop)(tb:DS):DS:=λDn ρ M=>te ρ M (λd M1=>∃k ks is,d= .loc k/\M1[k]? =some (.kE ks (is.map Dt.int))/\∀ep,tN g tb Dn k (Jt P w ks is ep) (.kE ks (is.map Dt.int)) ks ρ (M1.set k (.raw (Jt P w ks is ep)))) Dn.x
def Mc(P:Program)(w:World)(t:TE):TI:=λσ H R=>t σ H λv H1=>∃a Ι,v= .ref a/\H1 a=some (.dK Ι)/\∀ep,R (Vz P w a Ι ep) (upd H1 a (AG P w a Ι ep))
def KC{t:TE}(h:PE X e t):PI X tg e (Mc X.prog X.w t):=by intro δ s σ H R I ht;refine bH (h δ s σ H _ I ht) λu s1 xz=>?_;have⟨v,H1,I1,rv,a,Ι,ev,ha,q⟩:=xz;subst ev;obtain rfl:u=Value.ref a:=rv;exact JV I1 ha q
section
variable{i:Expr}{body:List Stmt}{ti:DE}{gg:TG}{g:Dt->En->(En->Prop)->Prop}{tb:DS}
def KU(hi:JE X R iter te)(hg:PG X tg gg)(gd:GD X.K gg g)(hb:CH X R body tb)(hp:PassesOwn (model X.prog X.w) X.A X.env X.xe:=by first| exact PassesOwn.never| exact PassesOwn.leaving)(hc:X.calm=true:=by rfl)(hs:∀x,foldedSetIterable iter X.env x=pure x:=by intro _;rfl):
  JS X R (.For tg iter body [] pos) (QM X.prog X.w te g tb):=.of (C7 (Af hp hc (KC hi) hg hb hs)) λσ H G L ρ M Dn rl n h hx=>by
 refine⟨G,L,ρ,M,_,_,rl,n,h,hx,λv H1 xz=>?_⟩;have⟨d,G1,L1,M1,e1,r1,n1,k,ks,is,ed,hk,h1⟩:=xz;subst ed;have⟨a,rfl,Gb⟩:=n1;have⟨hGa,vs,hH,hl,dn⟩:=r1.gr k a _ Gb hk;have ZL:=yt dn;subst ZL;rw[aag]at hl;refine⟨a,_,rfl,hH,λep=>?_⟩;have h1:=h1 ep;generalize hu:Jt X.prog X.w ks is ep=u at h1;have Sx:AG X.prog X.w a (ks.zip (is.map V.int)) ep=u a:=by rw[<-hu];rfl
 have r2:Rl X.K G1 L1 (M1.set k (.raw u)) (upd H1 a (AG X.prog X.w a (ks.zip (is.map V.int)) ep)):=r1.setM (m:=.raw u) Gb (show upd H1 a _ a=some (u a) by rw[aq,Sx]);have e2:Ex G1 L1 H1 G1 L1 (upd H1 a (AG X.prog X.w a (ks.zip (is.map V.int)) ep)):=r1.EH Gb;have zl:(ks.zip (is.map V.int)).length=ks.length:=by rw[abL,aag];omega
 generalize ON:upd H1 a (AG X.prog X.w a (ks.zip (is.map V.int)) ep)=H2 at r2 e2;have Fl:=e1.trans e2;have out:∀{G':Hp} {L':List Addr} {H':Hp} {M':Ms} {ρ':En} {σ':St},Ex G1 L1 H2 G' L' H'->Rl X.K G' L' M' H'->kG X.K G' L' ρ' σ'->M'[k]? =some (.raw u)->Dn.nx ρ' (M'.set k (.kE ks (is.map Dt.int)))->Xq X.prog X.w (sR X.K G L H Dn) σ' H':=λ{G' L' H' M' ρ' σ'} e' r' n' hm Pq=>by have Bu:=e'.l.get Gb;have Qz:H' a=some (u a):=(r'.gr k a _ Bu hm).2;refine⟨a,ks.zip (is.map V.int),ep,by rw[Sx];exact Qz,ρ',G',L',_,(Fl.trans e').trans (r'.EH Bu),r'.setM (m:=.kE ks (is.map Dt.int)) Bu ⟨is.map V.int,aq,by rw[aag];exact hl,so is⟩,n'.mono (r'.EH (o:=.own a) Bu),Pq⟩
 refine⟨λi m σ' H'=>m+i=ks.length/\d8 X.K G1 L1 H2 (λρ' M'=>tN g tb Dn k u (.kE ks (is.map Dt.int)) (ks.drop i) ρ' M') σ' H',⟨ks.length,rfl,ρ,G1,L1,_,.refl _ _ _,r2,n.mono e1,by rw[abQ];exact h1⟩,?_⟩;rintro i m σ' H' ⟨hm,ρ',G',L',M',e',r',n',h'⟩;have Bu:=e'.l.get Gb;by_cases hi:i < ks.length
 ·right;rw[abi hi]at h';have⟨JY,h'⟩:=h';have Qz:H' a=some (u a):=(r'.gr k a _ Bu JY).2;refine⟨⟨by rw[Sx];exact Qz,()⟩,d8 X.K G1 L1 H2 (λρ' M'=>tN g tb Dn k u (.kE ks (is.map Dt.int)) (ks.drop (i+1)) ρ' M'),λσ2 H3 f=>⟨m - 1,(),(),f⟩,λv H3 hy=>?_⟩;have⟨rfl,kv,XB,rfl⟩:=hy;have ML:kv.1=ks[i]:=by rw[List.getElem?_zip_eq_some]at XB;have:=XB.1;rw[aaa hi]at this;exact(aao this).symm
  rw[ML];refine gd G' L' M' H3 _ _ ρ' σ' _ _ r' (Jv _) n' h' λρ3 σ3 n3 h3=>?_;refine⟨G',L',ρ3,M',_,r',n3,h3,hx.on (Fl.trans e'),⟨λ_ _ f=>d8.back e' f,λ_ _ f=>Fin.back (Fl.trans e') f,λσ4 H4 f=>?_,λ_ _ f=>d8.back e' f⟩⟩;have⟨ρ4,G4,L4,M4,e4,r4,n4,Yy,h4⟩:=f;exact out (e'.trans e4) r4 n4 Yy h4
 ·left;rw[abR ()]at h';have Qz:H' a=some (u a):=(r'.gr k a _ Bu h'.1).2;exact⟨⟨by rw[Sx];exact Qz,()⟩,out e' r' n' h'.1 h'.2⟩
def Mf(P:Program)(w:World)(to ti:DE):DE:=λρ M q x=>to ρ M (λd M1=>ti ρ M1 (λdi M2=>∃k ks is ep key j,d= .loc k/\M2[k]? =some (.raw (Jt P w ks is ep))/\IC di=some key/\eI ks (is.map Dt.int) key=some (.int j)/\q (.int j) M2) x) x
def KI(ho:JE X R o to)(hi:JE X R i ti)(hs:HL i:=by intro _ _;rfl):JE X R (.Subscript o i pos) (Mf X.prog X.w to ti):=
 .of (FJ ho hi hs) λσ H G L ρ M q x rl n h hx=>by refine⟨G,L,ρ,M,_,x,rl,n,h,hx,λv H1 xz=>?_⟩;have⟨d1,G1,L1,M1,e1,r1,n1,h1⟩:=xz;refine⟨G1,L1,ρ,M1,_,x,r1,n.mono e1,h1,hx.on e1,λv2 H2 xz=>?_⟩;have⟨d2,G2,L2,M2,e2,r2,n2,k,ks,is,ep,key,j,ed,hm,hk,hg,h2⟩:=xz;subst ed;have⟨a,rfl,ML⟩:=n1;have F_:=e2.l.get ML;have hH:H2 a=some (Jt X.prog X.w ks is ep a):=(r2.gr k a _ F_ hm).2;obtain rfl:v2=kV key:=pR hk n2;have⟨v,hv,dv⟩:=nM (K:=X.K) (G:=G2) (L:=L2) (so is) hg;exact⟨a,_,ep,key,v,rfl,hH,rfl,hv,_,G2,L2,M2,e1.trans e2,r2,dv,h2⟩
end
def Iy:List Dt->Ms->DQ->Prop
 | [d],M,q=>∃k ks ds,d= .loc k/\M[k]? =some (.kE ks ds)/\q (.int ks.length) M
 | _,_,_=>False
def QC{K:fI}:CN K (λxs H Q=>∃a Ι,xs=[V.ref a]/\H a=some (.dK Ι)/\Q (.int Ι.length) H) Iy:=by
 intro G0 L0 H0 G L M H vs ds q e r n h;unfold Iy at h;split at h
 ·have⟨k,ks,ds,rfl,hm,h⟩:=h;have⟨v,rfl,n1⟩:=bF n;have⟨a,rfl,hk⟩:=n1;have⟨_,vs,hH,hl,dn⟩:=r.gr k a _ hk hm;refine⟨a,_,rfl,hH,.int ks.length,G,L,M,e,r,?_,h⟩;show V.int _=V.int _;rw[abL,<-dn.length,<-hl,Nat.min_self]
 ·exact h.elim
section
variable{p:Pos}
def HQ(hm:X.mg "len"=none)(ha:JA X R [e] t)(hg:Gl X "len":=by rfl)(he:starEach [e] X.env=(false,eval e X.env)::starEach [] X.env:=by rfl)(e6:(backTo pos (starEach [] X.env)).any (·.1)=false:=by rfl):JE X R (.Call (.Name "len" p) [e] [] pos) (Ba Iy t):=
 fh DY QC hm PySem.boot_len ha hg @_ @_ he e6
end
section
variable{elt:Expr}{x z:Str}{px pz tp:Pos}
def xI{i:Nat}{y:Str}{py h7:Pos}(hN:X.N.Nodup)(Dw:X.N[i]? =some y)(hy:Loc X.env.scope y)(S:ag X scope [x,z] ys Μ)(hi:JK X R (.Tuple [.Name x px,.Name z pz] kk tp) iter ti)(he:∀C s H fp,JE (Cx.comp X (x::z::ys) scope C s H fp) (λ_=>E0) elt te)(hc:X.calm=true:=by rfl)(Dy:swapsWith (.ListComp elt [⟨.Tuple [.Name x px,.Name z pz] kk tp,iter,[],0⟩] scope pos) (some (.Name y py)) h7.line X.env=pure true:=by rfl)(hs:∀x,foldedSetIterable iter X.env x=pure x:=by intro _;rfl)(hf:X.fn y=true\/X.env.scope.names.lookup y=some .local:=by first| exact .inl rfl| exact .inr rfl| assumption):JS X R (.Assign [.Name y py] (.ListComp elt [⟨.Tuple [.Name x px,.Name z pz] kk tp,iter,[],0⟩] scope pos) h7) (wq i (xq 2 ti (g2 0 1) te Μ)):=P1 false S hi (u6 hc S) kZ (oy (Nat.zero_lt_succ 1) (Nat.lt_succ_self 1)) (λ_ _ _ _=>gQ) he hc hs hN Dw hy Dy hf λρ M q x h=>by unfold xq at h;simp only[va]at h;exact h
end
section
variable{H:Hp}
def BS(I:Inv X δ σ H s){xs ys:List V}(h:mq X.K H a xs)(h':fj X.K H a ys):False:=by have⟨_,_,⟨o,n,e,c,_⟩,_⟩:=I.list h';have⟨_,_,⟨o2,e2,c2,_⟩,_⟩:=I.tuple h;rw[e]at e2;cases e2;rw[c]at c2;exact aaE (Value.type.inj c2) @_
def Fw(I:Inv X δ σ H s){x y:V}(h:EJ X.K H n x y b):∀{b':Bool},EJ X.K H n x y b'->b=b':=by
 induction h with
 | flat h1 h2=>
  intro b' h';cases h' with
  | flat=>rfl
  | tup=>cases h1
  | lst=>cases h1
  | len=>cases h1
 | @tup n a b xs ys f h1 h2 h ih=>
  intro b' h';cases h' with
  | flat n6=>cases n6
  | @tup _ _ _ xs' ys' f' n6 KZ h'=>
   cases I.j8 h1 n6;cases I.j8 h2 KZ
   congr 1
   rw[abT,aa2,aa2];have key:∀j∈List.range (min xs.length ys.length),f j=f' j:=λj hj=>by
    have hj:=aba.mp hj;have l1:j < xs.length:=()
    have l2:j < ys.length:=()
    exact ih j _ _ (aaa l1) (aaa l2) (h' j _ _ (aaa l1) (aaa l2))
   exact⟨λz j hj=>by rw[<-key j hj];exact z j hj,λz j hj=>by rw[key j hj];exact z j hj⟩
  | lst n6=>exact(BS I h1 n6).elim
  | len n6=>exact(BS I h1 n6).elim
 | @lst n a b xs ys f h1 h2 hl h ih=>
  intro b' h';cases h' with
  | flat n6=>cases n6
  | tup n6=>exact(BS I n6 h1).elim
  | @lst _ _ _ xs' ys' f' n6 KZ Lu h'=>
   cases I.bS h1 n6;cases I.bS h2 KZ;rw[abT,aa2,aa2];have key:∀j∈List.range xs.length,f j=f' j:=λj hj=>by
    have l1:=aba.mp hj;have l2:j < ys.length:=()
    exact ih j _ _ (aaa l1) (aaa l2) (h' j _ _ (aaa l1) (aaa l2))
   exact⟨λz j hj=>by rw[<-key j hj];exact z j hj,λz j hj=>by rw[key j hj];exact z j hj⟩
  | len n6 KZ Lu=>
   cases I.bS h1 n6;cases I.bS h2 KZ;exact aaE hl Lu
 | len h1 h2 hl=>
  intro b' h';cases h' with
  | flat n6=>cases n6
  | tup n6=>exact(BS I n6 h1).elim
  | lst n6 KZ Lu=>
   cases I.bS h1 n6;cases I.bS h2 KZ;exact aaE Lu hl
  | len=>rfl
end
def Ih(K:fI)(n:Nat):V->List V->Hp->VK->Prop:=λx vs H Q=>∃p xs y,∃f:Nat->Bool,∃j:Nat,x= .ref p/\vs=[y]/\fj K H p xs/\(∀i z,xs[i]? =some z->EJ K H n z y (f i))/\j < xs.length/\f j=true/\(∀i,i < j->f i=false)/\Q (.int (j:Int)) H
def GX(hu:X.A.units+(n+1) < cLine):VD X "list.index" (Ih X.K n):=by
 intro δ s σ H x vs v us Q I rx rv h;have⟨p,xs,y,f,j,rfl,rfl,hq,hf,hj,ft,ff,q⟩:=h;cases rx;have⟨u,rfl,ru⟩:=rv.one;have⟨its,r,pl,hz⟩:=I.list hq;have⟨⟨cls,dd,data,sl⟩,nn,ho,hc,WU,hd⟩:=id pl;simp only at hc hd;subst hc hd
 classical
 have hu':X.A.in1.units+n < cLine:=by show X.A.units+1+n < cLine;omega
 have lz:its.toArray.size=xs.length:=by rw[aaM,<-r.length]
 have abX:sizeLine < 2 ^ 63 - 1:=@_
 have uq:∀i i' (z:V),xs[i]? =some z->xs[i']? =some z->f i=f i':=λi i' z h1 h2=>Fw I (hf i z h1) (hf i' z h2);have ev:∀(m:Nat) (hm:m < its.toArray.size),decide (∃i z,xs[i]? =some z/\ax z its.toArray[m]/\f i=true)=f m:=λm hm=>by
  have⟨z,hz,rz⟩:=hX r hm;by_cases c:∃i z,xs[i]? =some z/\ax z its.toArray[m]/\f i=true
  ·rw[aaB c];have⟨i,z',h1,h2,h3⟩:=c;cases rz.inj h2;rw[uq m i z hz h1,h3]
  ·rw[aam c];cases e:f m with
   | false=>rfl
   | true=>exact aaE ⟨m,z,hz,rz,e⟩ c
 refine call_meets F.slot_list_index ⟨_,ho,rfl⟩ F.entry_list_index (F.args_list_index_2 _ _) (SeqAt.list_indexAt p its.toArray nn dd sl u (λw=>decide (∃i z,xs[i]? =some z/\ax z w/\f i=true)) j () () ((ev j ()).trans ft) (λm hm h=>(ev m hm).trans (ff m h))) ⟨ho,λw hw=>?_,.int (j:Int),H,I.tok _,⟨_,rfl⟩,q⟩;have⟨m,hm,rfl⟩:=Array.mem_iff_getElem.mp hw;have⟨z,hz,rz⟩:=hX r hm;have:=ev m hm;exact this▸Nz I (hf m z hz) rz ru hu'
section
def Fo(n:Nat)(to:DE)(t:DA):DE:=λρ M q x=>to ρ M (λd M1=>(∃xs,pM M1 d=some xs)/\t ρ M1 (λds M2=>∃y xs,∃f:Nat->Bool,∃j:Nat,ds=[y]/\pM M2 d=some xs/\(∀i z,xs[i]? =some z->D3 M2 n z y (f i))/\j < xs.length/\f j=true/\(∀i,i < j->f i=false)/\q (.int (j:Int)) M2) x) x
def KA(n:Nat)(hr:bU k' X.A)(ho:JE X R o to)(ha:JA X R [e] t)(hn:n+1<=64:=by decide)(sv:attributeBase o "index" X.env (eval o X.env)=eval o X.env:=by rfl)
  (Ar:((backTo a_ (starEach [e] X.env)).all (λx=> !x.1)&&(backToKw a_ (keywordEach [] X.env)).all (λx=>x.1.isSome)
   &&decide (([e]:List Expr).length+([]:List Keyword).length+(if ([]:List Keyword).isEmpty then 0 else 1) < 30))=true:=by rfl)
  (sk:(apos.endLine==a_.line)=true:=by rfl) (hs:starEach [e] X.env=(false,eval e X.env)::starEach [] X.env:=by rfl) (kX:(backTo a_ (starEach [] X.env)).any (·.1)=false:=by rfl):
  JE X R (.Call (.Attribute o "index" apos) [e] [] a_) (Fo n to t):=
 .of (Gy PySem.F.plainAttrs_list PySem.F.slot_list_index PySem.F.type_list_index (r:=Ih X.K n) (GX (Ww hr hn)) ho ha sv Ar sk hs kX) λσ H G L ρ M q x rl n h hx=>by refine⟨G,L,ρ,M,_,x,rl,n,h,hx,λv H1 xz=>?_⟩;have⟨d1,G1,L1,M1,e1,r1,n1,⟨xs,hm⟩,h1⟩:=xz;have⟨a,vs,rfl,sq,m⟩:=eO r1 n1 hm;refine⟨.inl ⟨rfl,vs,sq⟩,G1,L1,ρ,M1,_,x,r1,n.mono e1,h1,hx.on e1,λus H2 xz=>?_⟩;have⟨ds,G2,L2,M2,e2,r2,n2,y,xs',f,j,ed,NY,hf,hj,ft,ff,h2⟩:=xz;subst ed;have⟨u,rfl,n3⟩:=bF n2;have⟨a2,B3,ea,SU,m2⟩:=eO r2 (Den.mono e2.g e2.l _ _ n1) NY;cases ea;refine⟨a,B3,u,f,j,rfl,rfl,SU,λi z hz=>?_,by rw[<-m2.length];exact hj,ft,ff,.int (j:Int),G2,L2,_,e1.trans e2,r2,rfl,h2⟩;have⟨d,hd,dn⟩:=m2.back hz;exact Pe r2 (hf i d hd) dn n3
end
def sX(items:Array Value):slicePick items none none (some 1)=items:=by
 have e:slicePick items none none (some 1)=((sliceRange 0 (items.size:Int) 1).filterMap (items[·]?)).toArray:=rfl;have r:sliceRange 0 (items.size:Int) 1=(List.range items.size).map (0+ ·):=by
  unfold sliceRange;simp only[show((1:Int) > 0) by decide,if_true];have hc:(if (items.size:Int) > 0 then ((items.size:Int) - 0+1 - 1) / 1 else 0)=items.size:=by
   split
   ·rw[Int.ediv_one];omega
   ·omega
  first
   | (rw[hc,aaL];apply aaZ;intro k _;omega)
   | (simp;omega)
 rw[e,r,pick_run items 0 items.size,abQ,abg (by rw[Array.length_toList];exact aai _)]
section
variable{te tl:TE}{p2:Pos}
def RT(K:fI)(te tl:TE):TE:=λσ H Q=>te σ H λx H1=>tl σ H1 λy H2=>∃i:Int,y= .int i/\∃i':Int,some i=some i'/\∃a xs,x= .ref a/\fj K H2 a xs/\∃ys,(i'=1/\ys=xs\/i'= -1/\ys=xs.reverse)/\∀p,H2 p=none->Q (.ref p) (upd H2 p (.lst ys))
def Je(he:PE X e te)(hl:PE X l tl):PE X (.Subscript e (.Slice none none (some l) p2) pos) (RT X.K te tl):=by
 intro δ s σ H Q I h;refine Subscript_ (bH (he δ s σ H _ I h) λv s1 xz=>?_);have⟨x,H1,I1,r1,q1⟩:=xz;refine wpAny_Slice ?_;simp only[evalPart_none];refine aa5 ?_;refine aa5 ?_;refine bH (mS hl δ s1 σ H1 (λo H2=>∃i:Int,o=some i/\∃a xs,x= .ref a/\fj X.K H2 a xs/\∃ys,(i=1/\ys=xs\/i= -1/\ys=xs.reverse)/\∀p,H2 p=none->Q (.ref p) (upd H2 p (.lst ys))) I1 ?_) fun vs s2 ⟨o,H2,I2,ps,i,eo,a,xs,ex,hx,ys,ey,q⟩=>?_
 ·refine(λh=>?_) q1;exact h
 subst eo ex;cases r1;have I4:Inv X δ σ H2 {s2 with heap:=s2.heap.push {cls:=.type "slice",data:=.fields #[.none,.none,vs]}}:=I2.kept (t':=s2.toks) λb ob q=>aaj _ q;have⟨its,r,ht,hz⟩:=I4.list hx;have hlen:=r.length;show wpAny (model X.prog X.w) X.A (subscriptTail e (.Slice none none (some l) p2) (.ref a) (.ref s2.heap.objs.size)) (EP X δ σ Q) X.xe {s2 with heap:=s2.heap.push {cls:=.type "slice",data:=.fields #[.none,.none,vs]}};refine tail_any (ops:=[.ref a,.ref s2.heap.objs.size]) ht.isList.typeIs slot_list_getitem.lookup ?_ (by with_unfolding_all rfl);rcases ey with ⟨rfl,rfl⟩| ⟨rfl,rfl⟩
 ·refine wpAny_getItem_list_slice ht.isList (Heap.IsSliceOf.new ..) .none .none ps @_ ?_ (by rw[aaM] <;> omega);rw[sX];refine⟨.ref _,_,I4.laid (t':=s2.toks) (o:=.lst ys) (λb ob q=>aaj _ q) (aai _) ?_,rfl,q _ (I4.aO.fresh (aai _))⟩;exact⟨hz,_,0,r,aaN _ rfl⟩
 ·refine wpAny_getItem_list_slice ht.isList (Heap.IsSliceOf.new ..) .none .none ps @_ ?_ (by rw[aaM] <;> omega);rw[tI];refine⟨.ref _,_,I4.laid (t':=s2.toks) (o:=.lst xs.reverse) (λb ob q=>aaj _ q) (aai _) ?_,rfl,q _ (I4.aO.fresh (aai _))⟩;exact⟨by rw[List.length_reverse];exact hz,_,0,w4 r,aaN _ rfl⟩
end
section
variable{tl:DE}{p2:Pos}
def LH(te tl:DE):DE:=λρ M q x=>te ρ M (λd M1=>tl ρ M1 (λdi M2=>∃ds es,pM M2 d=some ds/\(di= .int 1/\es=ds\/di= .int (-1)/\es=ds.reverse)/\q (.loc M2.length) (M2++[.lst es])) x) x
def NP(he:JE X R e te)(hl:JE X R l tl):JE X R (.Subscript e (.Slice none none (some l) p2) pos) (LH te tl):=
 .of (Je he hl) λσ H G L ρ M q x rl n h hx=>by
  refine⟨G,L,ρ,M,_,x,rl,n,h,hx,λv H1 xz=>?_⟩;have⟨d1,G1,L1,M1,e1,r1,n1,h1⟩:=xz;refine⟨G1,L1,ρ,M1,_,x,r1,n.mono e1,h1,hx.on e1,λv2 H2 xz=>?_⟩;have⟨d2,G2,L2,M2,e2,r2,n2,ds,es,ed,ei,h2⟩:=xz;have⟨a,vs,rfl,sq,m⟩:=eO r2 (Den.mono e2.g e2.l _ _ n1) ed;rcases ei with ⟨rfl,rfl⟩| ⟨rfl,rfl⟩
  ·have n2:v2= .int 1:=n2;subst n2;refine⟨1,rfl,1,rfl,a,vs,rfl,sq,vs,.inl ⟨rfl,rfl⟩,λp hp=>?_⟩;exact gE (e1.trans e2) r2 hp m h2
  ·have n2:v2= .int (-1):=n2;subst n2;refine⟨-1,rfl,-1,rfl,a,vs,rfl,sq,vs.reverse,.inr ⟨rfl,rfl⟩,λp hp=>?_⟩;exact gE (e1.trans e2) r2 hp (Λ.of (w4 m.pair)) h2
end
end L2
namespace Fr0
variable{b t:Int}
def g(a b:Int):Int:=(Int.gcd a b:Nat)
def zk{a:Int}(h:b≠0):0 < g a b:=by have:=Int.gcd_pos_of_ne_zero_right a h;unfold g;omega
def GB{a:Int}(h:0<=a):g a 0=a:=by unfold g;rw[Int.gcd_zero_right];omega
def II{a:Int}(hb:0 < b):g b (a.fmod b)=g a b:=by
 unfold g;rw[abD a (aau hb),Int.gcd_comm a b]
 congr 1
 refine Int.gcd_right_eq_iff.mpr λc hc=>?_;rw[Int.emod_def];constructor
 ·intro h;have:=Int.dvd_add h (Int.dvd_mul_of_dvd_left (c:=a / b) hc);rwa[Int.sub_add_cancel]at this
 ·intro h;exact Int.dvd_sub h (Int.dvd_mul_of_dvd_left (c:=a / b) hc)
def LM(a b:Int):g (if a < 0 then -a else a) (if b < 0 then -b else b)=g a b:=by unfold g;split <;> split <;> simp
def dv(t b:Int):Int:=if b < 0 then -(g t b) else g t b
def ak(t b:Int):Int×Int:=(t.fdiv (dv t b),b.fdiv (dv t b))
def Cv(h:b≠0):dv t b≠0:=by have:=zk (a:=t) h;unfold dv;split <;> omega
def zv{k p:Int}(h:k≠0):(k * p).fdiv k=p:=by rw[abc];exact Int.mul_fdiv_cancel p h
def HD(h:b≠0):∃p q:Int,t=dv t b * p/\b=dv t b * q/\0 < q/\Int.gcd p q=1:=by
 have hg:=zk (a:=t) h;have h0:0 < Int.gcd t b:=Int.gcd_pos_of_ne_zero_right t h;have⟨p,hp⟩:=Int.gcd_dvd_left t b;have⟨q,hq⟩:=Int.gcd_dvd_right t b;have hc:Int.gcd p q=1:=by
  have e:=Int.gcd_ediv_gcd_ediv_gcd h0;have n0:(Int.gcd t b:Int)≠0:=()
  have e1:t / (Int.gcd t b:Int)=p:=by
   conv=>lhs;arg 1;rw[hp]
   exact abk p n0
  have e2:b / (Int.gcd t b:Int)=q:=by
   conv=>lhs;arg 1;rw[hq]
   exact abk q n0
  rwa[e1,e2]at e
 have wB:t=g t b * p:=hp;have mj:b=g t b * q:=hq;by_cases hb:b < 0
 ·have hd:dv t b= -(g t b):=by unfold dv;rw[if_pos hb]
  refine⟨-p,-q,?_,?_,?_,?_⟩
  ·rw[hd,Int.neg_mul_neg];exact wB
  ·rw[hd,Int.neg_mul_neg];exact mj
  ·have:g t b * q < 0:=by rw[<-mj];exact hb
   by_cases q0:0<=q
   ·exact aaE (abA (aau hg) q0) ()
   ·omega
  ·simpa using hc
 ·have hd:dv t b=g t b:=by unfold dv;rw[if_neg hb]
  refine⟨p,q,by rw[hd];exact wB,by rw[hd];exact mj,?_,hc⟩;have:0 < g t b * q:=by rw[<-mj];omega
  exact Int.pos_of_mul_pos_right this hg
def fE  (h : b ≠ 0) : ∃p q : Int,ak t b = (p,q) /\ 0 < q /\ Int.gcd p q = 1 /\ t = dv t b * p /\ b = dv t b * q :=by
  obtain⟨p,q,hp,hq,h0,hc⟩ :=HD (t :=t) h;have n0 :=Cv (t :=t) h;refine⟨p,q,?_,h0,hc,hp,hq⟩;unfold ak
  have e1 : t.fdiv (dv t b) = p := by conv => lhs; arg 1; rw [hp]
                                      exact zv n0
  have e2 : b.fdiv (dv t b) = q := by conv => lhs; arg 1; rw [hq]
                                      exact zv n0
  rw[e1,e2]
def cz(h:b≠0):t * (ak t b).2=b * (ak t b).1:=by
 have⟨p,q,e,_,_,hp,hq⟩:=fE (t:=t) h;rw[e];show t * q=b * p
 calc t * q=dv t b * p * q:=by rw[<-hp]
  _=dv t b * q * p:=by rw[Int.mul_assoc,abc p q,<-Int.mul_assoc]
  _=b * p:=by rw[<-hq]
def cZ(h:b≠0):0 < (ak t b).2:=by have⟨p,q,e,h0,_⟩:=fE (t:=t) h;rw[e];exact h0
def yN(h:b≠0):Int.gcd (ak t b).1 (ak t b).2=1:=by have⟨p,q,e,_,hc,_⟩:=fE (t:=t) h;rw[e];exact hc
def oX{k m n:Int}(h:k∣m * n)(hc:Int.gcd k m=1):k∣n:=by have:=(Int.dvd_gcd_mul_iff_dvd_mul (k:=k) (n:=m) (m:=n)).mpr h;rw[hc]at this;simpa using this
def As{p q p' q':Int}(hq:0 < q)(mj:0 < q')(h:Int.gcd p q=1)(h':Int.gcd p' q'=1)(e:p * q'=p' * q):p=p'/\q=q':=by
 have d1:q∣q':=by have:q∣p * q':=⟨p',by rw[e,abc]⟩;exact oX this (by rw[Int.gcd_comm];exact h)
 have d2:q'∣q:=by have:q'∣p' * q:=⟨p,by rw[<-e,abc]⟩;exact oX this (by rw[Int.gcd_comm];exact h')
 have eq:q=q':=Int.le_antisymm (ab1 mj d1) (ab1 hq d2);subst eq;exact⟨Int.eq_of_mul_eq_mul_right () e,rfl⟩
def vZ{p q:Int}(h:b≠0)(hq:0 < q)(hc:Int.gcd p q=1)(e:t * q=b * p):ak t b=(p,q):=by
 have h1:=cz (t:=t) h;have h2:=cZ (t:=t) h;have h3:=yN (t:=t) h;have h4:(ak t b).1 * q=p * (ak t b).2:=by
  have:b * ((ak t b).1 * q)=b * (p * (ak t b).2):=by rw[<-Int.mul_assoc,<-h1,Int.mul_right_comm,e,Int.mul_assoc]
  exact aaR h this
 have:=As h2 hq h3 hc h4;exact Prod.ext this.1 this.2
def Dg{p q:Int}(hq:0 < q)(hc:Int.gcd p q=1):ak p q=(p,q):=vZ () hq hc (abc _ _)
def wM(h:b≠0):(dv t b).natAbs<=b.natAbs:=by
 have e:(dv t b).natAbs=Int.gcd t b:=by unfold dv g;split <;> omega
 rw[e];exact Int.gcd_le_natAbs_right t h
def Ff  (h : b ≠ 0) : (ak t b).1.natAbs <= t.natAbs :=by
  obtain⟨p,q,e,_,_,hp,_⟩ :=fE (t :=t) h;have n0 :=Cv (t :=t) h;rw[e];show p.natAbs <= t.natAbs
  have : t.natAbs = (dv t b).natAbs * p.natAbs := by conv => lhs; rw [hp]
                                                     exact abj _ _
  rw[this];exact Nat.le_mul_of_pos_left _ ()
def zx  (h : b ≠ 0) : (ak t b).2.natAbs <= b.natAbs :=by
  obtain⟨p,q,e,_,_,_,hq⟩ :=fE (t :=t) h;have n0 :=Cv (t :=t) h;rw[e];show q.natAbs <= b.natAbs
  have : b.natAbs = (dv t b).natAbs * q.natAbs := by conv => lhs; rw [hq]
                                                     exact abj _ _
  rw[this];exact Nat.le_mul_of_pos_left _ ()
def Jy(h:0 < b):ak t b=(t.fdiv (g t b),b.fdiv (g t b)):=by unfold ak dv;rw[aay ()]
end Fr0
namespace Tx
open PySem PySem.NumText
end Tx
namespace Bz
variable{f:Nat->Int}{n i a m:Nat}{ι ρ:List Nat}{d B:Int}
abbrev Row:=Nat->Int
variable{γ:List Row}{A W:Nat->Row}{w:Row}
abbrev Fn:=List Nat->Int
def Lx(x:Row):Fn->Fn
 | _,[]=>0
 | F,c::cs=>x c * F cs - Lx x (λt=>F (c::t)) cs
def zK(x:Row):∀(cs:List Nat) (F G:Fn),Lx x (λt=>F t+G t) cs=Lx x F cs+Lx x G cs
 | [],F,G=>by simp[Lx]
 | c::cs,F,G=>by have:=zK x cs (λt=>F (c::t)) (λt=>G (c::t));simp only[Lx];rw[this];grind
def k_(x:Row)(k:Int):∀(cs:List Nat) (F:Fn),Lx x (λt=>k * F t) cs=k * Lx x F cs
 | [],F=>by simp[Lx]
 | c::cs,F=>by have:=k_ x k cs (λt=>F (c::t));simp only[Lx];rw[this];grind
def Gd(x:Row)(cs:List Nat)(F G:Fn):Lx x (λt=>F t - G t) cs=Lx x F cs - Lx x G cs:=by
 have h1:=zK x cs F (λt=>(-1) * G t);have h2:=k_ x (-1) cs G;have e:(λt=>F t - G t)=λt=>F t+(-1) * G t:=by funext t;grind
 rw[e,h1,h2];grind
def BJ(x:Row):∀(cs:List Nat),Lx x (λ_=>0) cs=0
 | []=>rfl
 | c::cs=>by simp only[Lx];rw[BJ x cs];simp
def xa(x y:Row):∀(cs:List Nat) (F:Fn),Lx x (Lx y F) cs= - Lx y (Lx x F) cs
 | [],F=>rfl
 | c::cs,F=>by have ih:=xa x y cs (λt=>F (c::t));have e1:(λt=>Lx y F (c::t))=λt=>y c * F t - Lx y (λu=>F (c::u)) t:=rfl;have e2:(λt=>Lx x F (c::t))=λt=>x c * F t - Lx x (λu=>F (c::u)) t:=rfl;show x c * Lx y F cs - Lx x (λt=>Lx y F (c::t)) cs= -(y c * Lx x F cs - Lx y (λt=>Lx x F (c::t)) cs);rw[e1,e2,Gd,Gd,k_,k_,ih];grind
def Jq(x:Row)(cs:List Nat)(F:Fn):Lx x (Lx x F) cs=0:=by have:=xa x x cs F;omega
def vc(x:Row)(d:Nat):∀(cs:List Nat) (F:Fn),Lx x F (cs++[d])=Lx x (λt=>F (t++[d])) cs+(-1) ^ cs.length * (x d * F cs)
 | [],F=>by simp[Lx]
 | c::cs,F=>by have:=vc x d cs (λt=>F (c::t));show x c * F (cs++[d]) - Lx x (λt=>F (c::t)) (cs++[d])=_;rw[this];show _=(x c * F (cs++[d]) - Lx x (λt=>F (c::(t++[d]))) cs)+(-1) ^ (cs.length+1) * (x d * F (c::cs));have e:(λt=>F (c::(t++[d])))=λt=>(λu=>F (c::u)) (t++[d]):=rfl;rw[e,abl];grind
def yJ(x:Row){F G:Fn}{n:Nat}:∀(cs:List Nat),(∀t,t.length+1=cs.length->F t=G t)->Lx x F cs=Lx x G cs:=by
 intro cs
 induction cs generalizing F G with
 | nil=>intro _;rfl
 | cons c cs ih=>
  intro h;simp only[Lx];rw[h cs (by simp),ih (F:=λt=>F (c::t)) (G:=λt=>G (c::t)) λt ht=>h (c::t) (by simp;omega)]
def ψ(f:Nat->Int):Nat->Int
 | 0=>0
 | n+1=>ψ f n+f n
def fL(f g:Nat->Int):∀n,ψ (λi=>f i+g i) n=ψ f n+ψ g n
 | 0=>rfl
 | n+1=>by simp only[ψ];rw[fL f g n];omega
def Κ(k:Int)(f:Nat->Int):∀n,ψ (λi=>k * f i) n=k * ψ f n
 | 0=>by simp[ψ]
 | n+1=>by simp only[ψ];rw[Κ k f n,Int.mul_add]
def ο{f g:Nat->Int}:∀{n:Nat},(∀i,i < n->f i=g i)->ψ f n=ψ g n
 | 0,_=>rfl
 | n+1,h=>by simp only[ψ];rw[ο λi hi=>h i (),h n ()]
def ie(h:∀i,i < n->f i=0):ψ f n=0:=by
 rw[ο h];clear h
 induction n with
 | zero=>rfl
 | succ n ih=>simp only[ψ];rw[ih];rfl
def hZ{j:Nat}(hj:j < n)(h:∀i,i < n->i≠j->f i=0):ψ f n=f j:=by
 induction n with
 | zero=>omega
 | succ n ih=>
  simp only[ψ];by_cases e:j=n
  ·subst e;rw[ie λi hi=>h i () ()];omega
  ·rw[ih () λi hi pL=>h i () pL,h n () ()];omega
def lV(f:Nat->Int):∀n,ψ f (n+1)=f 0+ψ (λi=>f (i+1)) n
 | 0=>by simp[ψ]
 | n+1=>by have:=lV f n;rw[show ψ f (n+1+1)=ψ f (n+1)+f (n+1) from rfl,this];simp only[ψ];omega
def cG(f:Nat->Nat->Int)(m:Nat):∀n,ψ (λi=>ψ (f i) m) n=ψ (λj=>ψ (λi=>f i j) n) m
 | 0=>by rw[show ψ (λi=>ψ (f i) m) 0=0 from rfl];exact(ie λ_ _=>rfl).symm
 | n+1=>by rw[show ψ (λi=>ψ (f i) m) (n+1)=ψ (λi=>ψ (f i) m) n+ψ (f n) m from rfl,cG f m n,<-fL];rfl
def wA(x:Row):∀(cs:List Nat) (F:Fn),Lx x F cs=ψ (λp=>(-1) ^ p * (x (cs.getD p 0) * F (cs.eraseIdx p))) cs.length
 | [],F=>rfl
 | c::cs,F=>by
  have ih:=wA x cs (λt=>F (c::t));show x c * F cs - Lx x (λt=>F (c::t)) cs=_;rw[aaI,lV,ih];have e:ψ (λp=>(-1) ^ (p+1) * (x ((c::cs).getD (p+1) 0) * F ((c::cs).eraseIdx (p+1)))) cs.length= -1 * ψ (λp=>(-1) ^ p * (x (cs.getD p 0) * F (c::cs.eraseIdx p))) cs.length:=by rw[<-Κ];refine ο λp _=>?_;simp only[List.getD_cons_succ,List.eraseIdx_cons_succ];rw[Int.pow_succ];grind
  rw[e];simp only[List.getD_cons_zero,List.eraseIdx_cons_zero,Int.pow_zero];omega
def F0:Fn:=λcs=>if cs=[] then 1 else 0
def D:List Row->Fn
 | []=>F0
 | x::xs=>Lx x (D xs)
def mr(y:Row):∀(xs ys:List Row) (cs:List Nat),D (xs++y::ys) cs=(-1) ^ xs.length * D (y::(xs++ys)) cs
 | [],ys,cs=>by simp
 | x::xs,ys,cs=>by
  show Lx x (D (xs++y::ys)) cs=_;have e:D (xs++y::ys)=λt=>(-1) ^ xs.length * D (y::(xs++ys)) t:=by funext t;exact mr y xs ys t
  rw[e,k_];show(-1) ^ xs.length * Lx x (Lx y (D (xs++ys))) cs=(-1) ^ (xs.length+1) * Lx y (Lx x (D (xs++ys))) cs;rw[xa x y,Int.pow_succ];grind
def Ql(y:Row)(xs ys zs:List Row)(cs:List Nat):D (xs++y::(ys++y::zs)) cs=0:=by
 rw[mr];have e:D (y::(xs++(ys++y::zs))) cs=Lx y (λt=>D (xs++(ys++y::zs)) t) cs:=rfl;have e2:(λt=>D (xs++(ys++y::zs)) t)=λt=>(-1) ^ (xs++ys).length * Lx y (D (xs++ys++zs)) t:=by
  funext t
  rw[<-aaH,mr];rfl
 rw[e,e2,k_,Jq];simp
def d_(γ:List Row)(ι:List Nat)(p k:Nat):Int:=(-1) ^ (p+k) * D (γ.eraseIdx k) (ι.eraseIdx p)
def zr:Row:=λ_=>0
def MJ(n:Nat):((-1:Int) ^ n) * (-1) ^ n=1:=by
 induction n with
 | zero=>rfl
 | succ n ih=>rw[Int.pow_succ];grind
def Ga{α:Type}:∀{l:List α} {k:Nat} (h:k < l.length),l=l.take k++l[k]::l.drop (k+1):=by intro l k h;rw[List.getElem_cons_drop,List.take_append_drop]
def EG{α:Type}{l:List α}{k:Nat}(hi:i < l.length)(pL:i≠k):l[i]∈l.eraseIdx k:=by rw[List.mem_eraseIdx_iff_getElem];exact⟨i,hi,pL,rfl⟩
def PA{k:Nat}(hl:ι.length=γ.length)(hi:i < γ.length)(hk:k < γ.length):ψ (λp=>γ.getD i zr (ι.getD p 0) * d_ γ ι p k) γ.length=if i=k then D γ ι else 0:=by
 have gi:γ.getD i zr=γ[i]:=by rw[aab,aaa hi];rfl
 have e:ψ (λp=>γ.getD i zr (ι.getD p 0) * d_ γ ι p k) γ.length=(-1) ^ k * D (γ.getD i zr::γ.eraseIdx k) ι:=by show _=(-1) ^ k * Lx (γ.getD i zr) (D (γ.eraseIdx k)) ι;rw[wA,<-Κ,hl];refine ο λp _=>?_;unfold d_;rw[Int.pow_add];grind
 rw[e,gi];by_cases h:i=k
 ·subst h;rw[aaw rfl];have s:=Ga hi;have f:=mr γ[i] (γ.take i) (γ.drop (i+1)) ι;rw[<-s,ab7,abU ()]at f;rw[f,List.eraseIdx_eq_take_drop_succ]
 ·rw[aay h];have⟨ys,zs,e2⟩:=List.append_of_mem (EG hi h);rw[e2];have:=Ql γ[i] [] ys zs ι;rw[show D (γ[i]::(ys++γ[i]::zs)) ι=0 from this];simp
def vT(x:Row)(g:Nat->Int)(F:Nat->Fn)(cs:List Nat):∀n,Lx x (λt=>ψ (λk=>g k * F k t) n) cs=ψ (λk=>g k * Lx x (F k) cs) n
 | 0=>BJ x cs
 | n+1=>by have:=zK x cs (λt=>ψ (λk=>g k * F k t) n) (λt=>g n * F n t);show Lx x (λt=>ψ (λk=>g k * F k t) n+g n * F n t) cs=_;rw[this,vT x g F cs n,k_];rfl
def Lf(c:Nat):∀(γ:List Row) (t:List Nat),D γ (t++[c])=ψ (λk=>(-1) ^ (t.length+k) * (γ.getD k zr c * D (γ.eraseIdx k) t)) γ.length
 | [],t=>by show F0 (t++[c])=0;unfold F0;simp
 | x::xs,t=>by
  show Lx x (D xs) (t++[c])=_;rw[vc,aaI,lV];have e:Lx x (λu=>D xs (u++[c])) t=ψ (λk=>(-1) ^ (t.length+(k+1)) * ((x::xs).getD (k+1) zr c * D ((x::xs).eraseIdx (k+1)) t)) xs.length:=by
   have e1:Lx x (λu=>D xs (u++[c])) t=Lx x (λu=>ψ (λk=>((-1) ^ (t.length+(k+1)) * xs.getD k zr c) * D (xs.eraseIdx k) u) xs.length) t:=by refine yJ x (n:=0) t λu hu=>?_;rw[Lf c xs u];refine ο λk _=>?_;rw[<-hu,show u.length+1+(k+1)=u.length+k+1+1 by omega,Int.pow_succ,Int.pow_succ];grind
   rw[e1,vT x (λk=>(-1) ^ (t.length+(k+1)) * xs.getD k zr c) (λk=>D (xs.eraseIdx k))];refine ο λk _=>?_;simp only[List.getD_cons_succ,List.eraseIdx_cons_succ];show _=(-1) ^ (t.length+(k+1)) * (xs.getD k zr c * Lx x (D (xs.eraseIdx k)) t);grind
  rw[e];simp only[List.getD_cons_zero,List.eraseIdx_cons_zero,Nat.add_zero];omega
def Fq{y:Row}{c:Nat}(hl:ι.length=γ.length):D (γ++[y]) (ι++[c])=y c * D γ ι - ψ (λp=>y (ι.getD p 0) * ψ (λk=>d_ γ ι p k * γ.getD k zr c) γ.length) γ.length:=by
 rw[mr,aaY];show(-1) ^ γ.length * Lx y (D γ) (ι++[c])=_;rw[vc];have e1:Lx y (λt=>D γ (t++[c])) ι= - ((-1) ^ γ.length * ψ (λp=>y (ι.getD p 0) * ψ (λk=>d_ γ ι p k * γ.getD k zr c) γ.length) γ.length):=by
  have e2:Lx y (λt=>D γ (t++[c])) ι=Lx y (λt=>ψ (λk=>(-((-1) ^ (γ.length+k) * γ.getD k zr c)) * D (γ.eraseIdx k) t) γ.length) ι:=by refine yJ y (n:=0) ι λt ht=>?_;rw[Lf c γ t];refine ο λk _=>?_;rw[<-hl,<-ht,show t.length+1+k=t.length+k+1 by omega,Int.pow_succ];grind
  rw[e2,vT y (λk=> -((-1) ^ (γ.length+k) * γ.getD k zr c)) (λk=>D (γ.eraseIdx k))];have e3:ψ (λk=> -((-1) ^ (γ.length+k) * γ.getD k zr c) * Lx y (D (γ.eraseIdx k)) ι) γ.length=ψ (λk=>ψ (λp=> -((-1) ^ γ.length) * (y (ι.getD p 0) * (d_ γ ι p k * γ.getD k zr c))) γ.length) γ.length:=by refine ο λk _=>?_;rw[wA,<-Κ,hl];refine ο λp _=>?_;unfold d_;rw[Int.pow_add,Int.pow_add];grind
  rw[e3,cG];have e4:ψ (λp=>ψ (λk=> -((-1) ^ γ.length) * (y (ι.getD p 0) * (d_ γ ι p k * γ.getD k zr c))) γ.length) γ.length=ψ (λp=> -((-1) ^ γ.length) * (y (ι.getD p 0) * ψ (λk=>d_ γ ι p k * γ.getD k zr c) γ.length)) γ.length:=by refine ο λp _=>?_;rw[Κ,Κ]
  rw[e4,Κ];grind
 rw[e1,hl];have s:=MJ γ.length;generalize ((-1:Int) ^ γ.length)=z at *
 generalize ψ _ γ.length=q;grind
def Fd{v:Nat->Int}{e:Int}{k:Nat}(hl:ι.length=γ.length)(hi:i < γ.length)(hk:k < γ.length)
  (h:∀p,p < γ.length->ψ (λj=>v j * γ.getD j zr (ι.getD p 0)) γ.length=if i=p then e else 0):v k * D γ ι=e * d_ γ ι i k:=by
 have a:ψ (λp=>ψ (λj=>v j * γ.getD j zr (ι.getD p 0)) γ.length * d_ γ ι p k) γ.length=e * d_ γ ι i k:=by rw[hZ hi λp hp pL=>by rw[h p hp,if_neg (Ne.symm pL)];simp];rw[h i hi,aaw rfl]
 have b:ψ (λp=>ψ (λj=>v j * γ.getD j zr (ι.getD p 0)) γ.length * d_ γ ι p k) γ.length=ψ (λj=>v j * ψ (λp=>γ.getD j zr (ι.getD p 0) * d_ γ ι p k) γ.length) γ.length:=by
  have e1:ψ (λp=>ψ (λj=>v j * γ.getD j zr (ι.getD p 0)) γ.length * d_ γ ι p k) γ.length=ψ (λp=>ψ (λj=>v j * (γ.getD j zr (ι.getD p 0) * d_ γ ι p k)) γ.length) γ.length:=by refine ο λp _=>?_;rw[abc,<-Κ];refine ο λj _=>?_;grind
  rw[e1,cG];refine ο λj _=>?_;rw[<-Κ]
 rw[<-a,b,hZ hk λj hj pL=>by rw[PA hl hj hk,if_neg pL];simp];rw[PA hl hk hk,aaw rfl]
def ind(a k:Nat):Int:=if a=k then 1 else 0
def rv(A:Nat->Row)(n:Nat)(w:Row)(x:Nat):Int:=ψ (λk=>w k * A k x) n
def mW(h:a < n):ψ (λk=>ind a k * f k) n=f a:=by rw[hZ h λi _ pL=>by unfold ind;rw[if_neg (Ne.symm pL)];simp];unfold ind;rw[if_pos rfl];simp
def w8{u v:Row}{a b:Int}(h:∀k,w k=a * u k - b * v k)(x:Nat):rv A n w x=a * rv A n u x - b * rv A n v x:=by
 unfold rv;have e:ψ (λk=>w k * A k x) n=ψ (λk=>a * (u k * A k x)+(-b) * (v k * A k x)) n:=ο λk _=>by rw[h k];grind
 rw[e,fL,Κ,Κ];grind
def Fm{r:Nat}{g:Nat->Int}{u:Nat->Row}(h:∀k,w k=ψ (λj=>g j * u j k) r)(x:Nat):rv A n w x=ψ (λj=>g j * rv A n (u j) x) r:=by
 unfold rv;have e:ψ (λk=>w k * A k x) n=ψ (λk=>ψ (λj=>g j * (u j k * A k x)) r) n:=ο λk _=>by rw[h k,abc,<-Κ];exact ο λj _=>by grind
 rw[e,cG];exact ο λj _=>Κ _ _ _
def Aa(h:a < n)(x:Nat):rv A n (ind a) x=A a x:=by unfold rv;exact mW (f:=λk=>A k x) h
structure St(A:Nat->Row)(n:Nat)(ρ ι:List Nat)(q:Nat->Nat)(d:Int)(W:Nat->Row):Prop where
 lc:ι.length=ρ.length
 rn:ρ.length<=n
 JC:∀i,i < n->q i < n
 yk:∀j,j < ρ.length->ρ.getD j 0 < n
 det:D (ρ.map A) ι=d
 wp:∀i,i < ρ.length->∀k,W i k=ψ (λj=>d_ (ρ.map A) ι i j * ind (ρ.getD j 0) k) ρ.length
 wn:∀i,ρ.length<=i->i < n->∀k,W i k=d * ind (q i) k - ψ (λp=>A (q i) (ι.getD p 0) * W p k) ρ.length
 one:∀i p,i < ρ.length->p < ρ.length->rv A n (W i) (ι.getD p 0)=if i=p then d else 0
section
variable{q:Nat->Nat}
def sG{j:Nat}(h:j < ρ.length):(ρ.map A).getD j zr=A (ρ.getD j 0):=by rw[aab,aak,aaa h,aab,aaa h];rfl
def St.OQ(s:St A n ρ ι q d W)(hi:i < ρ.length)(x:Nat):rv A n (W i) x=ψ (λj=>d_ (ρ.map A) ι i j * A (ρ.getD j 0) x) ρ.length:=by rw[Fm (u:=λj=>ind (ρ.getD j 0)) (s.wp i hi)];exact ο λj hj=>by rw[Aa (s.yk j hj)]
def St.MK(s:St A n ρ ι q d W)(h1:ρ.length<=i)(hi:i < n)(x:Nat):rv A n (W i) x=d * A (q i) x - ψ (λp=>A (q i) (ι.getD p 0) * rv A n (W p) x) ρ.length:=by
 have h:∀k,W i k=d * ind (q i) k - 1 * ψ (λp=>A (q i) (ι.getD p 0) * W p k) ρ.length:=λk=>by rw[s.wn i h1 hi k];omega
 rw[w8 h x,Aa (s.JC i hi),Fm (w:=λk=>ψ (λp=>A (q i) (ι.getD p 0) * W p k) ρ.length) (u:=W) (λk=>rfl)];omega
def St.zero(s:St A n ρ ι q d W){p:Nat}(h1:ρ.length<=i)(hi:i < n)(hp:p < ρ.length):rv A n (W i) (ι.getD p 0)=0:=by
 rw[s.MK h1 hi];have e:ψ (λp'=>A (q i) (ι.getD p' 0) * rv A n (W p') (ι.getD p 0)) ρ.length=A (q i) (ι.getD p 0) * d:=by rw[hZ hp λp' wB pL=>by rw[s.one p' p wB hp,if_neg pL];simp];rw[s.one p p hp hp,aaw rfl]
 rw[e];grind
def St.head(s:St A n ρ ι q d W)(hr:ρ.length < n)(c:Nat):D ((ρ++[q ρ.length]).map A) (ι++[c])=rv A n (W ρ.length) c:=by
 rw[aaV,s.MK (aai _) hr];show D (ρ.map A++[A (q ρ.length)]) (ι++[c])=_;rw[Fq (by rw[aag];exact s.lc),s.det,aag,abc]
 congr 1
 refine ο λp hp=>?_;rw[s.OQ hp]
 congr 1
 exact ο λk hk=>by rw[sG hk]
def mB{j:Nat}{l:List Nat}(h:j < l.length):(l++[a]).getD j 0=l.getD j 0:=by rw[aab,aap h,<-aab]
def my{l:List Nat}:(l++[a]).getD l.length 0=a:=by simp
def mix(f:Nat->Int)(s:St A n ρ ι q d W)(a L:Int)(g:Nat->Int):
  ψ (λj=>(if j < ρ.length then a * g j+L * ψ (λp=>A (q ρ.length) (ι.getD p 0) * d_ (ρ.map A) ι p j) ρ.length else -(L * d)) * f ((ρ++[q ρ.length]).getD j 0)) (ρ.length+1)
  =a * ψ (λj=>g j * f (ρ.getD j 0)) ρ.length - L * (d * f (q ρ.length) - ψ (λp=>A (q ρ.length) (ι.getD p 0) * ψ (λj=>d_ (ρ.map A) ι p j * f (ρ.getD j 0)) ρ.length) ρ.length):=by
 rw[show∀F:Nat->Int,ψ F (ρ.length+1)=ψ F ρ.length+F ρ.length fromλ_=>rfl,my,aay (aby _)]
 have e:ψ (λj=>(if j < ρ.length then a * g j+L * ψ (λp=>A (q ρ.length) (ι.getD p 0) * d_ (ρ.map A) ι p j) ρ.length else -(L * d)) * f ((ρ++[q ρ.length]).getD j 0)) ρ.length
   =ψ (λj=>a * (g j * f (ρ.getD j 0))+L * ψ (λp=>A (q ρ.length) (ι.getD p 0) * (d_ (ρ.map A) ι p j * f (ρ.getD j 0))) ρ.length) ρ.length:=by
  refine ο λj hj=>?_;rw[aaw hj,mB hj];have e2:ψ (λp=>A (q ρ.length) (ι.getD p 0) * (d_ (ρ.map A) ι p j * f (ρ.getD j 0))) ρ.length=f (ρ.getD j 0) * ψ (λp=>A (q ρ.length) (ι.getD p 0) * d_ (ρ.map A) ι p j) ρ.length:=by rw[<-Κ];exact ο λp _=>by grind
  rw[e2];grind
 rw[e,fL,Κ,Κ,cG (λj p=>A (q ρ.length) (ι.getD p 0) * (d_ (ρ.map A) ι p j * f (ρ.getD j 0)))]
 have e3:ψ (λp=>ψ (λj=>A (q ρ.length) (ι.getD p 0) * (d_ (ρ.map A) ι p j * f (ρ.getD j 0))) ρ.length) ρ.length=ψ (λp=>A (q ρ.length) (ι.getD p 0) * ψ (λj=>d_ (ρ.map A) ι p j * f (ρ.getD j 0)) ρ.length) ρ.length:=
  ο λp _=>Κ _ _ _
 rw[e3];grind
def St.step(s:St A n ρ ι q d W)(hr:ρ.length < n)(c:Nat)(d0:d≠0)(h0:rv A n (W ρ.length) c≠0):
  ∃W':Nat->Row,St A n (ρ++[q ρ.length]) (ι++[c]) q (rv A n (W ρ.length) c) W'/\(∀k,W' ρ.length k=W ρ.length k)/\
   ∀i,i < n->i≠ρ.length->∀k,d * W' i k=rv A n (W ρ.length) c * W i k - rv A n (W i) c * W ρ.length k:=by
 have hd:=s.head hr c;generalize hE:rv A n (W ρ.length) c=E at *
 have lr:((ρ++[q ρ.length]).map A).length=ρ.length+1:=by simp
 have X6:(ι++[c]).length=((ρ++[q ρ.length]).map A).length:=by rw[lr];simp[s.lc]
 have cg:∀p,p < ρ.length->(ι++[c]).getD p 0=ι.getD p 0:=λp hp=>mB (by rw[s.lc];exact hp);have cl:(ι++[c]).getD ρ.length 0=c:=by rw[<-s.lc];exact my
 have rg:∀j,j < ρ.length+1->((ρ++[q ρ.length]).map A).getD j zr=A ((ρ++[q ρ.length]).getD j 0):=λj hj=>sG (by simp;omega);have head:∀j,j < ρ.length+1->(if j < ρ.length then (0:Int) * 0+(-1) * ψ (λp=>A (q ρ.length) (ι.getD p 0) * d_ (ρ.map A) ι p j) ρ.length else -((-1) * d))=d_ ((ρ++[q ρ.length]).map A) (ι++[c]) ρ.length j:=λj hj=>by
  have:=Fd (γ:=(ρ++[q ρ.length]).map A) (ι:=ι++[c]) (v:=λj=>if j < ρ.length then (0:Int) * 0+(-1) * ψ (λp=>A (q ρ.length) (ι.getD p 0) * d_ (ρ.map A) ι p j) ρ.length else -((-1) * d)) (e:=E) (i:=ρ.length) (k:=j) X6 (by rw[lr];omega) (by rw[lr];exact hj) (λp hp=>by
   rw[lr]at hp⊢;have e1:=mix (λa=>A a ((ι++[c]).getD p 0)) s 0 (-1) (λ_=>0);have e2:ψ (λj=>(if j < ρ.length then (0:Int) * 0+(-1) * ψ (λp=>A (q ρ.length) (ι.getD p 0) * d_ (ρ.map A) ι p j) ρ.length else -((-1) * d)) * ((ρ++[q ρ.length]).map A).getD j zr ((ι++[c]).getD p 0)) (ρ.length+1)=_:=(ο λj hj=>by rw[rg j hj]).trans e1;rw[e2];have e3:d * A (q ρ.length) ((ι++[c]).getD p 0) - ψ (λp'=>A (q ρ.length) (ι.getD p' 0) * ψ (λj=>d_ (ρ.map A) ι p' j * A (ρ.getD j 0) ((ι++[c]).getD p 0)) ρ.length) ρ.length=rv A n (W ρ.length) ((ι++[c]).getD p 0):=by
    rw[s.MK (aai _) hr]
    congr 1
    exact ο λp' wB=>by rw[s.OQ wB]
   rw[e3];by_cases D7:p < ρ.length
   ·rw[cg p D7,s.zero (Nat.le_refl _) hr D7,if_neg ()];simp
   ·have:p=ρ.length:=()
    subst this
    rw[cl,hE,aaw rfl];omega)
  rw[hd]at this;refine aaR h0 ?_;rw[<-this];grind
 have hk:∀k,W ρ.length k=ψ (λj=>d_ ((ρ++[q ρ.length]).map A) (ι++[c]) ρ.length j * ind ((ρ++[q ρ.length]).getD j 0) k) (ρ.length+1):=λk=>by
  have e1:=mix (λa=>ind a k) s 0 (-1) (λ_=>0);have e2:ψ (λj=>d_ ((ρ++[q ρ.length]).map A) (ι++[c]) ρ.length j * ind ((ρ++[q ρ.length]).getD j 0) k) (ρ.length+1)=_:=(ο λj hj=>by rw[<-head j hj]).trans e1;rw[e2,s.wn _ (aai _) hr k];have e3:ψ (λp=>A (q ρ.length) (ι.getD p 0) * W p k) ρ.length=ψ (λp=>A (q ρ.length) (ι.getD p 0) * ψ (λj=>d_ (ρ.map A) ι p j * ind (ρ.getD j 0) k) ρ.length) ρ.length:=ο λp hp=>by rw[s.wp p hp k]
  rw[e3];omega
 have above:∀i,i < ρ.length->∀j,j < ρ.length+1->(if j < ρ.length then E * d_ (ρ.map A) ι i j+rv A n (W i) c * ψ (λp=>A (q ρ.length) (ι.getD p 0) * d_ (ρ.map A) ι p j) ρ.length else -(rv A n (W i) c * d))=d * d_ ((ρ++[q ρ.length]).map A) (ι++[c]) i j:=λi hi j hj=>by
  have:=Fd (γ:=(ρ++[q ρ.length]).map A) (ι:=ι++[c]) (v:=λj=>if j < ρ.length then E * d_ (ρ.map A) ι i j+rv A n (W i) c * ψ (λp=>A (q ρ.length) (ι.getD p 0) * d_ (ρ.map A) ι p j) ρ.length else -(rv A n (W i) c * d)) (e:=d * E) (i:=i) (k:=j) X6 (by rw[lr];omega) (by rw[lr];exact hj) (λp hp=>by
   rw[lr]at hp⊢;have e1:=mix (λa=>A a ((ι++[c]).getD p 0)) s E (rv A n (W i) c) (λj=>d_ (ρ.map A) ι i j);have e2:ψ (λj=>(if j < ρ.length then E * d_ (ρ.map A) ι i j+rv A n (W i) c * ψ (λp=>A (q ρ.length) (ι.getD p 0) * d_ (ρ.map A) ι p j) ρ.length else -(rv A n (W i) c * d)) * ((ρ++[q ρ.length]).map A).getD j zr ((ι++[c]).getD p 0)) (ρ.length+1)=_:=(ο λj hj=>by rw[rg j hj]).trans e1;rw[e2];have e3:d * A (q ρ.length) ((ι++[c]).getD p 0) - ψ (λp'=>A (q ρ.length) (ι.getD p' 0) * ψ (λj=>d_ (ρ.map A) ι p' j * A (ρ.getD j 0) ((ι++[c]).getD p 0)) ρ.length) ρ.length=rv A n (W ρ.length) ((ι++[c]).getD p 0):=by
    rw[s.MK (aai _) hr]
    congr 1
    exact ο λp' wB=>by rw[s.OQ wB]
   rw[e3,<-s.OQ hi];by_cases D7:p < ρ.length
   ·rw[cg p D7,s.zero (aai _) hr D7,s.one i p hi D7];split <;> grind
   ·have:p=ρ.length:=()
    subst this
    rw[cl,hE,if_neg ()];grind)
  rw[hd]at this;refine aaR h0 ?_;rw[Int.mul_comm,this];grind
 have XE:∀i,i < ρ.length->∀k,d * ψ (λj=>d_ ((ρ++[q ρ.length]).map A) (ι++[c]) i j * ind ((ρ++[q ρ.length]).getD j 0) k) (ρ.length+1)=E * W i k - rv A n (W i) c * W ρ.length k:=λi hi k=>by
  have e1:=mix (λa=>ind a k) s E (rv A n (W i) c) (λj=>d_ (ρ.map A) ι i j);have e2:d * ψ (λj=>d_ ((ρ++[q ρ.length]).map A) (ι++[c]) i j * ind ((ρ++[q ρ.length]).getD j 0) k) (ρ.length+1)=_:=((Κ _ _ _).symm.trans (ο λj hj=>by rw[above i hi j hj];grind)).trans e1;rw[e2,s.wn _ (aai _) hr k,s.wp i hi k];have e3:ψ (λp=>A (q ρ.length) (ι.getD p 0) * W p k) ρ.length=ψ (λp=>A (q ρ.length) (ι.getD p 0) * ψ (λj=>d_ (ρ.map A) ι p j * ind (ρ.getD j 0) k) ρ.length) ρ.length:=ο λp hp=>by rw[s.wp p hp k]
  rw[e3]
 let V:Nat->Row:=λi k=>if i=ρ.length then W ρ.length k else ψ (λj=>d_ ((ρ++[q ρ.length]).map A) (ι++[c]) i j * ind ((ρ++[q ρ.length]).getD j 0) k) (ρ.length+1)
 let W':Nat->Row:=λi k=>if i < ρ.length+1 then V i k else E * ind (q i) k - ψ (λp=>A (q i) ((ι++[c]).getD p 0) * V p k) (ρ.length+1)
 have Wr:∀k,W' ρ.length k=W ρ.length k:=λk=>by show(if ρ.length < ρ.length+1 then (if ρ.length=ρ.length then W ρ.length k else _) else _)=_;rw[aaw (abq _),aaw rfl]
 have Wi:∀i,i < ρ.length->∀k,W' i k=ψ (λj=>d_ ((ρ++[q ρ.length]).map A) (ι++[c]) i j * ind ((ρ++[q ρ.length]).getD j 0) k) (ρ.length+1):=λi hi k=>by show(if i < ρ.length+1 then (if i=ρ.length then _ else _) else _)=_;rw[aaw (),aay ()]
 have WV:∀p,p < ρ.length+1->∀k,W' p k=V p k:=λp hp k=>by show(if p < ρ.length+1 then V p k else _)=_;rw[aaw hp]
 have Wn:∀i,ρ.length+1<=i->∀k,W' i k=E * ind (q i) k - ψ (λp=>A (q i) ((ι++[c]).getD p 0) * W' p k) (ρ.length+1):=λi hi k=>by
  show(if i < ρ.length+1 then V i k else _)=_;rw[aay ()]
  congr 1
  exact ο λp hp=>by rw[WV p hp]
 have H:∀i,i < n->i≠ρ.length->∀k,d * W' i k=E * W i k - rv A n (W i) c * W ρ.length k:=λi hi pL k=>by
  by_cases wH:i < ρ.length
  ·rw[Wi i wH k];exact XE i wH k
  ·rw[Wn i () k,s.wn i () hi k,s.MK () hi c];rw[show∀F:Nat->Int,ψ F (ρ.length+1)=ψ F ρ.length+F ρ.length fromλ_=>rfl,cl,Wr];have e1:d * ψ (λp=>A (q i) ((ι++[c]).getD p 0) * W' p k) ρ.length=ψ (λp=>E * (A (q i) (ι.getD p 0) * W p k)+(-(W ρ.length k)) * (A (q i) (ι.getD p 0) * rv A n (W p) c)) ρ.length:=by rw[<-Κ];refine ο λp hp=>?_;have:=XE p hp k;rw[cg p hp,Wi p hp k];grind
   rw[fL,Κ,Κ]at e1;grind
 refine⟨W',⟨by simp[s.lc],by simp;omega,s.JC,λj hj=>?_,hd,λi hi k=>?_,λi h1 hi k=>?_,λi p hi hp=>?_⟩,Wr,H⟩
 ·by_cases W7:j < ρ.length
  ·rw[mB W7];exact s.yk j W7
  ·have:j=ρ.length:=by simp at hj;omega
   rw[this,my];exact s.JC _ hr
 ·rw[show(ρ++[q ρ.length]).length=ρ.length+1 by simp]at hi⊢;by_cases wH:i < ρ.length
  ·exact Wi i wH k
  ·have:i=ρ.length:=()
   subst this;rw[Wr k];exact hk k
 ·rw[show(ρ++[q ρ.length]).length=ρ.length+1 by simp]at h1⊢;exact Wn i h1 k
 ·rw[show(ρ++[q ρ.length]).length=ρ.length+1 by simp]at hi hp;have hrr:∀x,rv A n (W' ρ.length) x=rv A n (W ρ.length) x:=λx=>by unfold rv;exact ο λk _=>by rw[Wr k]
  by_cases wH:i < ρ.length
  ·have T4:d * rv A n (W' i) ((ι++[c]).getD p 0)=E * rv A n (W i) ((ι++[c]).getD p 0) - rv A n (W i) c * rv A n (W ρ.length) ((ι++[c]).getD p 0):=by have:=w8 (A:=A) (n:=n) (w:=λk=>d * W' i k) (u:=W i) (v:=W ρ.length) (a:=E) (b:=rv A n (W i) c) (λk=>H i () () k) ((ι++[c]).getD p 0);rw[<-this];unfold rv;rw[<-Κ];exact ο λk _=>by grind
   refine aaR d0 ?_;rw[T4];by_cases D7:p < ρ.length
   ·rw[cg p D7,s.zero (aai _) hr D7,s.one i p wH D7];split <;> grind
   ·have:p=ρ.length:=()
    subst this;rw[cl,hE,if_neg ()];grind
  ·have:i=ρ.length:=()
   subst this;rw[hrr];by_cases D7:p < ρ.length
   ·rw[cg p D7,s.zero (aai _) hr D7,aay ()]
   ·have:p=ρ.length:=()
    subst this;rw[cl,hE,aaw rfl]
end
def St.start:St A n [] [] id 1 (λi=>ind i) where
 lc:=rfl
 rn:=ab8 _
 JC:=λ_ h=>h
 yk:=λ_ h=>aaE h (abv _)
 det:=rfl
 wp:=λ_ h=>aaE h (abv _)
 wn:=λi _ _ k=>by show ind i k=1 * ind i k - 0;omega
 one:=λ_ _ h=>aaE h (abv _)
def St.perm{q:Nat->Nat}(s:St A n ρ ι q d W){π:Nat->Nat}(h1:∀i,i < ρ.length->π i=i)(h2:∀i,ρ.length<=i->i < n->ρ.length<=π i/\π i < n):St A n ρ ι (λi=>q (π i)) d (λi=>W (π i)) where
 lc:=s.lc
 rn:=s.rn
 JC:=λi hi=>s.JC _ (by
  by_cases h:i < ρ.length
  ·rw[h1 i h];exact hi
  ·exact(h2 i () hi).2)
 yk:=s.yk
 det:=s.det
 wp:=λi hi k=>by show W (π i) k=_;rw[h1 i hi];exact s.wp i hi k
 wn:=λi hi hn k=>by
  have⟨a,b⟩:=h2 i hi hn;have:=s.wn (π i) a b k;rw[this]
  congr 1
  exact ο λp hp=>by rw[h1 p hp]
 one:=λi p hi hp=>by show rv A n (W (π i)) _=_;rw[h1 i hi];exact s.one i p hi hp
def Ab(x B:Int):Prop:= -B<=x/\x<=B
def Ab.mul{x y C:Int}(h:Ab x B)(h':Ab y C):Ab (x * y) (B * C):=by
 have⟨a,b⟩:=h;have⟨c,d⟩:=h';have B0:0<=B:=()
 have C0:0<=C:=()
 have hb:x.natAbs<=B.natAbs:=()
 have hc:y.natAbs<=C.natAbs:=()
 have hm:=Nat.mul_le_mul hb hc;rw[<-abj,<-abj]at hm;have p:=abA B0 C0;exact⟨(),()⟩
def Ab.add{x y C:Int}(h:Ab x B)(h':Ab y C):Ab (x+y) (B+C):=⟨by have:=h.1;have:=h'.1;omega,by have:=h.2;have:=h'.2;omega⟩
def Ab.sub{x y C:Int}(h:Ab x B)(h':Ab y C):Ab (x - y) (B+C):=⟨by have:=h.1;have:=h'.2;omega,by have:=h.2;have:=h'.1;omega⟩
def Ab.mono{x C:Int}(h:Ab x B)(h':B<=C):Ab x C:=⟨by have:=h.1;omega,by have:=h.2;omega⟩
def Ab.sum{f:Nat->Int}{B:Int}:∀{n:Nat},(∀i,i < n->Ab (f i) B)->Ab (ψ f n) (n * B)
 | 0,_=>⟨by simp[ψ],by simp[ψ]⟩
 | n+1,h=>by
  have i:=Ab.sum (n:=n) λi hi=>h i ();have:=Ab.add i (h n ());have e:(n:Int) * B+B=((n+1:Nat):Int) * B:=by rw[show((n+1:Nat):Int)=(n:Int)+1 from rfl,Int.add_mul,Int.one_mul]
  rw[e]at this;exact this
def Ab.pow{k:Nat}{x:Int}(h:Ab x B):Ab ((-1) ^ k * x) B:=by
 rcases(by induction k with
  | zero=>exact .inl rfl
  | succ k ih=>rw[Int.pow_succ];rcases ih with e| e <;> rw[e] <;> simp:((-1:Int) ^ k=1\/(-1:Int) ^ k= -1)) with e| e
 ·rw[e,Int.one_mul];exact h
 ·rw[e];have⟨a,b⟩:=h;exact⟨(),()⟩
def Ab.det{B:Int}(B0:1<=B):∀(γ:List Row) (ι:List Nat),(∀x∈γ,∀c∈ι,Ab (x c) B)->ι.length<=12->Ab (D γ ι) ((12 * B) ^ γ.length)
 | [],ι,_,_=>by
  show Ab (F0 ι) ((12 * B) ^ 0);rw[abV];unfold F0;split
  ·exact⟨@_,@_⟩
  ·exact⟨@_,@_⟩
 | x::γ,ι,h,hl=>by
  show Ab (Lx x (D γ) ι) _;rw[wA,aaI,abl];have P0:(0:Int)<=(12 * B) ^ γ.length:=ab4 ();have each:∀p,p < ι.length->Ab ((-1) ^ p * (x (ι.getD p 0) * D γ (ι.eraseIdx p))) (B * (12 * B) ^ γ.length):=λp hp=>by
   refine Ab.pow (Ab.mul ?_ (Ab.det B0 γ (ι.eraseIdx p) (λy hy c hc=>h y (aad _ hy) c (ace hc)) ?_))
   ·rw[aab,aaa hp];exact h x aae _ (aaq hp)
   ·rw[List.length_eraseIdx];split <;> omega
  refine(Ab.sum each).mono ?_;have Q0:0<=B * (12 * B) ^ γ.length:=abA () P0;have:=aa1 (show(ι.length:Int)<=12 by omega) Q0;refine abW this ?_;have e:12 * (B * (12 * B) ^ γ.length)=(12 * B) ^ γ.length * (12 * B):=by grind
  omega
section
variable{q:Nat->Nat}
structure Bd(A:Nat->Row)(n m:Nat)(B:Int):Prop where
 b1:1<=B
 ab:∀k x,k < n->x < m->Ab (A k x) B
def top(B:Int)(r:Nat):Int:=(12 * B) ^ (r+3)
def vb{b:Nat}(h:1<=B)(Vj:a<=b):(12 * B) ^ a<=(12 * B) ^ b:=by
 have⟨c,rfl⟩:=Nat.exists_eq_add_of_le Vj;rw[Int.pow_add];have p:(1:Int)<=(12 * B) ^ c:=by have:0 < (12 * B) ^ c:=Int.pow_pos ();omega
 have q:(0:Int)<=(12 * B) ^ a:=ab4 ();have:=aaJ p q;omega
def St.abs(s:St A n ρ ι q d W)(b:Bd A n m B)(hc:∀c∈ι,c < m)(hr:ρ.length<=12):
  (∀i k,i < n->Ab (W i k) (top B ρ.length))/\(∀i x,i < n->x < m->Ab (rv A n (W i) x) (top B ρ.length))/\Ab d (top B ρ.length):=by
 have B0:=b.b1;have mem:∀j,j < ρ.length->ρ.getD j 0∈ρ:=λj hj=>by rw[aab,aaa hj];exact aaq hj
 have ρn:∀a∈ρ,a < n:=λa ha=>by have⟨j,hj,e⟩:=abf ha;have:=s.yk j hj;rw[aab,aaa hj]at this;rw[<-e];exact this
 have ent:∀x∈ρ.map A,∀c∈ι,Ab (x c) B:=λx hx c Al=>by have⟨a,ha,rfl⟩:=aan.mp hx;exact b.ab a c (ρn a ha) (hc c Al)
 have cl:ι.length<=12:=by rw[s.lc];exact hr
 have hd:Ab d ((12 * B) ^ ρ.length):=by have:=Ab.det B0 (ρ.map A) ι ent cl;rw[s.det,aag]at this;exact this
 have S6:∀p k,Ab (d_ (ρ.map A) ι p k) ((12 * B) ^ ρ.length):=λp k=>by
  unfold d_;refine Ab.pow ((Ab.det B0 _ _ (λx hx c Al=>ent x (ace hx) c (ace Al)) ?_).mono (vb B0 ?_))
  ·rw[List.length_eraseIdx];split <;> omega
  ·rw[List.length_eraseIdx,aag];split <;> omega
 have i1:∀a k,Ab (ind a k) 1:=λa k=>by unfold ind;split <;> exact⟨@_,@_⟩
 have P0:(0:Int)<=(12 * B) ^ ρ.length:=ab4 ();have KW:∀{C:Int},0<=C->(ρ.length:Int) * C<=12 * C:=λh=>aa1 () h;have c1:12 * (12 * B) ^ ρ.length<=(12 * B) ^ (ρ.length+1):=by rw[abl];have:=aaJ (show(12:Int)<=12 * B by omega) P0;omega
 have wp:∀i k,i < ρ.length->Ab (W i k) ((12 * B) ^ (ρ.length+1)):=λi k hi=>by rw[s.wp i hi k];refine(Ab.sum (B:=(12 * B) ^ ρ.length) λj hj=>?_).mono (abW (KW P0) c1);have:=Ab.mul (S6 i j) (i1 (ρ.getD j 0) k);rw[Int.mul_one]at this;exact this
 have rp:∀i x,i < ρ.length->x < m->Ab (rv A n (W i) x) ((12 * B) ^ (ρ.length+1)):=λi x hi hx=>by
  rw[s.OQ hi];have Q0:0<=(12 * B) ^ ρ.length * B:=abA P0 ();refine(Ab.sum (B:=(12 * B) ^ ρ.length * B) λj hj=>Ab.mul (S6 i j) (b.ab _ x (s.yk j hj) hx)).mono (abW (KW Q0) ?_);rw[abl];have:12 * ((12 * B) ^ ρ.length * B)=(12 * B) ^ ρ.length * (12 * B):=by grind
  omega
 have S0:(0:Int)<=(12 * B) ^ (ρ.length+1):=ab4 ();have T0:(0:Int)<=(12 * B) ^ (ρ.length+2):=ab4 ();have c2:12 * (B * (12 * B) ^ (ρ.length+1))=(12 * B) ^ (ρ.length+2):=by rw[show ρ.length+2=ρ.length+1+1 from rfl,Int.pow_succ];grind
 have c3:(12 * B) ^ (ρ.length+2)+(12 * B) ^ (ρ.length+2)<=top B ρ.length:=by unfold top;have e:(12 * B) ^ (ρ.length+3)=(12 * B) ^ (ρ.length+2) * (12 * B):=abl _ _;rw[e];have:=aaJ (show(2:Int)<=12 * B by omega) T0;omega
 have c4:(12 * B) ^ (ρ.length+1)<=(12 * B) ^ (ρ.length+2):=vb B0 ();have c5:(12 * B) ^ ρ.length<=(12 * B) ^ (ρ.length+2):=vb B0 ();have c6:(12 * B) ^ ρ.length * B<=(12 * B) ^ (ρ.length+2):=by refine abW ?_ c4;rw[abl];exact aaJ () P0
 have U0:0<=B * (12 * B) ^ (ρ.length+1):=abA () S0;have Qg:∀p,p < ρ.length->ι.getD p 0 < m:=λp hp=>by
  have wB:p < ι.length:=by rw[s.lc];exact hp
  rw[aab,aaa wB];exact hc _ (aaq wB)
 refine⟨λi k hi=>?_,λi x hi hx=>?_,hd.mono ()⟩
 ·by_cases wH:i < ρ.length
  ·exact(wp i k wH).mono ()
  ·rw[s.wn i () hi k];have a1:=Ab.mul hd (i1 (q i) k);rw[Int.mul_one]at a1;refine(Ab.sub a1 (Ab.sum (B:=B * (12 * B) ^ (ρ.length+1)) λp hp=>Ab.mul (b.ab (q i) _ (s.JC i hi) (Qg p hp)) (wp p k hp))).mono ?_;have:=KW U0;omega
 ·by_cases wH:i < ρ.length
  ·exact(rp i x wH hx).mono ()
  ·rw[s.MK () hi];refine(Ab.sub (Ab.mul hd (b.ab (q i) x (s.JC i hi) hx)) (Ab.sum (B:=B * (12 * B) ^ (ρ.length+1)) λp hp=>Ab.mul (b.ab (q i) _ (s.JC i hi) (Qg p hp)) (rp p x hp hx))).mono ?_;have:=KW U0;omega
end
def cD(n i:Nat):List Int:=(List.range n).map (ind i)
def jx(ls:List (List Int))(f k:Nat):List (List Int):=ls.take f++[ls.getD k []]++(ls.drop f).take (k - f)++ls.drop (k+1)
def cE(l h:List Int)(c:Nat)(d:Int):List Int:=(l.zip h).map λp=>(h.getD c 0 * p.1 - l.getD c 0 * p.2).fdiv d
def aw(A:Nat->Row)(n m:Nat)(w:Row):List Int:=(List.range m).map (λx=>rv A n w x)++(List.range n).map w
def Υ(A:Nat->Row)(n m:Nat)(W:Nat->Row):List (List Int):=(List.range n).map λi=>aw A n m (W i)
def arr(γ:List (List Int)):Nat->Row:=λk x=>(γ.getD k []).getD x 0
def d7:(aw A n m w).length=m+n:=by unfold aw;simp
def gR{x:Nat}(h:x < m):(aw A n m w).getD x 0=rv A n w x:=by unfold aw;rw[List.getD_eq_getElem?_getD,List.getElem?_append_left (by simpa using h),List.getElem?_map,List.getElem?_range h];rfl
def jA(h:i < n):(Υ A n m W).getD i []=aw A n m (W i):=by unfold Υ;rw[aab,aak,aaO h];rfl
def cL:(Υ A n m W).length=n:=by unfold Υ;simp
def Bl{u:Row}(h:∀k,w k=u k):aw A n m w=aw A n m u:=by have:w=u:=funext h;rw[this]
def x8{γ:List (List Int)}(hl:∀r∈γ,r.length=m):(List.range γ.length).map (λi=>γ.getD i []++cD γ.length i)=Υ (arr γ) γ.length m (λi=>ind i):=by
 unfold Υ;apply aaZ;intro i hi;have hi:=aba.mp hi;unfold aw cD
 congr 1
 have g:γ.getD i []=γ[i]:=by rw[aab,aaa hi];rfl
 have ml:=hl γ[i] (aaq hi);apply aa8
 ·rw[g,ml];simp
 ·intro x h1 h2;simp only[List.getElem_map,List.getElem_range];rw[Aa hi];unfold arr;rw[aab (l:=γ.getD i []),aaa h1];rfl
def iD(r k i:Nat):Nat:=if i < r then i else if i=r then k else if i<=k then i - 1 else i
def x_{r k:Nat}(hr:r<=k)(hk:k < n):jx (Υ A n m W) r k=Υ A n m (λi=>W (iD r k i)):=by
 unfold jx;rw[jA hk];unfold Υ;apply List.ext_getElem?;intro i;rw[aak];simp only[List.append_assoc];by_cases h1:i < r
 ·rw[List.getElem?_append_left (by simp;omega),List.getElem?_take_of_lt h1,List.getElem?_map];rw[aaO ()];have:iD r k i=i:=by unfold iD;rw[if_pos h1]
  simp[this]
 ·rw[List.getElem?_append_right (by simp;omega)];have lt:((List.map (λi=>aw A n m (W i)) (List.range n)).take r).length=r:=by simp;omega
  rw[lt];by_cases h2:i=r
  ·subst h2;rw[Nat.sub_self,List.getElem?_append_left (by simp)];rw[aaO ()];have:iD i k i=k:=by unfold iD;rw[if_neg (Nat.lt_irrefl _),if_pos rfl]
   simp[this]
  ·rw[List.getElem?_append_right (by simp;omega)];show(_++_)[i - r - 1]? =_;have l2:((List.map (λi=>aw A n m (W i)) (List.range n)).drop r|>.take (k - r)).length=k - r:=by simp;omega
   by_cases h3:i<=k
   ·rw[aap (by rw[l2];omega),acb (),List.getElem?_drop,aak,aaO (),aaO ()];have:iD r k i=i - 1:=by unfold iD;rw[if_neg h1,if_neg h2,if_pos h3]
    simp only[Option.map_some,this];rw[show r+(i - r - 1)=i - 1 by omega]
   ·rw[aax (by rw[l2];omega),l2,List.getElem?_drop,aak];rw[show k+1+(i - r - 1 - (k - r))=i by omega];by_cases h4:i < n
    ·rw[aaO h4];have:iD r k i=i:=by unfold iD;rw[if_neg h1,if_neg h2,if_neg h3]
     simp[this]
    ·rw[List.getElem?_eq_none (by simpa using h4)];rfl
def qw{a b:Int}(h:d≠0)(e:d * b=a):a.fdiv d=b:=by rw[<-e];exact Int.mul_fdiv_cancel_left b h
def rV{c:Nat}{u v:Row}(hc:c < m)(d0:d≠0)(h:∀k,d * v k=rv A n u c * w k - rv A n w c * u k):cE (aw A n m w) (aw A n m u) c d=aw A n m v:=by
 have hr:∀x,d * rv A n v x=rv A n u c * rv A n w x - rv A n w c * rv A n u x:=λx=>by have:=w8 (A:=A) (n:=n) (w:=λk=>d * v k) (u:=w) (v:=u) (a:=rv A n u c) (b:=rv A n w c) h x;rw[<-this];unfold rv;rw[<-Κ];exact ο λk _=>by grind
 unfold cE;rw[gR hc,gR hc];unfold aw;rw[List.zip_append (by simp),List.map_append]
 congr 1
 ·apply aa8
  ·simp
  ·intro x h1 h2;simp only[List.getElem_map,List.getElem_zip,List.getElem_range];exact qw d0 (hr x)
 ·apply aa8
  ·simp
  ·intro x h1 h2;simp only[List.getElem_map,List.getElem_zip,List.getElem_range];exact qw d0 (h x)
structure Turn(A:Nat->Row)(n:Nat)(col:Nat)(ρ ι:List Nat)(q:Nat->Nat)(d:Int)(W:Nat->Row):Prop where
 st:St A n ρ ι q d W
 d0:d≠0
 cl:∀c∈ι,c < col
 OH:∀i,i < ρ.length->q i=ρ.getD i 0
 OC:∀k,k < n->∃i,i < n/\q i=k
 zero:∀i,ρ.length<=i->i < n->∀x,x < col->rv A n (W i) x=0
 all:ι=List.range col\/∃x,x < col/\x∉ι
def Turn.start:Turn A n 0 [] [] id 1 (λi=>ind i) where
 st:=St.start
 d0:=@_
 cl:=λ_ h=>nomatch h
 OH:=λ_ h=>aaE h (abv _)
 OC:=λk h=>⟨k,h,rfl⟩
 zero:=λ_ _ _ _ h=>aaE h (abv _)
 all:=.inl rfl
section
variable{col:Nat}{q:Nat->Nat}
def Turn.skip(t:Turn A n col ρ ι q d W)(h:∀i,ρ.length<=i->i < n->rv A n (W i) col=0):Turn A n (col+1) ρ ι q d W where
 st:=t.st
 d0:=t.d0
 cl:=λc hc=>abM (t.cl c hc)
 OH:=t.OH
 OC:=t.OC
 zero:=λi h1 h2 x hx=>by
  by_cases e:x=col
  ·rw[e];exact h i h1 h2
  ·exact t.zero i h1 h2 x ()
 all:=.inr ⟨col,abq _,λz=>aaE (t.cl col z) (aby _)⟩
def Turn.move(t:Turn A n col ρ ι q d W){k:Nat}(h1:ρ.length<=k)(h2:k < n):Turn A n col ρ ι (λi=>q (iD ρ.length k i)) d (λi=>W (iD ρ.length k i)) where
 st:=t.st.perm (λi hi=>by unfold iD;rw[if_pos hi]) λi a b=>by unfold iD;split <;> (try split) <;> (try split) <;> omega
 d0:=t.d0
 cl:=t.cl
 OH:=λi hi=>by show q (iD ρ.length k i)=_;rw[show iD ρ.length k i=i by unfold iD;rw[if_pos hi]];exact t.OH i hi
 OC:=λj hj=>by
  have⟨i,hi,e⟩:=t.OC j hj;by_cases a:i < ρ.length
  ·exact⟨i,hi,by show q (iD ρ.length k i)=j;rw[show iD ρ.length k i=i by unfold iD;rw[if_pos a]];exact e⟩
  ·by_cases b:i=k
   ·exact⟨ρ.length,(),by show q (iD ρ.length k ρ.length)=j;rw[show iD ρ.length k ρ.length=k by unfold iD;rw[if_neg (Nat.lt_irrefl _),if_pos rfl],<-b];exact e⟩
   ·by_cases c:i < k
    ·exact⟨i+1,(),by show q (iD ρ.length k (i+1))=j;rw[show iD ρ.length k (i+1)=i by unfold iD;rw[if_neg (),if_neg (),if_pos ()];omega];exact e⟩
    ·exact⟨i,hi,by show q (iD ρ.length k i)=j;rw[show iD ρ.length k i=i by unfold iD;rw[if_neg a,if_neg (),if_neg ()]];exact e⟩
 zero:=λi a b x hx=>by
  have:ρ.length<=iD ρ.length k i/\iD ρ.length k i < n:=by unfold iD;split <;> (try split) <;> (try split) <;> omega
  exact t.zero _ this.1 this.2 x hx
 all:=t.all
def Turn.step(t:Turn A n col ρ ι q d W)(hr:ρ.length < n)(hm:col < m)(h0:rv A n (W ρ.length) col≠0):
  ∃W',Turn A n (col+1) (ρ++[q ρ.length]) (ι++[col]) q (rv A n (W ρ.length) col) W'/\
   ((Υ A n m W).take ρ.length).map (λl=>cE l (aw A n m (W ρ.length)) col d)++[aw A n m (W ρ.length)]++((Υ A n m W).drop (ρ.length+1)).map (λl=>cE l (aw A n m (W ρ.length)) col d)=Υ A n m W':=by
 have⟨W',s',e1,e2⟩:=t.st.step hr col t.d0 h0;refine⟨W',⟨s',h0,λc hc=>?_,λi hi=>?_,t.OC,λi a b x hx=>?_,?_⟩,?_⟩
 ·rcases abm.mp hc with z| z
  ·exact abM (t.cl c z)
  ·have:c=col:=by simpa using z
   omega
 ·by_cases wH:i < ρ.length
  ·rw[mB wH];exact t.OH i wH
  ·have:i=ρ.length:=by simp at hi;omega
   rw[this,my]
 ·rw[show(ρ++[q ρ.length]).length=ρ.length+1 by simp]at a;have T4:d * rv A n (W' i) x=rv A n (W ρ.length) col * rv A n (W i) x - rv A n (W i) col * rv A n (W ρ.length) x:=by have:=w8 (A:=A) (n:=n) (w:=λk=>d * W' i k) (u:=W i) (v:=W ρ.length) (λk=>e2 i b () k) x;rw[<-this];unfold rv;rw[<-Κ];exact ο λk _=>by grind
  refine aaR t.d0 ?_;rw[T4];by_cases e:x=col
  ·subst e;grind
  ·rw[t.zero i () b x (),t.zero ρ.length (Nat.le_refl _) hr x ()];simp
 ·rcases t.all with z| ⟨x,a,b⟩
  ·left;rw[z,List.range_succ]
  ·refine .inr ⟨x,(),λz=>?_⟩;rcases abm.mp z with z| z
   ·exact b z
   ·have:x=col:=by simpa using z
    omega
 ·unfold Υ;rw[<-List.map_take,<-List.map_drop,aaT,aaT];apply List.ext_getElem?;intro i;simp only[List.append_assoc];have lt:(List.map ((λl=>cE l (aw A n m (W ρ.length)) col d) ∘ λi=>aw A n m (W i)) ((List.range n).take ρ.length)).length=ρ.length:=by simp;omega
  by_cases h1:i < ρ.length
  ·rw[aap (by rw[lt];exact h1),aak,aak,acb h1,aaO ()];show some (cE (aw A n m (W i)) (aw A n m (W ρ.length)) col d)=some _;rw[rV hm t.d0 (e2 i () ())]
  ·rw[aax (by rw[lt];omega),lt,aak];by_cases h2:i=ρ.length
   ·subst h2;rw[abH,aaO hr];show some (aw A n m (W ρ.length))=some (aw A n m (W' ρ.length));rw[Bl e1]
   ·rw[List.getElem?_append_right (by simp;omega)];show(List.map _ ((List.range n).drop (ρ.length+1)))[i - ρ.length - 1]? =_;rw[aak,List.getElem?_drop,show ρ.length+1+(i - ρ.length - 1)=i by omega];by_cases h4:i < n
    ·rw[aaO h4];show some (cE (aw A n m (W i)) (aw A n m (W ρ.length)) col d)=some _;rw[rV hm t.d0 (e2 i h4 h2)]
    ·rw[List.getElem?_eq_none (by simpa using h4)];rfl
end
section
variable{col:Nat}{q:Nat->Nat}
def Turn.back(t:Turn A n col ρ ι q d W){k y:Nat}(hk:k < n)(hy:y < col):d * A k y=ψ (λp=>A k (ι.getD p 0) * rv A n (W p) y) ρ.length:=by
 have⟨i,hi,e⟩:=t.OC k hk;have s:=t.st;by_cases wH:i < ρ.length
 ·have ek:k=ρ.getD i 0:=by rw[<-e];exact t.OH i wH
  have lr:(ρ.map A).length=ρ.length:=aag _;have e1:ψ (λp=>A k (ι.getD p 0) * rv A n (W p) y) ρ.length=ψ (λp=>ψ (λj=>(A k (ι.getD p 0) * d_ (ρ.map A) ι p j) * A (ρ.getD j 0) y) ρ.length) ρ.length:=ο λp hp=>by rw[s.OQ hp,<-Κ];exact ο λj _=>by grind
  have e2:ψ (λp=>ψ (λj=>(A k (ι.getD p 0) * d_ (ρ.map A) ι p j) * A (ρ.getD j 0) y) ρ.length) ρ.length=ψ (λj=>A (ρ.getD j 0) y * ψ (λp=>(ρ.map A).getD i zr (ι.getD p 0) * d_ (ρ.map A) ι p j) ρ.length) ρ.length:=by rw[cG];refine ο λj _=>?_;rw[<-Κ];refine ο λp _=>?_;rw[sG wH,<-ek];grind
  rw[e1,e2];have pa:∀j,j < ρ.length->ψ (λp=>(ρ.map A).getD i zr (ι.getD p 0) * d_ (ρ.map A) ι p j) ρ.length=if i=j then d else 0:=λj hj=>by have:=PA (γ:=ρ.map A) (ι:=ι) (i:=i) (k:=j) (by rw[lr];exact s.lc) (by rw[lr];exact wH) (by rw[lr];exact hj);rw[lr,s.det]at this;exact this
  rw[hZ wH λj hj pL=>by rw[pa j hj,if_neg (Ne.symm pL)];simp];rw[pa i wH,if_pos rfl,ek];grind
 ·have:=s.MK () hi y;rw[t.zero i () hi y hy,e]at this;omega
def Turn.kernel(t:Turn A n col ρ ι q d W){x:Nat}(hx:x < col)(hf:x∉ι):∃z:Row,z x= -d/\∀k,k < n->ψ (λy=>A k y * z y) col=0:=by
 have s:=t.st;have cm:∀i,i < ρ.length->ι.getD i 0∈ι:=λi hi=>by
  have Er:i < ι.length:=by rw[s.lc];exact hi
  rw[aab,aaa Er];exact aaq Er
 refine⟨λy=>ψ (λi=>rv A n (W i) x * ind (ι.getD i 0) y) ρ.length - d * ind x y,?_,λk hk=>?_⟩
 ·have e1:ψ (λi=>rv A n (W i) x * ind (ι.getD i 0) x) ρ.length=0:=ie λi hi=>by unfold ind;rw[if_neg λz=>hf (by rw[<-z];exact cm i hi)];simp
  show ψ (λi=>rv A n (W i) x * ind (ι.getD i 0) x) ρ.length - d * ind x x= -d;rw[e1];unfold ind;rw[if_pos rfl];omega
 ·have gen:∀f:Row,ψ (λy=>f y * (ψ (λi=>rv A n (W i) x * ind (ι.getD i 0) y) ρ.length - d * ind x y)) col=ψ (λi=>rv A n (W i) x * f (ι.getD i 0)) ρ.length - d * f x:=λf=>by
   have e1:ψ (λy=>f y * (ψ (λi=>rv A n (W i) x * ind (ι.getD i 0) y) ρ.length - d * ind x y)) col=ψ (λy=>ψ (λi=>rv A n (W i) x * (ind (ι.getD i 0) y * f y)) ρ.length+(-d) * (ind x y * f y)) col:=ο λy _=>by
    have:ψ (λi=>rv A n (W i) x * (ind (ι.getD i 0) y * f y)) ρ.length=f y * ψ (λi=>rv A n (W i) x * ind (ι.getD i 0) y) ρ.length:=by rw[<-Κ];exact ο λi _=>by grind
    rw[this];grind
   rw[e1,fL,Κ,mW (f:=f) hx,cG];have e2:ψ (λi=>ψ (λy=>rv A n (W i) x * (ind (ι.getD i 0) y * f y)) col) ρ.length=ψ (λi=>rv A n (W i) x * f (ι.getD i 0)) ρ.length:=ο λi hi=>by rw[Κ,mW (f:=f) (t.cl _ (cm i hi))]
   rw[e2];grind
  refine aaR t.d0 ?_;rw[Int.mul_zero,gen (A k),Int.mul_sub];have b1:=t.back hk hx;have e3:ψ (λi=>rv A n (W i) x * A k (ι.getD i 0)) ρ.length=d * A k x:=by rw[b1];exact ο λi _=>abc _ _
  rw[e3];grind
def Oj(A:Nat->Row)(n u:Nat)(z:Row)(N:Int):Prop:=∀k,k < n->ψ (λx=>A k x * z x) u=N * A k u
def Oj.line{u:Nat}{z:Row}{N:Int}(h:Oj A n u z N)(w:Row):ψ (λx=>rv A n w x * z x) u=N * rv A n w u:=by
 unfold rv;have e1:ψ (λx=>ψ (λk=>w k * A k x) n * z x) u=ψ (λx=>ψ (λk=>w k * (A k x * z x)) n) u:=ο λx _=>by rw[abc,<-Κ];exact ο λk _=>by grind
 rw[e1,cG,<-Κ];refine ο λk hk=>?_;rw[Κ,h k hk];grind
def Turn.rest(t:Turn A n col ρ ι q d W){z:Row}{N:Int}(hs:Oj A n col z N)(hN:N≠0)(h1:ρ.length<=i)(hi:i < n):rv A n (W i) col=0:=by
 have:=hs.line (W i);rw[ie λx hx=>by rw[t.zero i h1 hi x hx];simp]at this;rcases Int.mul_eq_zero.mp this.symm with e| e
 ·exact aaE e hN
 ·exact e
def Turn.told(t:Turn A n col ρ ι q d W)(hc:ι=List.range col){z:Row}{N:Int}(hs:Oj A n col z N)(hi:i < col):d * z i=N * rv A n (W i) col:=by
 have s:=t.st;have hl:ρ.length=col:=by rw[<-s.lc,hc,aa9]
 have g:∀p,p < col->ι.getD p 0=p:=λp hp=>by rw[hc,aab,aaO hp];rfl
 rw[<-hs.line (W i)]
 rw[hZ hi λx hx pL=>by
  have:=s.one i x (by rw[hl];exact hi) (by rw[hl];exact hx);rw[g x hx,aay (Ne.symm pL)]at this
  rw[this];simp]
 have:=s.one i i (by rw[hl];exact hi) (by rw[hl];exact hi);rw[g i hi,aaw rfl]at this;rw[this]
end
def Turn.exists{A:Nat->Row}{n:Nat}:∀col:Nat,∃ρ ι q d W,Turn A n col ρ ι q d W
 | 0=>⟨_,_,_,_,_,Turn.start⟩
 | col+1=>by
  have⟨ρ,ι,q,d,W,t⟩:=Turn.exists (A:=A) (n:=n) col;by_cases h:∃k,ρ.length<=k/\k < n/\rv A n (W k) col≠0
  ·have⟨k,h1,h2,h3⟩:=h;have t':=t.move h1 h2;have e:iD ρ.length k ρ.length=k:=by unfold iD;rw[if_neg (Nat.lt_irrefl _),if_pos rfl]
   have⟨W',t2,_⟩:=t'.step (m:=col+1) () () (by show rv A n (W (iD ρ.length k ρ.length)) col≠0;rw[e];exact h3);exact⟨_,_,_,_,_,t2⟩
  ·refine⟨_,_,_,_,_,t.skip λi h1 h2=>?_⟩;by_cases e:rv A n (W i) col=0
   ·exact e
   ·exact aaE ⟨i,h1,h2,e⟩ h
section
variable{col:Nat}{q:Nat->Nat}
def IS(A:Nat->Row)(n:Nat)(W:Nat->Row)(ι:List Nat)(s k:Nat):Row:=λy=>ψ (λi=>rv A n (W i) s * ind (ι.getD i 0) y) k
def Turn.Jp(t:Turn A n col ρ ι q d W){x:Nat}(hx:x < col):∀k,k < n->ψ (λy=>A k y * (IS A n W ι x ι.length y - d * ind x y)) col=0:=λk hk=>by
 have s:=t.st;have cm:∀i,i < ρ.length->ι.getD i 0∈ι:=λi hi=>by
  have Er:i < ι.length:=by rw[s.lc];exact hi
  rw[aab,aaa Er];exact aaq Er
 unfold IS;rw[s.lc];have gen:∀f:Row,ψ (λy=>f y * (ψ (λi=>rv A n (W i) x * ind (ι.getD i 0) y) ρ.length - d * ind x y)) col=ψ (λi=>rv A n (W i) x * f (ι.getD i 0)) ρ.length - d * f x:=λf=>by
  have e1:ψ (λy=>f y * (ψ (λi=>rv A n (W i) x * ind (ι.getD i 0) y) ρ.length - d * ind x y)) col=ψ (λy=>ψ (λi=>rv A n (W i) x * (ind (ι.getD i 0) y * f y)) ρ.length+(-d) * (ind x y * f y)) col:=ο λy _=>by
   have:ψ (λi=>rv A n (W i) x * (ind (ι.getD i 0) y * f y)) ρ.length=f y * ψ (λi=>rv A n (W i) x * ind (ι.getD i 0) y) ρ.length:=by rw[<-Κ];exact ο λi _=>by grind
   rw[this];grind
  rw[e1,fL,Κ,mW (f:=f) hx,cG];have e2:ψ (λi=>ψ (λy=>rv A n (W i) x * (ind (ι.getD i 0) y * f y)) col) ρ.length=ψ (λi=>rv A n (W i) x * f (ι.getD i 0)) ρ.length:=ο λi hi=>by rw[Κ,mW (f:=f) (t.cl _ (cm i hi))]
  rw[e2];grind
 refine aaR t.d0 ?_;rw[Int.mul_zero,gen (A k),Int.mul_sub];have b1:=t.back hk hx;have e3:ψ (λi=>rv A n (W i) x * A k (ι.getD i 0)) ρ.length=d * A k x:=by rw[b1];exact ο λi _=>abc _ _
 rw[e3];grind
def Turn.QO(t:Turn A n col ρ ι q d W)(h:∀i,ρ.length<=i->i < n->rv A n (W i) col=0):Oj A n col (IS A n W ι col ι.length) d:=λk hk=>by
 have:=(t.skip h).Jp (x:=col) () k hk;have e:ψ (λy=>A k y * (IS A n W ι col ι.length y - d * ind col y)) (col+1)=ψ (λy=>A k y * (IS A n W ι col ι.length y - d * ind col y)) col+A k col * (IS A n W ι col ι.length col - d * ind col col):=rfl;have e1:ψ (λy=>A k y * (IS A n W ι col ι.length y - d * ind col y)) col=ψ (λy=>A k y * IS A n W ι col ι.length y) col:=ο λy hy=>by
  have:ind col y=0:=by unfold ind;rw[if_neg ()]
  rw[this];grind
 have e2:IS A n W ι col ι.length col=0:=ie λi hi=>by
  have hm:ι.getD i 0∈ι:=by rw[aab,aaa hi];exact aaq hi
  have:ind (ι.getD i 0) col=0:=by unfold ind;rw[if_neg (by have:=t.cl _ hm;omega)]
  rw[this,Int.mul_zero]
 have e3:ind col col=1:=by unfold ind;rw[if_pos rfl]
 rw[e,e1,e2,e3]at this;have:A k col * (0 - d * 1)= -(d * A k col):=by grind
 omega
def St.VC(s:St A n ρ ι q d W)(b:Bd A n m B)(hc:∀c∈ι,c < m)(hr:ρ.length<=12):Ab d ((12 * B) ^ ρ.length):=by
 have ρn:∀a∈ρ,a < n:=λa ha=>by have⟨j,hj,e⟩:=abf ha;have:=s.yk j hj;rw[aab,aaa hj]at this;rw[<-e];exact this
 have:=Ab.det b.b1 (ρ.map A) ι (λx hx c Al=>by
  have⟨a,ha,rfl⟩:=aan.mp hx
  exact b.ab a c (ρn a ha) (hc c Al)) (by rw[s.lc];exact hr)
 rw[s.det,aag]at this;exact this
end
end Bz
seal L2.JE L2.JT L2.JW L2.JA L2.JS L2.CH L2.JI L2.JK
local macro_rules| `(tactic| walk_at "vc")=>`(tactic| dsimp only[L2.gN,L2.QD,L2.Pr,L2.Sa,L2.Mn,L2.LJ,L2.Xb,L2.Om,L2.wq,L2.ux,L2.HZ,L2.Ba,L2.kj,L2.Te,L2.lx,L2.dC,L2.IA,L2.mv,L2.O8,L2.QR,L2.lZ,L2.RF,L2.WT,L2.R4,L2.R6,L2.W2,L2.nL,List.map_cons,List.map_nil,List.length_cons,List.length_nil,List.cons_append,List.nil_append,List.replicate,List.getElem?_cons_zero,List.getElem?_cons_succ,List.set_cons_zero,List.set_cons_succ,Nat.reduceSub,Nat.reduceAdd,Nat.zero_add])
namespace Pg
open PySem L2
variable{f bc iw cy br:Addr}{fd ba h8 cw bt:FuncData}{i n j m p:Nat}{M:Ms}{d:Dt}{xs:List Dt}{b t E C B:Int}{ns:List Str}{A W:Nat->Bz.Row}{S:Sp}{gs:List Nat}
def top(i:Nat):Stmt:=PySem.Challenge.pw_chanceduel_k46_a_known_way.main.body.getD i (.Pass ⟨0,0,0,0⟩)
def cls(i j:Nat):Stmt:=match top i with
 | .ClassDef _ _ _ b _ _ _ _ _ _ _=>b.getD j (.Pass ⟨0,0,0,0⟩)
 | _=>.Pass ⟨0,0,0,0⟩
abbrev gh:Stmt:=top 9
abbrev nV:Stmt:=top 10
abbrev A1:Stmt:=top 12
abbrev BB:Stmt:=top 13
abbrev AU:Stmt:=top 14
abbrev q_:Stmt:=top 19
abbrev om:Stmt:=top 20
abbrev hU:Stmt:=top 21
abbrev iI:Stmt:=top 22
abbrev kM:Stmt:=top 23
abbrev rJ:Stmt:=top 24
abbrev mf:Stmt:=top 25
abbrev kL:Stmt:=top 29
abbrev nY:Stmt:=top 31
abbrev AH:Stmt:=top 32
abbrev iH:Stmt:=top 35
abbrev g7:Stmt:=top 36
abbrev jX:Stmt:=top 37
abbrev iT:Stmt:=top 38
abbrev qi:Stmt:=top 39
abbrev lX:Stmt:=top 40
abbrev nu:Stmt:=top 42
abbrev nW:Stmt:=top 44
abbrev kU:Stmt:=top 45
abbrev nZ:Stmt:=top 46
abbrev nH:Stmt:=top 47
abbrev vD:Stmt:=top 48
abbrev jr:Stmt:=top 50
abbrev qF:Stmt:=top 51
abbrev lC:Stmt:=top 52
abbrev Gx:Stmt:=top 53
abbrev l_:Stmt:=top 55
abbrev l9:Stmt:=top 56
abbrev kN:Stmt:=top 57
abbrev lG:Stmt:=top 58
abbrev lq:Stmt:=top 59
abbrev lS:Stmt:=top 60
abbrev rq:Stmt:=top 61
abbrev qN:Stmt:=top 62
abbrev rQ:Stmt:=top 63
abbrev k4:Stmt:=top 65
abbrev k8:Stmt:=top 66
abbrev oN:Stmt:=top 67
abbrev nI:Stmt:=top 68
abbrev oz:Stmt:=top 69
abbrev ot:Stmt:=top 70
abbrev rH:Stmt:=top 71
abbrev vh:Stmt:=top 72
abbrev wG:Stmt:=top 73
abbrev NM:Stmt:=top 74
abbrev kW:Stmt:=cls 33 0
abbrev md:Stmt:=cls 33 1
abbrev ju:Stmt:=cls 33 2
abbrev kK:Stmt:=cls 33 3
abbrev jy:Stmt:=cls 33 4
abbrev lj:Stmt:=cls 33 6
open PySem L2 Fr0 Tx
structure Ev(K:fI)(mg:Str->Option Value)(Cm:Addr):Prop where
 dz:mg "len"=none
 qr:mg "abs"=none
 cK:mg "isinstance"=none
 Hv:mg "int"=none
 zJ:mg "bool"=none
 IB:mg "str"=none
 nc:mg "tuple"=none
 oQ:mg "list"=none
 bP:mg "range"=none
 bW:mg "enumerate"=none
 yi:mg "any"=none
 yy:mg "all"=none
 Cz:mg "sum"=none
 ym:mg "zip"=none
 xv:mg "dict"=none
 BZ:mg "min"=none
 BG:mg "max"=none
 ib:PySem.W.kitOne K (.type "int") (.type "bool")=some false
 kis:PySem.W.kitOne K (.type "int") (.type "str")=some false
 X_:PySem.W.kitOne K (.type "tuple") (.type "str")=some false
 Zm:PySem.W.kitOne K (.type "tuple") (.type "int")=some false
 Zu:PySem.W.kitOne K (.type "list") (.type "str")=some false
 Zd:PySem.W.kitOne K (.type "list") (.type "int")=some false
 Sq:PySem.W.kitOne K (.type "tuple") (.type "list")=some false
 klt:PySem.W.kitOne K (.type "list") (.type "tuple")=some false
 eW:CI K Cm
 cF:hI K Cm "kept_rows"
 hV:hI K Cm "kept_share"
 Au:∃a o its n,mg "HANDS"=some (.ref a)/\K.lookup a=some o/\o.cls= .type "tuple"/\o.data= .seq its n/\its.size<=sizeLine/\Paired (λ(z:Str) (u:Value)=>∃tk,u= .str z tk) ["one","other"] its.toList
 pq:∃tk,mg "MOST_DOORS"=some (.int 6 tk)
 iO:∃tk,mg "MOST_BOTTOM"=some (.int 1000000 tk)
 mQ:∃tk,mg "MOST_PLACES"=some (.int 12 tk)
 fH:∃tk,mg "MOST_SHARE_BOTTOM"=some (.int 1000 tk)
def AB{K:fI}{T:String}:PySem.W.kitOne K (.type T) (.type T)=some true:=by unfold PySem.W.kitOne;rw[aaw (beq_self_eq_true _)]
section
variable{P:Program}{w:World}{K:fI}{mg:Str->Option Value}{base:Heap}{Cm:Addr}
def HV:DF:=λds M q _=>match ds with
 | [.int a,.int b]=>q (.int (g a b)) M
 | _=>False
def bB:Γ ["one","other","great","small","rest"] ["one","other"] (τ gh):=.of rfl
def oK(F:cQ K "common_divisor" "common_divisor" gh f fd)(E:Ev K mg Cm):av P w K mg base (ck P w) 1 f fd ["one","other"] (cP K HV):=by
 refine F.eB bB (λds M q x h=>?_) (λbw A outer s H E' hr=>⟨_,(ζ (Β 2 bB.nd (BX E.qr (Η (jv 0) η)))
   (ζ (Β 3 bB.nd (BX E.qr (Η (jv 1) η)))
   (ζ (jT (pj hr (jv 3) υ) (ζ (Β 4 bB.nd (cT (jv 2) (jv 3)))
   (ζ (Β 2 bB.nd (jv 3))
   (μ (Β 3 bB.nd (jv 4))))))
   (μ (Δ (jv 2)))))),λds M q x h=>?_⟩)
 ·unfold HV at h;split at h;· rfl
  ·exact h.elim
 ·unfold HV at h;split at h
  ·rename_i a b;refine⟨λm ρ M'=>M'=M/\∃(x y:Int) (r:Option Dt),ρ=[some (.int a),some (.int b),some (.int x),some (.int y),r]/\0<=x/\0<=y/\g x y=g a b/\m=y.toNat,⟨_,rfl,_,_,_,rfl,by split <;> omega,by split <;> omega,LM a b,rfl⟩,?_⟩;rintro m ρ M' ⟨rfl,x,y,r,rfl,hx,hy,e,rfl⟩;refine⟨λhb=>?_,λhb=>?_⟩
   ·have Jc:y≠0:=by simpa using hb
    refine⟨_,λρ' M2 h2=>h2,?_⟩;refine⟨(),(x % y).toNat,?_,rfl,y,x % y,_,rfl,hy,abC _ Jc,?_,rfl⟩
    ·have:=abI x (show 0 < y by omega);have:=abC x Jc;omega
    ·rw[<-abD x hy,II ()];exact e
   ·have Jc:y=0:=by simpa using hb
    subst Jc;rw[GB hx]at e;subst e;exact h
  ·exact h.elim
def CY{i j:Int}(h:i4 j)(l:i.natAbs<=j.natAbs):i4 i:=aa7 l h
def tS:DF:=λds M q _=>match ds with
 | [.int t,.int b]=>i4 b/\(b=0->False)/\(b≠0->q (.tup [.int (ak t b).1,.int (ak t b).2]) M)
 | _=>False
def lP:Γ ["top","bottom","divisor"] ["top","bottom"] (τ nV):=.of rfl
def yW(F:cQ K "fraction" "fraction" nV f fd)(E:Ev K mg Cm){fM:Addr}{fK:FuncData}(bA:aC P w K mg base 1 "common_divisor" ["one","other"] HV fM fK):av P w K mg base (ck P w) 2 f fd ["top","bottom"] (cP K tS):=by
 refine F.eB lP (λds M q x h=>?_) (λbw A outer s H E' hr=>⟨_,(ζ (aI (cU hr (jv 1) υ) (μ fT) Ξ)
   (ζ (Β 2 lP.nd (Φ bA hr ξ (Η (jv 0) (Η (jv 1) η))))
   (ζ (jK (aI (mK (jv 1) υ) (μ (Β 2 lP.nd (La (jv 2)))) Ξ))
   (μ (Δ (bO (θ (Aw (jv 0) (jv 2)) (θ (Aw (jv 1) (jv 2)) η bM) bM))))))),λds M q x h=>?_⟩)
 ·unfold tS at h;split at h;· rfl
  ·exact h.elim
 ·unfold tS at h;split at h
  ·rename_i t b;have⟨hB,h0,h1⟩:=h;refine⟨λhb=>?_,λhb=>?_⟩
   ·exact h0 (by simpa using hb)
   ·have RB:b≠0:=by simpa using hb
    refine⟨λρ M'=>M'=M/\ρ=[some (.int t),some (.int b),some (.int (dv t b))],⟨λhn=>?_,λhn=>?_⟩,?_⟩
    ·have Mo:b < 0:=by simpa using hn
     exact⟨rfl,by unfold dv;rw[if_pos Mo];rfl⟩
    ·have Mo:¬b < 0:=by simpa using hn
     exact⟨rfl,by unfold dv;rw[if_neg Mo];rfl⟩
    ·rintro ρ M' ⟨rfl,rfl⟩;have hd:=Cv (t:=t) RB;have Xy:i4 (dv t b):=CY hB (wM RB);exact⟨⟨hd,Xy⟩,⟨hd,Xy⟩,gV,h1 RB⟩
  ·exact h.elim
abbrev Fr:=Int×Int
def aj(p:Fr):Dt:=.tup [.int p.1,.int p.2]
def aD(p:Fr):Bool:=decide ((if p.1 < 0 then -p.1 else p.1)<=10 ^ 30)&&decide (p.2<=1000000)
def qU:DF:=λds M q _=>∃p,ds=[aj p]/\q (.bl (aD p)) M
def Ea:Γ ["pay"] ["pay"] (τ q_):=.of rfl
def Bs(F:cQ K "fits_pay" "fits_pay" q_ f fd)(E:Ev K mg Cm):av P w K mg base (ck P w) 1 f fd ["pay"] (cP K qU):=by
 refine F.eB Ea (λds M q x h=>?_) (λbw A outer s H E' hr=>⟨_,(μ (Δ (kY (AZ (BX E.qr (θ (Ρ (jv 0) υ) η aU)) (Gu υ υ)) (qh (AZ (Ρ (jv 0) υ) (rZ E.iO)))))),λds M q x h=>?_⟩)
 ·have⟨p,rfl,_⟩:=h;rfl
 ·have⟨p,rfl,h⟩:=h;refine⟨⟨@_,@_,@_⟩,λh1=>?_,λh1=>?_⟩
  ·have e:aD p=decide (p.2<=1000000):=by unfold aD;rw[show decide ((if p.1 < 0 then -p.1 else p.1)<=10 ^ 30)=true from h1];rfl
   rw[e]at h;exact h
  ·have e:aD p=false:=by unfold aD;rw[show decide ((if p.1 < 0 then -p.1 else p.1)<=10 ^ 30)=false from h1];rfl
   rw[e]at h;exact h
def p7{ok:Ms->Prop}(h:iC M d=some (xs,ok)):ok M:=by
 cases d with
 | lst ds=>cases h;trivial
 | hW ns=>cases h;trivial
 | loc k=>
  have h:(match M[k]? with| some (.lst xs)=>some (xs,λM':Ms=>M'[k]? =some (.lst xs))| _=>none)=some (xs,ok):=h;split at h
  ·rename_i ys hm;cases h;exact hm
  ·cases h
 | _=>cases h
def mX{ok:Ms->Prop}(h:iC M d=some (xs,ok)):js M d=some (xs,ok):=by
 cases d with
 | lst ds=>cases h;rfl
 | hW ns=>cases h;rfl
 | loc k=>exact h
 | _=>cases h
def cN{ρ:En}{ok:Ms->Prop}{q:List Dt->(Ms->Prop)->Ms->Prop}{x:DX}(hv:ρ[i]? =some (some d))(hl:iC M d=some (xs,ok))(h:q xs ok M):gw (lx i) ρ M q x:=by unfold gw lx;rw[hv];show(match js M d with| some (xs,ok)=>q xs ok M| none=>False);rw[mX hl];exact h
def bg{n:Int}{k:Nat}(h:n.natAbs < 2 ^ k)(hk:k<=8000:=by decide):i4 n:=aat h (abx @_ hk)
def aR(t:Int)(p:Fr)(size:Int):Bool:=decide (0<=t)&&(decide (t < size)&&aD p)
def uc:DF:=λds M q _=>∃t p r size,ds=[.tup (.int t::aj p::r),.int size]/\q (.bl (aR t p size)) M
def Am:Γ ["door","size"] ["door","size"] (τ om):=.of rfl
def yB(F:cQ K "fits_door" "fits_door" om f fd)(E:Ev K mg Cm){sy:Addr}{rK:FuncData}(fD:aC P w K mg base 1 "fits_pay" ["pay"] qU sy rK):av P w K mg base (ck P w) 2 f fd ["door","size"] (cP K uc):=by
 refine F.eB Am (λds M q x h=>?_) (λbw A outer s H E' hr=>⟨_,(μ (Δ (kY (AZ υ (Ρ (jv 0) υ)) (kY (NW (Ρ (jv 0) υ) (jv 1)) (qh (Φ fD hr ξ (θ (Ρ (jv 0) υ) η aU))))))),λds M q x h=>?_⟩)
 ·have⟨t,p,r,size,rfl,_⟩:=h;rfl
 ·have⟨t,p,r,size,rfl,h⟩:=h;walk_at "vc";refine Ε rfl cC ?_;refine⟨λh1=>?_,λh1=>?_⟩
  ·refine Ε rfl cC ⟨λh2=>?_,λh2=>?_⟩
   ·refine Ε rfl (az (j:=1) rfl) ⟨p,rfl,?_⟩;have e:aR t p size=aD p:=by unfold aR;rw[h1,h2];rfl
    rw[<-e];exact h
   ·have e:aR t p size=false:=by unfold aR;rw[h1,h2];rfl
    rw[<-e];exact h
  ·have e:aR t p size=false:=by unfold aR;rw[h1];rfl
   rw[<-e];exact h
abbrev aS:=Int×Fr×List Fr
def dh(d:aS):Dt:=.tup (.int d.1::aj d.2.1::d.2.2.map aj)
def Ν(ds:List aS)(size:Int):Bool:=decide (1<=ds.length)&&decide (ds.length<=6)&&ds.all λd=>aR d.1 d.2.1 size
def qz:DF:=λas M q _=>∃d size ds ok,as=[d,.int size]/\iC M d=some (ds.map dh,ok)/\ds.length<=100/\q (.bl (Ν ds size)) M
def pC:Γ ["doors","size"] ["doors","size"] (τ kM):=.of rfl
def xj(F:cQ K "fits_doors" "fits_doors" kM f fd)(E:Ev K mg Cm){C3:Addr}{DZ:FuncData}(l7:aC P w K mg base 2 "fits_door" ["door","size"] uc C3 DZ):av P w K mg base (ck P w) 3 f fd ["doors","size"] (cP K qz):=by
 refine F.eB pC (λds M q x h=>?_) (λbw A outer s H E' hr=>⟨_,(ζ (aI (JW.jt (jC (mK (fJ E.dz (Η (jv 0) η)) υ) (iF (GQ (fJ E.dz (Η (jv 0) η)) (rZ E.pq))))) (μ (Δ Km)) Ξ)
   (μ (Δ (Lb E.yy (θ (jZ (ys:=["size"]) (Μ:=[1]) (.of pC rfl rfl rfl) (bR (jv 0)) (λC s H fp=>(Φ l7 hr (cJ (P:=P) (w:=w)) (Η (jv 0) (Η (jv 1) η))))) η))))),λds M q x h=>?_⟩)
 ·have⟨d,size,ds,ok,rfl,_⟩:=h;rfl
 ·have⟨d,size,ds,ok,rfl,hl,hz,h⟩:=h;have hs:=ni hl;walk_at "vc";refine bf hs ⟨λh1=>?_,λh1=>?_⟩
  ·refine⟨λ_=>?_,nofun⟩;have e:Ν ds size=false:=by
    have:(ds.length:Int) < 1:=by simpa using h1
    unfold Ν;rw[aam ()];rfl
   rw[<-e];exact h
  ·have h1:¬(ds.length:Int) < 1:=by simpa using h1
   refine bf hs ⟨λh2=>?_,λh2=>?_⟩
   ·have e:Ν ds size=false:=by
     have:6 < (ds.length:Int):=by simpa using h2
     unfold Ν;rw[aam (p:=ds.length<=6) (),Bool.and_false];rfl
    rw[<-e];exact h
   ·have h2:¬6 < (ds.length:Int):=by simpa using h2
    refine cN rfl hl ⟨by rw[aag];exact aaA hz @_,?_⟩;refine dw (f:=λd=>.bl (match d with| .tup (.int t:: .tup [.int a,.int b]::_)=>aR t (a,b) size| _=>false)) (p7 hl) (λx hx q hq=>?_) ?_
    ·have⟨y,_,rfl⟩:=aan.mp hx;exact⟨y.1,y.2.1,y.2.2.map aj,size,rfl,hq⟩
    ·refine⟨ds.map λd=>aR d.1 d.2.1 size,?_,?_⟩
     ·rw[aaT,aaS,aaT];rfl
     ·have e:Ν ds size=(ds.map λd=>aR d.1 d.2.1 size).all id:=by unfold Ν;rw[aaB (show 1<=ds.length by omega),aaB (show ds.length<=6 by omega),List.all_map];rfl
      rw[<-e];exact h
def aY(cs:List Fr):Int:=cs.foldl (λb c=>b * c.2 / g b c.2) 1
def mL{c:Int}(hb:0 < b)(hc:0 < c):0 < b * c / g b c/\b * c / g b c<=b * c/\0 < g b c/\g b c<=c:=by
 have hg:0 < g b c:=zk ();have hbc:0 < b * c:=abo hb hc;have hd:g b c∣c:=Int.gcd_dvd_right ..;have hle:g b c<=c:=ab1 hc hd;have h1:c<=b * c:=by have:=aa1 (show 1<=b by omega) (show 0<=c by omega);simpa using this
 refine⟨Int.ediv_pos_of_pos_of_dvd hbc () (Int.dvd_mul_of_dvd_right hd),?_,hg,hle⟩;exact Int.ediv_le_self _ ()
def OZ(cs:List Fr):Prop:=cs.length<=12/\∀c∈cs,0 < c.2/\c.2 < 2 ^ 200/\c.1.natAbs < 2 ^ 200
def Zp(cs:List Fr):Prop:=cs.length<=13/\∀c∈cs,0 < c.2/\c.2 < 2 ^ 200
def oM:∀(cs:List Fr) (b:Int) (k:Nat),0 < b->b<=2 ^ (200 * k)->(∀c∈cs,0 < c.2/\c.2 < 2 ^ 200)->0 < cs.foldl (λb c=>b * c.2 / g b c.2) b/\cs.foldl (λb c=>b * c.2 / g b c.2) b<=2 ^ (200 * (k+cs.length))
 | [],b,k,h0,h1,_=>⟨h0,h1⟩
 | c::cs,b,k,h0,h1,hc=>by
  have⟨c0,c1⟩:=hc c aae;have⟨s0,s1,_⟩:=mL h0 c0;have MS:b * c.2 / g b c.2<=2 ^ (200 * (k+1)):=by refine abW s1 ?_;rw[show 200 * (k+1)=200 * k+200 by omega,Int.pow_add];exact Int.mul_le_mul h1 (aau c1) (aau c0) (aau (Int.pow_pos @_))
  have:=oM cs _ (k+1) s0 MS λd hd=>hc d (aad _ hd);rw[abB,aaI,show k+(cs.length+1)=k+1+cs.length by omega];exact this
def RQ{n:Int}{k:Nat}(h0:0<=n)(h:n<=2 ^ k)(hk:k < 8000):i4 n:=by
 refine bg (k:=k+1) ?_ hk;have:(n.natAbs:Int) < ((2 ^ (k+1):Nat):Int):=by rw[abd h0,Int.natCast_pow,abl];have:(0:Int) < 2 ^ k:=Int.pow_pos @_;show n < 2 ^ k * 2;omega
 exact abN.mp this
def eN:∀(cs:List Fr) (b:Int),0 < b->(∀c∈cs,0 < c.2)->0 < cs.foldl (λb c=>b * c.2 / g b c.2) b
 | [],_,h0,_=>h0
 | c::cs,b,h0,hc=>eN cs _ (mL h0 (hc c aae)).1 λd hd=>hc d (aad _ hd)
def JH{n:Int}{k:Nat}(h0:0<=n)(h:n < 2 ^ k)(hk:k<=8000):i4 n:=by
 refine bg (k:=k) ?_ hk;have:(n.natAbs:Int) < ((2 ^ k:Nat):Int):=by rw[abd h0,Int.natCast_pow];exact h
 exact abN.mp this
def g_:DF:=λds M q _=>∃cs:List Fr,ds=[.lst (cs.map aj)]/\Zp cs/\q (.int (aY cs)) M
def dW:Γ ["chances","bottom","chance"] ["chances"] (τ hU):=.of rfl
def pH(F:cQ K "common_bottom" "common_bottom" hU f fd)(E:Ev K mg Cm){fM:Addr}{fK:FuncData}(bA:aC P w K mg base 1 "common_divisor" ["one","other"] HV fM fK):av P w K mg base (ck P w) 2 f fd ["chances"] (cP K g_):=by
 refine F.eB dW (λds M q x h=>?_) (λbw A outer s H E' hr=>⟨_,(ζ (Β 1 dW.nd υ)
   (ζ (cH (bR (jv 0)) (ay (i:=2) dW.nd rfl (Or.inl rfl)) aM (μ (Β 1 dW.nd (o9 (cW (jv 1) (Ρ (jv 2) υ)) (Φ bA hr ξ (Η (jv 1) (θ (Ρ (jv 2) υ) η aU)))))))
   (μ (Δ (jv 1))))),λds M q x h=>?_⟩)
 ·have⟨cs,rfl,_⟩:=h;rfl
 ·have⟨cs,rfl,⟨hz,hc⟩,h⟩:=h;walk_at "vc";refine cN (i:=0) rfl rfl ?_;refine bC (λxs ρ M'=>M'=M/\∃dJ rest r,cs=dJ++rest/\xs=rest.map aj/\ρ=[some (.lst (cs.map aj)),some (.int (aY dJ)),r]) (λ_ _ _ _=>trivial) (λx xs ρ M' hj iE=>?_) (λρ M' hj=>?_) _ _ _ ⟨rfl,[],cs,none,rfl,rfl,rfl⟩
  ·have⟨rfl,dJ,rest,r,e,ex,rfl⟩:=hj;cases rest with
   | nil=>cases ex
   | cons c rest=>
    cases ex;have hd:∀d∈dJ,0 < d.2/\d.2 < 2 ^ 200:=λd hd=>by have⟨a,b⟩:=hc d (by rw[e];exact List.mem_append_left _ hd);exact⟨a,b⟩
    have⟨c0,c1⟩:=hc c (by rw[e];exact aaD _ aae);have⟨b0,b1⟩:=oM dJ 1 0 @_ @_ hd;have hl:dJ.length<=13:=by have:=aaU List.length e;rw[aah]at this;omega
    have⟨s0,s1,g0,g1⟩:=mL b0 c0;refine⟨⟨RQ (aau b0) b1 (),JH (aau c0) c1 @_⟩,⟨g0,JH (aau g0) (abp g1 c1) @_⟩,?_⟩;refine iE _ _ ⟨rfl,dJ++[c],rest,some (aj c),by rw[e];simp,rfl,?_⟩;have e2:aY (dJ++[c])=aY dJ * c.2 / g (aY dJ) c.2:=by unfold aY;rw[List.foldl_append];rfl
    rw[e2];rfl
  ·have⟨rfl,dJ,rest,r,e,ex,rfl⟩:=hj;cases rest with
   | nil=>rw[aaY]at e;subst e;exact h
   | cons c rest=>cases ex
def aa(cs:List Fr):Bool:= !(cs.any λc=>decide (c.1<=0))&&(decide ((cs.map λc=>c.1 * (aY cs / c.2)).sum=aY cs)&&decide (aY cs<=1000000))
def mI:DF:=λds M q _=>∃cs:List Fr,ds=[.lst (cs.map aj)]/\OZ cs/\q (.bl (aa cs)) M
def c8:Γ ["chances","bottom","whole"] ["chances"] (τ iI):=.of rfl
def qV(F:cQ K "fits_chances" "fits_chances" iI f fd)(E:Ev K mg Cm){hG:Addr}{gY:FuncData}(bT:aC P w K mg base 2 "common_bottom" ["chances"] g_ hG gY):av P w K mg base (ck P w) 3 f fd ["chances"] (cP K mI):=by
 refine F.eB c8 (λds M q x h=>?_) (λbw A outer s H E' hr=>⟨_,(ζ (aI (fY (LD E.yi (θ (jZ (ys:=[]) (Μ:=[]) (.of c8 rfl rfl rfl) (bR (jv 0)) (λC s H fp=>(AZ (Ρ (jv 0) υ) υ))) η))) (μ (Δ Km)) Ξ)
   (ζ (Β 1 c8.nd (Φ bT hr ξ (Η (jv 0) η)))
   (ζ (Β 2 c8.nd (O7 E.Cz (θ (jZ (ys:=["bottom"]) (Μ:=[1]) (.of c8 rfl rfl rfl) (bR (jv 0)) (λC s H fp=>(cW (Ρ (jv 0) υ) (o9 (jv 1) (Ρ (jv 0) υ))))) η)))
   (μ (Δ (kY (Vc hr (jv 2) (jv 1)) (qh (AZ (jv 1) (rZ E.iO))))))))),λds M q x h=>?_⟩)
 ·have⟨cs,rfl,_⟩:=h;rfl
 ·have⟨cs,rfl,EI,h⟩:=h;have⟨hz,hc⟩:=id EI;have Xm:(cs.map aj).length<=sizeLine:=by rw[aag];exact aaA hz @_
  have⟨b0,b1⟩:=oM cs 1 0 @_ @_ λc h=>⟨(hc c h).1,(hc c h).2.1⟩;walk_at "vc";refine cN (i:=0) rfl rfl ⟨Xm,?_⟩;refine dw (f:=λd=>.bl (match d with| .tup [.int a,.int b]=>decide (a<=0)| _=>false)) trivial (λx hx q hq=>?_) ?_
  ·have⟨y,_,rfl⟩:=aan.mp hx;exact hq
  ·refine⟨cs.map λc=>decide (c.1<=0),by rw[aaT,aaS,aaT];rfl,λ_ z=>(nomatch z),λ_ z=>(nomatch z),?_⟩;have ea:(cs.map λc=>decide (c.1<=0)).any id=cs.any λc=>decide (c.1<=0):=by rw[List.any_map];rfl
   rw[ea];refine⟨λh1=>?_,λh1=>?_⟩
   ·have e:aa cs=false:=by unfold aa;rw[h1];rfl
    rw[<-e];exact h
   ·refine⟨cs,rfl,⟨(),λc h=>⟨(hc c h).1,(hc c h).2.1⟩⟩,?_⟩;walk_at "vc";refine cN (i:=0) rfl rfl ⟨Xm,?_⟩;refine dw (f:=λd=>.int (match d with| .tup [.int a,.int b]=>a * (aY cs / b)| _=>0)) trivial (λx hx q hq=>?_) ?_
    ·have⟨y,hy,rfl⟩:=aan.mp hx;have⟨y0,y1,y2⟩:=hc y hy;refine⟨⟨y0,JH (aau y0) y1 @_⟩,⟨bg y2,?_⟩,hq⟩;refine RQ (k:=200 * (0+cs.length)) (Int.ediv_nonneg (aau b0) (aau y0)) (abW (Int.ediv_le_self _ (aau b0)) b1) ()
    ·refine⟨cs.map λc=>c.1 * (aY cs / c.2),by rw[aaT,aaS,aaT];rfl,⟨_,_,rfl⟩,?_⟩;refine⟨λh2=>?_,λh2=>?_⟩
     ·have e:aa cs=decide (aY cs<=1000000):=by unfold aa;rw[h1,h2];rfl
      rw[e]at h;exact h
     ·have e:aa cs=false:=by unfold aa;rw[h1,h2];rfl
      rw[<-e];exact h
inductive Rw where
 | fin (p:Fr)
 | Α (k:Str) (ds:List aS)
def χ(d:aS):Fr:=d.2.2.headD (0,1)
def fU:Rw->Prop
 | .fin p=>0 < p.2
 | .Α k ds=>k≠"end"/\ds.length<=12/\(k="chance"->(∀d∈ds,d.2.2=[χ d])/\OZ (ds.map χ))/\∀d∈ds,d.2.2.length<=1/\0 < d.2.1.2
def iY(M:Ms)(d:Dt):Rw->Prop
 | .fin p=>d= .tup [.str "end",aj p]
 | .Α k ds=>∃e ok,d= .tup [.str k,e]/\iC M e=some (ds.map dh,ok)
def aX:Rw->Dt
 | .fin p=>.tup [.str "end",aj p]
 | .Α k ds=>.tup [.str k,.lst (ds.map dh)]
def vC(M:Ms)(r:Rw):iY M (aX r) r:=by
 cases r with
 | fin p=>rfl
 | Α k ds=>exact⟨_,_,rfl,rfl⟩
def jJ(p:Fr):(aj p).under n:=⟨trivial,trivial,trivial⟩
def B2{n:Nat}:∀(ps:List Fr),Dt.bo n (ps.map aj)
 | []=>trivial
 | p::ps=>⟨jJ p,B2 ps⟩
def N8(d:aS):(dh d).under n:=⟨trivial,jJ _,B2 _⟩
def dQ{n:Nat}:∀(ds:List aS),Dt.bo n (ds.map dh)
 | []=>trivial
 | d::ds=>⟨N8 d,dQ ds⟩
def wJ(r:Rw):(aX r).under n:=by
 cases r with
 | fin p=>exact⟨trivial,jJ p,trivial⟩
 | Α k ds=>exact⟨trivial,dQ ds,trivial⟩
def qk{n:Nat}:∀(rs:List Rw),Dt.bo n (rs.map aX)
 | []=>trivial
 | r::rs=>⟨wJ r,qk rs⟩
def Χ(k:Str):Bool:=k=="one"|| k=="other"
def fk(r:Rw)(size:Int):Bool:=match r with
 | .fin p=>aD p
 | .Α k ds=>if Χ k then Ν ds size else if k="chance" then Ν ds size&&aa (ds.map χ) else false
def GR{j:Int}{ρ:En}{ds:List Dt}{ok:Ms->Prop}{q:List Dt->(Ms->Prop)->Ms->Prop}{x:DX}(hv:ρ[i]? =some (some (.tup ds)))(hj:jf ds j=some d)(hl:iC M d=some (xs,ok))(h:q xs ok M):gw (kj e_ (lx i) (dC (.int j))) ρ M q x:=by unfold gw kj lx;rw[hv];show e_ (.tup ds) (.int j) M (λd M1=>match js M1 d with| some (xs,ok)=>q xs ok M1| none=>False);refine Ε rfl hj ?_;show(match js M d with| some (xs,ok)=>q xs ok M| none=>False);rw[mX hl];exact h
def y9{k:Str}:O3 (.str k) [.str "one",.str "other"]=Χ k:=by show((("one":Str)==k)|| ((("other":Str)==k)|| false))=(k=="one"|| k=="other");rw[Bool.or_false,BEq.comm (a:=("one":Str)),BEq.comm (a:=("other":Str))]
def xG:DF:=λas M q _=>∃d r size,as=[d,.int size]/\iY M d r/\fU r/\q (.bl (fk r size)) M
def nJ:Γ ["row","size","kind"] ["row","size"] (τ rJ):=.of rfl
def Br   (F:cQ K "fits_row" "fits_row" rJ f fd) (E:Ev K mg Cm) {sy:Addr} {rK:FuncData} (fD:aC P w K mg base 1 "fits_pay" ["pay"] qU sy rK) {zU:Addr} {Bk:FuncData} (gA:aC P w K mg base 3 "fits_doors" ["doors","size"] qz zU Bk) {xm:Addr} {wI:FuncData} (g8:aC P w K mg base 3 "fits_chances" ["chances"] mI xm wI):av P w K mg base (ck P w) 4 f fd ["row","size"] (cP K xG):=by
 refine F.eB nJ (λds M q x h=>?_) (λbw A outer s H E' hr=>⟨_,(ζ (Β 2 nJ.nd (Ρ (jv 0) υ))
   (ζ (aI (cU hr (jv 2) mH) (μ (Δ (Φ fD hr ξ (θ (Ρ (jv 0) υ) η aU)))) Ξ)
   (ζ (aI (Bj (jv 2) (LO E.Au)) (μ (Δ (Φ gA hr ξ (θ (Ρ (jv 0) υ) (Η (jv 1) η) aU)))) Ξ)
   (ζ (aI (cU hr (jv 2) mH) (μ (Δ (kY (Φ gA hr ξ (θ (Ρ (jv 0) υ) (Η (jv 1) η) aU)) (qh (Φ g8 hr ξ (θ (jZ (ys:=[]) (Μ:=[]) (.of nJ rfl rfl rfl) (bR (Ρ (jv 0) υ)) (λC s H fp=>(Ρ (jv 0) υ))) η)))))) Ξ)
   (μ (Δ Km)))))),λds M q x h=>?_⟩)
 ·have⟨d,r,size,rfl,_⟩:=h;rfl
 ·have⟨d,r,size,rfl,ra,ro,h⟩:=h;cases r with
  | fin p=>
   have ra:d= .tup [.str "end",aj p]:=ra;subst ra;exact⟨λ_=>⟨p,rfl,h⟩,nofun⟩
  | Α k ds=>
   have⟨e,ok,rfl,hl⟩:=ra;have⟨hk,hz,ER,_⟩:=ro;refine⟨λz=>aaE (aas z) hk,λ_=>?_⟩;refine⟨.str k,[.str "one",.str "other"],[.str "one",.str "other"],rfl,rfl,rfl,?_⟩;rw[y9];refine⟨λh1=>?_,λh1=>?_⟩
   ·refine⟨e,size,ds,ok,rfl,hl,(),?_⟩;have e1:fk (.Α k ds) size=Ν ds size:=by show(if Χ k then _ else _)=_;rw[aaw h1]
    rw[<-e1];exact h
   ·have e1:fk (.Α k ds) size=if k="chance" then Ν ds size&&aa (ds.map χ) else false:=by show(if Χ k then _ else _)=_;rw[aay (by rw[h1];decide)]
    rw[e1]at h;refine⟨λh2=>?_,λh2=>?_⟩
    ·have h2:k="chance":=aas h2;rw[aaw h2]at h;have⟨JU,EI⟩:=ER h2;refine⟨e,size,ds,ok,rfl,hl,(),λh3=>?_,λh3=>?_⟩
     ·rw[h3,Bool.true_and]at h;show gw _ _ _ _ _;refine GR (i:=0) (j:=1) (ds:=[.str k,e]) rfl (az (j:=1) rfl) hl ⟨by rw[aag];exact aaA hz @_,?_⟩;refine dw (f:=λd=>match d with| .tup [_,_,c]=>c| _=>.aJ) (p7 hl) (λx hx q hq=>?_) ?_
      ·have⟨y,hy,rfl⟩:=aan.mp hx;have ey:dh y= .tup [.int y.1,aj y.2.1,aj (χ y)]:=by unfold dh;rw[JU y hy];rfl
       rw[ey]at hq⊢;exact hq
      ·refine⟨ds.map χ,?_,EI,h⟩;rw[aaS,aaT,aaT];have:∀y∈ds,((λd=>match d with| Dt.tup [_,_,c]=>c| _=>Dt.aJ) ∘ dh) y=(aj ∘ χ) y:=λy hy=>by
        have ey:dh y= .tup [.int y.1,aj y.2.1,aj (χ y)]:=by unfold dh;rw[JU y hy];rfl
        show(match dh y with| Dt.tup [_,_,c]=>c| _=>Dt.aJ)=aj (χ y);rw[ey]
       rw[aaZ this]
     ·rw[h3,Bool.false_and]at h;exact h
    ·have h2:k≠"chance":=aaK h2;rw[aay h2]at h;exact h
def lh:DF:=λas M q _=>∃d r,as=[d]/\iY M d r/\fU r/\match r with
 | .fin p=>q (.tup [.str "end",aj p]) M
 | .Α k ds=>q (.tup [.str k,.loc M.length]) (M++[.lst (ds.map dh)])
def yQ:Γ ["row"] ["row"] (τ mf):=.of rfl
def vG(F:cQ K "copied_row" "copied_row" mf f fd)(E:Ev K mg Cm):av P w K mg base (ck P w) 1 f fd ["row"] (cP K lh):=by
 refine F.eB yQ (λds M q x h=>?_) (λbw A outer s H E' hr=>⟨_,(ζ (aI (cU hr (Ρ (jv 0) υ) mH) (μ (Δ (bO (θ (Ρ (jv 0) υ) (θ (Ρ (jv 0) υ) η aU) aU)))) Ξ)
   (μ (Δ (bO (θ (Ρ (jv 0) υ) (θ (GA E.oQ (θ (Ρ (jv 0) υ) η aU)) η cf) aU))))),λds M q x h=>?_⟩)
 ·have⟨d,r,rfl,_⟩:=h;rfl
 ·have⟨d,r,rfl,ra,ro,h⟩:=h;cases r with
  | fin p=>
   have ra:d= .tup [.str "end",aj p]:=ra;subst ra;exact⟨λ_=>⟨gV,h⟩,nofun⟩
  | Α k ds=>
   have⟨e,ok,rfl,hl⟩:=ra;refine⟨λz=>aaE (aas z) ro.1,λ_=>?_⟩;show(match gZ M e with| some xs=>_| none=>False);rw[ni hl];exact⟨gV,h⟩
def h_(p:Fr):Bool:=decide (0<=p.1)&&(decide (p.1 < p.2)&&decide (p.2<=1000))
def qK:DF:=λas M q _=>∃p,as=[aj p]/\q (.bl (h_ p)) M
def yM:Γ ["share"] ["share"] (τ kL):=.of rfl
def w6(F:cQ K "fits_share" "fits_share" kL f fd)(E:Ev K mg Cm):av P w K mg base (ck P w) 1 f fd ["share"] (cP K qK):=by
 refine F.eB yM (λds M q x h=>?_) (λbw A outer s H E' hr=>⟨_,(μ (Δ (kY (AZ υ (Ρ (jv 0) υ)) (kY (NW (Ρ (jv 0) υ) (Ρ (jv 0) υ)) (qh (AZ (Ρ (jv 0) υ) (rZ E.fH))))))),λds M q x h=>?_⟩)
 ·have⟨p,rfl,_⟩:=h;rfl
 ·have⟨p,rfl,h⟩:=h;unfold h_ at h;refine⟨λh1=>⟨λh2=>?_,λh2=>?_⟩,λh1=>?_⟩
  ·rw[show decide (0<=p.1)=true from h1,show decide (p.1 < p.2)=true from h2]at h;exact h
  ·rw[show decide (0<=p.1)=true from h1,show decide (p.1 < p.2)=false from h2]at h;exact h
  ·rw[show decide (0<=p.1)=false from h1]at h;exact h
def K5{c S:Int}(hb:b∣S)(hc:c∣S)(RB:0 < b)(hc0:0 < c):b * c / g b c∣S/\b∣b * c / g b c/\c∣b * c / g b c:=by
 have e:b * c / g b c=(Int.lcm b c:Nat):=by
  have h:=Int.gcd_mul_lcm b c;have hg:0 < g b c:=zk ();have h2:((Int.gcd b c:Nat):Int) * ((Int.lcm b c:Nat):Int)=b * c:=by rw[<-Int.natCast_mul,h,Int.natCast_mul,abd (aau RB),abd (aau hc0)]
  rw[<-h2];exact Int.mul_ediv_cancel_left _ (by unfold g at hg;omega)
 rw[e];exact⟨Int.coe_lcm_dvd hb hc,Int.dvd_lcm_left ..,Int.dvd_lcm_right ..⟩
def fZ:∀(cs:List Fr) (b S:Int),0 < b->b∣S->(∀c∈cs,0 < c.2/\c.2∣S)->cs.foldl (λb c=>b * c.2 / g b c.2) b∣S/\b∣cs.foldl (λb c=>b * c.2 / g b c.2) b/\∀c∈cs,c.2∣cs.foldl (λb c=>b * c.2 / g b c.2) b
 | [],b,S,_,h,_=>⟨h,Int.dvd_refl b,λc hc=>nomatch hc⟩
 | c::cs,b,S,h0,h,hc=>by
  have⟨c0,cS⟩:=hc c aae;have⟨d1,d2,d3⟩:=K5 h cS h0 c0;have⟨i1,i2,i3⟩:=fZ cs _ S (mL h0 c0).1 d1 λx hx=>hc x (aad _ hx);rw[abB];refine⟨i1,Int.dvd_trans d2 i2,λx hx=>?_⟩;rcases aav.mp hx with rfl| hx
  ·exact Int.dvd_trans d3 i2
  ·exact i3 x hx
def oS(m:Int)(f:Int->Int):∀(ws:List Int),(ws.map λw=>m * f w).sum=m * (ws.map f).sum
 | []=>by simp
 | w::ws=>by simp only[List.map_cons,List.sum_cons];rw[oS m f ws,Int.mul_add]
def FX(h:0 < b):(ak t b).2∣b:=by have⟨p,q,e,_,_,_,eb⟩:=fE (t:=t) (show b≠0 by omega);rw[e];exact⟨dv t b,by show b=q * dv t b;rw[abc];exact eb⟩
def zm(ht:0 < t)(h:0 < b):0 < (ak t b).1:=by have hc:=cz (t:=t) (show b≠0 by omega);have hp:=cZ (t:=t) (show b≠0 by omega);have h1:0 < t * (ak t b).2:=abo ht hp;rw[hc]at h1;exact Int.pos_of_mul_pos_right h1 h|> λz=>z
def qj{ws:List Int}{S:Int}(hS:ws.sum=S)(hw:∀w∈ws,0 < w)(hn:ws≠[])(hS1:S<=1000000)(hz:ws.length<=12):aa (ws.map λw=>ak w S)=true/\OZ (ws.map λw=>ak w S):=by
 have pos:∀{l:List Int},(∀w∈l,0 < w)->0<=l.sum/\(l≠[]->0 < l.sum)/\∀w∈l,w<=l.sum:=by
  intro l
  induction l with
  | nil=>exactλ_=>⟨by simp,λz=>absurd rfl z,λw hw=>nomatch hw⟩
  | cons a l ih=>
   intro h;have⟨i1,i2,i3⟩:=ih λw hw=>h w (aad _ hw);have:=h a aae;rw[List.sum_cons];refine⟨(),λ_=>(),λw hw=>?_⟩;rcases aav.mp hw with rfl| hw
   ·omega
   ·have:=i3 w hw;omega
 have⟨_,p2,p3⟩:=pos hw;have S0:0 < S:=by rw[<-hS];exact p2 hn
 have OK:S≠0:=()
 have hd:∀c∈ws.map (λw=>ak w S),0 < c.2/\c.2∣S:=λc hc=>by have⟨w,_,rfl⟩:=aan.mp hc;exact⟨cZ OK,FX S0⟩
 have⟨⟨m,hm⟩,_,hB⟩:=fZ (ws.map λw=>ak w S) 1 S @_ (Int.one_dvd _) hd;have B0:0 < aY (ws.map λw=>ak w S):=by refine(eN (ws.map λw=>ak w S) 1 @_ λc hc=>(hd c hc).1)
 generalize Vr:aY (ws.map λw=>ak w S)=B at *
 have hm:S=B * m:=by rw[<-Vr];exact hm
 have m0:0 < m:=by
  rcases Int.lt_trichotomy m 0 with h| h| h
  ·have:=ab5 B0 h;omega
  ·rw[h,Int.mul_zero]at hm;omega
  ·exact h
 have key:((ws.map λw=>ak w S).map λc=>c.1 * (B / c.2)).sum=B:=by
  have e1:∀w∈ws,m * ((ak w S).1 * (B / (ak w S).2))=w:=λw hw=>by
   have hb:(ak w S).2∣B:=by rw[<-Vr];exact hB _ (aan.mpr ⟨w,hw,rfl⟩)
   have⟨k,hk⟩:=hb;have q0:=cZ (t:=w) OK;have e2:B / (ak w S).2=k:=by rw[hk];exact abk _ ()
   have hc:=cz (t:=w) OK;rw[e2];have T8:S=(ak w S).2 * k * m:=by rw[<-hk];exact hm
   generalize (ak w S).1=x at *
   generalize (ak w S).2=y at *
   have e4:S * x=y * (m * (x * k)):=by rw[T8];simp only[Int.mul_assoc,Int.mul_comm,Int.mul_left_comm]
   have e3:y * (m * (x * k))=y * w:=by rw[<-e4,<-hc,abc]
   exact aaR () e3
  have e5:m * ((ws.map λw=>ak w S).map λc=>c.1 * (B / c.2)).sum=m * B:=by rw[aaT];show m * (ws.map λw=>(ak w S).1 * (B / (ak w S).2)).sum=m * B;rw[<-oS,aaZ e1,List.map_id',hS,hm,abc]
  exact aaR () e5
 refine⟨?_,⟨by rw[aag];exact hz,λc hc=>?_⟩⟩
 ·unfold aa;rw[Vr,key];have ha:((ws.map λw=>ak w S).any λc=>decide (c.1<=0))=false:=by rw[List.any_eq_false];intro c hc;have⟨w,SI,rfl⟩:=aan.mp hc;have:=zm (hw w SI) S0;simpa using this
  have hle:B<=S:=by have:=aaJ (show 1<=m by omega) (aau B0);rw[Int.mul_one,<-hm]at this;exact this
  rw[ha,aaB rfl,aaB (show B<=1000000 by omega)];rfl
 ·have⟨w,SI,rfl⟩:=aan.mp hc;have q0:=cZ (t:=w) OK;have l1:=Ff (t:=w) OK;have l2:=zx (t:=w) OK;have:=p3 w SI;have w0:=hw w SI;have big:(1000000:Int) < 2 ^ 200:=@_
  have acn:1000000 < 2 ^ 200:=@_
  exact⟨q0,(),()⟩
def eL{α:Type}{te:DE}{cs:En}{ok:Ms->Prop}{F:Dt->α->Prop}{f:α->Dt}{M:Ms}{k:List Dt->Ms->Prop}(ho:ok M)(ht:∀x a,F x a->∀q:DQ,q (f a) M->te (some x::cs) M q jh):∀{xs:List Dt} {as:List α} {acc:List Dt},Paired F xs as->k (acc++as.map f) M->kB te cs ok xs acc M k
 | _,_,acc,.nil,h=>⟨ho,by simpa using h⟩
 | _,_,acc,.cons r t,h=>⟨ho,ht _ _ r _ (eL ho ht t (by simpa using h))⟩
def zp{k:Nat}{C C':Addr}{ns':List Str}{xs':List Dt}{e:Dt}{ys:List Dt}{ok:Ms->Prop}(hk:M[k]? =some (.ins C ns xs))(h:iC M e=some (ys,ok)):iC (M.set k (.ins C' ns' xs')) e=some (ys,ok):=by
 cases e with
 | lst ds=>exact h
 | hW ns=>exact h
 | loc j=>
  have h:(match M[j]? with| some (.lst xs)=>some (xs,λM':Ms=>M'[j]? =some (.lst xs))| _=>none)=some (ys,ok):=h;have ne:k≠j:=λz=>by subst z;rw[hk]at h;cases h
  show(match (M.set k (.ins C' ns' xs'))[j]? with| some (.lst xs)=>some (xs,λM':Ms=>M'[j]? =some (.lst xs))| _=>none)=some (ys,ok);rw[abb ne];exact h
 | _=>cases h
def C_{k:Nat}{C C':Addr}{ns':List Str}{xs':List Dt}{r:Rw}(hk:M[k]? =some (.ins C ns xs))(h:iY M d r):iY (M.set k (.ins C' ns' xs')) d r:=by
 cases r with
 | fin p=>exact h
 | Α k' ds=>
  have⟨e,ok,h1,h2⟩:=h;exact⟨e,ok,h1,zp hk h2⟩
def Dz{C:Addr}{f:Str}{ρ:En}{v:Dt}{ds:List Dt}{ok:Ms->Prop}{q:List Dt->(Ms->Prop)->Ms->Prop}{x:DX}(hv:ρ[i]? =some (some d))(ho:KS C M d ns ds)(hf:(ns.zip ds).lookup f=some v)(hl:iC M v=some (xs,ok))(h:q xs ok M):gw (NS C f (lx i)) ρ M q x:=by unfold gw NS lx;rw[hv];refine⟨ns,ds,v,ho,hf,?_⟩;show(match js M v with| some (xs,ok)=>q xs ok M| none=>False);rw[mX hl];exact h
def ah(C:Addr)(ε:Fr)(γ:List Rw):Dt:=.obj C ["kept_share","kept_rows"] [aj ε,.lst (γ.map aX)]
def He(Cm:Addr):DF:=λas M q _=>∃k d ε ds γ ok,as=[.loc k,aj ε,d]/\M[k]? =some (.ins Cm [] [])/\iC M d=some (ds,ok)/\Paired (iY M) ds γ/\h_ ε=true/\1<=γ.length/\γ.length<=12/\
 (∀r∈γ,fU r/\fk r γ.length=true)/\q .aJ (M.set k (.ins Cm ["kept_share","kept_rows"] [aj ε,.lst (γ.map aX)]))
def gC:Γ ["self","share","rows","place","row"] ["self","share","rows"] (τ kW):=.of rfl
def vM(F:cQ K "__init__" "Floor.__init__" kW f fd)(E:Ev K mg Cm){A7:Addr}{z5:FuncData}(jB:aC P w K mg base 1 "fits_share" ["share"] qK A7 z5){G9:Addr}{Ia:FuncData}(n9:aC P w K mg base 4 "fits_row" ["row","size"] xG G9 Ia){lM:Addr}{lT:FuncData}(dH:aC P w K mg base 1 "copied_row" ["row"] lh lM lT):av P w K mg base (ck P w) 5 f fd ["self","share","rows"] (cP K (He Cm)):=by
 refine F.eB gC (λds M q x h=>?_) (λbw A outer s H E' hr=>⟨_,(ζ (aI (sA (fY (Φ jB hr ξ (Η (jv 1) η)))) (μ fT) Ξ)
   (ζ (aI (JW.jt (jC (mK (fJ E.dz (Η (jv 2) η)) υ) (iF (GQ (fJ E.dz (Η (jv 2) η)) (rZ E.mQ))))) (μ fT) Ξ)
   (ζ (cH (mw E.bW (Η (jv 2) η)) (lD rfl (bD (ay (i:=3) gC.nd rfl (Or.inl rfl)) (bD (ay (i:=4) gC.nd rfl (Or.inl rfl)) iR))) kZ (μ (aI (sA (fY (Φ n9 hr ξ (Η (jv 4) (θ (fJ E.dz (Η (jv 2) η)) η cf))))) (μ fT) Ξ)))
   (ζ (BK E.eW E.hV (jv 0) (jv 1))
   (μ (BK E.eW E.cF (jv 0) (jZ (ys:=[]) (Μ:=[]) (.of gC rfl rfl rfl) (bR (jv 2)) (λC s H fp=>(cX (Φ dH hr (cJ (P:=P) (w:=w)) (Η (jv 0) η))))))))))),λds M q x h=>?_⟩)
 ·have⟨k,d,ε,ds,γ,ok,rfl,_⟩:=h;rfl
 ·have⟨k,d,ε,ds,γ,ok,rfl,hk,hl,hp,hs,h1,h12,x6,h⟩:=h;have hlen:ds.length=γ.length:=Paired.length hp;walk_at "vc";refine⟨ε,rfl,λz=>?_,λ_=>?_⟩
  ·rw[hs]at z;exact nomatch z
  have P4:=ni hl;refine bf P4 ⟨λz=>?_,λ_=>?_⟩
  ·have:(ds.length:Int) < 1:=by simpa using z
   omega
  refine bf P4 ⟨λz=>?_,λ_=>?_⟩
  ·have:12 < (ds.length:Int):=by simpa using z
   omega
  refine⟨d,ds,ok,rfl,hl,?_⟩;refine bC (λxs ρ M'=>M'=M/\∃n Kr BI a b,xs=gG n Kr/\Paired (iY M) Kr BI/\(∀r∈BI,r∈γ)/\ρ=[some (.loc k),some (aj ε),some d,a,b]) (λxs ρ M' hj=>by have⟨rfl,_⟩:=hj;exact p7 hl) (λx xs ρ M' hj iE=>?_) (λρ M' hj=>?_) _ _ _ ⟨rfl,0,ds,γ,none,none,rfl,hp,λ_ h=>h,rfl⟩
  ·have⟨rfl,n,Kr,BI,a,b,ex,wB,SW,rfl⟩:=hj;cases wB with
   | nil=>cases ex
   | cons ra t=>
    rename_i d1 r1 YS Pw;cases ex;refine bf P4 ⟨d1,r1,ds.length,rfl,ra,(x6 r1 (SW r1 aae)).1,λz=>?_,λ_=>?_⟩
    ·rw[hlen,(x6 r1 (SW r1 aae)).2]at z;exact nomatch z
    ·exact iE _ _ ⟨rfl,n+1,YS,Pw,_,_,rfl,t,λr hr=>SW r (aad _ hr),rfl⟩
  ·have⟨rfl,n,Kr,BI,a,b,ex,wB,SW,rfl⟩:=hj;have hkl:k < M'.length:=(aaf.mp hk).1;refine⟨k,[],[],rfl,hk,(nofun),@_,?_⟩;have UK:=zp (C':=Cm) (ns':=["kept_share"]) (xs':=[aj ε]) hk hl;dsimp only[Le,List.nil_append];show gw _ _ _ _ _;refine cN (i:=2) rfl UK ⟨by rw[hlen];exact aaA h12 @_,?_⟩;have Tz:Paired (λx a=>iY (M'.set k (.ins Cm ["kept_share"] [aj ε])) x a/\fU a) ds γ:=by
    have:∀{xs:List Dt} {rs:List Rw},Paired (iY M') xs rs->(∀r∈rs,fU r)->Paired (λx a=>iY (M'.set k (.ins Cm ["kept_share"] [aj ε])) x a/\fU a) xs rs:=by
     intro xs rs hp
     induction hp with
     | nil=>exactλ_=>.nil
     | cons r t ih=>exactλh=>.cons ⟨C_ hk r,h _ aae⟩ (ih λy hy=>h y (aad _ hy))
    exact this hp λr hr=>(x6 r hr).1
   refine eL (f:=aX) (p7 UK) (λx a ha q' hq=>?ht) Tz ?fin
   case ht=>
    have⟨ha,ho⟩:=ha;refine⟨x,a,rfl,ha,ho,?_⟩;cases a with
    | fin p=>exact Kj ⟨trivial,jJ p,trivial⟩ hq
    | Α k2 yT=>exact gX (.tup (.cons (.old trivial) (.cons (.vK (Nat.le_refl _) (by simp) (fg.old (dQ yT))) .nil))) hq
   case fin=>
    refine⟨k,["kept_share"],[aj ε],rfl,by rw[aa0 hkl],@_,@_,?_⟩;rw[List.set_set];exact h
def kindOf:Rw->Str
 | .fin _=>"end"
 | .Α k _=>k
def au:Rw->List aS
 | .fin _=>[]
 | .Α _ ds=>ds
def mz:Nat->List Rw->List Dt
 | _,[]=>[]
 | n,.fin p::r=>.tup [.str "end",aj p]::mz n r
 | n,.Α k _::r=>.tup [.str k,.loc n]::mz (n+1) r
def ky:List Rw->Ms
 | []=>[]
 | .fin _::r=>ky r
 | .Α _ ds::r=>.lst (ds.map dh)::ky r
def BO{γ:List Rw}{r:Rw}(h:γ[i]? =some r):(γ.map aX)[i]? =some (aX r):=by rw[aak,h];rfl
def Ow{r:Rw}:∃e,aX r= .tup [.str (kindOf r),e]:=by
 cases r with
 | fin p=>exact⟨_,rfl⟩
 | Α k ds=>exact⟨_,rfl⟩
def rR(C:Addr):DF:=λas M q _=>∃ε γ,as=[ah C ε γ]/\q (.int γ.length) M
def yO:Γ ["self"] ["self"] (τ md):=.of rfl
def wt(F:cQ K "size" "Floor.size" md f fd)(E:Ev K mg Cm):av P w K mg base (ck P w) 1 f fd ["self"] (cP K (rR Cm)):=by
 refine F.eB yO (λds M q x h=>?_) (λbw A outer s H E' hr=>⟨_,(μ (Δ (fJ E.dz (θ (xW E.eW E.cF (jv 0)) η)))),λds M q x h=>?_⟩)
 ·have⟨ε,γ,rfl,_⟩:=h;rfl
 ·have⟨ε,γ,rfl,h⟩:=h;refine⟨_,_,_,.inl rfl,rfl,?_⟩;show lI [.lst (γ.map aX)] M _;refine bf (xs:=γ.map aX) rfl ?_;rw[aag];exact h
def ID(C:Addr):DF:=λas M q _=>∃ε γ,as=[ah C ε γ]/\q (aj ε) M
def u7:Γ ["self"] ["self"] (τ ju):=.of rfl
def tQ(F:cQ K "share" "Floor.share" ju f fd)(E:Ev K mg Cm):av P w K mg base (ck P w) 1 f fd ["self"] (cP K (ID Cm)):=by
 refine F.eB u7 (λds M q x h=>?_) (λbw A outer s H E' hr=>⟨_,(μ (Δ (xW E.eW E.hV (jv 0)))),λds M q x h=>?_⟩)
 ·have⟨ε,γ,rfl,_⟩:=h;rfl
 ·have⟨ε,γ,rfl,h⟩:=h;exact⟨_,_,_,.inl rfl,rfl,h⟩
def qt(C:Addr):DF:=λas M q _=>∃ε γ i r,as=[ah C ε γ,.int (i:Nat)]/\γ[i]? =some r/\q (.str (kindOf r)) M
def xR:Γ ["self","place"] ["self","place"] (τ kK):=.of rfl
def vX(F:cQ K "kind" "Floor.kind" kK f fd)(E:Ev K mg Cm):av P w K mg base (ck P w) 1 f fd ["self","place"] (cP K (qt Cm)):=by
 refine F.eB xR (λds M q x h=>?_) (λbw A outer s H E' hr=>⟨_,(μ (Δ (Ρ (Ρ (xW E.eW E.cF (jv 0)) (jv 1)) υ))),λds M q x h=>?_⟩)
 ·have⟨ε,γ,i,r,rfl,_⟩:=h;rfl
 ·have⟨ε,γ,i,r,rfl,hi,h⟩:=h;refine⟨_,_,_,.inl rfl,rfl,?_⟩;walk_at "vc";refine Ε (xs:=γ.map aX) rfl (az (BO hi)) ?_;have⟨e,er⟩:=Ow (r:=r);rw[er];exact h
def qy(C:Addr):DF:=λas M q _=>∃ε γ i r,as=[ah C ε γ,.int (i:Nat)]/\γ[i]? =some r/\fU r/\q (.loc M.length) (M++[.lst ((au r).map dh)])
def wR:Γ ["self","place"] ["self","place"] (τ jy):=.of rfl
def tM(F:cQ K "doors" "Floor.doors" jy f fd)(E:Ev K mg Cm)(Ψ:e7 P w K mg base 1 Cm "kind" ["self","place"] (qt Cm) bc ba):av P w K mg base (ck P w) 2 f fd ["self","place"] (cP K (qy Cm)):=by
 refine F.eB wR (λds M q x h=>?_) (λbw A outer s H E' hr=>⟨_,(ζ (aI (cU hr (fQ Ψ hr ξ (jv 0) (Η (jv 1) η)) mH) (μ (Δ (vt η))) Ξ)
   (μ (Δ (GA E.oQ (θ (Ρ (Ρ (xW E.eW E.cF (jv 0)) (jv 1)) υ) η aU))))),λds M q x h=>?_⟩)
 ·have⟨ε,γ,i,r,rfl,_⟩:=h;rfl
 ·have⟨ε,γ,i,r,rfl,hi,ro,h⟩:=h;refine⟨⟨_,_,.inl rfl,rfl⟩,ε,γ,i,r,rfl,hi,?_⟩;cases r with
  | fin p=>exact⟨λ_=>⟨@_,h⟩,nofun⟩
  | Α k ds=>
   refine⟨λz=>aaE (aas z) ro.1,λ_=>?_⟩;refine⟨_,_,_,.inl rfl,rfl,?_⟩;walk_at "vc";refine Ε (xs:=γ.map aX) rfl (az (BO hi)) ?_;exact h
def qW{te:DE}{cs:En}{k:List Dt->Ms->Prop} (ht:∀r M (q:DQ),fU r->(match r with
  | .fin p=>q (.tup [.str "end",aj p]) M
  | .Α k ds=>q (.tup [.str k,.loc M.length]) (M++[.lst (ds.map dh)]))->te (some (aX r)::cs) M q jh):∀(γ:List Rw) (acc:List Dt) (M:Ms),(∀r∈γ,fU r)->k (acc++mz M.length γ) (M++ky γ)->kB te cs (λ_=>True) (γ.map aX) acc M k
 | [],acc,M,_,h=>⟨trivial,by simpa [mz,ky] using h⟩
 | r::γ,acc,M,ho,h=>by
  refine⟨trivial,ht r M _ (ho r aae) ?_⟩;cases r with
  | fin p=>
   refine qW ht γ _ M (λr hr=>ho r (aad _ hr)) ?_;simpa [mz,ky] using h
  | Α k' ds=>
   refine qW ht γ _ _ (λr hr=>ho r (aad _ hr)) ?_;simpa [mz,ky] using h
def Lj(C:Addr):DF:=λas M q _=>∃ε γ,as=[ah C ε γ]/\γ.length<=12/\(∀r∈γ,fU r)/\q (.loc (M.length+(ky γ).length)) (M++ky γ++[.lst (mz M.length γ)])
def o8:Γ ["self"] ["self"] (τ lj):=.of rfl
def vN(F:cQ K "rows" "Floor.rows" lj f fd)(E:Ev K mg Cm){lM:Addr}{lT:FuncData}(dH:aC P w K mg base 1 "copied_row" ["row"] lh lM lT):av P w K mg base (ck P w) 2 f fd ["self"] (cP K (Lj Cm)):=by
 refine F.eB o8 (λds M q x h=>?_) (λbw A outer s H E' hr=>⟨_,(μ (Δ (E8 (ys:=[]) (Μ:=[]) (.of o8 rfl rfl rfl) (bR (xW E.eW E.cF (jv 0))) (λC s H fp=>(Φ dH hr (cJ (P:=P) (w:=w)) (Η (jv 0) η)))))),λds M q x h=>?_⟩)
 ·have⟨ε,γ,rfl,_⟩:=h;rfl
 ·have⟨ε,γ,rfl,hz,ho,h⟩:=h;walk_at "vc";refine Dz (i:=0) (d:=ah Cm ε γ) rfl (.inl rfl) rfl rfl ⟨by rw[aag];exact aaA hz @_,?_⟩;refine qW (λr M q hr hq=>⟨aX r,r,rfl,vC M r,hr,by cases r <;> exact hq⟩) γ [] M ho ?_;rw[aaS,aah];exact h
def jI{α:Type}(f:α->Dt):∀(xs ys:List α),(∀x∈xs,x∈ys)->Paired (λx a=>x=f a/\a∈ys) (xs.map f) xs
 | [],_,_=>.nil
 | x::xs,ys,h=>.cons ⟨rfl,h x aae⟩ (jI f xs ys λy hy=>h y (aad _ hy))
def eK{q:DQ}{ds:List Dt}(u:Dt.bo M.length ds)(h:q (.lst ds) M):u9 M q (.loc M.length) (M++[.lst ds]):=gX (.vK (aai _) (by rw[abH];rfl) (fg.old u)) h
def ur{d:aS}{q:DQ}(h:q (.int d.1) M):e_ (dh d) (.int 0) M q:=Ε (xs:=.int d.1::aj d.2.1::d.2.2.map aj) rfl cC h
def Q5{k:Str}{e:Dt}{q:DQ}(h:q e M):e_ (.tup [.str k,e]) (.int 1) M q:=Ε (xs:=[.str k,e]) rfl (az (j:=1) rfl) h
def ix{g:Dt->En->(En->Prop)->Prop}{tb:DS}{Dn:kD}(J:List Dt->En->Ms->Prop)
  (step:∀x xs ρ M,J (x::xs) ρ M->(∀ρ M,J xs ρ M->v8 g tb Dn xs ρ M)->g x ρ λρ'=>tb {Dn with nx:=v8 g tb Dn xs,ct:=v8 g tb Dn xs,bk:=Dn.nx} ρ' M)
  (fin:∀ρ M,J [] ρ M->Dn.nx ρ M):∀(xs:List Dt) (ρ:En) (M:Ms),J xs ρ M->v8 g tb Dn xs ρ M
 | [],ρ,M,h=>fin _ _ h
 | x::xs,ρ,M,h=>step x xs ρ M h λρ' M' h'=>ix J step fin xs ρ' M' h'
def iz{lo:Int}{x:Dt}(h:x::xs=cM lo n):∃m,n=m+1/\x= .int lo/\xs=cM (lo+1) m:=by
 cases n with
 | zero=>exact nomatch h
 | succ m=>
  unfold cM at h;rw[abt,aaW,aaT]at h;cases h;refine⟨m,rfl,by simp,?_⟩;unfold cM;apply aaZ;intro k _;show Dt.int (lo+((k+1:Nat):Int))=Dt.int (lo+1+(k:Int))
  congr 1
  omega
def jR{lo:Int}{x:Dt}(h:x∈cM lo n):∃k:Nat,k < n/\x= .int (lo+k):=by unfold cM at h;have⟨k,hk,rfl⟩:=aan.mp h;exact⟨k,aba.mp hk,rfl⟩
def dU{lo:Int}:(cM lo n).length=n:=by unfold cM;simp
def xh{n:Nat}:∀(xs:List Int),Dt.bo n (xs.map Dt.int)
 | []=>trivial
 | _::xs=>⟨trivial,xh xs⟩
def wy(sH:Int)(r:Rw):Prop:=fU r/\fk r sH=true
def Jb{k:Str}{ds:List aS}{sH:Int}(hk:Χ k=true)(hz:1<=ds.length)(Ti:ds.length<=6)(hd:∀d∈ds,aR d.1 d.2.1 sH=true)(hs:∀d∈ds,d.2.2=[]/\0 < d.2.1.2):wy sH (.Α k ds):=by
 have fd:Ν ds sH=true:=by unfold Ν;rw[aaB hz,aaB Ti,aa2.mpr hd];rfl
 have ne:k≠"end"/\k≠"chance":=by refine⟨λz=>?_,λz=>?_⟩ <;> (subst z;exact aaE hk @_)
 refine⟨⟨ne.1,(),λz=>aaE z ne.2,λd h=>⟨by rw[(hs d h).1];exact ab8 _,(hs d h).2⟩⟩,?_⟩;show(if Χ k then _ else _)=true;rw[aaw hk];exact fd
def uA{ds:List aS}{sH:Int}(hz:1<=ds.length)(Ti:ds.length<=6)(hd:∀d∈ds,aR d.1 d.2.1 sH=true)(h1:∀d∈ds,d.2.2=[χ d])(hc:aa (ds.map χ)=true)(ho:OZ (ds.map χ))(hp:∀d∈ds,0 < d.2.1.2):wy sH (.Α "chance" ds):=by
 have fd:Ν ds sH=true:=by unfold Ν;rw[aaB hz,aaB Ti,aa2.mpr hd];rfl
 refine⟨⟨@_,(),λ_=>⟨h1,ho⟩,λd h=>⟨by rw[h1 d h];exact aai _,hp d h⟩⟩,?_⟩;have e:fk (.Α "chance" ds) sH=(Ν ds sH&&aa (ds.map χ)):=by dsimp only[fk];rw[aay @_,aaw rfl]
 rw[e,fd,hc];rfl
def mi{xs:List Int}(h:j < xs.length):jf (xs.map Dt.int) (j:Int)=some (.int xs[j]):=az (by rw[aak,aaa h];rfl)
def Sz(k:Nat)(p:Fr):Prop:=p.1.natAbs < 2 ^ k/\0 < p.2/\p.2.natAbs < 2 ^ k
def eE(p q:Fr):Fr:=ak (p.1 * q.1) (p.2 * q.2)
def dj(p q:Fr):Bool:=decide (p.1 * q.2 < q.1 * p.2)
def vF{k k':Nat}{p:Fr}(h:Sz k p)(hk:k<=k'):Sz k' p:=
 ⟨aat h.1 (abx @_ hk),h.2.1,aat h.2.2 (abx @_ hk)⟩
def dc{a b k l:Nat}(h:a < 2 ^ k)(h':b < 2 ^ l):a * b < 2 ^ (k+l):=by rw[Nat.pow_add];exact Nat.mul_lt_mul'' h h'
def AD{p q:Fr}{k l:Nat}(hp:Sz k p)(hq:Sz l q):(p.1 * q.1).natAbs < 2 ^ (k+l)/\(p.2 * q.2).natAbs < 2 ^ (k+l)/\0 < p.2 * q.2:=by have a:=dc hp.1 hq.1;have c:=dc hp.2.2 hq.2.2;exact⟨by rw[abj];exact a,by rw[abj];exact c,abo hp.2.1 hq.2.1⟩
def iK{p:Fr}{k:Nat}(h:Sz k p)(hk:k<=8000):i4 p.1:=bg h.1 hk
def fi{p:Fr}{k:Nat}(h:Sz k p)(hk:k<=8000):i4 p.2:=bg h.2.2 hk
def Fh:DF:=λas M q _=>∃p r k l,as=[aj p,aj r]/\Sz k p/\Sz l r/\k+l+1<=8000/\q (aj (eE p r)) M
def J_:Γ ["one","other"] ["one","other"] (τ BB):=.of rfl
def E9(F:cQ K "times" "times" BB f fd)(E:Ev K mg Cm)(bZ:aC P w K mg base 2 "fraction" ["top","bottom"] tS iw h8):av P w K mg base (ck P w) 3 f fd ["one","other"] (cP K Fh):=by
 refine F.eB J_ (λds M q x h=>?_) (λbw A outer s H E' hr=>⟨_,(μ (Δ (Φ bZ hr ξ (θ (cW (Ρ (jv 0) υ) (Ρ (jv 1) υ)) (θ (cW (Ρ (jv 0) υ) (Ρ (jv 1) υ)) η bM) bM)))),λds M q x h=>?_⟩)
 ·have⟨p,r,k,l,rfl,_⟩:=h;rfl
 ·have⟨p,r,k,l,rfl,hp,p9,hk,h⟩:=h;have⟨a,b,c⟩:=AD hp p9;refine⟨⟨iK hp (),iK p9 ()⟩,⟨fi hp (),fi p9 ()⟩,bg b (),λz=>aaE z (),λ_=>h⟩
def gW(p q:Fr):Fr:=ak (p.1 * q.2 - q.1 * p.2) (p.2 * q.2)
def Bt{p q:Fr}{k l:Nat}(hp:Sz k p)(hq:Sz l q):(p.1 * q.2 - q.1 * p.2).natAbs < 2 ^ (k+l+1)/\(p.2 * q.2).natAbs < 2 ^ (k+l+1)/\0 < p.2 * q.2:=by
 have a:=dc hp.1 hq.2.2;have b:=dc hq.1 hp.2.2;have c:=dc hp.2.2 hq.2.2;rw[Nat.add_comm l k]at b;have e:(2:Nat) ^ (k+l+1)=2 ^ (k+l)+2 ^ (k+l):=by rw[Nat.pow_succ];omega
 have hn:(p.1 * q.2 - q.1 * p.2).natAbs<=(p.1 * q.2).natAbs+(q.1 * p.2).natAbs:=()
 rw[abj,abj]at hn;refine⟨by rw[e];omega,?_,abo hp.2.1 hq.2.1⟩;rw[abj,e];omega
def FY:DF:=λas M q _=>∃p r k l,as=[aj p,aj r]/\Sz k p/\Sz l r/\k+l+1<=8000/\q (aj (gW p r)) M
def KR:Γ ["one","other"] ["one","other"] (τ A1):=.of rfl
def Iz(F:cQ K "minus" "minus" A1 f fd)(E:Ev K mg Cm)(bZ:aC P w K mg base 2 "fraction" ["top","bottom"] tS iw h8):av P w K mg base (ck P w) 3 f fd ["one","other"] (cP K FY):=by
 refine F.eB KR (λds M q x h=>?_) (λbw A outer s H E' hr=>⟨_,(μ (Δ (Φ bZ hr ξ (θ (eT (cW (Ρ (jv 0) υ) (Ρ (jv 1) υ)) (cW (Ρ (jv 1) υ) (Ρ (jv 0) υ))) (θ (cW (Ρ (jv 0) υ) (Ρ (jv 1) υ)) η bM) bM)))),λds M q x h=>?_⟩)
 ·have⟨p,r,k,l,rfl,_⟩:=h;rfl
 ·have⟨p,r,k,l,rfl,hp,p9,hk,h⟩:=h;have⟨a,b,c⟩:=Bt hp p9;refine⟨⟨iK hp (),fi p9 ()⟩,⟨iK p9 (),fi hp ()⟩,⟨fi hp (),fi p9 ()⟩,bg b hk,λz=>aaE z (),λ_=>h⟩
def jU(B:Int)(c:Fr):Int:=c.1 * (B / c.2)
structure C4(cs:List Fr):Prop where
 pos:∀c∈cs,0 < jU (aY cs) c
 sum:(cs.map (jU (aY cs))).sum=aY cs
 b0:0 < aY cs
 b1:aY cs<=1000000
 ne:cs≠[]
 EI:OZ cs
def RR{cs:List Fr}(h:aa cs=true)(o:OZ cs)(n:cs≠[]):C4 cs:=by
 unfold aa at h;rw[aaC,aaC,aa4,aa4,Bool.not_eq_true']at h;have⟨h1,h2,h3⟩:=h;have B0:0 < aY cs:=eN cs 1 @_ λc hc=>(o.2 c hc).1;have⟨_,_,hB⟩:=fZ cs 1 0 @_ (abY _) λc hc=>⟨(o.2 c hc).1,abY _⟩;refine⟨λc hc=>?_,h2,B0,h3,n,o⟩;have c1:0 < c.1:=by have:=List.any_eq_false.mp h1 c hc;simpa using this
 exact abo c1 (Int.ediv_pos_of_pos_of_dvd B0 (aau (o.2 c hc).1) (hB c hc))
def val(p:Fr):Rat:=(p.1:Rat) / (p.2:Rat)
structure Red(p:Fr):Prop where
 pos:0 < p.2
 low:Int.gcd p.1 p.2=1
def aT(h:b≠0):(b:Rat)≠0:=λz=>h (Rat.intCast_eq_zero_iff.mp z)
def K6{a c d:Int}(h:a * b=c * d):(a:Rat) * b=c * d:=by rw[<-aaQ,<-aaQ,h]
def ip(h:b≠0):Red (ak t b):=⟨cZ h,yN h⟩
def ig(h:b≠0):val (ak t b)=(t:Rat) / (b:Rat):=by
 have hq:=cZ (t:=t) h;have hx:=K6 (cz (t:=t) h);have h1:=aT h;have h2:=aT (show(ak t b).2≠0 by omega);unfold val;generalize ((ak t b).1:Rat)=x at *
 generalize ((ak t b).2:Rat)=y at *
 generalize (t:Rat)=t' at *
 generalize (b:Rat)=b' at *
 grind
def eR{p q:Fr}(hp:Red p)(hq:Red q)(h:val p=val q):p=q:=by
 have h1:=aT (show p.2≠0 by have:=hp.pos;omega);have h2:=aT (show q.2≠0 by have:=hq.pos;omega);have e:p.1 * q.2=p.2 * q.1:=by
  unfold val at h;have e1:(p.1:Rat) * (q.2:Rat)=(p.2:Rat) * (q.1:Rat):=by
   generalize (p.1:Rat)=a at *
   generalize (p.2:Rat)=b at *
   generalize (q.1:Rat)=c at *
   generalize (q.2:Rat)=d at *
   grind
  rw[<-aaQ,<-aaQ]at e1;exact Rat.intCast_inj.mp e1
 have a:=vZ (show p.2≠0 by have:=hp.pos;omega) hq.pos hq.low e;have b:=Dg hp.pos hp.low;rw[<-Prod.eta p,<-b,a]
def DV{p q:Fr}(hp:0 < p.2)(hq:0 < q.2):val (eE p q)=val p * val q:=by
 unfold eE;rw[ig (aci (abo hp hq))];have h1:=aT (show p.2≠0 by omega);have h2:=aT (show q.2≠0 by omega);rw[aaQ,aaQ];unfold val;generalize (p.1:Rat)=a at *
 generalize (p.2:Rat)=b at *
 generalize (q.1:Rat)=c at *
 generalize (q.2:Rat)=d at *
 grind
def mN(p:Fr)(E:Int):Prop:=∃N,p.1 * E=N * p.2
def uR{N:Int}(h:b≠0)(e:t * E=N * b):mN (ak t b) E:=by
 have hx:=cz (t:=t) h;generalize hf:ak t b=f at *
 have⟨x,y⟩:=f;refine⟨N,?_⟩;show x * E=N * y;have hx:t * y=b * x:=hx;have:b * (x * E)=b * (N * y):=by grind
 exact aaR h this
def C1(p:Fr):mN p p.2:=⟨p.1,rfl⟩
def A0{p q:Fr}{F:Int}(hp:0 < p.2)(hq:0 < q.2)(h:mN p E)(h':mN q F):mN (eE p q) (E * F):=by have⟨N,e⟩:=h;have⟨N',e'⟩:=h';unfold eE;exact uR (N:=N * N') (Int.ne_of_gt (Int.mul_pos hp hq)) (by grind)
def wd{p:Fr}(hp:Red p)(h:mN p E):p.2∣E:=by
 have⟨N,e⟩:=h;have d:p.2∣p.1 * E:=⟨N,by rw[e,abc]⟩;have d2:p.2.natAbs∣p.1.natAbs * E.natAbs:=by rw[<-abj];exact Int.natAbs_dvd_natAbs.mpr d
 have co:Nat.Coprime p.2.natAbs p.1.natAbs:=by have:=hp.low;unfold Int.gcd at this;rw[Nat.coprime_comm];exact this
 exact Int.natAbs_dvd_natAbs.mp (co.dvd_of_dvd_mul_left d2)
def ud(p:Fr)(C:Int):Prop:=p.1<=p.2 * C/\ -(p.2 * C)<=p.1
def HI(h:0 < b)(h1:t<=b * C)(h2: -(b * C)<=t):ud (ak t b) C:=by
 have hx:=cz (t:=t) (show b≠0 by omega);have hq:=cZ (t:=t) (show b≠0 by omega);generalize hf:ak t b=f at *
 have⟨x,y⟩:=f;have hx:t * y=b * x:=hx;have hq:0 < y:=hq;constructor
 ·show x<=y * C;have:=aa1 h1 (aau hq);rw[hx]at this;have e:b * C * y=b * (y * C):=by grind
  rw[e]at this;exact ab6 this h
 ·show -(y * C)<=x;have:=aa1 h2 (aau hq);rw[hx]at this;have e: -(b * C) * y=b * (-(y * C)):=by grind
  rw[e]at this;exact ab6 this h
def fq{a c:Int}(h:a<=b)(hc:0<=c):a * c<=b * c:=aa1 h hc
def lB(c:Fr):Prop:=0<=c.1/\c.1<=c.2
def zL{c s:Fr}(hc:0 < c.2)(hs:0 < s.2)(u:lB c)(v:lB s):lB (eE c s):=by
 unfold eE;have hx:=cz (t:=c.1 * s.1) (aci (abo hc hs));have hq:=cZ (t:=c.1 * s.1) (aci (abo hc hs));have t0:0<=c.1 * s.1:=abA u.1 v.1
 have t1:c.1 * s.1<=c.2 * s.2:=abW (fq u.2 v.1) (by
  have:=fq v.2 (aau hc)
  rw[abc c.2 s.1,abc c.2 s.2];exact this)
 have bp:=abo hc hs;generalize c.1 * s.1=t at *
 generalize c.2 * s.2=b at *
 generalize hf:ak t b=f at *
 have⟨x,y⟩:=f;have hx:t * y=b * x:=hx;have hq:0 < y:=hq;constructor
 ·show 0<=x;rcases Int.lt_or_le x 0 with z| z
  ·have:=ab5 bp z;have:=abA t0 (aau hq);omega
  ·exact z
 ·show x<=y;have:=fq t1 (aau hq);rw[hx]at this;exact ab6 this bp
def Q9{p:Fr}{k:Nat}(r:Red p)(h:mN p E)(e0:0 < E)(e1:E < 2 ^ k)(a:ud p C)(c0:0<=C)(c1:C < 2 ^ m):Sz (k+m) p:=by
 have d:=ab1 e0 (wd r h);have rp:=r.pos;have b1:p.2.natAbs < 2 ^ k:=by
  have:(p.2.natAbs:Int) < ((2 ^ k:Nat):Int):=by rw[abd (aau rp)];exact abp d (by exact_mod_cast e1)
  exact abN.mp this
 have b2:C.natAbs < 2 ^ m:=by
  have:(C.natAbs:Int) < ((2 ^ m:Nat):Int):=by
   rw[abd c0]
   exact_mod_cast c1
  exact abN.mp this
 have b3:=dc b1 b2;refine⟨?_,rp,aat b1 (abx @_ (abr _ _))⟩;refine aa7 ?_ b3;rw[<-abj];have q0:0<=p.2 * C:=abA (aau rp) c0;have:=a.1;have:=a.2;omega
def Qh{cs:List Fr}(h:j < cs.length):jf (cs.map aj) (j:Int)=some (aj cs[j]):=az (by rw[aak,aaa h];rfl)
def Qt{ds:List aS}(h:j < ds.length):jf (ds.map dh) (j:Int)=some (dh ds[j]):=az (by rw[aak,aaa h];rfl)
structure RE(ε:Fr)(γ:List Rw):Prop where
 sh:h_ ε=true
 len:γ.length<=12
 row:∀r∈γ,fU r/\fk r γ.length=true
structure Rn(γ:List Rw)(k:Str)(ds:List aS):Prop where
 ro:fU (.Α k ds)
 l1:1<=ds.length
 l6:ds.length<=6
 kd:Χ k=true\/(Χ k=false/\k="chance"/\C4 (ds.map χ))
 to:∀d∈ds,0<=d.1/\d.1 < γ.length
 py:∀d∈ds,aD d.2.1=true/\0 < d.2.1.2
def cY{ε:Fr}{γ:List Rw}{k:Str}{ds:List aS}(f:RE ε γ)(h:Rw.Α k ds∈γ):Rn γ k ds:=by
 have⟨ro,h2⟩:=f.row _ h;have h2:(if Χ k then Ν ds γ.length else if k="chance" then Ν ds γ.length&&aa (ds.map χ) else false)=true:=h2;have key:Ν ds γ.length=true/\(Χ k=true\/(Χ k=false/\k="chance"/\aa (ds.map χ)=true)):=by
  by_cases hk:Χ k=true
  ·rw[aaw hk]at h2;exact⟨h2,.inl hk⟩
  ·rw[aay hk]at h2;by_cases hc:k="chance"
   ·rw[if_pos hc,Bool.and_eq_true]at h2;exact⟨h2.1,.inr ⟨by simpa using hk,hc,h2.2⟩⟩
   ·rw[aay hc]at h2;cases h2
 have⟨fd,hk⟩:=key;unfold Ν at fd;rw[aaC,aaC,aa4,aa4]at fd;have⟨⟨d1,d6⟩,fa⟩:=fd;have each:∀d∈ds,0<=d.1/\d.1 < γ.length/\aD d.2.1=true:=λd hd=>by have h3:=aa2.mp fa d hd;unfold aR at h3;rw[aaC,aaC,aa4,aa4]at h3;exact⟨h3.1,h3.2.1,h3.2.2⟩
 refine⟨ro,d1,d6,?_,λd hd=>⟨(each d hd).1,(each d hd).2.1⟩,λd hd=>⟨(each d hd).2.2,(ro.2.2.2 d hd).2⟩⟩;rcases hk with hk| ⟨hk,hc,hf⟩
 ·exact .inl hk
 ·refine .inr ⟨hk,hc,RR hf (ro.2.2.1 hc).2 λz=>?_⟩;have:=aaU List.length z;rw[aag]at this;have:ds.length=0:=this;omega
def Ka{α:Type}(xs:List α)(a:α)(f:α->Dt):(cM 0 xs.length).map (λx=>match x with| .int j=>f (xs.getD j.toNat a)| _=>.aJ)=xs.map f:=by
 unfold cM;rw[aaT];apply aa8
 ·simp
 ·intro i h1 h2;simp only[List.getElem_map,List.getElem_range,Function.comp];rw[show(0+(i:Int)).toNat=i by omega];have hi:i < xs.length:=by simpa using h2
  rw[aab,aaa hi];rfl
abbrev d0:aS:=(0,(0,1),[])
def nO(h:p < n):Gw n (p:Int)=some p:=by unfold Gw;rw[aaw (),aaw (),aaL]
def Ij(h:zH M d=some xs):gZ M d=some xs:=by cases d <;> first| exact h| cases h
def FV(h:zH M d=some xs):pM M d=some xs:=by cases d <;> first| exact h| cases h
def ao{o:MO}:(M++[o])[M.length]? =some o:=by simp
def mG{k:Nat}(h:M[k]? =some (MO.lst xs)):zH M (.loc k)=some xs:=by show(match M[k]? with| some (MO.lst xs)=>some xs| _=>none)=some xs;rw[h]
def bX{a c:MO}:(M++[a]).set M.length c=M++[c]:=by simp[List.set_append]
def Ox{E:Ms}{o:MO}:(M++o::E)[M.length]? =some o:=by simp
def Kc{E:Ms}{o c:MO}:(M++o::E).set M.length c=M++c::E:=by simp[List.set_append]
abbrev b6(l:List Int):Dt:=.lst (l.map Dt.int)
abbrev i_(ls:List (List Int)):Dt:=.lst (ls.map b6)
def Cb{ls:List (List Int)}(h:j < ls.length):jf (ls.map b6) (j:Int)=some (b6 ls[j]):=az (by rw[aak,aaa h];rfl)
def iS{n:Nat}:∀(ls:List (List Int)),Dt.bo n (ls.map b6)
 | []=>trivial
 | l::ls=>⟨xh l,iS ls⟩
abbrev cD:=Bz.cD
def xJ(h:i < n):((List.replicate (n:Int).toNat [Dt.int 0]).flatten).set i (Dt.int 1)=(cD n i).map Dt.int:=by
 have e:(List.replicate (n:Int).toNat [Dt.int 0]).flatten=List.replicate n (Dt.int 0):=by
  rw[show((n:Int)).toNat=n by omega];clear h
  induction n with
  | zero=>rfl
  | succ n ih=>rw[abe,abu,ih];rfl
 rw[e];unfold cD Bz.cD;apply aa8
 ·simp
 ·intro j h1 h2;rw[List.getElem_set];simp only[List.getElem_replicate,List.getElem_map,List.getElem_range,Bz.ind];split <;> rfl
def LL:DF:=λas M q _=>∃γ:List (List Int),as=[i_ γ]/\γ.length<=12/\(∀r∈γ,r.length<=13)/\∀E,q (.loc M.length) (M++MO.lst (((List.range γ.length).map λi=>γ.getD i []++cD γ.length i).map b6)::E)
def c7:Γ ["rows","told","number","row","weights"] ["rows"] (τ iH):=.of rfl
def rC(F:cQ K "with_weights" "with_weights" iH f fd)(E:Ev K mg Cm):av P w K mg base (ck P w) 1 f fd ["rows"] (cP K LL):=by
 refine F.eB c7 (λds M q x h=>?_) (λbw A outer s H E' hr=>⟨_,(ζ (Β 1 c7.nd (vt η))
   (ζ (cH (mw E.bW (Η (jv 0) η)) (lD rfl (bD (ay (i:=2) c7.nd rfl (Or.inl rfl)) (bD (ay (i:=3) c7.nd rfl (Or.inl rfl)) iR))) kZ (ζ (Β 4 c7.nd (Bx (gM 3 (d:=.lst [.int 0]) (by rfl)) (fJ E.dz (Η (jv 0) η))))
   (ζ (ik (jv 4) (jv 2) υ)
   (μ (dX (iq (jv 1) (θ (me (jv 3) (jv 4)) η bM)))))))
   (μ (Δ (jv 1))))),λds M q x h=>?_⟩)
 ·have⟨γ,rfl,_⟩:=h;rfl
 ·have⟨γ,rfl,r12,r13,h⟩:=h;refine⟨@_,?_⟩;refine⟨i_ γ,γ.map b6,λ_=>True,rfl,rfl,?_⟩;refine bC (λxs ρ M'=>∃(k:Nat) (rest:List (List Int)) (E:Ms) (o1 o2 o3:Option Dt),xs=gG k (rest.map b6)/\γ.drop k=rest/\k<=γ.length/\M'=M++MO.lst (((List.range k).map λi=>γ.getD i []++cD γ.length i).map b6)::E/\ρ=[some (i_ γ),some (.loc M.length),o1,o2,o3]) (λxs ρ M' hj=>trivial) (λx xs ρ M' hj iE=>?_) (λρ M' hj=>?_) _ _ _ ⟨0,γ,[],none,none,none,rfl,rfl,ab8 _,rfl,rfl⟩
  ·have⟨k,rest,E,o1,o2,o3,ex,hd,hk,rfl,rfl⟩:=hj;cases rest with
   | nil=>cases ex
   | cons r rest=>
    cases ex;have B_:k < γ.length:=by
     rcases Nat.lt_or_ge k γ.length with z| z
     ·exact z
     ·rw[List.drop_of_length_le z]at hd;cases hd
    have rk:γ[k]=r:=by have:=abi B_;rw[hd]at this;exact(List.cons.inj this).1.symm
    have rg:γ.getD k []=r:=by rw[aab,aaa B_,rk];rfl
    have acu:=r13 r (by rw[<-rk];exact aaq B_);have zD:γ.drop (k+1)=rest:=by have:=abi B_;rw[hd]at this;exact(List.cons.inj this).2.symm
    dsimp only[g2];walk_at "vc";refine(bf (d:=i_ γ) (xs:=γ.map b6) rfl ?_:lI [i_ γ] _ _);rw[aag];refine⟨[.int 0],γ.length,rfl,rfl,(),(),?_,?_⟩
    ·show 1 * ((γ.length:Int)).toNat<=sizeLine;exact aaA (show _<=12 by omega) @_
    generalize hM2:M++MO.lst (((List.range k).map λi=>γ.getD i []++cD γ.length i).map b6)::E=M2;refine⟨M2.length,k,_,k,rfl,rfl,ao,?_,?_⟩
    ·have:((List.replicate (γ.length:Int).toNat [Dt.int 0]).flatten).length=γ.length:=by have:=aaU List.length (xJ B_);rw[aa3,aag]at this;rw[this];unfold cD Bz.cD;simp
     rw[this];exact nO B_
    rw[bX,xJ B_];subst hM2;have eM:(M++MO.lst (((List.range k).map λi=>γ.getD i []++cD γ.length i).map b6)::E)++[MO.lst ((cD γ.length k).map Dt.int)]=M++MO.lst (((List.range k).map λi=>γ.getD i []++cD γ.length i).map b6)::(E++[MO.lst ((cD γ.length k).map Dt.int)]):=by simp
    have W3:((M++MO.lst (((List.range k).map λi=>γ.getD i []++cD γ.length i).map b6)::E)++[MO.lst ((cD γ.length k).map Dt.int)])[M.length]? =some (.lst (((List.range k).map λi=>γ.getD i []++cD γ.length i).map b6)):=by rw[eM];exact Ox
    refine⟨⟨M.length,_,rfl,W3⟩,r.map Dt.int,(cD γ.length k).map Dt.int,rfl,mG ao,?_,M.length,_,_,rfl,rfl,W3,?_,?_⟩
    ·rw[aag,aag];unfold cD Bz.cD;rw[aag,aa9];exact aaA (show _<=30 by omega) @_
    ·rw[aag,aag,aa9];exact aa7 (show k<=12 by omega) @_
    rw[eM,Kc];refine iE _ _ ⟨k+1,rest,E++[MO.lst ((cD γ.length k).map Dt.int)],_,_,_,rfl,zD,B_,?_,rfl⟩;rw[List.range_succ,aaV,aaV];simp only[List.map_cons,List.map_nil];rw[rg,<-aaV]
  ·have⟨k,rest,E,o1,o2,o3,ex,hd,hk,rfl,rfl⟩:=hj;cases rest with
   | cons r rest=>cases ex
   | nil=>
    have:k=γ.length:=by have:=aaU List.length hd;rw[abw]at this;simp at this;omega
    subst this;exact h E
def QI:DF:=λas M q _=>∃(ls:List (List Int)) (f c:Nat),as=[i_ ls,.int (f:Int),.int (c:Int)]/\f<=ls.length/\ls.length<=12/\(∀l∈ls,c < l.length)/\
 ((∀(k:Nat),f<=k->k < ls.length->(ls.getD k []).getD c 0=0)->q .aJ M)/\
 (∀(k:Nat),f<=k->k < ls.length->(ls.getD k []).getD c 0≠0->q (.int (k:Int)) M)
def jw:Γ ["lines","first","column","number"] ["lines","first","column"] (τ g7):=.of rfl
def pN(F:cQ K "number_of_head" "number_of_head" g7 f fd)(E:Ev K mg Cm):av P w K mg base (ck P w) 1 f fd ["lines","first","column"] (cP K QI):=by
 refine F.eB jw (λds M q x h=>?_) (λbw A outer s H E' hr=>⟨_,(ζ (rG (t_ E.bP (Η (jv 1) (θ (fJ E.dz (Η (jv 0) η)) η cf))) (ay (i:=3) jw.nd rfl (Or.inl rfl)) aM (μ (aI (pj hr (Ρ (Ρ (jv 0) (jv 3)) (jv 2)) υ) (μ (Δ (jv 3))) Ξ)))
   (μ (Δ rN))),λds M q x h=>?_⟩)
 ·have⟨ls,f,c,rfl,_⟩:=h;rfl
 ·have⟨ls,f,c,rfl,hf,sJ,hc,h1,h2⟩:=h;walk_at "vc";dsimp only[AS];walk_at "vc";refine(bf (d:=i_ ls) (xs:=ls.map b6) rfl ?_:lI [i_ ls] _ _);rw[aag];refine⟨⟨(),(),(),()⟩,?_⟩;refine ix (λzs ρ M'=>M'=M/\∃(n k:Nat) (o:Option Dt),zs=cM k n/\f<=k/\k+n=ls.length/\(∀j,f<=j->j < k->(ls.getD j []).getD c 0=0)/\ρ=[some (i_ ls),some (.int (f:Int)),some (.int (c:Int)),o]) (λx zs ρ M' hj iE=>?_) (λρ M' hj=>?_) _ _ _ ⟨rfl,ls.length - f,f,none,?_,aai _,(),λj a b=>aaE a (),rfl⟩
  ·have⟨rfl,n,k,o,ex,hk,hn,hz,rfl⟩:=hj;have⟨m,rfl,rfl,rfl⟩:=iz ex;have kl:k < ls.length:=()
   have hl:=hc _ (aaq kl);have e1:(ls.getD k []).getD c 0=(ls[k])[c]:=by rw[aab,aab,aaa kl];show((ls[k])[c]?).getD 0=_;rw[aaa hl];rfl
   walk_at "vc";refine(Ε (d:=i_ ls) rfl (Cb kl) ?_:e_ (i_ ls) (.int (k:Int)) _ _);refine(Ε (d:=b6 ls[k]) rfl (mi hl) ?_:e_ (b6 ls[k]) (.int (c:Int)) _ _);refine⟨λz=>?_,λz=>?_⟩
   ·have z:(!decide ((ls[k])[c]=0))=true:=z;refine h2 k hk kl ?_;rw[e1];intro y;rw[aaB y]at z;exact nomatch z
   ·have z:(!decide ((ls[k])[c]=0))=false:=z;have z0:(ls[k])[c]=0:=by
     rcases Decidable.em ((ls[k])[c]=0) with y| y
     ·exact y
     ·rw[aam y]at z;exact nomatch z
    refine iE _ _ ⟨rfl,m,k+1,_,by simp,(),(),λj a b=>?_,rfl⟩;by_cases e:j=k
    ·rw[e,e1];exact z0
    ·exact hz j a ()
  ·have⟨rfl,n,k,o,ex,hk,hn,hz,rfl⟩:=hj;have NK:n=0:=by have:=aaU List.length ex;unfold cM at this;simpa using this.symm
   exact h1 λj a b=>hz j a ()
  ·rw[show((ls.length:Int) - (f:Int)).toNat=ls.length - f by omega]
abbrev jx:=Bz.jx
def Gn:DF:=λas M q _=>∃(ls:List (List Int)) (f k:Nat),as=[i_ ls,.int (f:Int),.int (k:Int)]/\f<=k/\k < ls.length/\ls.length<=12/\q (i_ (jx ls f k)) M
def vJ:Γ ["lines","first","number"] ["lines","first","number"] (τ jX):=.of rfl
def tE(F:cQ K "moved_ahead" "moved_ahead" jX f fd)(E:Ev K mg Cm):av P w K mg base (ck P w) 1 f fd ["lines","first","number"] (cP K Gn):=by
 refine F.eB vJ (λds M q x h=>?_) (λbw A outer s H E' hr=>⟨_,(μ (Δ (me (me (me (cX (Cf (jv 0) (jv 1))) (ng (θ (Ρ (jv 0) (jv 2)) η aU))) (cX (Ec (jv 0) (jv 1) (jv 2)))) (cX (ow (jv 0) (bx (jv 2) υ)))))),λds M q x h=>?_⟩)
 ·have⟨ls,f,k,rfl,_⟩:=h;rfl
 ·have⟨ls,f,k,rfl,hf,hk,sJ,h⟩:=h;have gk:ls.getD k []=ls[k]:=by rw[aab,aaa hk];rfl
  have sz:∀{n:Nat},n<=40->n<=sizeLine:=λh=>aaA h @_;refine⟨ls.map b6,f,rfl,rfl,?_⟩;rw[<-List.map_take];refine eK (iS _) ?_;walk_at "vc";refine(Ε (d:=i_ ls) rfl (Cb hk) ?_:e_ (i_ ls) (.int (k:Int)) _ _);refine⟨sz (by show 1<=40;decide),(ls.take f).map b6,[b6 ls[k]],rfl,rfl,sz (by simp;omega),?_⟩;refine⟨f,rfl,ls.map b6,k,rfl,rfl,?_⟩;rw[<-List.map_drop,<-List.map_take];refine eK (iS _) ?_;refine⟨(ls.take f).map b6++[b6 ls[k]],((ls.drop f).take (k - f)).map b6,rfl,rfl,sz (by simp;omega),?_⟩;refine⟨ls.map b6,k+1,rfl,rfl,?_⟩;rw[<-List.map_drop];refine eK (iS _) ?_;refine⟨(ls.take f).map b6++[b6 ls[k]]++((ls.drop f).take (k - f)).map b6,(ls.drop (k+1)).map b6,rfl,rfl,sz (by simp;omega),?_⟩;unfold jx Bz.jx at h;rw[gk]at h;have e:(ls.take f).map b6++[b6 ls[k]]++((ls.drop f).take (k - f)).map b6++(ls.drop (k+1)).map b6=(ls.take f++[ls[k]]++(ls.drop f).take (k - f)++ls.drop (k+1)).map b6:=by rw[aaV,aaV,aaV];rfl
  rw[e];exact h
abbrev cE:=Bz.cE
def Az:DF:=λas M q _=>∃(l h:List Int) (c:Nat) (d:Int),as=[b6 l,b6 h,.int (c:Int),.int d]/\l.length=h.length/\h.length<=30/\c < h.length/\(∀x∈l,i4 x)/\(∀x∈h,i4 x)/\d≠0/\i4 d/\q (b6 (cE l h c d)) M
def kz:Γ ["line","head","column","divisor"] ["line","head","column","divisor"] (τ iT):=.of rfl
def qL(F:cQ K "cleared_line" "cleared_line" iT f fd)(E:Ev K mg Cm):av P w K mg base (ck P w) 1 f fd ["line","head","column","divisor"] (cP K Az):=by
 refine F.eB kz (λds M q x h=>?_) (λbw A outer s H E' hr=>⟨_,(μ (Δ (KY (ys:=["divisor","head","column","line"]) (Μ:=[3,1,2,0]) (.of kz rfl rfl rfl) (Gg E.ym (Η (jv 0) (Η (jv 1) η))) (λC s H fp=>(Aw (eT (cW (Ρ (jv 3) (jv 4)) (jv 0)) (cW (Ρ (jv 5) (jv 4)) (jv 1))) (jv 2)))))),λds M q x h=>?_⟩)
 ·have⟨l,h',c,d,rfl,_⟩:=h;rfl
 ·have⟨l,hd,c,d,rfl,hl,h30,hc,bl,bh,d0,bd,h⟩:=h;have cl:c < l.length:=()
  have g1:hd.getD c 0=hd[c]:=by rw[aab,aaa hc];rfl
  have Rj:l.getD c 0=l[c]:=by rw[aab,aaa cl];rfl
  refine⟨b6 l,b6 hd,l.map Dt.int,hd.map Dt.int,λ_=>True,λ_=>True,rfl,rfl,rfl,?_⟩;have ez:s_ (l.map Dt.int) (hd.map Dt.int)=(l.zip hd).map λp=>.tup [.int p.1,.int p.2]:=by unfold s_;rw[List.zip_map,aaT];rfl
  rw[ez];refine⟨?_,?_⟩
  ·rw[aag,abL];exact aaA (show _<=30 by omega) @_
  refine tW ⟨trivial,trivial⟩ (λx=>match x with| .tup [.int a,.int b]=>.int ((hd.getD c 0 * a - l.getD c 0 * b).fdiv d)| _=>.aJ) _ _ (λx hx q' hq=>?_) ?_
  ·have⟨p,hp,rfl⟩:=aan.mp hx;have hq:q' (.int ((hd.getD c 0 * p.1 - l.getD c 0 * p.2).fdiv d)) M:=hq;have p1:=bl p.1 (acg hp).1;have p2:=bh p.2 (acg hp).2;rw[g1,Rj]at hq;have key:e_ (b6 hd) (.int (c:Int)) M (λx M1=>HX x (.int p.1) M1 λy M2=>e_ (b6 l) (.int (c:Int)) M2 λz M3=>HX z (.int p.2) M3 λu M4=>AM y u M4 λv M5=>BN v (.int d) M5 q'):=by refine Ε (d:=b6 hd) rfl (mi hc) ⟨⟨bh _ (aaq hc),p1⟩,?_⟩;refine Ε (d:=b6 l) rfl (mi cl) ⟨⟨bl _ (aaq cl),p2⟩,?_⟩;exact⟨⟨d0,bd⟩,hq⟩
   exact key
  ·rw[aaS,aaT];unfold cE Bz.cE at h;rw[show b6 ((l.zip hd).map λp=>(hd.getD c 0 * p.1 - l.getD c 0 * p.2).fdiv d)= .lst ((l.zip hd).map λp=>Dt.int ((hd.getD c 0 * p.1 - l.getD c 0 * p.2).fdiv d)) by show Dt.lst _=_;rw[aaT];rfl]at h;exact h
def zf{a b:Int}(h0:0<=a)(h:a<=b):∀n:Nat,a ^ n<=b ^ n
 | 0=>by rw[abV,abV];exact Int.le_refl _
 | n+1=>by rw[abl,abl];exact Int.mul_le_mul (zf h0 h n) h h0 (ab4 ())
def BC{x:Int}{r:Nat}(h:Bz.Ab x (Bz.top B r))(h1:1<=B)(hB:B<=2 ^ 450)(hr:r<=12):i4 x:=by
 have e1:Bz.top B r<=(12 * B) ^ 15:=Bz.vb h1 ();have e2:(12 * B) ^ 15<=(12 * 2 ^ 450) ^ 15:=zf () () 15;have e3:((12 * 2 ^ 450) ^ 15:Int) < ((2 ^ 8000:Nat):Int):=@_
 have:(x.natAbs:Int) < ((2 ^ 8000:Nat):Int):=by have⟨a,b⟩:=h;omega
 exact abN.mp this
section
variable{col:Nat}{ρ ι:List Nat}{qq:Nat->Nat}{d:Int}
def xQ(t:Bz.Turn A n col ρ ι qq d W)(b:Bz.Bd A n m B)(hB:B<=2 ^ 450)(hm:col<=m)(hr:ρ.length<=12):(∀i,i < n->∀x∈Bz.aw A n m (W i),i4 x)/\i4 d:=by
 have⟨a1,a2,a3⟩:=t.st.abs b (λc hc=>aat (t.cl c hc) hm) hr;refine⟨λi hi x hx=>?_,BC a3 b.b1 hB hr⟩;unfold Bz.aw at hx;rcases abm.mp hx with z| z
 ·have⟨y,hy,rfl⟩:=aan.mp z;exact BC (a2 i y hi (aba.mp hy)) b.b1 hB hr
 ·have⟨y,hy,rfl⟩:=aan.mp z;exact BC (a1 i y hi) b.b1 hB hr
end
def cj(n:Nat):Dt:=.int n
def Cs{n:Nat}:∀(l:List Nat),Dt.bo n (l.map cj)
 | []=>trivial
 | _::l=>⟨trivial,Cs l⟩
def ug{l:List Int}(h:l∈Bz.Υ A n m W):∃i,i < n/\l=Bz.aw A n m (W i):=by unfold Bz.Υ at h;have⟨i,hi,e⟩:=aan.mp h;exact⟨i,aba.mp hi,e.symm⟩
def qg{α:Type}(a:α):∀u:Nat,(List.replicate u [a]).flatten=List.replicate u a
 | 0=>rfl
 | u+1=>by rw[abe,abu,qg a u];rfl
structure A5(γ:List (List Int))(u:Nat)(B:Int):Prop where
 n1:1<=γ.length
 DO:γ.length<=12
 OX:u<=12
 ml:∀r∈γ,r.length=u+1
 bd:Bz.Bd (Bz.arr γ) γ.length (u+1) B
 RA:B<=2 ^ 450
def zw:DF:=λas M q _=>∃(γ:List (List Int)) (u:Nat) (B:Int),as=[i_ γ,.int (u:Int)]/\A5 γ u B/\
 ∀ρ ι qq d W,Bz.Turn (Bz.arr γ) γ.length u ρ ι qq d W->q (.tup [i_ (Bz.Υ (Bz.arr γ) γ.length (u+1) W),.loc M.length]) (M++[.lst (ι.map cj)])
def aQ:Γ ["rows","unknowns","lines","columns","divisor","column","rank","number","head","above","below"] ["rows","unknowns"] (τ qi):=.of rfl
def A3(F:cQ K "cleared" "cleared" qi f fd)(E:Ev K mg Cm){vk:Addr}{uY:FuncData}(hJ:aC P w K mg base 1 "with_weights" ["rows"] LL vk uY){sV:Addr}{tH:FuncData}(fW:aC P w K mg base 1 "number_of_head" ["lines","first","column"] QI sV tH){xM:Addr}{yd:FuncData}(iV:aC P w K mg base 1 "moved_ahead" ["lines","first","number"] Gn xM yd){wx:Addr}{vo:FuncData}(eP:aC P w K mg base 1 "cleared_line" ["line","head","column","divisor"] Az wx vo):av P w K mg base (ck P w) 2 f fd ["rows","unknowns"] (cP K zw):=by
 refine F.eB aQ (λds M q x h=>?_) (λbw A outer s H E' hr=>⟨_,(ζ (Β 2 aQ.nd (cX (Φ hJ hr ξ (Η (jv 0) η))))
   (ζ (Β 3 aQ.nd (vt η))
   (ζ (Β 4 aQ.nd υ)
   (ζ (rG (cq E.bP (Η (jv 1) η)) (ay (i:=5) aQ.nd rfl (Or.inr rfl)) aM (ζ (Β 6 aQ.nd (fJ E.dz (Η (jv 3) η)))
   (ζ (Β 7 aQ.nd (Φ fW hr ξ (Η (jv 2) (Η (jv 6) (Η (jv 5) η)))))
   (ζ (aI (AI (jv 7) rN) (μ y3) Ξ)
   (ζ (Β 2 aQ.nd (Φ iV hr ξ (Η (jv 2) (Η (jv 6) (Η (jv 7) η)))))
   (ζ (Β 8 aQ.nd (Ρ (jv 2) (jv 6)))
   (ζ (gL (i:=9) aQ.nd rfl (Or.inl rfl) (ys:=["head","column","divisor"]) (Μ:=[8,5,4]) (.of aQ rfl rfl rfl) (bR (cX (Cf (jv 2) (jv 6)))) (λC s H fp=>(Φ eP hr (cJ (P:=P) (w:=w)) (Η (jv 0) (Η (jv 1) (Η (jv 2) (Η (jv 3) η)))))))
   (ζ (gL (i:=10) aQ.nd rfl (Or.inl rfl) (ys:=["head","column","divisor"]) (Μ:=[8,5,4]) (.of aQ rfl rfl rfl) (bR (cX (ow (jv 2) (bx (jv 6) υ)))) (λC s H fp=>(Φ eP hr (cJ (P:=P) (w:=w)) (Η (jv 0) (Η (jv 1) (Η (jv 2) (Η (jv 3) η)))))))
   (ζ (Β 2 aQ.nd (me (me (jv 9) (ng (Η (jv 8) η))) (jv 10)))
   (ζ (Β 4 aQ.nd (Ρ (jv 8) (jv 5)))
   (μ (dX (iq (jv 3) (Η (jv 5) η))))))))))))))
   (μ (Δ (bO (Η (jv 2) (Η (jv 3) η))))))))),λds M q x h=>?_⟩)
 ·have⟨γ,u,B,rfl,_⟩:=h;rfl
 ·have⟨γ,u,B,rfl,ro,h⟩:=h;have n1:=ro.n1;have DO:=ro.DO;have OX:=ro.OX;refine⟨γ,rfl,DO,λr p9=>by rw[ro.ml r p9];omega,λE0'=>?_⟩;rw[Bz.x8 ro.ml];refine gX (d':=i_ (Bz.Υ (Bz.arr γ) γ.length (u+1) λi=>Bz.ind i)) (.vK (Nat.le_refl _) (by simp) (fg.old (iS _))) ?_;generalize hA:Bz.arr γ=A at *
  generalize hn:γ.length=n at *
  refine⟨@_,?_⟩;walk_at "vc";refine⟨⟨(),()⟩,?_⟩;refine ix (λzs ρ' M'=>∃(c k:Nat) (ρ ι:List Nat) (qq:Nat->Nat) (d:Int) (W:Nat->Bz.Row) (o1 o2 o3 o4 o5 o6:Option Dt),zs=cM k c/\k+c=u/\Bz.Turn A n k ρ ι qq d W/\M'=M++[MO.lst (ι.map cj)]/\ρ'=[some (i_ γ),some (.int (u:Int)),some (i_ (Bz.Υ A n (u+1) W)),some (.loc M.length),some (.int d),o1,o2,o3,o4,o5,o6]) (λx zs ρ' M' hj iE=>?_) (λρ' M' hj=>?_) _ _ _ ⟨u,0,[],[],id,1,_,none,none,none,none,none,none,by simp,by simp,Bz.Turn.start,rfl,rfl⟩
  ·have⟨c,k,ρ,ι,qq,d,W,o1,o2,o3,o4,o5,o6,ex,X',t,rfl,rfl⟩:=hj;have⟨m,rfl,rfl,rfl⟩:=iz ex;have lc:ι.length=ρ.length:=t.st.lc;have rn:ρ.length<=n:=t.st.rn;have Z7:gZ (M++[MO.lst (ι.map cj)]) (.loc M.length)=some (ι.map cj):=Ij (mG ao);walk_at "vc";refine(bf (d:=.loc M.length) Z7 ?_:lI [.loc M.length] _ _);rw[aag,lc];refine⟨Bz.Υ A n (u+1) W,ρ.length,k,rfl,by rw[Bz.cL];exact rn,by rw[Bz.cL];exact DO,λl hl=>?_,λhz=>?_,λk' h1 h2 h0=>?_⟩
   ·have⟨i,_,rfl⟩:=ug hl;rw[Bz.d7];omega
   ·refine⟨λ_=>?_,nofun⟩;refine iE _ _ ⟨m,k+1,ρ,ι,qq,d,W,_,_,_,_,_,_,by simp,(),t.skip λi a b=>?_,rfl,rfl⟩;have:=hz i a (by rw[Bz.cL];exact b);rw[Bz.jA b,Bz.gR ()]at this;exact this
   ·rw[Bz.cL]at h2;rw[Bz.jA h2,Bz.gR (show k < u+1 by omega)]at h0;refine⟨nofun,λ_=>?_⟩;refine⟨Bz.Υ A n (u+1) W,ρ.length,k',rfl,h1,by rw[Bz.cL];exact h2,by rw[Bz.cL];exact DO,?_⟩;rw[show jx (Bz.Υ A n (u+1) W) ρ.length k'=_ from Bz.x_ h1 h2];have t1:=t.move h1 h2;have O0:ρ.length < n:=()
    have XO:Bz.rv A n (W (Bz.iD ρ.length k' ρ.length)) k≠0:=by
     have:Bz.iD ρ.length k' ρ.length=k':=by unfold Bz.iD;rw[if_neg (Nat.lt_irrefl _),if_pos rfl]
     rw[this];exact h0
    clear h0 h1 h2 t;generalize Yn:(λi=>W (Bz.iD ρ.length k' i))=W1 at *
    generalize QX:(λi=>qq (Bz.iD ρ.length k' i))=q1 at *
    have e1:W (Bz.iD ρ.length k' ρ.length)=W1 ρ.length:=by rw[<-Yn]
    rw[e1]at XO;have⟨bl,bd⟩:=xQ t1 (m:=u+1) (by subst hA hn;exact ro.bd) ro.RA () ();have⟨W',t2,el⟩:=t1.step (m:=u+1) O0 () XO;have OF:(Bz.Υ A n (u+1) W1).length=n:=Bz.cL;have Zx:(Bz.Υ A n (u+1) W1)[ρ.length]'(by rw[OF];exact O0)=Bz.aw A n (u+1) (W1 ρ.length):=by have:=Bz.jA (A:=A) (m:=u+1) (W:=W1) O0;rw[aab,aaa (by rw[OF];exact O0)]at this;exact this
    have XM:∀l∈Bz.Υ A n (u+1) W1,∀q':DQ,q' (b6 (cE l (Bz.aw A n (u+1) (W1 ρ.length)) k d)) (M++[MO.lst (ι.map cj)])->Az [b6 l,b6 (Bz.aw A n (u+1) (W1 ρ.length)),.int (k:Int),.int d] (M++[MO.lst (ι.map cj)]) q' (λC fs M'=>jh [] C fs M'):=λl hl q' mj=>by have⟨i,hi,rfl⟩:=ug hl;exact⟨_,_,k,d,rfl,by rw[Bz.d7,Bz.d7],by rw[Bz.d7];omega,by rw[Bz.d7];omega,bl i hi,bl _ O0,t1.d0,bd,mj⟩
    walk_at "vc";refine(Ε (d:=i_ (Bz.Υ A n (u+1) W1)) rfl (Cb (by rw[OF];exact O0)) ?_:e_ (i_ (Bz.Υ A n (u+1) W1)) (.int (ρ.length:Int)) _ _);rw[Zx];have sz:∀{z:Nat},z<=40->z<=sizeLine:=λh=>aaA h @_;refine⟨(Bz.Υ A n (u+1) W1).map b6,ρ.length,rfl,rfl,?_⟩;rw[<-List.map_take];refine eK (iS _) ⟨sz (by rw[aag,ab7];omega),?_⟩;refine eL (F:=λx a=>x=b6 a/\a∈Bz.Υ A n (u+1) W1) (f:=λl=>b6 (cE l (Bz.aw A n (u+1) (W1 ρ.length)) k d)) trivial (λx a ha q' mj=>by have⟨rfl,ha⟩:=ha;exact XM a ha q' mj) (jI b6 _ _ λ_ h=>List.mem_of_mem_take h) ?_;rw[aaS];refine⟨(Bz.Υ A n (u+1) W1).map b6,ρ.length+1,rfl,rfl,?_⟩;rw[<-List.map_drop];refine eK (iS _) ⟨sz (by rw[aag,abw];omega),?_⟩;refine eL (F:=λx a=>x=b6 a/\a∈Bz.Υ A n (u+1) W1) (f:=λl=>b6 (cE l (Bz.aw A n (u+1) (W1 ρ.length)) k d)) trivial (λx a ha q' mj=>by have⟨rfl,ha⟩:=ha;exact XM a ha q' mj) (jI b6 _ _ λ_ h=>List.mem_of_mem_drop h) ?_;rw[aaS];refine⟨by show 1<=sizeLine;decide,_,_,rfl,rfl,sz (by simp;omega),_,_,rfl,rfl,sz (by simp;omega),?_⟩;have ek:k < (Bz.aw A n (u+1) (W1 ρ.length)).length:=by rw[Bz.d7];omega
    have ev:(Bz.aw A n (u+1) (W1 ρ.length))[k]=Bz.rv A n (W1 ρ.length) k:=by have:=Bz.gR (A:=A) (n:=n) (m:=u+1) (x:=k) (w:=W1 ρ.length) ();rw[aab,aaa ek]at this;exact this
    refine Ε (d:=b6 (Bz.aw A n (u+1) (W1 ρ.length))) rfl (mi ek) ?_;rw[ev];refine⟨⟨M.length,_,rfl,ao⟩,M.length,_,_,rfl,rfl,ao,?_,?_⟩
    ·rw[aag,lc];exact aa7 (show _<=12 by omega) @_
    rw[bX];have ee:=aaU (List.map b6) el;rw[aaV,aaV,aaT,aaT]at ee;refine iE _ _ ⟨m,k+1,ρ++[q1 ρ.length],ι++[k],q1,_,W',some (.int (k:Int)),some (.int (ρ.length:Int)),some (.int (k':Int)),some (b6 (Bz.aw A n (u+1) (W1 ρ.length))),some (.lst (((Bz.Υ A n (u+1) W1).take ρ.length).map λl=>b6 (cE l (Bz.aw A n (u+1) (W1 ρ.length)) k d))),some (.lst (((Bz.Υ A n (u+1) W1).drop (ρ.length+1)).map λl=>b6 (cE l (Bz.aw A n (u+1) (W1 ρ.length)) k d))),by simp,(),t2,by simp[cj],?_⟩;show _=[some (i_ γ),some (Dt.int (u:Int)),some (Dt.lst ((Bz.Υ A n (u+1) W').map b6)),some (Dt.loc M.length),some (Dt.int _),_,_,_,_,_,_];rw[<-ee];rfl
  ·have⟨c,k,ρ,ι,qq,d,W,o1,o2,o3,o4,o5,o6,ex,X',t,rfl,rfl⟩:=hj;have NK:c=0:=by have:=aaU List.length ex;unfold cM at this;simpa using this.symm
   have:k=u:=()
   subst this;exact⟨gV,h _ _ _ _ _ t⟩
def Lm:DF:=λas M q _=>∃(γ:List (List Int)) (u:Nat) (B:Int) (ρ ι:List Nat) (qq:Nat->Nat) (d:Int) (W:Nat->Bz.Row),as=[i_ (Bz.Υ (Bz.arr γ) γ.length (u+1) W),.lst (ι.map cj),.int (u:Int),.int (u:Int)]/\A5 γ u B/\Bz.Turn (Bz.arr γ) γ.length u ρ ι qq d W/\ι=List.range u/\
 q (.loc M.length) (M++[.lst ((List.range u).map λi=>aj (ak (Bz.rv (Bz.arr γ) γ.length (W i) u) d))])
def gT:Γ ["lines","columns","unknowns","source","told","line","column"] ["lines","columns","unknowns","source"] (τ lX):=.of rfl
def vS(F:cQ K "quotients" "quotients" lX f fd)(E:Ev K mg Cm)(bZ:aC P w K mg base 2 "fraction" ["top","bottom"] tS iw h8):av P w K mg base (ck P w) 3 f fd ["lines","columns","unknowns","source"] (cP K Lm):=by
 refine F.eB gT (λds M q x h=>?_) (λbw A outer s H E' hr=>⟨_,(ζ (Β 4 gT.nd (Bx (gM 3 (d:=.lst [.tup [.int 0,.int 1]]) (by rfl)) (jv 2)))
   (ζ (cH (Gg E.ym (Η (jv 0) (Η (jv 1) η))) (lD rfl (bD (ay (i:=5) gT.nd rfl (Or.inl rfl)) (bD (ay (i:=6) gT.nd rfl (Or.inl rfl)) iR))) kZ (μ (ik (jv 4) (jv 6) (Φ bZ hr ξ (θ (Ρ (jv 5) (jv 3)) (θ (Ρ (jv 5) (jv 6)) η aU) aU)))))
   (μ (Δ (jv 4))))),λds M q x h=>?_⟩)
 ·have⟨γ,u,B,ρ,ι,qq,d,W,rfl,_⟩:=h;rfl
 ·have⟨γ,u,B,ρ,ι,qq,d,W,rfl,ro,t,hc,h⟩:=h;have OX:=ro.OX;have DO:=ro.DO;have hl:ρ.length=u:=by rw[<-t.st.lc,hc,aa9]
  have un:u<=γ.length:=by rw[<-hl];exact t.st.rn
  have⟨bl,bd⟩:=xQ t (m:=u+1) ro.bd ro.RA () ();have d0:=t.d0;have one:∀i,i < u->Bz.rv (Bz.arr γ) γ.length (W i) i=d:=λi hi=>by have:=t.st.one i i () ();rw[aaw rfl,hc,aab,aaO hi]at this;exact this
  generalize hA:Bz.arr γ=A at *
  generalize hn:γ.length=n at *
  let tl:Nat->List Dt:=λk=>(List.range u).map λi=>if i < k then aj (ak (Bz.rv A n (W i) u) d) else aj (0,1)
  have t0:(List.replicate (u:Int).toNat [aj (0,1)]).flatten=tl 0:=by
   show _=(List.range u).map λi=>if i < 0 then _ else aj (0,1)
   rw[show((u:Int)).toNat=u by omega];apply aa8
   ·simp
   ·intro j h1 h2;have e:(List.replicate u [aj (0,1)]).flatten=List.replicate u (aj (0,1)):=qg _ u;simp[e]
  have ts:∀k,k < u->(tl k).set k (aj (ak (Bz.rv A n (W k) u) d))=tl (k+1):=λk hk=>by
   apply aa8
   ·simp[tl]
   ·intro j h1 h2;rw[List.getElem_set];simp only[tl,List.getElem_map,List.getElem_range];by_cases e:k=j
    ·subst e;rw[aaw rfl,aaw ()]
    ·rw[aay e];by_cases f:j < k
     ·rw[aaw f,aaw ()]
     ·rw[aay f,aay ()]
  refine⟨[aj (0,1)],u,rfl,rfl,(),(),?_,?_⟩
  ·show 1 * ((u:Int)).toNat<=sizeLine;exact aaA (show _<=12 by omega) @_
  rw[t0];refine⟨i_ (Bz.Υ A n (u+1) W),.lst (ι.map cj),_,_,λ_=>True,λ_=>True,rfl,rfl,rfl,?_⟩;have ez:s_ ((Bz.Υ A n (u+1) W).map b6) (ι.map cj)=(List.range u).map λi=>.tup [b6 (Bz.aw A n (u+1) (W i)),cj i]:=by
   unfold s_ Bz.Υ;rw[hc];apply aa8
   ·simp;omega
   ·intro j h1 h2;simp
  rw[ez];refine bC (λzs ρ' M'=>∃(k:Nat) (o1 o2:Option Dt),k<=u/\zs=((List.range u).drop k).map (λi=>.tup [b6 (Bz.aw A n (u+1) (W i)),cj i])/\M'=M++[MO.lst (tl k)]/\ρ'=[some (i_ (Bz.Υ A n (u+1) W)),some (.lst (ι.map cj)),some (.int (u:Int)),some (.int (u:Int)),some (.loc M.length),o1,o2]) (λzs ρ' M' hj=>⟨trivial,trivial⟩) (λx zs ρ' M' hj iE=>?_) (λρ' M' hj=>?_) _ _ _ ⟨0,none,none,ab8 _,rfl,rfl,rfl⟩
  ·have⟨k,o1,o2,hk,ex,rfl,rfl⟩:=hj;have B_:k < u:=by
    rcases Nat.lt_or_ge k u with z| z
    ·exact z
    ·rw[List.drop_of_length_le (by simpa using z)]at ex;cases ex
   rw[List.drop_eq_getElem_cons (by simpa using B_),List.map_cons,List.getElem_range]at ex;cases ex;have ek:k < (Bz.aw A n (u+1) (W k)).length:=by rw[Bz.d7];omega
   have eu:u < (Bz.aw A n (u+1) (W k)).length:=by rw[Bz.d7];omega
   have v1:(Bz.aw A n (u+1) (W k))[k]=d:=by have:=Bz.gR (A:=A) (n:=n) (m:=u+1) (x:=k) (w:=W k) ();rw[aab,aaa ek]at this;rw[<-one k B_];exact this
   have v2:(Bz.aw A n (u+1) (W k))[u]=Bz.rv A n (W k) u:=by have:=Bz.gR (A:=A) (n:=n) (m:=u+1) (x:=u) (w:=W k) ();rw[aab,aaa eu]at this;exact this
   dsimp only[g2,qo];walk_at "vc";refine Ε (d:=b6 (Bz.aw A n (u+1) (W k))) rfl (mi eu) ?_;refine Ε (d:=b6 (Bz.aw A n (u+1) (W k))) rfl (mi ek) ?_;rw[v1,v2];refine⟨bd,λz=>aaE z d0,λ_=>?_⟩;refine⟨M.length,k,_,k,rfl,rfl,ao,?_,?_⟩
   ·rw[show(tl k).length=u by simp[tl]];exact nO B_
   rw[bX];refine iE _ _ ⟨k+1,_,_,B_,rfl,?_,rfl⟩;rw[<-ts k B_];rfl
  ·have⟨k,o1,o2,hk,ex,rfl,rfl⟩:=hj;have:k=u:=by have:=aaU List.length ex;simp at this;omega
   subst this;have e:tl k=(List.range k).map λi=>aj (ak (Bz.rv A n (W i) k) d):=aaZ λi hi=>by rw[aaw (aba.mp hi)]
   rw[e];exact h
def xr:DF:=λas M q _=>∃(γ:List (List Int)) (u:Nat) (B:Int) (ji:List Fr) (z:Bz.Row) (N:Int),as=[i_ γ]/\A5 γ u B/\1<=u/\ji.length=u/\Bz.Oj (Bz.arr γ) γ.length u z N/\N≠0/\
 (∀i,i < u->0 < (ji.getD i (0,1)).2/\Int.gcd (ji.getD i (0,1)).1 (ji.getD i (0,1)).2=1/\N * (ji.getD i (0,1)).1=z i * (ji.getD i (0,1)).2)/\
 (∀y:Bz.Row,(∀k,k < γ.length->Bz.ψ (λx=>Bz.arr γ k x * y x) u=0)->∀x,x < u->y x=0)/\q (.loc M.length) (M++[.lst (ji.map aj)])
def df:Γ ["rows","unknowns","found","lines","columns","line","answer"] ["rows"] (τ nu):=.of rfl
def zz(F:cQ K "answer_of" "answer_of" nu f fd)(E:Ev K mg Cm){Gj:Addr}{HW:FuncData}(oi:aC P w K mg base 2 "cleared" ["rows","unknowns"] zw Gj HW){Bv:Addr}{A':FuncData}(jz:aC P w K mg base 3 "quotients" ["lines","columns","unknowns","source"] Lm Bv A'):av P w K mg base (ck P w) 4 f fd ["rows"] (cP K xr):=by
 refine F.eB df (λds M q x h=>?_) (λbw A outer s H E' hr=>⟨_,(ζ (Β 1 df.nd (eT (fJ E.dz (θ (Ρ (jv 0) υ) η aU)) υ))
   (ζ (Β 2 df.nd (cX (Φ oi hr ξ (Η (jv 0) (Η (jv 1) η)))))
   (ζ (Β 3 df.nd (Ρ (jv 2) υ))
   (ζ (Β 4 df.nd (Ρ (jv 2) υ))
   (ζ (cH (bR (cX (ow (jv 3) (fJ E.dz (Η (jv 4) η))))) (ay (i:=5) df.nd rfl (Or.inl rfl)) aM (μ (aI (pj hr (Ρ (jv 5) (jv 1)) υ) (μ fT) Ξ)))
   (ζ (Β 6 df.nd (Φ jz hr ξ (Η (jv 3) (Η (jv 4) (Η (jv 1) (Η (jv 1) η))))))
   (ζ (aI (mK (fJ E.dz (Η (jv 4) η)) (jv 1)) (μ fT) Ξ)
   (μ (Δ (jv 6)))))))))),λds M q x h=>?_⟩)
 ·have⟨γ,u,B,ji,z,N,rfl,_⟩:=h;rfl
 ·have⟨γ,u,B,ji,z,N,rfl,ro,u1,dl,sol,hN,UP,Va,h⟩:=h;have n1:=ro.n1;have DO:=ro.DO;have OX:=ro.OX;have r0:0 < γ.length:=()
  have m0:γ[0].length=u+1:=ro.ml _ (aaq r0);walk_at "vc";refine(Ε (d:=i_ γ) rfl (Cb r0) ?_:e_ (i_ γ) (.int 0) _ _);refine(bf (d:=b6 γ[0]) (xs:=γ[0].map Dt.int) rfl ?_:lI [b6 γ[0]] _ _);rw[aag,m0];dsimp only[AM];rw[show(((u+1:Nat):Int) - 1)=(u:Int) by omega];refine⟨γ,u,B,rfl,ro,λρ ι qq d W t=>?_⟩;have Ce:ι=List.range u:=by
   rcases t.all with e| ⟨x,hx,hf⟩
   ·exact e
   ·have⟨y,y1,y2⟩:=t.kernel hx hf;have:=Va y y2 x hx;rw[this]at y1;exact aaE () t.d0
  have hl:ρ.length=u:=by rw[<-t.st.lc,Ce,aa9]
  have un:u<=γ.length:=by rw[<-hl];exact t.st.rn
  refine gX (d':=.tup [i_ (Bz.Υ (Bz.arr γ) γ.length (u+1) W),.lst (ι.map cj)]) (.tup (.cons (.old (iS _)) (.cons (.vK (Nat.le_refl _) (by simp) (fg.old (Cs _))) .nil))) ?_;have told:(List.range u).map (λi=>aj (ak (Bz.rv (Bz.arr γ) γ.length (W i) u) d))=ji.map aj:=by
   apply aa8
   ·simp[dl]
   ·intro i h1 h2;have hi:i < u:=by simpa using h1
    simp only[List.getElem_map,List.getElem_range];have⟨p0,p1,p2⟩:=UP i hi;have gi:ji.getD i (0,1)=ji[i]:=by rw[aab,aaa ()];rfl
    rw[gi]at p0 p1 p2;have e:=t.told Ce sol hi
    congr 1
    have:ak (Bz.rv (Bz.arr γ) γ.length (W i) u) d=(ji[i].1,ji[i].2):=vZ t.d0 p0 p1 (by
     refine aaR hN ?_
     grind)
    exact this
  refine(Ε (d:=.tup [i_ (Bz.Υ (Bz.arr γ) γ.length (u+1) W),.lst (ι.map cj)]) rfl cC ?_:e_ (.tup [i_ (Bz.Υ (Bz.arr γ) γ.length (u+1) W),.lst (ι.map cj)]) (.int 0) _ _);refine(Ε (d:=.tup [i_ (Bz.Υ (Bz.arr γ) γ.length (u+1) W),.lst (ι.map cj)]) rfl (az (j:=1) rfl) ?_:e_ (.tup [i_ (Bz.Υ (Bz.arr γ) γ.length (u+1) W),.lst (ι.map cj)]) (.int 1) _ _);have WJ:(ι.map cj).length=u:=by rw[aag,Ce,aa9]
  dsimp only[uP,gw,Sa,Qw];walk_at "vc";refine(bf (d:=.lst (ι.map cj)) (xs:=ι.map cj) rfl ?_:lI [.lst (ι.map cj)] _ _);refine⟨(Bz.Υ (Bz.arr γ) γ.length (u+1) W).map b6,(ι.map cj).length,rfl,rfl,?_⟩;rw[WJ,<-List.map_drop];refine eK (iS _) ?_;have hz:∀l∈(Bz.Υ (Bz.arr γ) γ.length (u+1) W).drop u,u < l.length/\l.getD u 0=0:=λl Lu=>by
   have⟨j,hj,e⟩:=abf Lu;rw[List.getElem_drop]at e;rw[abw,Bz.cL]at hj;have hu:u+j < γ.length:=()
   have el:l=Bz.aw (Bz.arr γ) γ.length (u+1) (W (u+j)):=by have:=Bz.jA (A:=Bz.arr γ) (m:=u+1) (W:=W) hu;rw[aab,aaa (by rw[Bz.cL];exact hu)]at this;rw[<-e];exact this
   rw[el];refine⟨by rw[Bz.d7];omega,?_⟩;rw[Bz.gR ()];exact t.rest sol hN () hu
  refine bC (λzs ρ' M'=>M'=M/\∃(rest:List (List Int)) (o:Option Dt),zs=rest.map b6/\(∀l∈rest,u < l.length/\l.getD u 0=0)/\ρ'=[some (i_ γ),some (.int (u:Int)),some (.tup [i_ (Bz.Υ (Bz.arr γ) γ.length (u+1) W),.lst (ι.map cj)]),some (i_ (Bz.Υ (Bz.arr γ) γ.length (u+1) W)),some (.lst (ι.map cj)),o,none]) (λzs ρ' M' hj=>trivial) (λx zs ρ' M' hj iE=>?_) (λρ' M' hj=>?_) _ _ _ ⟨rfl,_,none,rfl,hz,rfl⟩
  ·have⟨rfl,rest,o,ex,p9,rfl⟩:=hj;cases rest with
   | nil=>cases ex
   | cons l rest=>
    cases ex;have⟨l1,l2⟩:=p9 l aae;have lv:l[u]=0:=by rw[aab,aaa l1]at l2;exact l2
    walk_at "vc";refine(Ε (d:=b6 l) rfl (mi l1) ?_:e_ (b6 l) (.int (u:Int)) _ _);rw[lv];exact⟨nofun,λ_=>iE _ _ ⟨rfl,rest,_,rfl,λy hy=>p9 y (aad _ hy),rfl⟩⟩
  ·have⟨rfl,rest,o,ex,p9,rfl⟩:=hj;refine⟨γ,u,B,ρ,ι,qq,d,W,rfl,ro,t,Ce,?_⟩;rw[told];walk_at "vc";refine(bf (d:=.lst (ι.map cj)) (xs:=ι.map cj) rfl ?_:lI [.lst (ι.map cj)] _ _);rw[WJ];refine⟨λz=>?_,λ_=>h⟩;have z:(u:Int) < u:=aas z;omega
structure Ch(B:Int)(c:Fr):Prop where
 pos:0 < c.2
 he:mN c B
 u:lB c
 sz:Sz 300 c
def HH{p:Fr}(h:p.2∣E):mN p E:=by have⟨k,e⟩:=h;exact⟨p.1 * k,by rw[e];grind⟩
def qG:∀{l:List Int} {a:Int},(∀b∈l,0 < b)->a∈l->a<=l.sum
 | b::l,a,h,ha=>by
  have ih:∀{l:List Int},(∀b∈l,0 < b)->0<=l.sum:=λ{l}=>by
   induction l with
   | nil=>intro _;exact Int.le_refl _
   | cons c l ih=>
    intro h;have:=ih λd hd=>h d (aad _ hd);have:=h c aae;rw[List.sum_cons];omega
  rw[List.sum_cons];have h0:=h b aae;rcases aav.mp ha with e| e
  ·have:=ih λd hd=>h d (aad _ hd);omega
  ·have:=qG (λd hd=>h d (aad _ hd)) e;omega
def Ke{cs:List Fr}(o:C4 cs){c:Fr}(hc:c∈cs):0 < c.2/\c.2∣aY cs/\lB c/\Sz 300 c:=by
 have⟨a,b,d⟩:=o.EI.2 c hc;have B0:=o.b0;have⟨_,_,hB⟩:=fZ cs 1 0 @_ (abY _) λc hc=>⟨(o.EI.2 c hc).1,abY _⟩;have dv:c.2∣aY cs:=hB c hc
 have le:=qG (l:=cs.map (jU (aY cs))) (λb hb=>by
  have⟨x,hx,rfl⟩:=aan.mp hb
  exact o.pos x hx) (aan.mpr ⟨c,hc,rfl⟩)
 rw[o.sum]at le;have wp:=o.pos c hc;unfold jU at le wp;have⟨m,em⟩:=dv;have Z_:aY cs / c.2=m:=by rw[em];exact abk m ()
 rw[Z_]at le wp;have m0:0 < m:=by
  rw[em]at B0;rcases Int.lt_or_le 0 m with z| z
  ·exact z
  ·have:=aaJ z (aau a);omega
 have c0:0<=c.1:=by
  rcases Int.lt_or_le c.1 0 with z| z
  ·have:=aa1 (aau z) (aau m0);omega
  ·exact z
 have c1:c.1<=c.2:=by rw[em]at le;exact Int.le_of_mul_le_mul_right le m0
 refine⟨a,⟨m,em⟩,⟨c0,c1⟩,vF (k:=200) ⟨d,a,?_⟩ @_⟩;have:(c.2.natAbs:Int) < ((2 ^ 200:Nat):Int):=by rw[abd (aau a)];exact b
 exact abN.mp this
abbrev Pl:=List (Int×Int)
def kP(pl:Pl):List Key:=pl.map λp=>Sum.inl p.1
def vP(pl:Pl):List Dt:=pl.map λp=>Dt.int p.2
abbrev dP(pl:Pl):MO:=.kE (kP pl) (vP pl)
def Τ:Pl->Int->Option Int
 | [],_=>none
 | p::r,i=>if p.1=i then some p.2 else Τ r i
def jd(pl:Pl)(i v:Int):Pl:=if (Τ pl i).isSome=true then pl.map (λp=>if p.1=i then (p.1,v) else p) else pl++[(i,v)]
def GY{a:Int}:(decide ((Sum.inl a:Key)=Sum.inl b))=decide (a=b):=by
 by_cases h:a=b
 ·rw[aaB h,aaB (aaU Sum.inl h)]
 ·rw[aam h,aam λz=>h (Sum.inl.inj z)]
def Co{i:Int}:∀{pl:Pl},eI (kP pl) (vP pl) (Sum.inl i)=(Τ pl i).map Dt.int
 | []=>rfl
 | p::r=>by
  have ih:=Co (i:=i) (pl:=r);unfold eI at ih⊢;show(List.find? (λq:Key×Dt=>decide (q.1=Sum.inl i)) ((Sum.inl p.1,Dt.int p.2)::(kP r).zip (vP r))).map (·.2)=Option.map Dt.int (if p.1=i then some p.2 else Τ r i);rw[List.find?_cons,GY];by_cases h:p.1=i
  ·rw[aaB h,aaw h];rfl
  ·rw[aam h,aay h];exact ih
def J9{i:Int}:∀{pl:Pl},K9 (kP pl) (Sum.inl i)=(Τ pl i).isSome
 | []=>rfl
 | p::r=>by
  have ih:=J9 (i:=i) (pl:=r);unfold K9 at ih⊢;show(decide ((Sum.inl p.1:Key)=Sum.inl i)|| (kP r).any λc=>decide (c=Sum.inl i))=(if p.1=i then some p.2 else Τ r i).isSome;rw[GY,ih];by_cases h:p.1=i
  ·rw[aaB h,aaw h];rfl
  ·rw[aam h,aay h,Bool.false_or]
def CG{i v:Int}:∀{pl:Pl},kx (Sum.inl i:Key) (Dt.int v) (kP pl) (vP pl)=vP (pl.map λp=>if p.1=i then (p.1,v) else p)
 | []=>rfl
 | p::r=>by
  show(if (Sum.inl p.1:Key)=Sum.inl i then Dt.int v else Dt.int p.2)::kx (Sum.inl i:Key) (Dt.int v) (kP r) (vP r)=Dt.int (if p.1=i then (p.1,v) else p).2::vP (r.map λp=>if p.1=i then (p.1,v) else p);rw[CG];by_cases h:p.1=i
  ·rw[aaw h,aaw (aaU Sum.inl h)]
  ·rw[aay h,aay λz=>h (Sum.inl.inj z)]
def zA{i v:Int}:∀{pl:Pl},kP (pl.map λp=>if p.1=i then (p.1,v) else p)=kP pl
 | []=>rfl
 | p::r=>by show(Sum.inl (if p.1=i then (p.1,v) else p).1:Key)::kP (r.map λp=>if p.1=i then (p.1,v) else p)=Sum.inl p.1::kP r;rw[zA];split <;> rfl
def x9{pl:Pl}{i v:Int}:fG (kP pl) (Sum.inl i)=kP (jd pl i v):=by
 unfold fG jd;rw[J9];split
 ·exact zA.symm
 ·unfold kP;rw[List.map_append];rfl
def BY{pl:Pl}{i v:Int}:eA (kP pl) (Sum.inl i) (vP pl) (Dt.int v)=vP (jd pl i v):=by
 unfold eA jd;rw[J9];split
 ·exact CG
 ·unfold vP;rw[List.map_append];rfl
def qd{i v j:Int}:∀{pl:Pl},Τ (pl.map λp=>if p.1=i then (p.1,v) else p) j=if j=i then (Τ pl j).map λ_=>v else Τ pl j
 | []=>by split <;> rfl
 | p::r=>by
  have ih:=qd (i:=i) (v:=v) (j:=j) (pl:=r);rw[aaW];unfold Τ;by_cases h:p.1=i
  ·rw[aaw h];by_cases hj:p.1=j
   ·rw[aaw hj,aaw hj,aaw ()];rfl
   ·rw[aay hj,aay hj];exact ih
  ·rw[aay h];by_cases hj:p.1=j
   ·rw[aaw hj,aaw hj,aay ()]
   ·rw[aay hj,aay hj];exact ih
def Cq{i j v:Int}:∀{pl:Pl},Τ (pl++[(i,v)]) j=if (Τ pl j).isSome=true then Τ pl j else if i=j then some v else none
 | []=>rfl
 | p::r=>by
  have ih:=Cq (i:=i) (j:=j) (v:=v) (pl:=r);rw[List.cons_append];unfold Τ;by_cases hj:p.1=j
  ·rw[aaw hj,aaw hj];rfl
  ·rw[aay hj,aay hj];exact ih
def Kq{pl:Pl}{i v j:Int}:Τ (jd pl i v) j=if j=i then some v else Τ pl j:=by
 unfold jd;split
 ·rename_i h;rw[qd];split
  ·rename_i e;subst e;have⟨x,hx⟩:=aa6.mp h;rw[hx];rfl
  ·rfl
 ·rename_i h;rw[Cq];by_cases e:j=i
  ·subst e;rw[aay h,aaw rfl,aaw rfl]
  ·rw[aay e];cases hj:Τ pl j with
   | none=>rw[if_neg (by simp),if_neg ()]
   | some x=>rfl
def EX(pl:Pl):Prop:=(pl.map (·.1)).Nodup
def CO{i v:Int}:∀{pl:Pl},Τ pl i=some v->(i,v)∈pl
 | [],h=>by cases h
 | p::r,h=>by
  unfold Τ at h;split at h
  ·rename_i e;have:p=(i,v):=by rw[<-e,<-aao h]
   rw[this];exact aae
  ·exact aad _ (CO h)
def bK{E:Ms}{k:Nat}{m:MO}(h:M[k]? =some m):(M++E)[k]? =some m:=by rw[aap (aaf.mp h).1];exact h
structure oF(γ:List Rw)(acc:Pl):Prop where
 hand:∀(i:Nat) (r:Rw),γ[i]? =some r->Χ (kindOf r)=true->∃j:Nat,Τ acc i=some (j:Int)/\j < (au r).length
 zB:∀(i:Nat) (r:Rw),γ[i]? =some r->Χ (kindOf r)=false->Τ acc i=none
def ef(acc:Pl)(i:Nat)(r:Rw):List aS:=match Τ acc i with
 | some j=>let d:=(au r).getD j.toNat d0;[(d.1,d.2.1,d.2.2++[(1,1)])]
 | none=>au r
def Lc(A:Addr):DF:=λas M q _=>∃ε γ i r k acc,as=[ah A ε γ,.int (i:Nat),.loc k]/\M[k]? =some (dP acc)/\γ[i]? =some r/\fU r/\oF γ acc/\q (.lst ((ef acc i r).map dh)) M
def rY:Γ ["floor","place","doors","ways"] ["floor","place","doors"] (τ nZ):=.of rfl
def ye(F:cQ K "ways_from" "ways_from" nZ f fd)(E:Ev K mg Cm)(aH:e7 P w K mg base 2 Cm "doors" ["self","place"] (qy Cm) cy cw)(Ψ:e7 P w K mg base 1 Cm "kind" ["self","place"] (qt Cm) bc ba):av P w K mg base (ck P w) 3 f fd ["floor","place","doors"] (cP K (Lc Cm)):=by
 refine F.eB rY (λds M q x h=>?_) (λbw A outer s H E' hr=>⟨_,(ζ (Β 3 rY.nd (cX (fQ aH hr ξ (jv 0) (Η (jv 1) η))))
   (ζ (aI (Bj (fQ Ψ hr ξ (jv 0) (Η (jv 1) η)) (LO E.Au)) (μ (Δ (ng (θ (bx (Ρ (jv 3) (GC hr (jv 2) (jv 1))) (gM 3 (d:=.tup [.tup [.int 1,.int 1]]) (by rfl))) η bM)))) Ξ)
   (μ (Δ (jv 3))))),λds M q x h=>?_⟩)
 ·have⟨ε,γ,i,r,k,acc,rfl,_⟩:=h;rfl
 ·have⟨ε,γ,i,r,k,acc,rfl,hk,hi,ro,dk,h⟩:=h;refine⟨⟨_,_,.inl rfl,rfl⟩,ε,γ,i,r,rfl,hi,ro,eK (dQ _) ?_⟩;refine⟨⟨_,_,.inl rfl,rfl⟩,ε,γ,i,r,rfl,hi,?_⟩;refine⟨_,_,_,rfl,rfl,rfl,?_⟩;rw[y9];cases hh:Χ (kindOf r) with
  | true=>
   refine⟨λ_=>?_,nofun⟩;have⟨j,hj,jl⟩:=dk.hand i r hi hh;have dg:eI (kP acc) (vP acc) (Sum.inl (i:Int))=some (.int (j:Int)):=by rw[Co,hj];rfl
   have e:ef acc i r=[(((au r).getD j d0).1,((au r).getD j d0).2.1,((au r).getD j d0).2.2++[(1,1)])]:=by unfold ef;rw[hj];rfl
   rw[e]at h;have gd:(au r).getD j d0=(au r)[j]:=by rw[aab,aaa jl];rfl
   have dm:(au r)[j].2.2.length<=1:=by
    cases r with
    | fin p=>exact aaE jl (abv _)
    | Α k' ds=>exact(ro.2.2.2 _ (aaq jl)).1
   rw[gd]at h;obtain⟨d,hd⟩:∃d,d=(au r)[j]:=⟨_,rfl⟩;rw[<-hd]at h dm;walk_at "vc";refine⟨k,_,_,Sum.inl (i:Int),_,rfl,hk,rfl,dg,?_⟩;refine(Ε (d:=.lst ((au r).map dh)) rfl (Qt jl) ?_:e_ (.lst ((au r).map dh)) (.int (j:Int)) _ _);rw[<-hd];have sz:∀{z:Nat},z<=1000->z<=sizeLine:=λh=>aaA h @_;refine⟨⟨nofun,sz ?_⟩,sz @_,?_⟩
   ·simp;omega
   have e2:dh (d.1,d.2.1,d.2.2++[(1,1)])= .tup ((.int d.1::aj d.2.1::d.2.2.map aj)++[.tup [.int 1,.int 1]]):=by unfold dh;rw[List.map_append];rfl
   have h:q (.lst [dh (d.1,d.2.1,d.2.2++[(1,1)])]) M:=h;rw[e2]at h;exact h
  | false=>
   refine⟨nofun,λ_=>?_⟩;have e:ef acc i r=au r:=by unfold ef;rw[dk.zB i r hi hh]
   rw[e]at h;exact h
def dI(f:Nat->Rat):Nat->Rat
 | 0=>0
 | n+1=>dI f n+f n
def aG(f:aS->Rat):List aS->Rat
 | []=>0
 | d::ds=>f d+aG f ds
def de{f g:Nat->Rat}:∀{n:Nat},(∀i,i < n->f i=g i)->dI f n=dI g n
 | 0,_=>rfl
 | n+1,h=>by show dI f n+f n=dI g n+g n;rw[de λi hi=>h i (abM hi),h n (abq _)]
def mV(a b:Rat)(f g:Nat->Rat):∀n,dI (λi=>a * f i - b * g i) n=a * dI f n - b * dI g n
 | 0=>by show(0:Rat)=a * 0 - b * 0;grind
 | n+1=>by show dI (λi=>a * f i - b * g i) n+(a * f n - b * g n)=a * (dI f n+f n) - b * (dI g n+g n);rw[mV a b f g n];grind
def yF{t:Nat}(y:Nat->Rat):∀{n:Nat},n<=t->dI (λx=>(if x=t then 1 else 0) * y x) n=0
 | 0,_=>rfl
 | n+1,h=>by show dI (λx=>(if x=t then 1 else 0) * y x) n+(if n=t then 1 else 0) * y n=0;rw[yF y (),if_neg ()];grind
def qA{t:Nat}(y:Nat->Rat):∀{n:Nat},t < n->dI (λx=>(if x=t then 1 else 0) * y x) n=y t
 | 0,h=>aaE h (abv _)
 | n+1,h=>by
  show dI (λx=>(if x=t then 1 else 0) * y x) n+(if n=t then 1 else 0) * y n=y t;by_cases e:n=t
  ·subst e;rw[yF y (Nat.le_refl _),if_pos rfl];grind
  ·rw[qA y (),if_neg e];grind
def nQ(f:Nat->Int):∀n,((Bz.ψ f n:Int):Rat)=dI (λi=>(f i:Rat)) n
 | 0=>rfl
 | n+1=>by show((Bz.ψ f n+f n:Int):Rat)=dI (λi=>(f i:Rat)) n+f n;rw[Rat.intCast_add,nQ f n]
def lU{f g:aS->Rat}:∀{ds:List aS},(∀d∈ds,f d=g d)->aG f ds=aG g ds
 | [],_=>rfl
 | d::ds,h=>by show f d+aG f ds=g d+aG g ds;rw[h d aae,lU λx hx=>h x (aad _ hx)]
def mZ(f g:aS->Rat):∀ds:List aS,aG (λd=>f d - g d) ds=aG f ds - aG g ds
 | []=>by show(0:Rat)=0 - 0;grind
 | d::ds=>by show(f d - g d)+aG (λd=>f d - g d) ds=(f d+aG f ds) - (g d+aG g ds);rw[mZ f g ds];grind
abbrev cV(d:aS):Rat:=val (χ d)
structure ND(n:Nat)(Ο:List aS):Prop where
 to:∀d∈Ο,0<=d.1/\d.1 < n
 c0:∀d∈Ο,0<=cV d
 one:aG cV Ο<=1
def Bf{c:Fr}(h:0 < c.2)(hd:c.2∣B):((jU B c:Int):Rat)=val c * B:=by
 have⟨k,rfl⟩:=hd;unfold jU val;rw[abk _ (),aaQ,aaQ];have:=aT (show c.2≠0 by omega);generalize (c.1:Rat)=a at *
 generalize (c.2:Rat)=b at *
 generalize (k:Rat)=e at *
 grind
def Hw{B:Int}:∀{ds:List aS},(∀d∈ds,0 < (χ d).2/\(χ d).2∣B)->((((ds.map χ).map (jU B)).sum:Int):Rat)=aG cV ds * B
 | [],_=>by show((0:Int):Rat)=0 * B;grind
 | d::ds,h=>by have i:=Hw (ds:=ds) λx hx=>h x (aad _ hx);have⟨a,b⟩:=h d aae;show(((jU B (χ d)+((ds.map χ).map (jU B)).sum:Int)):Rat)=(cV d+aG cV ds) * B;rw[Rat.intCast_add,i,Bf a b];grind
def By{c:Fr}(h:0 < c.2)(h0:0<=c.1):0<=val c:=by
 have e:val c * (c.2:Rat)=c.1:=by
  have:=aT (show c.2≠0 by omega);unfold val;generalize (c.1:Rat)=x at *
  generalize (c.2:Rat)=y at *
  grind
 have p:(0:Rat) < (c.2:Rat):=abh.mpr h;have q:(0:Rat)<=(c.1:Rat):=Rat.intCast_le_intCast.mpr h0;by_cases z:0<=val c
 ·exact z
 ·have:=Rat.mul_pos (show 0 < -val c by grind) p;grind
def IX{ds:List aS}(o:C4 (ds.map χ)):aG cV ds=1/\∀d∈ds,0<=cV d:=by
 have⟨_,_,hB⟩:=fZ (ds.map χ) 1 0 @_ (abY _) λc hc=>⟨(o.EI.2 c hc).1,abY _⟩;have hm:∀d∈ds,χ d∈ds.map χ:=λd hd=>aan.mpr ⟨d,hd,rfl⟩;have e:=Hw (B:=aY (ds.map χ)) (ds:=ds) λd hd=>⟨(o.EI.2 _ (hm d hd)).1,hB _ (hm d hd)⟩;rw[o.sum]at e;have b0:=aT (show aY (ds.map χ)≠0 by have:=o.b0;omega);refine⟨?_,λd hd=>?_⟩
 ·generalize ((aY (ds.map χ):Int):Rat)=b at *
  grind
 ·refine By (o.EI.2 _ (hm d hd)).1 ?_;have p:=o.pos _ (hm d hd);unfold jU at p;have q0:0<=aY (ds.map χ) / (χ d).2:=Int.ediv_nonneg (aau o.b0) (aau (o.EI.2 _ (hm d hd)).1);rcases Int.lt_or_le (χ d).1 0 with z| z
  ·have:=Int.mul_nonpos_of_nonpos_of_nonneg (aau z) q0;omega
  ·exact z
def C6{p q:Fr}(hp:0 < p.2)(hq:0 < q.2):val (gW p q)=val p - val q:=by
 unfold gW;rw[ig (aci (abo hp hq))];have h1:=aT (show p.2≠0 by omega);have h2:=aT (show q.2≠0 by omega);rw[Rat.intCast_sub,aaQ,aaQ,aaQ];unfold val;generalize (p.1:Rat)=a at *
 generalize (p.2:Rat)=b at *
 generalize (q.1:Rat)=c at *
 generalize (q.2:Rat)=d at *
 grind
def Bo{p q:Fr}(hp:0 < p.2)(hq:0 < q.2)(h:mN p E)(h':mN q E):mN (gW p q) E:=by have⟨N,e⟩:=h;have⟨N',e'⟩:=h';unfold gW;exact uR (N:=N - N') (Int.ne_of_gt (Int.mul_pos hp hq)) (by grind)
def DJ{p q:Fr}{D:Int}(hp:0 < p.2)(hq:0 < q.2)(h:ud p C)(h':ud q D):ud (gW p q) (C+D):=by
 unfold gW;have a:=fq h.1 (aau hq);have b:=fq h'.1 (aau hp);have c:=fq h.2 (aau hq);have d:=fq h'.2 (aau hp);refine HI (abo hp hq) ?_ ?_
 ·have e:p.2 * q.2 * (C+D)=p.2 * C * q.2+q.2 * D * p.2:=by grind
  have e2: -(q.2 * D) * p.2= -(q.2 * D * p.2):=by grind
  omega
 ·have e: -(p.2 * q.2 * (C+D))= -(p.2 * C) * q.2+ -(q.2 * D * p.2):=by grind
  omega
structure Nr(E C:Int)(p:Fr):Prop where
 red:Red p
 he:mN p E
 ab:ud p C
structure kT(n:Nat)(E C:Int)(v:Nat->Rat)(ns:List Fr):Prop where
 len:ns.length=n
 nr:∀x,x < n->Nr E C (ns.getD x (0,1))
 val:∀x,x < n->val (ns.getD x (0,1))=v x
def qZ(ε:Fr)(ns:List Fr)(d:aS):List Fr:=ns.set d.1.toNat (gW (ns.getD d.1.toNat (0,1)) (eE ε (χ d)))
def fR(ε:Fr)(n i:Nat)(Ο:List aS):List Fr:=Ο.foldl (qZ ε) ((List.replicate n ((0,1):Fr)).set i (1,1))
def US(c:0<=C):Nr E C (0,1):=⟨⟨@_,@_⟩,⟨0,by simp⟩,⟨by show(0:Int)<=1 * C;omega,by show -(1 * C)<=(0:Int);omega⟩⟩
def Vp:Nr E 1 (1,1):=⟨⟨@_,@_⟩,⟨E,by simp⟩,⟨@_,@_⟩⟩
def zt{ns:List Fr}{t x:Nat}{a:Fr}(h:t < ns.length):(ns.set t a).getD x (0,1)=if x=t then a else ns.getD x (0,1):=by
 rw[aab,List.getElem?_set];by_cases e:x=t
 ·subst e;rw[aaw rfl,aaw h,aaw rfl];rfl
 ·rw[aay (Ne.symm e),aay e,<-aab]
def Fi(hi:i < n):kT n E 1 (λx=>if x=i then 1 else 0) ((List.replicate n ((0,1):Fr)).set i (1,1)):=by
 have g:∀x,((List.replicate n ((0,1):Fr)).set i (1,1)).getD x (0,1)=if x=i then (1,1) else (0,1):=λx=>by
  rw[zt (by simpa using hi)]
  congr 1
  rw[aab,abO];split <;> rfl
 refine⟨by simp,λx _=>?_,λx _=>?_⟩
 ·rw[g];split
  ·exact Vp
  ·exact US @_
 ·rw[g];show Pg.val (if x=i then (1,1) else (0,1))=if x=i then 1 else 0
  unfold Pg.val;split
  ·show((1:Int):Rat) / ((1:Int):Rat)=1;grind
  ·show((0:Int):Rat) / ((1:Int):Rat)=0;grind
structure O2(ε:Fr)(E:Int)(d:aS):Prop where
 s0:0 < ε.2
 su:lB ε
 c0:0 < (χ d).2
 cu:lB (χ d)
 he:mN (eE ε (χ d)) E
def O2.nr{ε:Fr}{d:aS}(h:O2 ε E d):Nr E 1 (eE ε (χ d)):=by have p:=abo h.s0 h.c0;have u:=zL h.s0 h.c0 h.su h.cu;have r:Red (eE ε (χ d)):=ip (aci p);have rp:=r.pos;have⟨u1,u2⟩:=u;exact⟨r,h.he,⟨(),()⟩⟩
def xY{ε:Fr}{v:Nat->Rat}{ns:List Fr}{d:aS}(h:kT n E C v ns)(c:0<=C)(hd:0<=d.1/\d.1 < n)(sc:O2 ε E d):kT n E (C+1) (λx=>v x - Pg.val ε * ((if d.1.toNat=x then 1 else 0) * cV d)) (qZ ε ns d):=by
 have ht:d.1.toNat < ns.length:=by rw[h.len];omega
 have k:=sc.nr;have g:=λx=>zt (x:=x) (a:=gW (ns.getD d.1.toNat (0,1)) (eE ε (χ d))) ht;refine⟨by unfold qZ;rw[List.length_set];exact h.len,λx hx=>?_,λx hx=>?_⟩
 ·unfold qZ;rw[g];have a:=h.nr x hx;split
  ·rename_i e;rw[<-e];have p:=abo a.red.pos k.red.pos;exact⟨ip (aci p),Bo a.red.pos k.red.pos a.he k.he,DJ a.red.pos k.red.pos a.ab k.ab⟩
  ·have:=aaJ (show C<=C+1 by omega) (aau a.red.pos);exact⟨a.red,a.he,⟨abW a.ab.1 this,by have:=a.ab.2;omega⟩⟩
 ·unfold qZ;rw[g];have a:=h.nr x hx;have b:=h.val x hx;split
  ·rename_i e;rw[<-e,C6 a.red.pos k.red.pos,b,DV sc.s0 sc.c0,if_pos rfl];grind
  ·rename_i e;rw[b,if_neg (Ne.symm e)];grind
def uO{n:Nat}{ε:Fr}{E:Int}:∀{Ο:List aS} {ns:List Fr} {v:Nat->Rat} {C:Int},(∀d∈Ο,(0<=d.1/\d.1 < n)/\O2 ε E d)->0<=C->kT n E C v ns->kT n E (C+Ο.length) (λx=>v x - Pg.val ε * aG (λd=>(if d.1.toNat=x then 1 else 0) * cV d) Ο) (Ο.foldl (qZ ε) ns)
 | [],ns,v,C,_,_,h=>by
  refine⟨h.len,λx hx=>?_,λx hx=>?_⟩
  ·rw[List.length_nil,Int.natCast_zero,Int.add_zero];exact h.nr x hx
  ·show _=v x - Pg.val ε * 0;rw[show v x - Pg.val ε * 0=v x by grind];exact h.val x hx
 | d::Ο,ns,v,C,hw,c,h=>by have⟨h1,h2⟩:=hw d aae;have i:=uO (Ο:=Ο) (λx hx=>hw x (aad _ hx)) () (xY h c h1 h2);rw[abB,aaI,show C+((Ο.length+1:Nat):Int)=C+1+Ο.length by omega];refine⟨i.len,i.nr,λx hx=>?_⟩;rw[i.val x hx];show v x - Pg.val ε * ((if d.1.toNat=x then 1 else 0) * cV d) - Pg.val ε * aG (λd=>(if d.1.toNat=x then 1 else 0) * cV d) Ο=v x - Pg.val ε * ((if d.1.toNat=x then 1 else 0) * cV d+aG (λd=>(if d.1.toNat=x then 1 else 0) * cV d) Ο);grind
def vW(s:Rat)(i:Nat)(Ο:List aS)(x:Nat):Rat:=(if x=i then 1 else 0) - s * aG (λd=>(if d.1.toNat=x then 1 else 0) * cV d) Ο
def I0{ε:Fr}{Ο:List aS}(hi:i < n)(hw:∀d∈Ο,(0<=d.1/\d.1 < n)/\O2 ε E d):kT n E (1+Ο.length) (vW (Pg.val ε) i Ο) (fR ε n i Ο):=uO hw @_ (Fi hi)
def FL{n i:Nat}{s:Rat}(hi:i < n)(y:Nat->Rat):∀{Ο:List aS},(∀d∈Ο,0<=d.1/\d.1 < n)->dI (λx=>vW s i Ο x * y x) n=y i - s * aG (λd=>cV d * y d.1.toNat) Ο
 | [],_=>by rw[de (g:=λx=>(if x=i then 1 else 0) * y x) λx _=>by show((if x=i then 1 else 0) - s * 0) * y x=_;grind];rw[qA y hi];show y i=y i - s * 0;grind
 | d::Ο,h=>by
  have⟨a,b⟩:=h d aae;have ih:=FL (s:=s) hi y (Ο:=Ο) λx hx=>h x (aad _ hx)
  rw[de (g:=λx=>1 * (vW s i Ο x * y x) - (s * cV d) * ((if x=d.1.toNat then 1 else 0) * y x)) λx _=>by
   show((if x=i then 1 else 0) - s * ((if d.1.toNat=x then 1 else 0) * cV d+aG (λd=>(if d.1.toNat=x then 1 else 0) * cV d) Ο)) * y x=1 * (((if x=i then 1 else 0) - s * aG (λd=>(if d.1.toNat=x then 1 else 0) * cV d) Ο) * y x) - (s * cV d) * ((if x=d.1.toNat then 1 else 0) * y x);by_cases e:x=d.1.toNat
   ·rw[if_pos e,if_pos e.symm];grind
   ·rw[if_neg e,if_neg (Ne.symm e)];grind]
  rw[mV,ih,qA y (show d.1.toNat < n by omega)];show _=y i - s * (cV d * y d.1.toNat+aG (λd=>cV d * y d.1.toNat) Ο);grind
def kO(ns:List Fr):List Int:=ns.map λc=>c.1 * (aY ns / c.2)
def y_{ns:List Fr}(h:∀c∈ns,Nr E C c)(e0:0 < E)(c0:0<=C):0 < aY ns/\aY ns<=E/\∀c∈ns,((jU (aY ns) c:Int):Rat)=val c * (aY ns:Int)/\ -(C * E)<=jU (aY ns) c/\jU (aY ns) c<=C * E:=by
 have b0:0 < aY ns:=eN ns 1 @_ λc hc=>(h c hc).red.pos;have⟨d1,_,d3⟩:=fZ ns 1 E @_ (Int.one_dvd _) λc hc=>⟨(h c hc).red.pos,wd (h c hc).red (h c hc).he⟩;have le:=ab1 e0 d1;refine⟨b0,le,λc hc=>⟨Bf (h c hc).red.pos (d3 c hc),?_⟩⟩;have hd:=d3 c hc;have cp:=(h c hc).red.pos;have⟨a1,a2⟩:=(h c hc).ab;have le:aY ns<=E:=le;have b0:0 < aY ns:=b0;generalize hL:aY ns=L at *
 have hd:c.2∣L:=by rw[<-hL];exact hd
 have⟨k,rfl⟩:=hd;unfold jU;rw[abk _ ()];have k0:0<=k:=by
  rcases Int.lt_or_le k 0 with z| z
  ·have:=ab5 cp z;omega
  ·exact z
 have m1:=fq a1 k0;have m2:=fq a2 k0;have m3:=aaJ le c0;have e1:c.2 * C * k=C * (c.2 * k):=by grind
 have e2: -(c.2 * C) * k= -(C * (c.2 * k)):=by grind
 exact⟨(),()⟩
def mM(ε:Fr)(n i:Nat)(Ο:List aS)(given:Fr):List Int:=kO (fR ε n i Ο++[given])
structure CB(ε:Fr)(n:Nat)(E C:Int)(Ο:List aS)(given:Fr):Prop where
 wo:ND n Ο
 sc:∀d∈Ο,O2 ε E d
 gn:Nr E C given
 e0:0 < E
 cl:1+(Ο.length:Int)<=C
def B1{D:Int}{p:Fr}(h:Nr E C p)(l:C<=D):Nr E D p:=by have:=aaJ l (aau h.red.pos);have⟨a,b⟩:=h.ab;exact⟨h.red,h.he,⟨(),()⟩⟩
def K7{ns:List Fr}{x:Nat}(h:x < ns.length):ns.getD x (0,1)∈ns:=by rw[aab,aaa h];exact aaq h
def z6{ε:Fr}{Ο:List aS}{given:Fr}(hi:i < n)(p:CB ε n E C Ο given):(mM ε n i Ο given).length=n+1/\(∀x∈mM ε n i Ο given,-(C * E)<=x/\x<=C * E)/\∃L:Rat,0 < L/\(∀y:Nat->Rat,dI (λx=>((mM ε n i Ο given).getD x 0:Rat) * y x) n=L * (y i - Pg.val ε * aG (λd=>cV d * y d.1.toNat) Ο))/\((mM ε n i Ο given).getD n 0:Rat)=L * Pg.val given:=by
 have no:=I0 hi λd hd=>⟨p.wo.to d hd,p.sc d hd⟩;have c0:0<=C:=by have:=p.cl;omega
 have all:∀c∈fR ε n i Ο++[given],Nr E C c:=λc hc=>by
  rcases abm.mp hc with z| z
  ·have⟨x,hx,e⟩:=abf z;have V0:x < n:=by rw[<-no.len];exact hx
   have:=no.nr x V0;rw[aab,aaa hx]at this;rw[<-e];exact B1 this p.cl
  ·rw[aaG.mp z];exact p.gn
 have⟨b0,bE,hb⟩:=y_ all p.e0 c0;have ln:(fR ε n i Ο).length=n:=no.len;have at_:∀x,x < n+1->(mM ε n i Ο given).getD x 0=jU (aY (fR ε n i Ο++[given])) ((fR ε n i Ο++[given]).getD x (0,1)):=λx hx=>by
  unfold mM kO;have hx:x < (fR ε n i Ο++[given]).length:=by simp[ln];exact hx
  rw[aab,aak,aab,aaa hx];rfl
 have XG:∀x,x < n+1->(fR ε n i Ο++[given]).getD x (0,1)∈fR ε n i Ο++[given]:=λx hx=>K7 (by simp[ln];exact hx);refine⟨by unfold mM kO;simp[ln],λx hx=>?_,((aY (fR ε n i Ο++[given]):Int):Rat),?_,λy=>?_,?_⟩
 ·unfold mM kO at hx;have⟨c,hc,rfl⟩:=aan.mp hx;exact(hb c hc).2
 ·exact abh.mpr b0
 ·rw[de (g:=λx=>((aY (fR ε n i Ο++[given]):Int):Rat) * (vW (Pg.val ε) i Ο x * y x) - 0 * 0) λx hx=>by
   rw[at_ x (),(hb _ (XG x ())).1];have:(fR ε n i Ο++[given]).getD x (0,1)=(fR ε n i Ο).getD x (0,1):=by rw[aab,aap (by rw[ln];exact hx),<-aab]
   rw[this,no.val x hx];grind]
  rw[mV _ 0 (λx=>vW (Pg.val ε) i Ο x * y x) (λ_=>0),FL hi y p.wo.to];grind
 ·rw[at_ n (),(hb _ (XG n ())).1];have:(fR ε n i Ο++[given]).getD n (0,1)=given:=by rw[aab,aax (by rw[ln];exact aai _),ln,abH];rfl
  rw[this];grind
structure Sys(ε:Fr)(n:Nat)(B:Int)(ws:Nat->List aS)(gv:Nat->Fr):Prop where
 n1:1<=n
 b1:1<=B
 Wo:∀i,i < n->∃E C,CB ε n E C (ws i) (gv i)/\C * E<=B
 zero:∀{y:Nat->Rat},(∀k,k < n->y k=Pg.val ε * aG (λd=>cV d * y d.1.toNat) (ws k))->∀k,k < n->y k=0
def gu(ε:Fr)(n:Nat)(ws:Nat->List aS)(gv:Nat->Fr):List (List Int):=(List.range n).map λi=>mM ε n i (ws i) (gv i)
section
variable{ε:Fr}{ws:Nat->List aS}{gv:Nat->Fr}
def A_{k x:Nat}(h:k < n):Bz.arr (gu ε n ws gv) k x=(mM ε n k (ws k) (gv k)).getD x 0:=by
 unfold Bz.arr gu
 congr 1
 rw[aab,aak,aaO h];rfl
def ki:(gu ε n ws gv).length=n:=by unfold gu;simp
def Sys.eq(S:Sys ε n B ws gv){k:Nat}(hk:k < n):∃L:Rat,0 < L/\(∀y:Nat->Rat,dI (λx=>(Bz.arr (gu ε n ws gv) k x:Rat) * y x) n=L * (y k - Pg.val ε * aG (λd=>cV d * y d.1.toNat) (ws k)))/\(Bz.arr (gu ε n ws gv) k n:Rat)=L * Pg.val (gv k):=by
 have⟨E,C,p,_⟩:=S.Wo k hk;have⟨_,_,L,l0,l1,l2⟩:=z6 hk p;refine⟨L,l0,λy=>?_,?_⟩
 ·rw[<-l1 y];exact de λx _=>by rw[A_ hk]
 ·rw[A_ hk];exact l2
def Sys.SR(S:Sys ε n B ws gv)(y:Bz.Row)(h:∀k,k < n->Bz.ψ (λx=>Bz.arr (gu ε n ws gv) k x * y x) n=0):∀x,x < n->y x=0:=λx hx=>by
 have:=S.zero (y:=λx=>(y x:Rat)) (λk hk=>by
  have⟨L,l0,l1,_⟩:=S.eq hk;have e:=aaU (λz:Int=>(z:Rat)) (h k hk);rw[nQ,de (g:=λx=>(Bz.arr (gu ε n ws gv) k x:Rat) * (y x:Rat)) λx _=>aaQ _ _,l1 λx=>(y x:Rat)]at e;have e:L * ((y k:Rat) - Pg.val ε * aG (λd=>cV d * (y d.1.toNat:Rat)) (ws k))=0:=e;rcases Rat.mul_eq_zero.mp e with z| z
  ·grind
  ·grind) x hx
 exact Rat.intCast_eq_zero_iff.mp this
def Sys.bd(S:Sys ε n B ws gv):Bz.Bd (Bz.arr (gu ε n ws gv)) n (n+1) B:=⟨S.b1,λk c hk hc=>by
 have⟨E,C,p,hB⟩:=S.Wo k hk;have⟨ln,hb,_⟩:=z6 hk p;rw[A_ hk];have:=hb ((mM ε n k (ws k) (gv k)).getD c 0) (by rw[aab,aaa ()];exact aaq _)
 exact⟨(),()⟩⟩
structure Tab(ε:Fr)(n:Nat)(ws:Nat->List aS)(gv:Nat->Fr)(tb:List Fr):Prop where
 len:tb.length=n
 red:∀i,i < n->Red (tb.getD i (0,1))
 eq:∀i,i < n->Pg.val (tb.getD i (0,1))=Pg.val (gv i)+Pg.val ε * aG (λd=>cV d * Pg.val (tb.getD d.1.toNat (0,1))) (ws i)
def Sys.uniq(S:Sys ε n B ws gv){t t':List Fr}(h:Tab ε n ws gv t)(h':Tab ε n ws gv t'):t=t':=by
 have z:=S.zero (y:=λx=>Pg.val (t.getD x (0,1)) - Pg.val (t'.getD x (0,1))) (λk hk=>by
  rw[h.eq k hk,h'.eq k hk];rw[show(λd:aS=>cV d * (Pg.val (t.getD d.1.toNat (0,1)) - Pg.val (t'.getD d.1.toNat (0,1))))=λd=>cV d * Pg.val (t.getD d.1.toNat (0,1)) - cV d * Pg.val (t'.getD d.1.toNat (0,1)) by funext d;grind,mZ]
  grind)
 apply aa8
 ·rw[h.len,h'.len]
 ·intro i h1 h2;have hi:i < n:=by rw[<-h.len];exact h1
  have a:=h.red i hi;have b:=h'.red i hi;have c:=z i hi;rw[aab,aaa h1]at a c;rw[aab,aaa h2]at b c;exact eR a b (by have c:Pg.val t[i] - Pg.val t'[i]=0:=c;grind)
def Sys.ex(S:Sys ε n B ws gv)(DO:n<=12):∃(tb:List Fr) (z:Bz.Row) (N:Int),Bz.Oj (Bz.arr (gu ε n ws gv)) n n z N/\N≠0/\(∀i,i < n->N * (tb.getD i (0,1)).1=z i * (tb.getD i (0,1)).2)/\Tab ε n ws gv tb/\∀i,i < n->(tb.getD i (0,1)).2<=(12 * B) ^ n:=by
 have⟨ρ,ι,q,d,W,t⟩:=Bz.Turn.exists (A:=Bz.arr (gu ε n ws gv)) (n:=n) n;have hc:ι=List.range n:=by
  rcases t.all with e| ⟨x,h1,h2⟩
  ·exact e
  ·have⟨z,z1,z2⟩:=t.kernel h1 h2;have:=S.SR z z2 x h1;rw[z1]at this;exact aaE () t.d0
 have lr:ρ.length=n:=by rw[<-t.st.lc,hc,aa9]
 have sol:=t.QO λi h1 h2=>aaE h1 ();have d0:=t.d0;generalize hz:Bz.IS (Bz.arr (gu ε n ws gv)) n W ι n ι.length=z at *
 have g:∀i,i < n->((List.range n).map λi=>ak (z i) d).getD i (0,1)=ak (z i) d:=λi hi=>by rw[aab,aak,aaO hi];rfl
 refine⟨(List.range n).map λi=>ak (z i) d,z,d,sol,d0,λi hi=>?_,⟨by simp,λi hi=>?_,λi hi=>?_⟩,λi hi=>?_⟩
 ·rw[g i hi,<-cz d0]
 ·rw[g i hi];exact ip d0
 ·have⟨L,l0,l1,l2⟩:=S.eq hi;have⟨E,C,p,_⟩:=S.Wo i hi;have e:=aaU (λz:Int=>(z:Rat)) (sol i hi);rw[nQ,de (g:=λx=>(Bz.arr (gu ε n ws gv) i x:Rat) * (z x:Rat)) λx _=>aaQ _ _,l1 λx=>(z x:Rat),aaQ,l2]at e;rw[g i hi,ig d0]
  rw[lU (g:=λdd=>(1 / (d:Rat)) * (cV dd * (z dd.1.toNat:Rat)) - 0) λdd WU=>by
   have⟨a,b⟩:=p.wo.to dd WU;rw[g _ (),ig d0];have:=aT d0
   grind]
  have sc:∀(k:Rat) (ds:List aS),aG (λdd=>k * (cV dd * (z dd.1.toNat:Rat)) - 0) ds=k * aG (λdd=>cV dd * (z dd.1.toNat:Rat)) ds:=λk ds=>by
   induction ds with
   | nil=>show(0:Rat)=k * 0;grind
   | cons a ds ih=>
    show k * (cV a * (z a.1.toNat:Rat)) - 0+aG (λdd=>k * (cV dd * (z dd.1.toNat:Rat)) - 0) ds=k * (cV a * (z a.1.toNat:Rat)+aG (λdd=>cV dd * (z dd.1.toNat:Rat)) ds);rw[ih];grind
  rw[sc];have:=aT d0;have e:L * ((z i:Rat) - Pg.val ε * aG (λdd=>cV dd * (z dd.1.toNat:Rat)) (ws i))=(d:Rat) * (L * Pg.val (gv i)):=e;have e2:(z i:Rat) - Pg.val ε * aG (λdd=>cV dd * (z dd.1.toNat:Rat)) (ws i)=(d:Rat) * Pg.val (gv i):=by
   have:L * ((z i:Rat) - Pg.val ε * aG (λdd=>cV dd * (z dd.1.toNat:Rat)) (ws i) - (d:Rat) * Pg.val (gv i))=0:=by grind
   rcases Rat.mul_eq_zero.mp this with y| y
   ·grind
   ·grind
  grind
 ·rw[g i hi];have ad:=t.st.VC S.bd (λc Al=>aat (t.cl c Al) (Nat.le_succ _)) ();rw[lr]at ad;have l:=zx (t:=z i) d0;have q0:=cZ (t:=z i) d0;have⟨a1,a2⟩:=ad;omega
end
def R8{d:aS}{c:Fr}{q:DQ}(e:d.2.2=[c])(h:q (aj c) M):e_ (dh d) (.int 2) M q:=by unfold dh;rw[e];exact Ε (xs:=[.int d.1,aj d.2.1,aj c]) rfl (az (j:=2) rfl) h
def lN{k:Nat}(h:M[k]? =some (MO.lst xs)):gZ M (.loc k)=some xs:=by show(match M[k]? with| some (MO.lst xs)=>some xs| _=>none)=some xs;rw[h]
def FZ{p:Fr}(h:Nr E C p)(e0:0 < E)(e1:E < 2 ^ 190)(c0:0<=C)(c1:C < 2 ^ 110):Sz 300 p:=Q9 (k:=190) (m:=110) h.red h.he e0 e1 h.ab c0 c1
def IE:DF:=λas M q _=>∃(ns:List Fr) (E C:Int),as=[.lst (ns.map aj)]/\ns.length<=13/\(∀c∈ns,Nr E C c)/\0 < E/\E < 2 ^ 190/\0<=C/\C < 2 ^ 110/\q (b6 (kO ns)) M
def kS:Γ ["numbers","bottom"] ["numbers"] (τ nH):=.of rfl
def zj(F:cQ K "whole_row" "whole_row" nH f fd)(E:Ev K mg Cm){hG:Addr}{gY:FuncData}(bT:aC P w K mg base 2 "common_bottom" ["chances"] g_ hG gY):av P w K mg base (ck P w) 3 f fd ["numbers"] (cP K IE):=by
 refine F.eB kS (λds M q x h=>?_) (λbw A outer s H E' hr=>⟨_,(ζ (Β 1 kS.nd (Φ bT hr ξ (Η (jv 0) η)))
   (μ (Δ (jZ (ys:=["bottom"]) (Μ:=[1]) (.of kS rfl rfl rfl) (bR (jv 0)) (λC s H fp=>(cW (Ρ (jv 0) υ) (o9 (jv 1) (Ρ (jv 0) υ)))))))),λds M q x h=>?_⟩)
 ·have⟨ns,E,C,rfl,_⟩:=h;rfl
 ·have⟨ns,Ep,C,rfl,hz,hn,e0,e1,c0,c1,h⟩:=h;have⟨b0,bE,_⟩:=y_ hn e0 c0;have VO:∀c∈ns,Sz 300 c:=λc hc=>FZ (hn c hc) e0 e1 c0 c1;have b2:∀c∈ns,c.2 < 2 ^ 200:=λc hc=>by have:=ab1 e0 (wd (hn c hc).red (hn c hc).he);exact abp this (Int.lt_trans e1 @_)
  refine⟨ns,rfl,⟨hz,λc hc=>⟨(hn c hc).red.pos,b2 c hc⟩⟩,?_⟩;walk_at "vc";refine cN (i:=0) rfl rfl ⟨by rw[aag];exact aaA hz @_,?_⟩;refine dw (f:=λd=>.int (match d with| .tup [.int a,.int b]=>a * (aY ns / b)| _=>0)) trivial (λx hx q hq=>?_) ?_
  ·have⟨y,hy,rfl⟩:=aan.mp hx;have s:=VO y hy;have y0:=(hn y hy).red.pos;refine⟨⟨y0,fi s @_⟩,⟨iK s @_,?_⟩,hq⟩;exact JH (k:=190) (Int.ediv_nonneg (aau b0) (aau y0)) (abp (Int.ediv_le_self _ (aau b0)) (abp bE e1)) @_
  ·rw[aaS,aaT];have e:ns.map ((λd=>Dt.int (match d with| .tup [.int a,.int b]=>a * (aY ns / b)| _=>0)) ∘ aj)=(kO ns).map Dt.int:=by unfold kO;rw[aaT];rfl
   rw[e];exact h
structure WG(E C:Int):Prop where
 e1:E < 2 ^ 190
 c1:C < 2 ^ 110
def Q2(A:Addr):DF:=λas M q _=>∃(fs ε:Fr) (γ:List Rw) (i:Nat) (Ο:List aS) (given:Fr) (E C:Int),as=[ah A fs γ,.int (i:Nat),.lst (Ο.map dh),aj ε,aj given]/\i < γ.length/\γ.length<=12/\Sz 11 ε/\(∀d∈Ο,∃c,d.2.2=[c])/\CB ε γ.length E C Ο given/\WG E C/\(∀d∈Ο,Sz 300 (χ d))/\∀E',q (b6 (mM ε γ.length i Ο given)) (M++E')
def qu:Γ ["floor","place","ways","share","given","numbers","way"] ["floor","place","ways","share","given"] (τ vD):=.of rfl
def DH(F:cQ K "led_row" "led_row" vD f fd)(E:Ev K mg Cm)(ae:e7 P w K mg base 1 Cm "size" ["self"] (rR Cm) br bt){MM:Addr}{Ml:FuncData}(vI:aC P w K mg base 3 "minus" ["one","other"] FY MM Ml){MZ:Addr}{Mw:FuncData}(wm:aC P w K mg base 3 "times" ["one","other"] Fh MZ Mw){DM:Addr}{C8:FuncData}(ly:aC P w K mg base 3 "whole_row" ["numbers"] IE DM C8):av P w K mg base (ck P w) 5 f fd ["floor","place","ways","share","given"] (cP K (Q2 Cm)):=by
 refine F.eB qu (λds M q x h=>?_) (λbw A outer s H E' hr=>⟨_,(ζ (Β 5 qu.nd (Bx (gM 3 (d:=.lst [.tup [.int 0,.int 1]]) (by rfl)) (gI ae hr ξ (jv 0))))
   (ζ (ik (jv 5) (jv 1) (bO (θ υ (θ υ η aK) aK)))
   (ζ (cH (bR (jv 2)) (ay (i:=6) qu.nd rfl (Or.inl rfl)) aM (μ (ik (jv 5) (Ρ (jv 6) υ) (Φ vI hr ξ (θ (Ρ (jv 5) (Ρ (jv 6) υ)) (θ (Φ wm hr ξ (Η (jv 3) (θ (Ρ (jv 6) υ) η aU))) η cf) aU)))))
   (μ (Δ (Φ ly hr ξ (θ (me (jv 5) (ng (Η (jv 4) η))) η bM))))))),λds M q x h=>?_⟩)
 ·have⟨fs,ε,γ,i,Ο,given,E,C,rfl,_⟩:=h;rfl
 ·have⟨fs,ε,γ,i,Ο,given,Ep,C,rfl,il,sJ,Y6,JU,p,sz,Y_,h⟩:=h;have e0:=p.e0;have c0:0<=C:=by have:=p.cl;omega
  generalize hn:γ.length=n at *
  refine⟨⟨_,_,.inl rfl,rfl⟩,fs,γ,rfl,?_⟩;rw[hn];refine⟨[aj (0,1)],n,rfl,rfl,(),(),?_,?_⟩
  ·show 1 * ((n:Int)).toNat<=sizeLine;exact aaA (show _<=12 by omega) @_
  rw[show((n:Int)).toNat=n by omega,qg];dsimp only[qo];walk_at "vc";refine⟨gV,?_⟩;refine⟨M.length,(i:Nat),_,i,rfl,rfl,ao,by rw[aaX];exact nO il,?_⟩;rw[bX];have e00:(List.replicate n (aj (0,1))).set i (.tup [.int 1,.int 1])=((List.replicate n ((0,1):Fr)).set i (1,1)).map aj:=by rw[List.map_set,List.map_replicate];rfl
  rw[e00];dsimp only[uP,gw];walk_at "vc";refine bC (λzs ρ' M'=>∃(dJ rest:List aS) (ns:List Fr) (v:Nat->Rat) (o:Option Dt),Ο=dJ++rest/\zs=rest.map dh/\ns=dJ.foldl (qZ ε) ((List.replicate n ((0,1):Fr)).set i (1,1))/\kT n Ep (1+dJ.length) v ns/\M'=M++[MO.lst (ns.map aj)]/\ρ'=[some (ah Cm fs γ),some (.int (i:Int)),some (.lst (Ο.map dh)),some (aj ε),some (aj given),some (.loc M.length),o]) (λzs ρ' M' hj=>trivial) (λx zs ρ' M' hj iE=>?_) (λρ' M' hj=>?_) _ _ _ ⟨[],Ο,_,_,none,rfl,rfl,rfl,Fi il,rfl,rfl⟩
  ·have⟨dJ,rest,ns,v,o,ew,ex,en,no,rfl,rfl⟩:=hj;cases rest with
   | nil=>cases ex
   | cons d rest=>
    cases ex;have dm:d∈Ο:=by rw[ew];exact aaD _ aae
    have⟨t0,t1⟩:=p.wo.to d dm;have⟨c,hc⟩:=JU d dm;have ec:χ d=c:=by unfold χ;rw[hc];rfl
    have sc:=p.sc d dm;have LN:=Y_ d dm;have dl:1+(dJ.length:Int)<=C:=by have:=aaU List.length ew;rw[aah,aaI]at this;have:=p.cl;omega
    have tl:d.1.toNat < ns.length:=by rw[no.len];omega
    have VO:=FZ (B1 (no.nr d.1.toNat ()) dl) e0 sz.e1 c0 sz.c1;have szt:=FZ (B1 sc.nr (show(1:Int)<=C by omega)) e0 sz.e1 c0 sz.c1;have at_:jf (ns.map aj) d.1=some (aj (ns.getD d.1.toNat (0,1))):=by have:=Qh tl;rw[show((d.1.toNat:Nat):Int)=d.1 by omega]at this;rw[this,aab,aaa tl];rfl
    have nx:∀o,_:=λo=>iE [some (ah Cm fs γ),some (.int (i:Int)),some (.lst (Ο.map dh)),some (aj ε),some (aj given),some (.loc M.length),o] (M++[MO.lst ((qZ ε ns d).map aj)]) ⟨dJ++[d],rest,qZ ε ns d,_,o,by rw[ew];simp,rfl,by rw[List.foldl_append,<-en];rfl,by
     have:=xY no () ⟨t0,t1⟩ sc;rw[show 1+((dJ++[d]).length:Int)=1+(dJ.length:Int)+1 by simp;omega]
     exact this,rfl,rfl⟩
    dsimp only[gN,qo];walk_at "vc";refine ur ?_;refine(Ε (d:=.loc M.length) (lN ao) at_ ?_:e_ (.loc M.length) (.int d.1) _ _);refine R8 hc ?_;rw[<-ec];refine⟨ε,χ d,11,300,rfl,Y6,LN,@_,?_⟩;refine⟨_,_,300,300,rfl,VO,szt,@_,?_⟩;refine ur ?_;refine⟨M.length,d.1,_,d.1.toNat,rfl,rfl,ao,by rw[aag];have:=nO tl;rwa[show((d.1.toNat:Nat):Int)=d.1 by omega]at this,?_⟩;rw[bX];have:(ns.map aj).set d.1.toNat (aj (gW (ns.getD d.1.toNat (0,1)) (eE ε (χ d))))=(qZ ε ns d).map aj:=by unfold qZ;rw[List.map_set]
    rw[this];exact nx _
  ·have⟨dJ,rest,ns,v,o,ew,ex,en,no,rfl,rfl⟩:=hj;cases rest with
   | cons d rest=>cases ex
   | nil=>
    rw[aaY]at ew;subst ew;have en:ns=fR ε n i Ο:=en;walk_at "vc";refine⟨by show 1<=sizeLine;decide,ns.map aj,[aj given],mG ao,rfl,?_,?_⟩
    ·rw[aag,no.len];exact aaA (show n+1<=13 by omega) @_
    refine⟨ns++[given],Ep,C,by rw[aaV];rfl,by rw[aah,no.len];show n+1<=13;omega,λc hc=>?_,e0,sz.e1,c0,sz.c1,?_⟩
    ·rcases abm.mp hc with z| z
     ·have⟨x,hx,e⟩:=abf z;have:=no.nr x (by rw[<-no.len];exact hx);rw[aab,aaa hx]at this;rw[<-e];exact B1 this p.cl
     ·rw[aaG.mp z];exact p.gn
    rw[en];exact h _
abbrev Sp:=List (Option Nat)
def at_(S:Sp)(p:Nat):Option Nat:=S.getD p none
def aN(S:Sp)(ds:List aS):List (Option Nat):=ds.map λd=>at_ S d.1.toNat
def iG(kd:Str)(ns:List (Option Nat))(o:Option Nat):Prop:=
 if kd="other" then (o=none/\none∈ns)\/∃v,o=some (v+1)/\some v∈ns/\∀x∈ns,∃w,x=some w/\w<=v
 else (o=none/\∀x∈ns,x=none)\/∃v,o=some (v+1)/\some v∈ns/\∀w,some w∈ns->v<=w
def aL(γ:List Rw)(gs:List Nat)(S:Sp):Prop:=S.length=γ.length/\∀(p:Nat) (r:Rw),γ[p]? =some r->match r with
 | .fin _=>at_ S p=if p∈gs then some 0 else none
 | .Α kd ds=>iG kd (aN S ds) (at_ S p)
structure IF(γ:List Rw)(gs:List Nat)(m:Nat)(S:Sp):Prop where
 len:S.length=γ.length
 lt:∀p n,at_ S p=some n->n < m
 fin:∀p q,γ[p]? =some (.fin q)->at_ S p=if p∈gs then some 0 else none
 old:∀(p:Nat) (kd:Str) (ds:List aS) (n:Nat),γ[p]? =some (.Α kd ds)->at_ S p=some n->iG kd (aN S ds) (some n)
 new:∀(p:Nat) (kd:Str) (ds:List aS),γ[p]? =some (.Α kd ds)->at_ S p=none->if kd="other" then∃x∈aN S ds,x=none\/x=some (m - 1) else∀x∈aN S ds,x=none\/x=some (m - 1)
def aP(γ:List Rw)(S:Sp)(p:Nat):Bool:=match γ[p]? with
 | some (.Α kd ds)=>(at_ S p).isNone&&(if kd="other" then (aN S ds).all (·.isSome) else (aN S ds).any (·.isSome))
 | _=>false
def aV(γ:List Rw)(S:Sp):List Nat:=(List.range γ.length).filter (aP γ S)
def cx(m:Nat):List Nat->Sp->Sp
 | [],S=>S
 | p::ps,S=>cx m ps (S.set p (some m))
def mh(m:Nat):∀(ps:List Nat) (S:Sp),(cx m ps S).length=S.length
 | [],_=>rfl
 | p::ps,S=>by show(cx m ps (S.set p (some m))).length=_;rw[mh m ps,aa3]
def GW{q:Nat}{v:Option Nat}(hp:p < S.length):at_ (S.set p v) q=if p=q then v else at_ S q:=by
 unfold at_;rw[aab,aab];by_cases h:p=q
 ·subst h;rw[aa0 hp,aaw rfl];rfl
 ·rw[abb h,aay h]
def uy(m:Nat):∀(ps:List Nat) (S:Sp),(∀p∈ps,p < S.length)->∀q,at_ (cx m ps S) q=if q∈ps then some m else at_ S q
 | [],S,_,q=>by rw[if_neg (by simp)];rfl
 | p::ps,S,h,q=>by
  show at_ (cx m ps (S.set p (some m))) q=_;rw[uy m ps _ (λr hr=>by rw[aa3];exact h r (aad _ hr)) q,GW (h p aae)];by_cases h1:q∈ps
  ·rw[aaw h1,aaw (aad _ h1)]
  ·rw[aay h1];by_cases h2:p=q
   ·subst h2;rw[aaw rfl,aaw aae]
   ·rw[aay h2,aay (λz=>(aav.mp z).elim (λe=>h2 e.symm) h1)]
def eY{γ:List Rw}:p∈aV γ S↔p < γ.length/\aP γ S p=true:=by unfold aV;rw[List.mem_filter,List.mem_range]
def af{ds:List aS}{x:Option Nat}:x∈aN S ds↔∃d∈ds,at_ S d.1.toNat=x:=by unfold aN;rw[List.mem_map]
def tX{γ:List Rw}(h:IF γ gs m S)(hm:1<=m):IF γ gs (m+1) (cx m (aV γ S) S):=by
 have MS:∀p∈aV γ S,p < S.length:=λp hp=>by rw[h.len];exact(eY.mp hp).1
 have OR:=uy m (aV γ S) S MS;generalize T8:cx m (aV γ S) S=S' at *
 have none_of:∀p,p∈aV γ S->at_ S p=none:=λp hp=>by
  have:=(eY.mp hp).2;unfold aP at this;split at this
  ·rw[aaC]at this;exact Option.isNone_iff_eq_none.mp this.1
  ·cases this
 have kept:∀p n,at_ S p=some n->at_ S' p=some n:=λp n e=>by rw[OR,aay (λz=>by rw[none_of p z]at e;cases e)];exact e
 have back:∀p n,at_ S' p=some n->at_ S p=some n\/(n=m/\at_ S p=none):=λp n e=>by
  rw[OR]at e;split at e
  ·rename_i hp;cases e;exact .inr ⟨rfl,none_of p hp⟩
  ·exact .inl e
 have Rc:∀p,at_ S' p=none->at_ S p=none/\p∉aV γ S:=λp e=>by
  rw[OR]at e;split at e
  ·cases e
  ·rename_i hp;exact⟨e,hp⟩
 refine⟨by rw[<-T8,mh];exact h.len,λp n e=>?_,λp q hr=>?_,λp kd ds n hr e=>?_,λp kd ds hr e=>?_⟩
 ·rcases back p n e with e| ⟨rfl,_⟩
  ·have:=h.lt p n e;omega
  ·omega
 ·rw[OR,aay (λz=>?_)]
  ·exact h.fin p q hr
  ·have:=(eY.mp z).2;unfold aP at this;rw[hr]at this;cases this
 ·rcases back p n e with e0| ⟨rfl,e0⟩
  ·have hd:=h.old p kd ds n hr e0;have hn:=h.lt p n e0;unfold iG at hd⊢;by_cases hk:kd="other"
   ·rw[aaw hk]at hd⊢;rcases hd with ⟨z,_⟩| ⟨v,ev,h1,h2⟩
    ·cases z
    ·refine .inr ⟨v,ev,?_,λx hx=>?_⟩
     ·have⟨d,hd,ed⟩:=af.mp h1;exact af.mpr ⟨d,hd,kept _ _ ed⟩
     ·have⟨d,hd,ed⟩:=af.mp hx;have⟨w,ew,lw⟩:=h2 (at_ S d.1.toNat) (af.mpr ⟨d,hd,rfl⟩);rw[<-ed,kept _ _ ew];exact⟨w,rfl,lw⟩
   ·rw[aay hk]at hd⊢;rcases hd with ⟨z,_⟩| ⟨v,ev,h1,h2⟩
    ·cases z
    ·refine .inr ⟨v,ev,?_,λw hw=>?_⟩
     ·have⟨d,hd,ed⟩:=af.mp h1;exact af.mpr ⟨d,hd,kept _ _ ed⟩
     ·have⟨d,hd,ed⟩:=af.mp hw;rcases back _ _ ed with ed| ⟨rfl,_⟩
      ·exact h2 w (af.mpr ⟨d,hd,ed⟩)
      ·cases ev;omega
  ·have hp:p∈aV γ S:=by
    rw[OR]at e;split at e
    ·rename_i z;exact z
    ·rw[e0]at e;cases e
   have iP:=(eY.mp hp).2;unfold aP at iP;rw[hr]at iP;have iP:((at_ S p).isNone&&(if kd="other" then (aN S ds).all (·.isSome) else (aN S ds).any (·.isSome)))=true:=iP;rw[aaC]at iP;have iP:=iP.2;have zO:=h.new p kd ds hr e0;obtain⟨k,rfl⟩:∃k,n=k+1:=⟨n - 1,()⟩;unfold iG;by_cases hk:kd="other"
   ·rw[aaw hk]at iP zO⊢;have J2:=aa2.mp iP;have⟨x,hx,ex⟩:=zO;have ex:x=some k:=by
     rcases ex with rfl| ex
     ·have:=J2 none hx;cases this
     ·simpa using ex
    subst ex;refine .inr ⟨k,rfl,?_,λy hy=>?_⟩
    ·have⟨d,hd,ed⟩:=af.mp hx;exact af.mpr ⟨d,hd,kept _ _ ed⟩
    ·have⟨d,hd,ed⟩:=af.mp hy;have:=J2 (at_ S d.1.toNat) (af.mpr ⟨d,hd,rfl⟩);have⟨w,ew⟩:=aa6.mp this;have lw:=h.lt _ _ ew;rw[<-ed,kept _ _ ew];exact⟨w,rfl,()⟩
   ·rw[aay hk]at iP zO⊢;have⟨x,hx,sx⟩:=List.any_eq_true.mp iP;have ex:x=some k:=by
     rcases zO x hx with rfl| ex
     ·cases sx
     ·simpa using ex
    subst ex;refine .inr ⟨k,rfl,?_,λw hw=>?_⟩
    ·have⟨d,hd,ed⟩:=af.mp hx;exact af.mpr ⟨d,hd,kept _ _ ed⟩
    ·have⟨d,hd,ed⟩:=af.mp hw;rcases back _ _ ed with ed| ⟨rfl,_⟩
     ·rcases zO (some w) (af.mpr ⟨d,hd,ed⟩) with z| z
      ·cases z
      ·cases z;omega
     ·omega
 ·have⟨e0,hp⟩:=Rc p e;have e6:p < γ.length:=(aaf.mp hr).1;have iP:aP γ S p=false:=by
   cases hb:aP γ S p with
   | false=>rfl
   | true=>exact aaE (eY.mpr ⟨e6,hb⟩) hp
  unfold aP at iP;rw[hr]at iP;have iP:((at_ S p).isNone&&(if kd="other" then (aN S ds).all (·.isSome) else (aN S ds).any (·.isSome)))=false:=iP;rw[e0]at iP;have iP:(if kd="other" then (aN S ds).all (·.isSome) else (aN S ds).any (·.isSome))=false:=by simpa using iP
  show if kd="other" then∃x∈aN S' ds,x=none\/x=some (m+1 - 1) else∀x∈aN S' ds,x=none\/x=some (m+1 - 1)
  rw[Nat.add_sub_cancel];have one:∀d,at_ S d=none->at_ S' d=none\/at_ S' d=some m:=λd ed=>by
   rw[OR];split
   ·exact .inr rfl
   ·exact .inl ed
  by_cases hk:kd="other"
  ·rw[aaw hk]at iP⊢;obtain⟨x,hx,sx⟩:∃x∈aN S ds,x=none:=by
    have:¬(∀x∈aN S ds,x.isSome=true):=λz=>by rw[aa2.mpr z]at iP;cases iP
    simp only[Classical.not_forall]at this;have⟨x,hx,sx⟩:=this;exact⟨x,hx,by simpa using sx⟩
   subst sx;have⟨d,hd,ed⟩:=af.mp hx;exact⟨at_ S' d.1.toNat,af.mpr ⟨d,hd,rfl⟩,one _ ed⟩
  ·rw[aay hk]at iP⊢;intro x hx;have⟨d,hd,ed⟩:=af.mp hx;have:at_ S d.1.toNat=none:=by
    cases hz:at_ S d.1.toNat with
    | none=>rfl
    | some w=>
     have:(aN S ds).any (·.isSome)=true:=List.any_eq_true.mpr ⟨some w,af.mpr ⟨d,hd,hz⟩,rfl⟩;rw[this]at iP;cases iP
   rw[<-ed];exact one _ this
def Hx{γ:List Rw}(h:IF γ gs m S)(he:aV γ S=[]):aL γ gs S:=by
 refine⟨h.len,λp r hr=>?_⟩;cases r with
 | fin q=>exact h.fin p q hr
 | Α kd ds=>
  show iG kd (aN S ds) (at_ S p);cases e:at_ S p with
  | some n=>exact h.old p kd ds n hr e
  | none=>
   have e6:p < γ.length:=(aaf.mp hr).1;have iP:aP γ S p=false:=by
    cases hb:aP γ S p with
    | false=>rfl
    | true=>have:=eY.mpr ⟨e6,hb⟩;rw[he]at this;cases this
   unfold aP at iP;rw[hr]at iP;have iP:((at_ S p).isNone&&(if kd="other" then (aN S ds).all (·.isSome) else (aN S ds).any (·.isSome)))=false:=iP;rw[e]at iP;have iP:(if kd="other" then (aN S ds).all (·.isSome) else (aN S ds).any (·.isSome))=false:=by simpa using iP
   unfold iG;by_cases hk:kd="other"
   ·rw[aaw hk]at iP⊢;refine .inl ⟨rfl,?_⟩;have:¬(∀x∈aN S ds,x.isSome=true):=λz=>by rw[aa2.mpr z]at iP;cases iP
    simp only[Classical.not_forall]at this;have⟨x,hx,sx⟩:=this;have:x=none:=by simpa using sx
    rw[<-this];exact hx
   ·rw[aay hk]at iP⊢;refine .inl ⟨rfl,λx hx=>?_⟩;cases x with
    | none=>rfl
    | some w=>
     have:(aN S ds).any (·.isSome)=true:=List.any_eq_true.mpr ⟨some w,hx,rfl⟩;rw[this]at iP;cases iP
def oZ(S:Sp):Nat:=S.countP (·.isNone)
def Ft(hp:p < S.length)(e:at_ S p=none):oZ (S.set p (some m))+1=oZ S:=by
 unfold oZ;have eg:S[p]=none:=by unfold at_ at e;rw[aab,aaa hp]at e;exact e
 rw[List.countP_set hp]
 ·simp[eg];have:0 < S.countP (·.isNone):=List.countP_pos_iff.mpr ⟨S[p],aaq hp,by rw[eg];rfl⟩;omega
def yY{m:Nat}:∀(ps:List Nat) (S:Sp),ps.Nodup->(∀p∈ps,p < S.length/\at_ S p=none)->oZ (cx m ps S)+ps.length=oZ S
 | [],_,_,_=>rfl
 | p::ps,S,nd,h=>by
  have⟨h1,h2⟩:=h p aae;have ih:=yY (m:=m) ps (S.set p (some m)) (abK.mp nd).2 λq hq=>by rw[aa3,GW h1,aay (λz=>(abK.mp nd).1 (by rw[z];exact hq))];exact h q (aad _ hq)
  have:=Ft (m:=m) h1 h2;show oZ (cx m ps (S.set p (some m)))+(ps.length+1)=oZ S;omega
def eV:Option Nat->Dt
 | none=>.aJ
 | some n=>.int n
structure gH(γ:List Rw)(gs:List Nat):Prop where
 up:gs.Pairwise (· < ·)
 fin:∀g∈gs,∃q,γ[g]? =some (.fin q)
structure HN(γ:List Rw):Prop where
 len:γ.length<=12
 row:∀r∈γ,fU r/\fk r γ.length=true
def oq{γ:List Rw}{k:Str}{ds:List aS}(f:HN γ)(h:Rw.Α k ds∈γ):Ν ds γ.length=true/\(Χ k=true\/k="chance"):=by
 have h2:=(f.row _ h).2;have h2:(if Χ k then Ν ds γ.length else if k="chance" then Ν ds γ.length&&aa (ds.map χ) else false)=true:=h2;by_cases hk:Χ k=true
 ·rw[aaw hk]at h2;exact⟨h2,.inl hk⟩
 ·rw[aay hk]at h2;by_cases hc:k="chance"
  ·rw[aaw hc,aaC]at h2;exact⟨h2.1,.inr hc⟩
  ·rw[aay hc]at h2;cases h2
def mE{γ:List Rw}{k:Str}{ds:List aS}{d:aS}(f:HN γ)(h:Rw.Α k ds∈γ)(hd:d∈ds):0<=d.1/\d.1 < γ.length:=by have h2:=(oq f h).1;unfold Ν at h2;rw[aaC,aaC]at h2;have h3:=aa2.mp h2.2 d hd;unfold aR at h3;rw[aaC,aaC,aa4,aa4]at h3;exact⟨h3.1,h3.2.1⟩
def xn{γ:List Rw}{k:Str}{ds:List aS}(f:HN γ)(h:Rw.Α k ds∈γ):1<=ds.length/\ds.length<=6:=by have h2:=(oq f h).1;unfold Ν at h2;rw[aaC,aaC,aa4,aa4]at h2;exact h2.1
def y4(h:p < S.length):jf (S.map eV) (p:Int)=some (eV (at_ S p)):=by
 have e:at_ S p=S[p]:=by unfold at_;rw[List.getD_eq_getElem?_getD,List.getElem?_eq_getElem h];rfl
 rw[e];exact az (by rw[aak,aaa h];rfl)
def NQ{o:Option Nat}{q:DQ}(h:q (.bl o.isNone) M):J5 (eV o) .aJ M q:=by
 cases o with
 | none=>exact h
 | some n=>exact h
def wO{o:Option Nat}{q:DQ}(h:q (.bl o.isSome) M):uw (eV o) .aJ M q:=by
 cases o with
 | none=>exact h
 | some n=>exact h
def pb(C:Addr):DF:=λas M q _=>∃ε γ g gs ok,as=[ah C ε γ,g]/\js M g=some (gs.map cj,ok)/\ok M/\gH γ gs/\q .aJ M
def fm:Γ ["floor","goals","ahead","goal"] ["floor","goals"] (τ jr):=.of rfl
def tL(F:cQ K "check_goals" "check_goals" jr f fd)(E:Ev K mg Cm)(Ψ:e7 P w K mg base 1 Cm "kind" ["self","place"] (qt Cm) bc ba)(ae:e7 P w K mg base 1 Cm "size" ["self"] (rR Cm) br bt):av P w K mg base (ck P w) 2 f fd ["floor","goals"] (cP K (pb Cm)):=by
 refine F.eB fm (λds M q x h=>?_) (λbw A outer s H E' hr=>⟨_,(ζ (Β 2 fm.nd (La υ))
   (μ (cH (bR (jv 1)) (ay (i:=3) fm.nd rfl (Or.inl rfl)) aM (ζ (aI (JW.jt (jC (Qx (jv 3) (jv 2)) (jC (Li (jv 3) (gI ae hr ξ (jv 0))) (iF (pj hr (fQ Ψ hr ξ (jv 0) (Η (jv 3) η)) mH))))) (μ fT) Ξ)
   (μ (Β 2 fm.nd (jv 3))))))),λds M q x h=>?_⟩)
 ·have⟨ε,γ,g,gs,ok,rfl,_⟩:=h;rfl
 ·have⟨ε,γ,g,gs,ok,rfl,hg,aO,go,h⟩:=h;dsimp only[Mn,wq,uP,gw];walk_at "vc";show(match js M g with| some (xs,ok)=>_| none=>False);rw[hg];refine bC (λxs ρ M'=>M'=M/\∃(rest:List Nat) (a:Int) (b:Option Dt),xs=rest.map cj/\(∀p∈rest,p∈gs/\a < p)/\rest.Pairwise (· < ·)/\ρ=[some (ah Cm ε γ),some g,some (.int a),b]) (λxs ρ M' hj=>by have⟨rfl,_⟩:=hj;exact aO) (λx xs ρ M' hj iE=>?_) (λρ M' hj=>?_) _ _ _ ⟨rfl,gs,-1,none,rfl,λp hp=>⟨hp,()⟩,go.up,rfl⟩
  ·have⟨rfl,rest,a,b,ex,x6,hp,rfl⟩:=hj;cases rest with
   | nil=>cases ex
   | cons p rest=>
    cases ex;have⟨hm,ha⟩:=x6 p aae;have⟨e,he⟩:=go.fin p hm;have MS:p < γ.length:=(aaf.mp he).1;refine⟨λz=>?_,λ_=>?_⟩
    ·have:(p:Int)<=a:=aas z;omega
    refine⟨⟨_,_,.inl rfl,rfl⟩,ε,γ,rfl,λz=>?_,λ_=>?_⟩
    ·have:(p:Int) ≥ γ.length:=aas z;omega
    refine⟨⟨_,_,.inl rfl,rfl⟩,ε,γ,p,.fin e,rfl,he,nofun,λ_=>?_⟩;exact iE _ _ ⟨rfl,rest,p,_,rfl,λr hr=>⟨(x6 r (aad _ hr)).1,abN.mpr (List.rel_of_pairwise_cons hp hr)⟩,hp.of_cons,rfl⟩
  ·have⟨rfl,rest,a,b,ex,x6,hp,rfl⟩:=hj;exact h
def zg(C:Addr):DF:=λas M q _=>∃ε γ k p S,as=[ah C ε γ,.int (p:Nat),.loc k]/\M[k]? =some (.lst (S.map eV))/\S.length=γ.length/\p < γ.length/\HN γ/\q (.bl (aP γ S p)) M
def nA:Γ ["floor","place","steps","known"] ["floor","place","steps"] (τ qF):=.of rfl
def z_(F:cQ K "is_drawn" "is_drawn" qF f fd)(E:Ev K mg Cm)(Ψ:e7 P w K mg base 1 Cm "kind" ["self","place"] (qt Cm) bc ba)(aH:e7 P w K mg base 2 Cm "doors" ["self","place"] (qy Cm) cy cw):av P w K mg base (ck P w) 3 f fd ["floor","place","steps"] (cP K (zg Cm)):=by
 refine F.eB nA (λds M q x h=>?_) (λbw A outer s H E' hr=>⟨_,(ζ (aI (JW.jt (jC (Cj (Ρ (jv 2) (jv 1)) rN) (iF (cU hr (fQ Ψ hr ξ (jv 0) (Η (jv 1) η)) mH)))) (μ (Δ Km)) Ξ)
   (ζ (gL (i:=3) nA.nd rfl (Or.inl rfl) (ys:=["steps"]) (Μ:=[2]) (.of nA rfl rfl rfl) (bR (cX (fQ aH hr ξ (jv 0) (Η (jv 1) η)))) (λC s H fp=>(N0 (Ρ (jv 1) (Ρ (jv 0) υ)) rN)))
   (ζ (aI (cU hr (fQ Ψ hr ξ (jv 0) (Η (jv 1) η)) mH) (μ (Δ (Lb E.yy (Η (jv 3) η)))) Ξ)
   (μ (Δ (LD E.yi (Η (jv 3) η))))))),λds M q x h=>?_⟩)
 ·have⟨ε,γ,k,p,S,rfl,_⟩:=h;rfl
 ·have⟨ε,γ,k,p,S,rfl,hk,hl,hp,f,h⟩:=h;have hs:gZ M (.loc k)=some (S.map eV):=by show(match M[k]? with| some (.lst xs)=>some xs| _=>none)=_;rw[hk]
  have hi:γ[p]? =some γ[p]:=aaa hp;have Ss:γ[p]∈γ:=aaq hp;generalize γ[p]=r at hi Ss;have ro:=(f.row _ Ss).1;walk_at "vc";refine(Ε (d:=.loc k) hs (y4 ()) ?_:e_ (.loc k) (.int (p:Nat)) M _);refine wO ⟨λz=>⟨λ_=>?_,nofun⟩,λz=>?_⟩
  ·have e:aP γ S p=false:=by
    unfold aP;rw[hi];cases r with
    | fin q=>rfl
    | Α kd ds=>
     have⟨v,ev⟩:=aa6.mp z;show((at_ S p).isNone&&_)=false;rw[ev];rfl
   rw[e]at h;exact h
  ·have z:at_ S p=none:=by simpa using z
   refine⟨⟨_,_,.inl rfl,rfl⟩,ε,γ,p,r,rfl,hi,?_⟩;cases r with
   | fin e0=>
    have e:aP γ S p=false:=by unfold aP;rw[hi]
    rw[e]at h;exact⟨λ_=>h,nofun⟩
   | Α kd ds=>
    have l6:=xn f Ss;refine⟨λz=>aaE (aas z) ro.1,λ_=>?_⟩;have e:aP γ S p=(if kd="other" then (aN S ds).all (·.isSome) else (aN S ds).any (·.isSome)):=by unfold aP;rw[hi];show((at_ S p).isNone&&_)=_;rw[z];rfl
    rw[e]at h;refine⟨⟨_,_,.inl rfl,rfl⟩,ε,γ,p,.Α kd ds,rfl,hi,ro,eK (ds:=ds.map dh) (dQ ds) ?_⟩;refine⟨by rw[aag];exact aaA l6.2 @_,?_⟩;refine eL (F:=λx a=>x=dh a/\a∈ds) (f:=λd=>Dt.bl (at_ S d.1.toNat).isSome) trivial (λx a ha q' mj=>?_) (jI dh ds ds λ_ h=>h) ?_
    ·have⟨rfl,ha⟩:=ha;have⟨a0,a1⟩:=mE f Ss ha;have e1:jf (S.map eV) a.1=some (eV (at_ S a.1.toNat)):=by have:=y4 (S:=S) (p:=a.1.toNat) ();rwa[show((a.1.toNat:Nat):Int)=a.1 by omega]at this
     have key:e_ (dh a) (.int 0) M (λi M1=>e_ (.loc k) i M1 (λd M2=>uw d .aJ M2 q')):=by refine ur ?_;refine Ε (d:=.loc k) hs e1 ?_;exact wO mj
     exact key
    rw[aaS];have eb:ds.map (λd=>Dt.bl (at_ S d.1.toNat).isSome)=((aN S ds).map (·.isSome)).map Dt.bl:=by unfold aN;rw[List.map_map,List.map_map];rfl
    rw[eb];refine⟨⟨_,_,.inl rfl,rfl⟩,ε,γ,p,.Α kd ds,rfl,hi,λz=>?_,λz=>?_⟩
    ·have z:kd="other":=aas z;rw[aaw z]at h;refine⟨_,rfl,?_⟩;rw[List.all_map];exact h
    ·have z:kd≠"other":=aaK z;rw[aay z]at h;refine⟨_,rfl,λ_ z=>(nomatch z),λ_ z=>(nomatch z),?_⟩;rw[List.any_map];exact h
def sd(C:Addr):DF:=λas M q _=>∃ε γ k S,as=[ah C ε γ,.loc k]/\M[k]? =some (.lst (S.map eV))/\S.length=γ.length/\HN γ/\q (.lst ((aV γ S).map cj)) M
def oW:Γ ["floor","steps"] ["floor","steps"] (τ lC):=.of rfl
def vy(F:cQ K "drawn_next" "drawn_next" lC f fd)(E:Ev K mg Cm)(ae:e7 P w K mg base 1 Cm "size" ["self"] (rR Cm) br bt){Ie:Addr}{Hm:FuncData}(oP:aC P w K mg base 3 "is_drawn" ["floor","place","steps"] (zg Cm) Ie Hm):av P w K mg base (ck P w) 4 f fd ["floor","steps"] (cP K (sd Cm)):=by
 refine F.eB oW (λds M q x h=>?_) (λbw A outer s H E' hr=>⟨_,(μ (Δ (yu (ys:=["floor","steps"]) (Μ:=[0,1]) (.of oW rfl rfl rfl) (oY (cq E.bP (θ (gI ae hr ξ (jv 0)) η cf))) (λC s H fp=>(fY (Φ oP hr (cJ (P:=P) (w:=w)) (Η (jv 1) (Η (jv 0) (Η (jv 2) η)))))) (λC s H fp=>(jv 0))))),λds M q x h=>?_⟩)
 ·have⟨ε,γ,k,S,rfl,_⟩:=h;rfl
 ·have⟨ε,γ,k,S,rfl,hk,hl,f,h⟩:=h;have S_:=f.len;refine⟨⟨_,_,.inl rfl,rfl⟩,ε,γ,rfl,?_⟩;refine⟨⟨(),()⟩,by rw[dU];exact aaA (show _<=12 by omega) @_,?_⟩;refine d4 trivial (λx=>match x with| .int j=>aP γ S j.toNat| _=>false) (λx=>x) _ _ (λx hx q' p' h1 h2=>?_) ?_
  ·have⟨j,Z8,rfl⟩:=jR hx;have hj:j < γ.length:=()
   have h1:aP γ S (0+(j:Int)).toNat=true->q' (.int (0+(j:Int))) M:=h1;have h2:aP γ S (0+(j:Int)).toNat=false->p' M:=h2;rw[show(0+(j:Int)).toNat=j by omega]at h1 h2;refine⟨ε,γ,k,j,S,by rw[Int.zero_add],hk,hl,hj,f,?_⟩;cases hb:aP γ S j with
   | true=>exact h1 hb
   | false=>exact h2 hb
  ·rw[aaS,List.map_id'];have e3:((cM 0 ((γ.length:Int)).toNat).filter (λx=>match x with| .int j=>aP γ S j.toNat| _=>false))=(aV γ S).map cj:=by
    unfold cM aV;rw[List.filter_map,show((γ.length:Int)).toNat=γ.length by omega];have e4:((λx:Dt=>match x with| .int j=>aP γ S j.toNat| _=>false) ∘ λk:Nat=>Dt.int (0+(k:Int)))=λj:Nat=>aP γ S j:=by
     funext j
     show aP γ S (0+(j:Int)).toNat=_;rw[show(0+(j:Int)).toNat=j by omega]
    rw[e4];exact List.map_congr_left λj _=>by unfold cj;rw[Int.zero_add]
   rw[e3];exact h
def ql(m:Nat):∀(ps:List Nat) (p:Nat) (S:Sp),cx m (ps++[p]) S=(cx m ps S).set p (some m)
 | [],_,_=>rfl
 | q::ps,p,S=>ql m ps p (S.set q (some m))
def uv:∀gs:List Nat,g9 (gs.map cj)=some (gs.map λg:Nat=>V.int (g:Int))
 | []=>rfl
 | g::gs=>by show(match ue (cj g),g9 (gs.map cj) with| some v,some vs=>some (v::vs)| _,_=>none)=_;rw[uv gs];rfl
def BW(p:Nat):∀gs:List Nat,O3 (.int (p:Int)) (gs.map λg:Nat=>V.int (g:Int))=decide (p∈gs)
 | []=>rfl
 | g::gs=>by
  show(((g:Int)==(p:Int))|| O3 (.int (p:Int)) (gs.map λg:Nat=>V.int (g:Int)))=_;rw[BW p gs];by_cases h:g=p
  ·subst h;simp
  ·have h1:((g:Int)==(p:Int))=false:=by simpa usingλz:(g:Int)=p=>h ()
   rw[h1,Bool.false_or];have:(p∈g::gs)↔p∈gs:=⟨λz=>(aav.mp z).resolve_left (λe=>h e.symm),aad _⟩;simp[this]
def gc(n:Nat)(gs:List Nat):Sp:=(List.range n).map λp=>if p∈gs then some 0 else none
def yc(h:p < n):at_ (gc n gs) p=if p∈gs then some 0 else none:=by unfold at_ gc;rw[aab,aak,aaO h];rfl
def CQ{γ:List Rw}(g:gH γ gs)(f:HN γ):IF γ gs 1 (gc γ.length gs):=by
 have out:∀p n,at_ (gc γ.length gs) p=some n->p < γ.length/\p∈gs/\n=0:=λp n e=>by
  by_cases hp:p < γ.length
  ·rw[yc hp]at e;split at e
   ·rename_i hg;cases e;exact⟨hp,hg,rfl⟩
   ·cases e
  ·unfold at_ gc at e;rw[List.getD_eq_getElem?_getD,List.getElem?_eq_none (by simp;omega)]at e;cases e
 refine⟨by unfold gc;simp,λp n e=>by have⟨_,_,rfl⟩:=out p n e;exact Nat.zero_lt_one,λp q hr=>yc (List.getElem?_eq_some_iff.mp hr).1,λp kd ds n hr e=>?_,λp kd ds hr e=>?_⟩
 ·have⟨_,hg,_⟩:=out p n e;have⟨q,hq⟩:=g.fin p hg;rw[hr]at hq;cases hq
 ·have any:∀x∈aN (gc γ.length gs) ds,x=none\/x=some (1 - 1):=λx hx=>by
   have⟨d,hd,ed⟩:=af.mp hx;cases x with
   | none=>exact .inl rfl
   | some v=>have⟨_,_,rfl⟩:=out _ _ ed;exact .inr rfl
  by_cases hk:kd="other"
  ·rw[aaw hk];have l6:=xn f (aal hr);cases ds with
   | nil=>exact aaE l6.1 @_
   | cons d ds=>exact⟨_,aae,any _ aae⟩
  ·rw[aay hk];exact any
def i5(S:Sp):List Nat:=(List.range S.length).filter λp=>(at_ S p).isNone
def tU:∀(S:Sp) (n:Nat),((gG n (S.map eV)).filter (λx=>match x with| .tup [_,.aJ]=>true| _=>false)).map (λx=>match x with| .tup [i,_]=>i| _=>.aJ)=(i5 S).map λj=>cj (n+j)
 | [],n=>rfl
 | o::S,n=>by
  have ih:=tU S (n+1);have e1:i5 (o::S)=(if o.isNone then [0] else [])++(i5 S).map Nat.succ:=by
   unfold i5;rw[aaI,abt,List.filter_cons];have:((List.map Nat.succ (List.range S.length)).filter λp=>(at_ (o::S) p).isNone)=((List.range S.length).filter λp=>(at_ S p).isNone).map Nat.succ:=by rw[List.filter_map];rfl
   rw[this];show(if o.isNone=true then _ else _)=_;split <;> rfl
  rw[e1,aaV,aaT];have e2:(i5 S).map ((λj=>cj (n+j)) ∘ Nat.succ)=(i5 S).map λj=>cj (n+1+j):=aaZ λj _=>by
   show cj (n+(j+1))=cj (n+1+j)
   congr 1;omega
  rw[e2,<-ih];cases o with
  | none=>rfl
  | some v=>rfl
def GP(C:Addr):DF:=λas M q _=>∃ε γ g gs ok,as=[ah C ε γ,g]/\js M g=some (gs.map cj,ok)/\ok M/\gZ M g=some (gs.map cj)/\gH γ gs/\HN γ/\∀S,aL γ gs S->q (.tup [.loc (M.length+1),.loc M.length]) (M++[.lst (S.map eV),.lst ((i5 S).map cj)])
def g6:Γ ["floor","goals","steps","many","drawn","place","shut"] ["floor","goals"] (τ Gx):=.of rfl
def Jk(F:cQ K "draw" "draw" Gx f fd)(E:Ev K mg Cm){yq:Addr}{yv:FuncData}(iN:aC P w K mg base 2 "check_goals" ["floor","goals"] (pb Cm) yq yv)(ae:e7 P w K mg base 1 Cm "size" ["self"] (rR Cm) br bt){zW:Addr}{AR:FuncData}(gP:aC P w K mg base 4 "drawn_next" ["floor","steps"] (sd Cm) zW AR):av P w K mg base (ck P w) 5 f fd ["floor","goals"] (cP K (GP Cm)):=by
 refine F.eB g6 (λds M q x h=>?_) (λbw A outer s H E' hr=>⟨_,(ζ (dX (Φ iN hr ξ (Η (jv 0) (Η (jv 1) η))))
   (ζ (fc (i:=2) g6.nd rfl (Or.inl rfl) (ys:=["goals"]) (Μ:=[1]) (.of g6 rfl rfl rfl) (oY (cq E.bP (θ (gI ae hr ξ (jv 0)) η cf))) (λC s H fp=>(Cu (Bj (jv 0) (jv 1)) υ rN)))
   (ζ (Β 3 g6.nd υ)
   (ζ (Β 4 g6.nd (Φ gP hr ξ (Η (jv 0) (Η (jv 2) η))))
   (ζ (jT (GQ (fJ E.dz (Η (jv 4) η)) υ) (ζ (cH (bR (jv 4)) (ay (i:=5) g6.nd rfl (Or.inl rfl)) aM (μ (ik (jv 2) (jv 5) (jv 3))))
   (ζ (Β 3 g6.nd (bx (jv 3) υ))
   (μ (Β 4 g6.nd (Φ gP hr ξ (Η (jv 0) (Η (jv 2) η))))))))
   (ζ (tj (i:=6) g6.nd rfl (Or.inl rfl) (ys:=[]) (Μ:=[]) (.of g6 rfl rfl rfl) (mw E.bW (Η (jv 2) η)) (λC s H fp=>(AI (jv 1) rN)) (λC s H fp=>(jv 0)))
   (μ (Δ (bO (Η (jv 6) (Η (jv 2) η))))))))))),λds M q x h=>?_⟩)
 ·have⟨ε,γ,g,gs,ok,rfl,_⟩:=h;rfl
 ·have⟨ε,γ,g,gs,ok,rfl,hg,aO,P4,go,f,h⟩:=h;have S_:=f.len;refine⟨ε,γ,g,gs,ok,rfl,hg,aO,go,?_⟩;refine⟨⟨_,_,.inl rfl,rfl⟩,ε,γ,rfl,?_⟩;refine⟨⟨(),()⟩,by rw[dU];exact aaA (show _<=12 by omega) @_,?_⟩;refine dw (f:=λx=>match x with| .int j=>eV (if j.toNat∈gs then some 0 else none)| _=>.aJ) trivial (λx hx q' mj=>?_) ?_
  ·have⟨j,Z8,rfl⟩:=jR hx;have mj:q' (eV (if (0+(j:Int)).toNat∈gs then some 0 else none)) M:=mj;rw[show(0+(j:Int)).toNat=j by omega]at mj;rw[show(0+(j:Int))=(j:Int) by omega];refine⟨.int (j:Int),gs.map cj,_,rfl,P4,uv gs,?_⟩;rw[BW];refine⟨λz=>?_,λz=>?_⟩
   ·rw[aaw (aas z)]at mj;exact mj
   ·rw[aay (aaK z)]at mj;exact mj
  have e0:([]:List Dt)++(cM 0 ((γ.length:Int)).toNat).map (λx=>match x with| .int j=>eV (if j.toNat∈gs then some 0 else none)| _=>.aJ)=(gc γ.length gs).map eV:=by
   unfold cM gc;rw[aaS,aaT,aaT,show((γ.length:Int)).toNat=γ.length by omega];exact aaZ λj _=>by show eV (if (0+(j:Int)).toNat∈gs then some 0 else none)=_;rw[show(0+(j:Int)).toNat=j by omega];rfl
  rw[e0];have d0:=CQ go f;refine⟨ε,γ,M.length,gc γ.length gs,rfl,by simp,d0.len,f,?_⟩;refine⟨λm ρ M'=>∃(S:Sp) (mm:Nat) (a b:Option Dt),IF γ gs mm S/\1<=mm/\m=oZ S/\M'=M++[.lst (S.map eV)]/\ρ=[some (ah Cm ε γ),some g,some (.loc M.length),some (.int (mm:Int)),some (.lst ((aV γ S).map cj)),a,b],⟨_,gc γ.length gs,1,none,none,d0,aai _,rfl,rfl,rfl⟩,?_⟩;rintro m ρ M' ⟨S,mm,a,b,di,m1,rfl,rfl,rfl⟩;have MS:∀p∈aV γ S,p < S.length:=λp hp=>by rw[di.len];exact(eY.mp hp).1
  have Qc:∀p∈aV γ S,at_ S p=none:=λp hp=>by
   have:=(eY.mp hp).2;unfold aP at this;split at this
   ·rw[aaC]at this;exact Option.isNone_iff_eq_none.mp this.1
   ·cases this
  have UM:(aV γ S).Nodup:=List.Pairwise.filter _ List.nodup_range;walk_at "vc";refine(bf (d:=.lst ((aV γ S).map cj)) (xs:=(aV γ S).map cj) rfl ?_:lI [.lst ((aV γ S).map cj)] _ _);refine⟨λz=>?_,λz=>?_⟩
  ·have z:((((aV γ S).map cj).length:Nat):Int) > 0:=aas z;rw[aag]at z;refine⟨λρ' Ob=>∃(a b:Option Dt),Ob=M++[.lst ((cx mm (aV γ S) S).map eV)]/\ρ'=[some (ah Cm ε γ),some g,some (.loc M.length),some (.int ((mm+1:Nat):Int)),some (.lst ((aV γ (cx mm (aV γ S) S)).map cj)),a,b],?_,?_⟩
   ·rintro ρ' Ob ⟨a',b',rfl,rfl⟩;have ho:=yY (m:=mm) (aV γ S) S UM λp hp=>⟨MS p hp,Qc p hp⟩;exact⟨_,(),cx mm (aV γ S) S,mm+1,a',b',tX di m1,(),rfl,rfl,rfl⟩
   ·refine cN (i:=4) (d:=.lst ((aV γ S).map cj)) rfl rfl ?_;refine bC (λxs ρ Ob=>∃(done rest:List Nat) (a b:Option Dt),aV γ S=done++rest/\xs=rest.map cj/\Ob=M++[.lst ((cx mm done S).map eV)]/\ρ=[some (ah Cm ε γ),some g,some (.loc M.length),some (.int (mm:Int)),some (.lst ((aV γ S).map cj)),a,b]) (λxs ρ Ob hj=>trivial) (λx xs ρ Ob hj iE=>?_) (λρ Ob hj=>?_) _ _ _ ⟨[],aV γ S,a,b,rfl,rfl,rfl,rfl⟩
    ·have⟨done,rest,a',b',er,ex,rfl,rfl⟩:=hj;cases rest with
     | nil=>cases ex
     | cons p rest=>
      cases ex;have hp:=MS p (by rw[er];simp);refine⟨M.length,(p:Int),(cx mm done S).map eV,p,rfl,rfl,by simp,by rw[List.length_map,mh];exact nO hp,?_⟩;refine iE _ _ ⟨done++[p],rest,_,_,by rw[er];simp,rfl,?_,rfl⟩;rw[ql];simp[List.set_append,List.map_set];rfl
    ·have⟨done,rest,a',b',er,ex,rfl,rfl⟩:=hj;cases rest with
     | nil=>
      rw[aaY]at er;subst er;have ds:=tX di m1;exact⟨ε,γ,M.length,cx mm (aV γ S) S,rfl,by simp,ds.len,f,_,_,rfl,rfl⟩
     | cons p rest=>cases ex
  ·have z:¬((((aV γ S).map cj).length:Nat):Int) > 0:=aaK z;rw[aag]at z;have TZ:aV γ S=[]:=List.length_eq_zero_iff.mp ();have dok:=Hx di TZ;have XI:(M++[MO.lst (S.map eV)])[M.length]? =some (.lst (S.map eV)):=by simp
   have hlk:iC (M++[MO.lst (S.map eV)]) (.loc M.length)=some (S.map eV,λM':Ms=>M'[M.length]? =some (MO.lst (S.map eV))):=by show(match (M++[MO.lst (S.map eV)])[M.length]? with| some (MO.lst xs)=>some (xs,λM':Ms=>M'[M.length]? =some (MO.lst xs))| _=>none)=_;rw[XI]
   refine⟨.loc M.length,S.map eV,_,rfl,hlk,by rw[fo,aag,di.len];exact aaA S_ @_,?_⟩;refine d4 XI (λx=>match x with| .tup [_,.aJ]=>true| _=>false) (λx=>match x with| .tup [i,_]=>i| _=>.aJ) _ _ (λx hx q' p' h1 h2=>?_) ?_
   ·have⟨j,hj,ej⟩:=abf hx;have⟨y,hy,rfl⟩:=nK (n:=0) (i:=j) (aaf.mpr ⟨hj,ej⟩);rw[aak]at hy;have⟨o,ho,rfl⟩:=abS.mp hy;cases o with
    | none=>exact h1 rfl
    | some v=>exact h2 rfl
   ·rw[aaS,tU S 0];have e4:(i5 S).map (λj=>cj (0+j))=(i5 S).map cj:=aaZ λj _=>by rw[acd]
    rw[e4];refine⟨gV,?_⟩;have:=h S dok;rw[aah,aaH];exact this
def rT{a b:Fr}(ha:0 < a.2)(hb:0 < b.2):a.1 * b.2<=b.1 * a.2↔val a<=val b:=by
 have e1:val a * (a.2:Rat)=a.1:=by
  have:=aT (show a.2≠0 by omega);unfold val;generalize (a.1:Rat)=x at *
  generalize (a.2:Rat)=y at *
  grind
 have e2:val b * (b.2:Rat)=b.1:=by
  have:=aT (show b.2≠0 by omega);unfold val;generalize (b.1:Rat)=x at *
  generalize (b.2:Rat)=y at *
  grind
 have p1:(0:Rat) < (a.2:Rat):=abh.mpr ha;have p2:(0:Rat) < (b.2:Rat):=abh.mpr hb;have pp:=Rat.mul_pos p1 p2;rw[<-Rat.intCast_le_intCast,aaQ,aaQ,<-e1,<-e2];generalize (a.2:Rat)=y at *
 generalize (b.2:Rat)=z at *
 generalize val a=u at *
 generalize val b=v at *
 constructor
 ·intro h;by_cases c:u<=v
  ·exact c
  ·have:=Rat.mul_pos (show 0 < u - v by grind) pp;grind
 ·intro h;have:=Rat.mul_le_mul_of_nonneg_right h (Rat.le_of_lt pp);grind
def qY(ns:List Fr):Fr:=ns.foldl (λf n=>if dj f n then n else f) (ns.headD (0,1))
def r6(ns:List Fr):Fr:=ns.foldl (λf n=>if dj n f then n else f) (ns.headD (0,1))
def Ag:DF:=λas M q _=>∃p r k l,as=[aj p,aj r]/\Sz k p/\Sz l r/\k+l+1<=8000/\q (.bl (dj p r)) M
def Ku:Γ ["one","other"] ["one","other"] (τ AU):=.of rfl
def Hu(F:cQ K "under" "under" AU f fd)(E:Ev K mg Cm):av P w K mg base (ck P w) 1 f fd ["one","other"] (cP K Ag):=by
 refine F.eB Ku (λds M q x h=>?_) (λbw A outer s H E' hr=>⟨_,(μ (Δ (NW (cW (Ρ (jv 0) υ) (Ρ (jv 1) υ)) (cW (Ρ (jv 1) υ) (Ρ (jv 0) υ))))),λds M q x h=>?_⟩)
 ·have⟨p,r,k,l,rfl,_⟩:=h;rfl
 ·have⟨p,r,k,l,rfl,hp,p9,hk,h⟩:=h;exact⟨⟨iK hp (),fi p9 ()⟩,⟨iK p9 (),fi hp ()⟩,h⟩
def vn(f:List Fr->Fr):DF:=λas M q _=>∃ns:List Fr,as=[.lst (ns.map aj)]/\ns≠[]/\(∀n∈ns,Sz 1300 n)/\q (aj (f ns)) M
def iQ:Γ ["numbers","found","number"] ["numbers"] (τ nY):=.of rfl
def yI(F:cQ K "greatest" "greatest" nY f fd)(E:Ev K mg Cm){AY:Addr}{Bq:FuncData}(j7:aC P w K mg base 1 "under" ["one","other"] Ag AY Bq):av P w K mg base (ck P w) 2 f fd ["numbers"] (cP K (vn qY)):=by
 refine F.eB iQ (λds M q x h=>?_) (λbw A outer s H E' hr=>⟨_,(ζ (Β 1 iQ.nd (Ρ (jv 0) υ))
   (ζ (cH (bR (jv 0)) (ay (i:=2) iQ.nd rfl (Or.inl rfl)) aM (μ (aI (fY (Φ j7 hr ξ (Η (jv 1) (Η (jv 2) η)))) (μ (Β 1 iQ.nd (jv 2))) Ξ)))
   (μ (Δ (jv 1))))),λds M q x h=>?_⟩)
 ·have⟨ns,rfl,_⟩:=h;rfl
 ·have⟨ns,rfl,h0,hn,h⟩:=h;have⟨n0,ns',rfl⟩:=abE h0;walk_at "vc";refine Ε (d:=.lst ((n0::ns').map aj)) rfl cC ?_;refine cN (i:=0) (d:=.lst ((n0::ns').map aj)) rfl rfl ?_;refine bC (λxs ρ M'=>M'=M/\∃(rest:List Fr) (f:Fr) (a:Option Dt),xs=rest.map aj/\(∀p∈rest,Sz 1300 p)/\Sz 1300 f/\rest.foldl (λf n=>if dj f n then n else f) f=qY (n0::ns')/\ρ=[some (.lst ((n0::ns').map aj)),some (aj f),a]) (λxs ρ M' hj=>trivial) (λx xs ρ M' hj iE=>?_) (λρ M' hj=>?_) _ _ _ ⟨rfl,n0::ns',n0,none,rfl,hn,hn n0 aae,rfl,rfl⟩
  ·have⟨rfl,rest,f,a,ex,x6,hw,hf,rfl⟩:=hj;cases rest with
   | nil=>cases ex
   | cons p rest=>
    cases ex;have hp:=x6 p aae;rw[abB]at hf;refine⟨f,p,1300,1300,rfl,hw,hp,@_,λz=>?_,λz=>?_⟩
    ·rw[z,aaw rfl]at hf;exact iE _ _ ⟨rfl,rest,p,_,rfl,λp hp=>x6 p (aad _ hp),hp,hf,rfl⟩
    ·rw[z,aay @_]at hf;exact iE _ _ ⟨rfl,rest,f,_,rfl,λp hp=>x6 p (aad _ hp),hw,hf,rfl⟩
  ·have⟨rfl,rest,f,a,ex,x6,hw,hf,rfl⟩:=hj;cases rest with
   | nil=>rw[<-hf]at h;exact h
   | cons p rest=>cases ex
def qc:Γ ["numbers","found","number"] ["numbers"] (τ AH):=.of rfl
def Iu(F:cQ K "least" "least" AH f fd)(E:Ev K mg Cm){AY:Addr}{Bq:FuncData}(j7:aC P w K mg base 1 "under" ["one","other"] Ag AY Bq):av P w K mg base (ck P w) 2 f fd ["numbers"] (cP K (vn r6)):=by
 refine F.eB qc (λds M q x h=>?_) (λbw A outer s H E' hr=>⟨_,(ζ (Β 1 qc.nd (Ρ (jv 0) υ))
   (ζ (cH (bR (jv 0)) (ay (i:=2) qc.nd rfl (Or.inl rfl)) aM (μ (aI (fY (Φ j7 hr ξ (Η (jv 2) (Η (jv 1) η)))) (μ (Β 1 qc.nd (jv 2))) Ξ)))
   (μ (Δ (jv 1))))),λds M q x h=>?_⟩)
 ·have⟨ns,rfl,_⟩:=h;rfl
 ·have⟨ns,rfl,h0,hn,h⟩:=h;have⟨n0,ns',rfl⟩:=abE h0;walk_at "vc";refine Ε (d:=.lst ((n0::ns').map aj)) rfl cC ?_;refine cN (i:=0) (d:=.lst ((n0::ns').map aj)) rfl rfl ?_;refine bC (λxs ρ M'=>M'=M/\∃(rest:List Fr) (f:Fr) (a:Option Dt),xs=rest.map aj/\(∀p∈rest,Sz 1300 p)/\Sz 1300 f/\rest.foldl (λf n=>if dj n f then n else f) f=r6 (n0::ns')/\ρ=[some (.lst ((n0::ns').map aj)),some (aj f),a]) (λxs ρ M' hj=>trivial) (λx xs ρ M' hj iE=>?_) (λρ M' hj=>?_) _ _ _ ⟨rfl,n0::ns',n0,none,rfl,hn,hn n0 aae,rfl,rfl⟩
  ·have⟨rfl,rest,f,a,ex,x6,hw,hf,rfl⟩:=hj;cases rest with
   | nil=>cases ex
   | cons p rest=>
    cases ex;have hp:=x6 p aae;rw[abB]at hf;refine⟨p,f,1300,1300,rfl,hp,hw,@_,λz=>?_,λz=>?_⟩
    ·rw[z,aaw rfl]at hf;exact iE _ _ ⟨rfl,rest,p,_,rfl,λp hp=>x6 p (aad _ hp),hp,hf,rfl⟩
    ·rw[z,aay @_]at hf;exact iE _ _ ⟨rfl,rest,f,_,rfl,λp hp=>x6 p (aad _ hp),hw,hf,rfl⟩
  ·have⟨rfl,rest,f,a,ex,x6,hw,hf,rfl⟩:=hj;cases rest with
   | nil=>rw[<-hf]at h;exact h
   | cons p rest=>cases ex
def uQ{f n:Fr}(h1:0 < f.2)(h2:0 < n.2):dj f n=true↔val f < val n:=by
 unfold dj;rw[aa4];have:=rT h2 h1;constructor
 ·intro h;by_cases c:val n<=val f
  ·have:=this.mpr c;omega
  ·grind
 ·intro h;by_cases c:n.1 * f.2<=f.1 * n.2
  ·have:=this.mp c;grind
  ·omega
def lR:∀(ns:List Fr) (f:Fr),0 < f.2->(∀n∈ns,0 < n.2)->(ns.foldl (λf n=>if dj f n then n else f) f∈f::ns)/\val f<=val (ns.foldl (λf n=>if dj f n then n else f) f)/\∀n∈ns,val n<=val (ns.foldl (λf n=>if dj f n then n else f) f)
 | [],f,_,_=>⟨List.mem_cons_self,by show val f<=val f;grind,λ_ z=>nomatch z⟩
 | a::ns,f,h,hn=>by
  have ha:=hn a aae;have u:=uQ h ha;rw[abB];by_cases c:dj f a=true
  ·rw[aaw c];have⟨m,l,al⟩:=lR ns a ha λn z=>hn n (aad _ z);have:=u.mp c;refine⟨List.mem_cons_of_mem _ m,by grind,λn z=>?_⟩;rcases aav.mp z with e| e
   ·rw[e];exact l
   ·exact al n e
  ·rw[aay c];have⟨m,l,al⟩:=lR ns f h λn z=>hn n (aad _ z);have c2:¬val f < val a:=λz=>c (u.mpr z);refine⟨?_,l,λn z=>?_⟩
   ·rcases aav.mp m with e| e
    ·rw[e];exact aae
    ·exact aad _ (aad _ e)
   ·rcases aav.mp z with e| e
    ·rw[e];grind
    ·exact al n e
def k7:∀(ns:List Fr) (f:Fr),0 < f.2->(∀n∈ns,0 < n.2)->(ns.foldl (λf n=>if dj n f then n else f) f∈f::ns)/\val (ns.foldl (λf n=>if dj n f then n else f) f)<=val f/\∀n∈ns,val (ns.foldl (λf n=>if dj n f then n else f) f)<=val n
 | [],f,_,_=>⟨List.mem_cons_self,by show val f<=val f;grind,λ_ z=>nomatch z⟩
 | a::ns,f,h,hn=>by
  have ha:=hn a aae;have u:=uQ ha h;rw[abB];by_cases c:dj a f=true
  ·rw[aaw c];have⟨m,l,al⟩:=k7 ns a ha λn z=>hn n (aad _ z);have:=u.mp c;refine⟨List.mem_cons_of_mem _ m,by grind,λn z=>?_⟩;rcases aav.mp z with e| e
   ·rw[e];exact l
   ·exact al n e
  ·rw[aay c];have⟨m,l,al⟩:=k7 ns f h λn z=>hn n (aad _ z);have c2:¬val a < val f:=λz=>c (u.mpr z);refine⟨?_,l,λn z=>?_⟩
   ·rcases aav.mp m with e| e
    ·rw[e];exact aae
    ·exact aad _ (aad _ e)
   ·rcases aav.mp z with e| e
    ·rw[e];grind
    ·exact al n e
def fb(k:Str):Rat:=if k="one" then 1 else -1
structure FR(ε:Fr)(γ:List Rw):Prop where
 pl:RE ε γ
 n1:1<=γ.length
 UM:∀k ds,Rw.Α k ds∈γ->Χ k=true->∀d∈ds,d.2.2=[]
def e9(γ:List Rw)(i:Nat):Rw:=γ.getD i (.fin (0,1))
def rw_at{γ:List Rw}(h:i < γ.length):γ[i]? =some (e9 γ i):=by unfold e9;rw[aab,aaa h];rfl
def bY{γ:List Rw}{r:Rw}(hi:γ[i]? =some r):e9 γ i=r:=by unfold e9;rw[aab,hi];rfl
def FR.Pu{ε:Fr}{γ:List Rw}(h:FR ε γ):HN γ:=⟨h.pl.len,h.pl.row⟩
def Jx{ds:List aS}(o:C4 (ds.map χ)):∀d∈ds,0 < cV d:=λd hd=>by
 have hm:χ d∈ds.map χ:=aan.mpr ⟨d,hd,rfl⟩;have⟨_,_,hB⟩:=fZ (ds.map χ) 1 0 @_ (abY _) λc hc=>⟨(o.EI.2 c hc).1,abY _⟩;have e:=Bf (o.EI.2 _ hm).1 (hB _ hm);have p:(0:Rat) < ((jU (aY (ds.map χ)) (χ d):Int):Rat):=abh.mpr (o.pos _ hm);have b0:(0:Rat) < ((aY (ds.map χ):Int):Rat):=abh.mpr o.b0;have e:((jU (aY (ds.map χ)) (χ d):Int):Rat)=val (χ d) * ((aY (ds.map χ):Int):Rat):=e;rw[e]at p;show 0 < val (χ d);by_cases z:0 < val (χ d)
 ·exact z
 ·have:=Rat.mul_nonneg (show 0<= -val (χ d) by grind) (Rat.le_of_lt b0);grind
structure W5(n:Nat)(B:Int)(d:aS):Prop where
 to:0<=d.1/\d.1 < n
 one:d.2.2=[χ d]
 ch:Ch B (χ d)
 p:0 < cV d
section
variable{ε:Fr}{γ:List Rw}{acc acc':Pl}{tb tb':List Fr}{k:Str}{ds:List aS}
def iu(fr:FR ε γ)(hi:γ[i]? =some (.Α k ds))(hh:Χ k=true)(gj:Τ acc i=some (j:Int))(jl:j < ds.length):ef acc i (.Α k ds)=[(ds[j].1,ds[j].2.1,[(1,1)])]:=by
 have gd:ds.getD j d0=ds[j]:=by rw[aab,aaa jl];rfl
 unfold ef;rw[gj];show[((ds.getD ((j:Int)).toNat d0).1,(ds.getD ((j:Int)).toNat d0).2.1,(ds.getD ((j:Int)).toNat d0).2.2++[(1,1)])]=_;rw[aaL,gd,fr.UM k ds (aal hi) hh _ (aaq jl)];rfl
def mJ:val ((1,1):Fr)=1:=by show((1:Int):Rat) / ((1:Int):Rat)=1;grind
def kI:val ((0,1):Fr)=0:=by show((0:Int):Rat) / ((1:Int):Rat)=0;grind
def FR.Ο(fr:FR ε γ)(dk:oF γ acc)(hi:γ[i]? =some (.Α k ds)):(ef acc i (.Α k ds)).length<=6/\aG cV (ef acc i (.Α k ds))=1/\∃B,0 < B/\B<=1000000/\∀d∈ef acc i (.Α k ds),W5 γ.length B d:=by
 have rm:Rw.Α k ds∈γ:=aal hi;have dr:=cY fr.pl rm;cases hh:Χ k with
 | true=>
  have⟨j,hj,jl⟩:=dk.hand i _ hi hh;have jl:j < ds.length:=jl;have v1:cV (ds[j].1,ds[j].2.1,[((1,1):Fr)])=1:=mJ;rw[iu fr hi hh hj jl];refine⟨by simp,?_,1,@_,@_,λd hd=>?_⟩
  ·show cV (ds[j].1,ds[j].2.1,[(1,1)])+0=1;rw[v1];grind
  ·rw[aaG.mp hd];refine⟨dr.to ds[j] (List.getElem_mem jl),rfl,?_,by rw[v1];grind⟩;show Ch 1 ((1,1):Fr);exact⟨@_,⟨1,@_⟩,⟨@_,@_⟩,vF (k:=2) ⟨@_,@_,@_⟩ @_⟩
 | false=>
  have hc:k="chance"/\C4 (ds.map χ):=by
   rcases dr.kd with z| ⟨_,z⟩
   ·rw[z]at hh;cases hh
   ·exact z
  have⟨rfl,co⟩:=hc;have e:ef acc i (.Α "chance" ds)=ds:=by unfold ef;rw[dk.zB i _ hi hh];rfl
  rw[e];refine⟨dr.l6,(IX co).1,aY (ds.map χ),co.b0,co.b1,λd hd=>?_⟩;have⟨a,b,c,f⟩:=Ke co (aan.mpr ⟨d,hd,rfl⟩);exact⟨dr.to d hd,(dr.ro.2.2.1 rfl).1 d hd,⟨a,HH b,c,f⟩,Jx co d hd⟩
def pZ(S:Sp)(i:Nat):Prop:=∃s,at_ S i=some (s+1)
def fP(γ:List Rw)(S:Sp)(acc:Pl)(i:Nat):List aS:=match at_ S i with
 | some (_+1)=>ef acc i (e9 γ i)
 | _=>[]
def ny(S:Sp)(i:Nat):Fr:=match at_ S i with
 | some 0=>(1,1)
 | _=>(0,1)
def iU(h:pZ S i):fP γ S acc i=ef acc i (e9 γ i):=by have⟨s,e⟩:=h;unfold fP;rw[e]
def rD(h:¬pZ S i):fP γ S acc i=[]:=by
 unfold fP;split
 ·rename_i s e;exact aaE ⟨s,e⟩ h
 ·rfl
def Lv(h:pZ S i):ny S i=(0,1):=by have⟨s,e⟩:=h;unfold ny;rw[e];rfl
def n8(dr:aL γ gs S)(il:i < γ.length)(h:pZ S i):∃k ds,γ[i]? =some (.Α k ds):=by
 have hi:=rw_at il;have⟨s,e⟩:=h;have:=dr.2 i _ hi;cases hr:e9 γ i with
 | Α k ds=>rw[hr]at hi;exact⟨k,ds,hi⟩
 | fin p=>
  rw[hr]at this;have this:at_ S i=if i∈gs then some 0 else none:=this
  rw[e]at this;split at this <;> cases this
def nU(fr:FR ε γ)(dk:oF γ acc)(dr:aL γ gs S)(il:i < γ.length)(h:pZ S i):(fP γ S acc i).length<=6/\aG cV (fP γ S acc i)=1/\∃B,0 < B/\B<=1000000/\∀d∈fP γ S acc i,W5 γ.length B d:=by have⟨k,ds,hi⟩:=n8 dr il h;rw[iU h,bY hi];exact fr.Ο dk hi
def LQ{p:Fr}(e0:0 < E)(h:p=(0,1)\/p=(1,1)):Nr E 7 p:=by
 rcases h with rfl| rfl
 ·exact⟨⟨@_,@_⟩,⟨0,by simp⟩,⟨@_,@_⟩⟩
 ·exact⟨⟨@_,@_⟩,⟨E,by simp⟩,⟨@_,@_⟩⟩
def Hn:ny S i=(0,1)\/ny S i=(1,1):=by
 unfold ny;split
 ·exact .inr rfl
 ·exact .inl rfl
def N7(fr:FR ε γ)(dk:oF γ acc)(dr:aL γ gs S)(il:i < γ.length):∃E,CB (1,1) γ.length E 7 (fP γ S acc i) (ny S i)/\7 * E<=7000000/\WG E 7/\(∀d∈fP γ S acc i,∃c,d.2.2=[c])/\∀d∈fP γ S acc i,Sz 300 (χ d):=by
 by_cases h:pZ S i
 ·have⟨l6,one,B,b0,b1,hw⟩:=nU (acc:=acc) fr dk dr il h;generalize fP γ S acc i=ws at *
  refine⟨B,⟨⟨λd hd=>(hw d hd).to,λd hd=>Rat.le_of_lt (hw d hd).p,by rw[one];grind⟩,λd hd=>⟨@_,⟨@_,@_⟩,(hw d hd).ch.pos,(hw d hd).ch.u,?_⟩,LQ b0 Hn,b0,()⟩,(),⟨Int.lt_of_le_of_lt b1 @_,@_⟩,λd hd=>⟨_,(hw d hd).one⟩,λd hd=>(hw d hd).ch.sz⟩;have:=A0 @_ (hw d hd).ch.pos (C1 ((1,1):Fr)) (hw d hd).ch.he;rwa[Int.one_mul]at this
 ·rw[rD h];exact⟨1,⟨⟨λ_ z=>(nomatch z),λ_ z=>(nomatch z),by show(0:Rat)<=1;grind⟩,λ_ z=>(nomatch z),LQ @_ Hn,@_,by show 1+0<=(7:Int);decide⟩,@_,⟨@_,@_⟩,λ_ z=>(nomatch z),λ_ z=>(nomatch z)⟩
def vd{z:aS->Rat}{m:Rat}:∀{Ο:List aS},(∀d∈Ο,0 < cV d)->(∀d∈Ο,z d<=m)->aG (λd=>cV d * z d) Ο<=aG cV Ο * m
 | [],_,_=>by show(0:Rat)<=0 * m;grind
 | a::Ο,h1,h2=>by have ih:=vd (Ο:=Ο) (λd hd=>h1 d (aad _ hd)) (λd hd=>h2 d (aad _ hd));have:=Rat.mul_le_mul_of_nonneg_left (h2 a aae) (Rat.le_of_lt (h1 a aae));show cV a * z a+aG (λd=>cV d * z d) Ο<=(cV a+aG cV Ο) * m;grind
def Bi{z:aS->Rat}{m:Rat}:∀{Ο:List aS},(∀d∈Ο,0 < cV d)->(∀d∈Ο,z d<=m)->aG cV Ο * m<=aG (λd=>cV d * z d) Ο->∀d∈Ο,z d=m
 | a::Ο,h1,h2,h,d,hd=>by
  have le:=vd (Ο:=Ο) (λd hd=>h1 d (aad _ hd)) (λd hd=>h2 d (aad _ hd));have ca:=h1 a aae;have za:=h2 a aae;have h:(cV a+aG cV Ο) * m<=cV a * z a+aG (λd=>cV d * z d) Ο:=h;have la:=Rat.mul_le_mul_of_nonneg_left za (Rat.le_of_lt ca);rcases aav.mp hd with e| e
  ·rw[e];by_cases c:z a=m
   ·exact c
   ·have:=Rat.mul_pos ca (show 0 < m - z a by grind);grind
  ·exact Bi (λd hd=>h1 d (List.mem_cons_of_mem _ hd)) (λd hd=>h2 d (List.mem_cons_of_mem _ hd)) (by grind) d e
def j3(c:Rat)(f:aS->Rat):∀ds:List aS,aG (λd=>c * f d) ds=c * aG f ds
 | []=>by show(0:Rat)=c * 0;grind
 | d::ds=>by show c * f d+aG (λd=>c * f d) ds=c * (f d+aG f ds);rw[j3 c f ds];grind
def Be(C:Nat->Prop)(x:Nat->Rat):∀n,(∃i,i < n/\C i)->∃i,i < n/\C i/\∀j,j < n->C j->x j<=x i
 | 0,⟨i,h,_⟩=>aaE h (abv _)
 | n +1,⟨i,h,hc⟩=>by
  by_cases e:∃i,i < n/\C i
  ·have⟨t,tl,tc,tm⟩:=Be C x n e;by_cases c:C n/\x t<=x n
   ·refine⟨n,(),c.1,λj jl jc=>?_⟩;by_cases ej:j=n
    ·rw[ej];grind
    ·have:=tm j () jc;grind
   ·refine⟨t,(),tc,λj jl jc=>?_⟩;by_cases ej:j=n
    ·subst ej;have:¬x t<=x j:=λz=>c ⟨jc,z⟩;grind
    ·exact tm j () jc
  ·have hi:i=n:=by
    by_cases ei:i=n
    ·exact ei
    ·exact aaE ⟨i,(),hc⟩ e
   subst hi;refine⟨i,(),hc,λj jl jc=>?_⟩;by_cases ej:j=i
   ·rw[ej];grind
   ·exact aaE ⟨j,(),jc⟩ e
def Lo(γ:List Rw)(S:Sp)(acc:Pl):Prop:=∀C:Nat->Prop,(∀i,i < γ.length->C i->pZ S i/\∀d∈fP γ S acc i,C d.1.toNat)->∀i,i < γ.length->¬C i
def Hl(fr:FR ε γ)(dk:oF γ acc)(dr:aL γ gs S)(pr:Lo γ S acc){y:Nat->Rat}(h:∀i,i < γ.length->pZ S i->y i<=aG (λd=>cV d * y d.1.toNat) (fP γ S acc i))(h0:∀i,i < γ.length->¬pZ S i->y i<=0):∀i,i < γ.length->y i<=0:=λi il=>by
 have⟨t,tl,_,tm⟩:=Be (λ_=>True) y γ.length ⟨i,il,trivial⟩;by_cases c:y t<=0
 ·have:=tm i il trivial;grind
 ·refine aaE ⟨tl,rfl⟩ (pr (λj=>j < γ.length/\y j=y t) (λj jl hj=>?_) t tl);have e:=hj.2;have sj:pZ S j:=by
   by_cases z:pZ S j
   ·exact z
   ·have:=h0 j jl z;grind
  refine⟨sj,λd hd=>?_⟩;have⟨_,one,B,_,_,hw⟩:=nU (acc:=acc) fr dk dr jl sj;have tn:∀d∈fP γ S acc j,d.1.toNat < γ.length:=λd hd=>by have:=(hw d hd).to;omega
  exact⟨tn d hd,Bi (z:=λd=>y d.1.toNat) (m:=y t) (λd hd=>(hw d hd).p) (λd hd=>tm _ (tn d hd) trivial) (by rw[one,Rat.one_mul,<-e];exact h j jl sj) d hd⟩
def xS(f:aS->Rat)(ds:List aS):aG (λd=> -f d) ds= -aG f ds:=by rw[show(λd=> -f d)=λd=>(-1:Rat) * f d by funext d;grind,j3];grind
def Pn(fr:FR ε γ)(dk:oF γ acc)(dr:aL γ gs S)(pr:Lo γ S acc):Sys (1,1) γ.length 7000000 (fP γ S acc) (ny S):=by
 refine⟨fr.n1,@_,λi il=>?_,λ{y} h=>?_⟩
 ·have⟨E,p,l,_⟩:=N7 (acc:=acc) fr dk dr il;exact⟨E,7,p,l⟩
 ·have h:∀k,k < γ.length->y k=aG (λd=>cV d * y d.1.toNat) (fP γ S acc k):=λk kl=>by have:=h k kl;rw[mJ,Rat.one_mul]at this;exact this
  have z:∀k,k < γ.length->¬pZ S k->y k=0:=λk kl ns=>by have:=h k kl;rw[rD ns]at this;exact this
  have a:=Hl fr dk dr pr (y:=y) (λi il _=>by rw[<-h i il];grind) λi il ns=>by rw[z i il ns];grind
  have b:=Hl fr dk dr pr (y:=λi=> -y i) (λi il _=>by
   have e:(λd:aS=>cV d * -y d.1.toNat)=λd=> -(cV d * y d.1.toNat):=by funext d;grind
   rw[e,xS,<-h i il];grind) λi il ns=>by rw[z i il ns];grind
  intro k kl;have:=a k kl;have:=b k kl;grind
structure pW(γ:List Rw)(S:Sp)(acc:Pl)(tb:List Fr):Prop where
 tab:Tab (1,1) γ.length (fP γ S acc) (ny S) tb
 bot:∀i,i < γ.length->(tb.getD i (0,1)).2 < 2 ^ 400
abbrev V_(tb:List Fr)(i:Nat):Rat:=val (tb.getD i (0,1))
def pW.st(h:pW γ S acc tb)(il:i < γ.length)(s:pZ S i):V_ tb i=aG (λd=>cV d * V_ tb d.1.toNat) (fP γ S acc i):=by have:=h.tab.eq i il;rw[Lv s,kI,mJ]at this;show val (tb.getD i (0,1))=_;rw[this];grind
def pW.no(h:pW γ S acc tb)(il:i < γ.length)(s:¬pZ S i):V_ tb i=val (ny S i):=by have:=h.tab.eq i il;rw[rD s]at this;show val (tb.getD i (0,1))=_;rw[this];show val (ny S i)+val (1,1) * 0=_;grind
def R3(fr:FR ε γ)(SK:oF γ acc')(dr:aL γ gs S)(CV:Lo γ S acc')(h:pW γ S acc tb)(h':pW γ S acc' tb'){sg:Rat}(hs:∀i,i < γ.length->pZ S i->sg * V_ tb i<=sg * aG (λd=>cV d * V_ tb d.1.toNat) (fP γ S acc' i)):(∀i,i < γ.length->sg * V_ tb i<=sg * V_ tb' i)/\∀i,i < γ.length->pZ S i->sg * V_ tb i < sg * aG (λd=>cV d * V_ tb d.1.toNat) (fP γ S acc' i)->sg * V_ tb i < sg * V_ tb' i:=by
 have e:∀i,aG (λd=>cV d * (sg * V_ tb d.1.toNat - sg * V_ tb' d.1.toNat)) (fP γ S acc' i)=sg * aG (λd=>cV d * V_ tb d.1.toNat) (fP γ S acc' i) - sg * aG (λd=>cV d * V_ tb' d.1.toNat) (fP γ S acc' i):=λi=>by rw[<-j3,<-j3,<-mZ];exact lU λd _=>by grind
 have le:=Hl fr SK dr CV (y:=λi=>sg * V_ tb i - sg * V_ tb' i) (λi il st=>by
  have a:=hs i il st;have b:=h'.st il st;rw[e]
  grind) λi il ns=>by
  have a:=h.no il ns;have b:=h'.no il ns;grind
 refine⟨λi il=>by have:=le i il;grind,λi il st lt=>?_⟩;have⟨_,one,B,_,_,hw⟩:=nU (acc:=acc') fr SK dr il st;have m:=vd (z:=λd=>sg * V_ tb d.1.toNat - sg * V_ tb' d.1.toNat) (m:=0) (Ο:=fP γ S acc' i) (λd hd=>(hw d hd).p) λd hd=>le _ (by have:=(hw d hd).to;omega);rw[e]at m;have b:=h'.st il st;grind
def pW.unit(fr:FR ε γ)(dk:oF γ acc)(dr:aL γ gs S)(pr:Lo γ S acc)(h:pW γ S acc tb):∀i,i < γ.length->0<=V_ tb i/\V_ tb i<=1:=by
 have g:∀i,0<=val (ny S i)/\val (ny S i)<=1:=λi=>by
  rcases Hn (S:=S) (i:=i) with e| e <;> rw[e]
  ·rw[kI];grind
  ·rw[mJ];grind
 have a:=Hl fr dk dr pr (y:=λi=> -V_ tb i) (λi il st=>by
  have e:(λd:aS=>cV d * -V_ tb d.1.toNat)=λd=> -(cV d * V_ tb d.1.toNat):=by funext d;grind
  rw[e,xS,<-h.st il st];grind) λi il ns=>by
  have:=h.no il ns;have:=g i;grind
 have b:=Hl fr dk dr pr (y:=λi=>V_ tb i - 1) (λi il st=>by
  have e:(λd:aS=>cV d * (V_ tb d.1.toNat - 1))=λd=>cV d * V_ tb d.1.toNat - cV d:=by funext d;grind
  rw[e,mZ,(nU (acc:=acc) fr dk dr il st).2.1,<-h.st il st];grind) λi il ns=>by
  have:=h.no il ns;have:=g i;grind
 intro i il;have:=a i il;have:=b i il;grind
def pW.sz(fr:FR ε γ)(dk:oF γ acc)(dr:aL γ gs S)(pr:Lo γ S acc)(h:pW γ S acc tb)(il:i < γ.length):Red (tb.getD i (0,1))/\0<=(tb.getD i (0,1)).1/\(tb.getD i (0,1)).1<=(tb.getD i (0,1)).2/\Sz 400 (tb.getD i (0,1)):=by
 have r:=h.tab.red i il;have u:0<=val (tb.getD i (0,1))/\val (tb.getD i (0,1))<=1:=h.unit fr dk dr pr i il;have b:=h.bot i il;generalize tb.getD i (0,1)=p at *
 have p0:=r.pos;have u0:=(rT (a:=(0,1)) (b:=p) @_ p0).mpr (by rw[kI];exact u.1);have u1:=(rT (a:=p) (b:=(1,1)) p0 @_).mpr (by rw[mJ];exact u.2);have u0:(0:Int) * p.2<=p.1 * 1:=u0;have u1:p.1 * 1<=1 * p.2:=u1;have c0:0<=p.1:=()
 have c1:p.1<=p.2:=()
 refine⟨r,c0,c1,?_,p0,?_⟩
 ·have:(p.1.natAbs:Int) < ((2 ^ 400:Nat):Int):=by rw[abd c0];exact abp c1 b
  exact abN.mp this
 ·have:(p.2.natAbs:Int) < ((2 ^ 400:Nat):Int):=by rw[abd (aau p0)];exact b
  exact abN.mp this
end
def kh{i:Int}:∀{pl:Pl},i∉pl.map (·.1)->Τ pl i=none
 | [],_=>rfl
 | p::r,h=>by unfold Τ;rw[aay λz=>h (by rw[<-z];exact aae)];exact kh λz=>h (aad _ z)
def d9(γ:List Rw)(i:Nat):Str:=match γ[i]? with
 | some r=>kindOf r
 | none=>""
def fe(γ:List Rw)(hand:Str):List Nat:=(List.range γ.length).filter λi=>decide (d9 γ i=hand)
def AO(γ:List Rw)(hand:Str):Pl:=(fe γ hand).map λi:Nat=>((i:Int),0)
def AA(p:Nat->Bool)(n:Nat):((cM 0 n).filter λx=>match x with| .int j=>p j.toNat| _=>false)=((List.range n).filter p).map λi:Nat=>Dt.int i:=by
 unfold cM;rw[List.filter_map];have e:((λx:Dt=>match x with| .int j=>p j.toNat| _=>false) ∘ λi:Nat=>Dt.int (0+(i:Int)))=p:=funext λi=>by show p (0+(i:Int)).toNat=p i;rw[show(0+(i:Int)).toNat=i by omega]
 rw[e];exact aaZ λi _=>by show Dt.int (0+(i:Int))=Dt.int i;rw[Int.zero_add]
def vR(A:Addr):DF:=λas M q _=>∃(ε:Fr) (γ:List Rw) (hand:Str),as=[ah A ε γ,.str hand]/\γ.length<=12/\q (.lst ((fe γ hand).map λi:Nat=>Dt.int i)) M
def qm:Γ ["floor","hand"] ["floor","hand"] (τ nW):=.of rfl
def yx(F:cQ K "places_of" "places_of" nW f fd)(E:Ev K mg Cm)(ae:e7 P w K mg base 1 Cm "size" ["self"] (rR Cm) br bt)(Ψ:e7 P w K mg base 1 Cm "kind" ["self","place"] (qt Cm) bc ba):av P w K mg base (ck P w) 2 f fd ["floor","hand"] (cP K (vR Cm)):=by
 refine F.eB qm (λds M q x h=>?_) (λbw A outer s H E' hr=>⟨_,(μ (Δ (yu (ys:=["hand","floor"]) (Μ:=[1,0]) (.of qm rfl rfl rfl) (oY (cq E.bP (θ (gI ae hr ξ (jv 0)) η cf))) (λC s H fp=>(cU hr (fQ Ψ hr (cJ (P:=P) (w:=w)) (jv 2) (Η (jv 0) η)) (jv 1))) (λC s H fp=>(jv 0))))),λds M q x h=>?_⟩)
 ·have⟨ε,γ,hand,rfl,_⟩:=h;rfl
 ·have⟨ε,γ,hand,rfl,sJ,h⟩:=h;have sl:∀{z:Nat},z<=1000->z<=sizeLine:=λh=>aaA h @_;walk_at "vc";dsimp only[FP,Vb];walk_at "vc";refine⟨⟨_,_,.inl rfl,rfl⟩,ε,γ,rfl,?_⟩;refine⟨(),by rw[dU];exact sl (),?_⟩;rw[show((γ.length:Int)).toNat=γ.length by omega];refine d4 trivial (λx=>match x with| .int j=>decide (d9 γ j.toNat=hand)| _=>false) (λx=>x) _ _ (λx hx q' p' h1 h2=>?_) ?_
  ·have⟨j,hj,rfl⟩:=jR hx;rw[Int.zero_add]at h1 h2⊢;have hr:γ[j]? =some γ[j]:=aaa hj;have Z6:d9 γ j=kindOf γ[j]:=by unfold d9;rw[hr]
   have h1:decide (d9 γ j=hand)=true->q' (.int (j:Int)) M:=h1;have h2:decide (d9 γ j=hand)=false->p' M:=h2;rw[Z6]at h1 h2;refine⟨⟨_,_,.inl rfl,rfl⟩,ε,γ,j,γ[j],rfl,hr,?_⟩;show(match decide (kindOf γ[j]=hand) with| true=>q' (.int (j:Int)) M| false=>p' M);cases hb:decide (kindOf γ[j]=hand) with
   | true=>exact h1 hb
   | false=>exact h2 hb
  ·rw[aaS,List.map_id'];exact(λ(key:∀l,l=(fe γ hand).map (λi:Nat=>Dt.int i)->q (.lst l) M)=>key _ (AA (λi=>decide (d9 γ i=hand)) γ.length)) λl hl=>by rw[hl];exact h
def CF(A:Addr):DF:=λas M q _=>∃(ε:Fr) (γ:List Rw) (hand:Str),as=[ah A ε γ,.str hand]/\γ.length<=12/\q (.loc M.length) (M++[dP (AO γ hand)])
def jS:Γ ["floor","hand","plan","place"] ["floor","hand"] (τ kU):=.of rfl
def wz(F:cQ K "first_plan" "first_plan" kU f fd)(E:Ev K mg Cm){oC:Addr}{nC:FuncData}(eF:aC P w K mg base 2 "places_of" ["floor","hand"] (vR Cm) oC nC):av P w K mg base (ck P w) 3 f fd ["floor","hand"] (cP K (CF Cm)):=by
 refine F.eB jS (λds M q x h=>?_) (λbw A outer s H E' hr=>⟨_,(ζ (Β 2 jS.nd An)
   (ζ (cH (bR (Φ eF hr ξ (Η (jv 0) (Η (jv 1) η)))) (ay (i:=3) jS.nd rfl (Or.inl rfl)) aM (μ (xu hr (jv 2) (jv 3) υ)))
   (μ (Δ (jv 2))))),λds M q x h=>?_⟩)
 ·have⟨ε,γ,hand,rfl,_⟩:=h;rfl
 ·have⟨ε,γ,hand,rfl,sJ,h⟩:=h;have FW:(fe γ hand).length<=12:=by have:=List.length_filter_le (λi=>decide (d9 γ i=hand)) (List.range γ.length);rw[aa9]at this;unfold fe;omega
  have Po:(fe γ hand).Nodup:=List.nodup_range.filter _;walk_at "vc";dsimp only[uP,gw];walk_at "vc";refine⟨ε,γ,hand,rfl,sJ,?_⟩;refine bC (λxs ρ' M'=>∃(dJ rest:List Nat) (o3:Option Dt),fe γ hand=dJ++rest/\xs=rest.map (λi:Nat=>Dt.int i)/\M'=M++[dP (dJ.map λi:Nat=>((i:Int),0))]/\ρ'=[some (ah Cm ε γ),some (.str hand),some (.loc M.length),o3]) (λxs ρ' M' hj=>trivial) (λx xs ρ' M' hj iE=>?_) (λρ' M' hj=>?_) _ _ _ ⟨[],fe γ hand,none,rfl,rfl,rfl,rfl⟩
  ·have⟨dJ,rest,o3,e,ex,rfl,rfl⟩:=hj;cases rest with
   | nil=>cases ex
   | cons i rest=>
    cases ex;have dl:dJ.length<=12:=by have:=aaU List.length e;rw[aah]at this;omega
    dsimp only[wj];walk_at "vc";refine⟨M.length,_,_,Sum.inl (i:Int),rfl,ao,rfl,by unfold kP;rw[List.length_map,List.length_map];omega,?_⟩;rw[x9 (v:=0),BY,bX];have gn:Τ (dJ.map λi:Nat=>((i:Int),0)) (i:Int)=none:=kh λy=>by
     rw[aaT]at y;have⟨j,hj,ej⟩:=aan.mp y;have ej:(j:Int)=(i:Int):=ej;have:j=i:=()
     subst this;rw[e,ab0]at Po;exact Po.2.2 _ hj _ aae rfl
    refine iE _ _ ⟨dJ++[i],rest,_,by rw[e,aaH];rfl,rfl,?_,rfl⟩;unfold jd;rw[gn,aay @_,aaV];rfl
  ·have⟨dJ,rest,o3,e,ex,rfl,rfl⟩:=hj;have:rest=[]:=by cases rest with| nil=>rfl| cons p r=>cases ex
   subst this;rw[aaY]at e;rw[<-e];exact h
def aE:Pl->Pl->Pl
 | p,[]=>p
 | p,e::r=>aE (jd p e.1 e.2) r
def B7:∀{r p:Pl},oU (kP p) (kP r)=kP (aE p r)
 | [],p=>rfl
 | e::r,p=>by show oU (fG (kP p) (Sum.inl e.1)) (kP r)=kP (aE (jd p e.1 e.2) r);rw[x9 (v:=e.2)];exact B7
def Ci:∀{r p:Pl},r8 (kP p) (vP p) (kP r) (vP r)=vP (aE p r)
 | [],p=>rfl
 | e::r,p=>by show r8 (fG (kP p) (Sum.inl e.1)) (eA (kP p) (Sum.inl e.1) (vP p) (.int e.2)) (kP r) (vP r)=vP (aE (jd p e.1 e.2) r);rw[x9 (v:=e.2),BY];exact Ci
def j_{i:Int}:∀{r p:Pl},EX r->Τ (aE p r) i=match Τ r i with| some v=>some v| none=>Τ p i
 | [],p,_=>rfl
 | e::r,p,nd=>by
  unfold EX at nd;rw[aaW,abK]at nd;have ih:=j_ (i:=i) (r:=r) (p:=jd p e.1 e.2) nd.2;show Τ (aE (jd p e.1 e.2) r) i=match (if e.1=i then some e.2 else Τ r i) with| some v=>some v| none=>Τ p i
  rw[ih,Kq];by_cases h:e.1=i
  ·have hn:Τ r i=none:=by
    cases hg:Τ r i with
    | none=>rfl
    | some v=>exact aaE (aan.mpr ⟨_,CO hg,h.symm⟩) nd.1
   rw[hn,aaw h,aaw h.symm]
  ·rw[aay h,aay (Ne.symm h)]
def Ω:List (Int×Nat)->Pl->Prop
 | [],[]=>True
 | (k,c)::r,(k',v)::p=>k=k'/\0<=v/\v < c/\Ω r p
 | _,_=>False
def Jo:List (Int×Nat)->List Pl
 | []=>[[]]
 | (k,c)::r=>(List.range c).flatMap λj:Nat=>(Jo r).map λp=>(k,(j:Int))::p
def rF:∀{kc:List (Int×Nat)} {p:Pl},Ω kc p->p∈Jo kc
 | [],[],_=>aaG.mpr rfl
 | (k,c)::r,(k',v)::p,h=>by have⟨rfl,v0,v1,h⟩:=h;refine List.mem_flatMap.mpr ⟨v.toNat,aba.mpr (),aan.mpr ⟨p,rF h,?_⟩⟩;rw[ab9 v0]
 | [],_::_,h=>h.elim
 | _::_,[],h=>h.elim
def b_:∀{kc:List (Int×Nat)} {p:Pl},Ω kc p->p.map (·.1)=kc.map (·.1)
 | [],[],_=>rfl
 | (k,c)::r,(k',v)::p,h=>by have⟨rfl,_,_,h⟩:=h;rw[aaW,aaW,b_ h]
 | [],_::_,h=>h.elim
 | _::_,[],h=>h.elim
def zc:∀{kc:List (Int×Nat)} {p:Pl} {i v:Int},Ω kc p->Τ p i=some v->∃c,(i,c)∈kc/\0<=v/\v < (c:Int)
 | [],[],_,_,_,h=>by cases h
 | (k,c)::r,(k',v')::p,i,v,h,g=>by
  have⟨rfl,v0,v1,h⟩:=h;unfold Τ at g;split at g
  ·rename_i e;have e:k=i:=e;cases g;exact⟨c,by rw[<-e];exact aae,v0,v1⟩
  ·have⟨c',m,a⟩:=zc h g;exact⟨c',aad _ m,a⟩
 | [],_::_,_,_,h,_=>h.elim
 | _::_,[],_,_,h,_=>h.elim
def yV:∀{kc:List (Int×Nat)} {p:Pl} {i v:Int},Ω kc p->(∀c,(i,c)∈kc->0<=v/\v < (c:Int))->Ω kc (p.map λq=>if q.1=i then (q.1,v) else q)
 | [],[],_,_,_,_=>trivial
 | (k,c)::r,(k',v')::p,i,v,h,g=>by
  have⟨rfl,v0,v1,h⟩:=h;have ih:=yV h λc hc=>g c (aad _ hc);show Ω ((k,c)::r) ((if k=i then (k,v) else (k,v'))::p.map λq=>if q.1=i then (q.1,v) else q);by_cases e:k=i
  ·rw[aaw e];have:=g c (by rw[<-e];exact aae);exact⟨rfl,this.1,this.2,ih⟩
  ·rw[aay e];exact⟨rfl,v0,v1,ih⟩
 | [],_::_,_,_,h,_=>h.elim
 | _::_,[],_,_,h,_=>h.elim
def qC{i:Int}:∀{p:Pl},i∈p.map (·.1)->(Τ p i).isSome=true
 | q::p,h=>by
  unfold Τ;split
  ·rfl
  ·rcases aav.mp h with e| e
   ·rename_i ne;exact aaE e.symm ne
   ·exact qC e
def G8{kc:List (Int×Nat)}{p:Pl}{i v:Int}(h:Ω kc p)(hk:i∈kc.map (·.1))(g:∀c,(i,c)∈kc->0<=v/\v < (c:Int)):Ω kc (jd p i v):=by unfold jd;rw[aaw (qC (by rw[b_ h];exact hk))];exact yV h g
def E5{α:Type}{P Q:α->Bool}:∀{l:List α},(∀a∈l,P a=true->Q a=true)->∀{b:α},b∈l->Q b=true->P b=false->l.countP P < l.countP Q
 | a::l,h,b,hb,hq,hp=>by
  have le:l.countP P<=l.countP Q:=List.countP_mono_left λx hx=>h x (aad _ hx);rw[List.countP_cons,List.countP_cons];rcases aav.mp hb with e| e
  ·subst e;rw[hq,hp];show l.countP P+0 < l.countP Q+1;omega
  ·have:=E5 (λx hx=>h x (aad _ hx)) e hq hp;have ha:=h a aae;cases hP:P a with
   | false=>rw[aay @_];split <;> omega
   | true=>rw[ha hP,aaw rfl];omega
def CC{f g:Nat->Rat}:∀{n:Nat},(∀i,i < n->f i<=g i)->∀{k:Nat},k < n->f k < g k->dI f n < dI g n
 | n+1,h,k,hk,hl=>by
  have le:∀{m:Nat},(∀i,i < m->f i<=g i)->dI f m<=dI g m:=λ{m}=>by
   induction m with
   | zero=>intro _;show(0:Rat)<=0;grind
   | succ m ih=>
    intro h;have:=ih λi hi=>h i (abM hi);have:=h m (abq _);show dI f m+f m<=dI g m+g m;grind
  show dI f n+f n < dI g n+g n;by_cases e:k=n
  ·subst e;have:=le λi hi=>h i (abM hi);grind
  ·have:=CC (λi hi=>h i (abM hi)) (show k < n by omega) hl;have:=h n (abq _);grind
def eZ(γ:List Rw)(cR:Str):List (Int×Nat):=(fe γ cR).map λi:Nat=>((i:Int),(au (e9 γ i)).length)
def CP{γ:List Rw}:∀{l:List Nat},(∀i∈l,1<=(au (e9 γ i)).length)->Ω (l.map λi:Nat=>((i:Int),(au (e9 γ i)).length)) (l.map λi:Nat=>((i:Int),(0:Int)))
 | [],_=>trivial
 | i::l,h=>⟨rfl,Int.le_refl _,by have:=h i aae;omega,CP λj hj=>h j (aad _ hj)⟩
section
variable{ε:Fr}{γ:List Rw}{tb:List Fr}{hand cR:Str}{pl p:Pl}
def nq:i∈fe γ cR↔i < γ.length/\d9 γ i=cR:=by unfold fe;rw[List.mem_filter,aba,aa4]
def ir(fw:FR ε γ)(hh:Χ cR=true)(h:i∈fe γ cR):∃ds,γ[i]? =some (.Α cR ds)/\au (e9 γ i)=ds/\1<=ds.length:=by
 have⟨il,e⟩:=nq.mp h;have hi:γ[i]? =some γ[i]:=aaa il;unfold d9 at e;rw[hi]at e;have e:kindOf γ[i]=cR:=e;cases hr:γ[i] with
 | fin p=>
  rw[hr]at e;rw[<-e]at hh;exact aaE hh (by show¬Χ (Str.ofString "end")=true;decide)
 | Α k ds=>
  rw[hr]at e hi;have e:k=cR:=e;subst e;exact⟨ds,hi,by rw[bY hi];rfl,(cY fw.pl (aal hi)).l1⟩
def Av(fw:FR ε γ)(hh:Χ cR=true):Ω (eZ γ cR) (AO γ cR):=CP λi hi=>by have⟨ds,_,e,l⟩:=ir fw hh hi;rw[e];exact l
def iM:(eZ γ cR).map (·.1)=(fe γ cR).map λi:Nat=>(i:Int):=by unfold eZ;rw[List.map_map];rfl
def gJ(h:Ω (eZ γ cR) p):EX p:=by unfold EX;rw[b_ h,iM];have nd:(fe γ cR).Nodup:=List.nodup_range.filter _;exact List.Pairwise.map _ (λa b Vj z=>Vj (by have z:(a:Int)=(b:Int):=z;omega)) nd
def aW(fw:FR ε γ)(hh:Χ cR=true)(h:Ω (eZ γ cR) p):(∀ds,γ[i]? =some (.Α cR ds)->∃j:Nat,Τ p i=some (j:Int)/\j < ds.length)/\(∀r,γ[i]? =some r->kindOf r≠cR->Τ p i=none):=by
 refine⟨λds hi=>?_,λr hi hk=>?_⟩
 ·have il:=(aaf.mp hi).1;have m:i∈fe γ cR:=nq.mpr ⟨il,by unfold d9;rw[hi];rfl⟩;have s:=qC (i:=(i:Int)) (p:=p) (by rw[b_ h,iM];exact aan.mpr ⟨i,m,rfl⟩);have⟨v,hv⟩:=aa6.mp s;have⟨c,hc,v0,v1⟩:=zc h hv;unfold eZ at hc;have⟨i',_,e⟩:=aan.mp hc;have e1:(i':Int)=(i:Int):=aaU Prod.fst e;have e2:(au (e9 γ i')).length=c:=aaU Prod.snd e;have:i'=i:=()
  subst this;rw[bY hi]at e2;have e2:ds.length=c:=e2;exact⟨v.toNat,by rw[hv,ab9 v0],()⟩
 ·refine kh λz=>?_;rw[b_ h,iM]at z;have⟨i',m,e⟩:=aan.mp z;have:i'=i:=by have e:(i':Int)=(i:Int):=e;omega
  subst this;have:=(nq.mp m).2;unfold d9 at this;rw[hi]at this;exact hk this
end
def yw{kc:List (Int×Nat)}:∀(q s:Pl),Ω kc s->(∀e∈q,e.1∈kc.map (·.1)/\∀c,(e.1,c)∈kc->0<=e.2/\e.2 < (c:Int))->Ω kc (aE s q)
 | [],s,h,_=>h
 | e::q,s,h,hq=>by have⟨a,b⟩:=hq e aae;exact yw q (jd s e.1 e.2) (G8 h a b) λx hx=>hq x (aad _ hx)
section
variable{c:Int->Int->Bool}{f:Int->Int}{i:Int}
def nR(c:Int->Int->Bool)(f:Int->Int)(p:Int×Int):Pl:=if c p.1 p.2 then [] else [(p.1,f p.1)]
def iA:∀{pl:Pl},i∈(pl.flatMap (nR c f)).map (·.1)->i∈pl.map (·.1)
 | p::r,h=>by
  rw[List.flatMap_cons,aaV]at h;rcases abm.mp h with z| z
  ·unfold nR at z;split at z
   ·cases z
   ·rw[aaW];exact aav.mpr (.inl (aaG.mp z))
  ·exact aad _ (iA z)
def qE:∀pl:Pl,((pl.flatMap (nR c f)).map (·.1)).Sublist (pl.map (·.1))
 | []=>List.Sublist.refl _
 | a::r=>by
  have ih:=qE r;rw[List.flatMap_cons,aaV,aaW];unfold nR;split
  ·exact List.Sublist.cons _ ih
  ·exact List.Sublist.cons₂ _ ih
def qe(pl:Pl):(pl.flatMap (nR c f)).length<=pl.length:=by have:=(qE (c:=c) (f:=f) pl).length_le;rwa[aag,aag]at this
def yZ:∀{pl:Pl},EX pl->Τ (pl.flatMap (nR c f)) i=match Τ pl i with
  | some v=>if c i v then none else some (f i)
  | none=>none
 | [],_=>rfl
 | a::r,nd=>by
  unfold EX at nd;rw[aaW,abK]at nd;have ih:=yZ (pl:=r) nd.2;rw[List.flatMap_cons];by_cases ei:a.1=i
  ·have e2:Τ (a::r) i=some a.2:=by unfold Τ;rw[if_pos ei]
   have hn:Τ (r.flatMap (nR c f)) i=none:=kh λz=>nd.1 (by rw[ei];exact iA z);rw[e2];dsimp only;unfold nR;rw[ei];by_cases cc:c i a.2=true
   ·rw[aaw cc,aaw cc,aaS];exact hn
   ·rw[aay cc,aay cc];show Τ ((i,f i)::_) i=_;unfold Τ;rw[aaw rfl]
  ·have e2:Τ (a::r) i=Τ r i:=by rw[Τ,aay ei]
   rw[e2,<-ih];unfold nR;split
   ·rfl
   ·show Τ ((a.1,_)::_) i=_;rw[Τ,aay ei];rfl
def rh:∀{l:Pl} {e:Int×Int},EX l->e∈l->Τ l e.1=some e.2
 | a::l,e,nl,hm=>by
  unfold EX at nl;rw[aaW,abK]at nl;unfold Τ;rcases aav.mp hm with y| y
  ·rw[aaw (by rw[y]),y]
  ·rw[aay λz=>nl.1 (by rw[z];exact aan.mpr ⟨e,y,rfl⟩)];exact rh nl.2 y
end
def aB(tb:List Fr)(ds:List aS):List Fr:=ds.map λd=>tb.getD d.1.toNat (0,1)
def b9(k:Str)(ns:List Fr):Fr:=if k="one" then qY ns else r6 ns
def zF(b:Fr):List Fr->Nat
 | []=>0
 | x::r=>if x=b then 0 else zF b r+1
def A8{b:Fr}:∀{ns:List Fr},b∈ns->zF b ns < ns.length/\ns[zF b ns]? =some b/\∀i,i < zF b ns->ns[i]? ≠some b
 | x::r,h=>by
  unfold zF;by_cases e:x=b
  ·rw[aaw e];exact⟨by simp,by rw[e];rfl,λi hi=>absurd hi (Nat.not_lt_zero _)⟩
  ·rw[aay e];have hr:b∈r:=(aav.mp h).resolve_left λz=>e z.symm;have⟨a,c,d⟩:=A8 hr;refine⟨by rw[aaI];omega,by rw[List.getElem?_cons_succ];exact c,λi hi=>?_⟩;cases i with
   | zero=>rw[List.getElem?_cons_zero];exactλz=>e (aao z)
   | succ i=>rw[List.getElem?_cons_succ];exact d i ()
def pU{k:Str}{ns:List Fr}(h0:ns≠[])(hp:∀n∈ns,0 < n.2):b9 k ns∈ns/\∀n∈ns,fb k * val n<=fb k * val (b9 k ns):=by
 have⟨a,r,rfl⟩:=abE h0;have ha:=hp a aae;have WK:∀{x:Fr},x∈a::a::r->x∈a::r:=λh=>by
  rcases aav.mp h with e| e
  ·rw[e];exact aae
  ·exact e
 unfold fb b9;by_cases e:k="one"
 ·rw[aaw e,aaw e];have⟨m,_,al⟩:=lR (a::r) a ha hp;exact⟨WK m,λn hn=>by have h:val n<=val (qY (a::r)):=al n hn;grind⟩
 ·rw[aay e,aay e];have⟨m,_,al⟩:=k7 (a::r) a ha hp;exact⟨WK m,λn hn=>by have h:val (r6 (a::r))<=val n:=al n hn;grind⟩
def IQ(γ:List Rw)(i:Int):List aS:=au (e9 γ i.toNat)
def tw(γ:List Rw)(tb:List Fr)(i v:Int):Bool:=decide ((aB tb (IQ γ i)).getD v.toNat (0,1)=b9 (d9 γ i.toNat) (aB tb (IQ γ i)))
def zi(γ:List Rw)(tb:List Fr)(i:Int):Int:=(zF (b9 (d9 γ i.toNat) (aB tb (IQ γ i))) (aB tb (IQ γ i)):Nat)
def ω(γ:List Rw)(tb:List Fr)(pl:Pl):Pl:=pl.flatMap (nR (tw γ tb) (zi γ tb))
def P_{k:Str}{x b:Rat}(h:fb k * x<=fb k * b)(ne:x≠b):fb k * x < fb k * b:=by
 unfold fb at h⊢;by_cases e:k="one"
 ·rw[if_pos e]at h⊢;grind
 ·rw[if_neg e]at h⊢;grind
section
variable{ε:Fr}{γ:List Rw}{tb tb':List Fr}{k:Str}{ds:List aS}{p p' a a':Pl}
def mD(hi:γ[i]? =some (.Α k ds)):d9 γ i=k:=by unfold d9;rw[hi];rfl
def CA(jl:j < ds.length):(aB tb ds).getD j (0,1)=tb.getD ds[j].1.toNat (0,1):=by unfold aB;rw[aab,aak,aaa jl];rfl
structure Imp(γ:List Rw)(tb:List Fr)(k:Str)(p p':Pl):Prop where
 fit:Ω (eZ γ k) p'
 at_:∀(i:Nat) (ds:List aS),γ[i]? =some (.Α k ds)->∃j j':Nat,∃(jl:j < ds.length) (tK:j' < ds.length),Τ p i=some (j:Int)/\Τ p' i=some (j':Int)/\(∀d∈ds,fb k * V_ tb d.1.toNat<=fb k * V_ tb ds[j'].1.toNat)/\(j'=j\/fb k * V_ tb ds[j].1.toNat < fb k * V_ tb ds[j'].1.toNat)
def qR(fr:FR ε γ)(hh:Χ k=true)(h:Ω (eZ γ k) p)(hr:∀t,t < γ.length->Red (tb.getD t (0,1))):Imp γ tb k p (aE p (ω γ tb p))/\(ω γ tb p≠[]->∃(i:Nat) (ds:List aS) (j j':Nat) (jl:j < ds.length) (tK:j' < ds.length),γ[i]? =some (.Α k ds)/\Τ p i=some (j:Int)/\Τ (aE p (ω γ tb p)) i=some (j':Int)/\fb k * V_ tb ds[j].1.toNat < fb k * V_ tb ds[j'].1.toNat):=by
 have nd:=gJ h;have Tp:EX (ω γ tb p):=(qE p).nodup nd;have core:∀(i:Nat) (ds:List aS),γ[i]? =some (.Α k ds)->∃j:Nat,∃(jl:j < ds.length) (bl:zF (b9 k (aB tb ds)) (aB tb ds) < ds.length),Τ p i=some (j:Int)/\(∀d∈ds,fb k * V_ tb d.1.toNat<=fb k * V_ tb ds[zF (b9 k (aB tb ds)) (aB tb ds)].1.toNat)/\((Τ (ω γ tb p) i=none/\tb.getD ds[j].1.toNat (0,1)=b9 k (aB tb ds)/\∀d∈ds,fb k * V_ tb d.1.toNat<=fb k * V_ tb ds[j].1.toNat)\/(Τ (ω γ tb p) i=some ((zF (b9 k (aB tb ds)) (aB tb ds):Nat):Int)/\fb k * V_ tb ds[j].1.toNat < fb k * V_ tb ds[zF (b9 k (aB tb ds)) (aB tb ds)].1.toNat)):=λi ds hi=>by
  have⟨j,gj,jl⟩:=(aW (i:=i) fr hh h).1 ds hi;have rm:Rw.Α k ds∈γ:=aal hi;have dr:=cY fr.pl rm;have rd:∀d∈ds,Red (tb.getD d.1.toNat (0,1)):=λd hd=>hr _ (by have:=dr.to d hd;omega);have np:∀n∈aB tb ds,0 < n.2:=λn hn=>by have⟨d,hd,rfl⟩:=aan.mp hn;exact(rd d hd).pos
  have⟨bm,bb⟩:=pU (k:=k) (ns:=aB tb ds) (λz=>by
   have:=aaU List.length z;unfold aB at this;rw[aag]at this;have l1:=dr.l1;rw[this]at l1
   exact aaE l1 @_) np
  have⟨xl,xe,_⟩:=A8 bm;have nl:(aB tb ds).length=ds.length:=by unfold aB;rw[List.length_map]
  rw[nl]at xl;have xb:tb.getD ds[zF (b9 k (aB tb ds)) (aB tb ds)].1.toNat (0,1)=b9 k (aB tb ds):=by rw[<-CA xl,aab,xe];rfl
  have all:∀d∈ds,fb k * V_ tb d.1.toNat<=fb k * val (b9 k (aB tb ds)):=λd hd=>bb _ (aan.mpr ⟨d,hd,rfl⟩);have gb:=yZ (c:=tw γ tb) (f:=zi γ tb) (i:=(i:Int)) nd;rw[gj]at gb;have ed:IQ γ (i:Int)=ds:=by unfold IQ;rw[Int.toNat_natCast,bY hi];rfl
  have eb:tw γ tb (i:Int) (j:Int)=decide (tb.getD ds[j].1.toNat (0,1)=b9 k (aB tb ds)):=by unfold tw;rw[ed,aaL,aaL,mD hi,CA jl]
  have ex:zi γ tb (i:Int)=(zF (b9 k (aB tb ds)) (aB tb ds):Nat):=by unfold zi;rw[ed,aaL,mD hi]
  have gb:Τ (ω γ tb p) i=if tw γ tb (i:Int) (j:Int) then none else some (zi γ tb (i:Int)):=gb
  rw[eb,ex]at gb;refine⟨j,jl,xl,gj,λd hd=>by have:=all d hd;unfold V_;rw[xb];exact this,?_⟩;by_cases c:tb.getD ds[j].1.toNat (0,1)=b9 k (aB tb ds)
  ·rw[aaB c,aaw rfl]at gb;exact .inl ⟨gb,c,λd hd=>by have:=all d hd;unfold V_;rw[c];exact this⟩
  ·rw[aam c,aay @_]at gb;refine .inr ⟨gb,?_⟩;have le:=all _ (aaq jl);have ne:V_ tb ds[j].1.toNat≠val (b9 k (aB tb ds)):=λz=>c (eR (rd _ (aaq jl)) (by rw[<-xb];exact rd _ (aaq xl)) z);unfold V_ at le ne⊢;rw[xb];exact P_ le ne
 have g1:∀i:Nat,Τ (aE p (ω γ tb p)) i=match Τ (ω γ tb p) i with| some v=>some v| none=>Τ p i:=λi=>j_ (i:=(i:Int)) (p:=p) Tp
 refine⟨⟨?_,λi ds hi=>?_⟩,λne=>?_⟩
 ·refine yw _ _ h λe he=>?_;have ke:e.1∈p.map (·.1):=iA (aan.mpr ⟨e,he,rfl⟩);have kk:=ke;rw[b_ h]at kk;rw[b_ h,iM]at ke;have⟨i,hm,ei⟩:=aan.mp ke;have ei:(i:Int)=e.1:=ei;have⟨ds,hi,ed,l1⟩:=ir fr hh hm;have⟨j,jl,bl,gj,_,hc⟩:=core i ds hi;refine⟨kk,λc Al=>?_⟩;have c1:c=ds.length:=by
   unfold eZ at Al;have⟨i',_,e'⟩:=aan.mp Al;have e1:(i':Int)=e.1:=aaU Prod.fst e';have e2:(au (e9 γ i')).length=c:=aaU Prod.snd e';have:i'=i:=()
   subst this;rw[<-e2,ed]
  have ge:=rh Tp he;rw[<-ei]at ge;rcases hc with ⟨z,_⟩| ⟨z,_⟩
  ·rw[z]at ge;cases ge
  ·rw[z]at ge;have:=aao ge;omega
 ·have⟨j,jl,bl,gj,all,hc⟩:=core i ds hi;rw[g1];rcases hc with ⟨z,e,al⟩| ⟨z,lt⟩
  ·rw[z];exact⟨j,j,jl,jl,gj,gj,al,.inl rfl⟩
  ·rw[z];exact⟨j,_,jl,bl,gj,rfl,all,.inr lt⟩
 ·have⟨e,r,er⟩:=abE ne;have he:e∈ω γ tb p:=by rw[er];exact aae
  have ke:e.1∈p.map (·.1):=iA (aan.mpr ⟨e,he,rfl⟩);rw[b_ h,iM]at ke;have⟨i,hm,ei⟩:=aan.mp ke;have ei:(i:Int)=e.1:=ei;have⟨ds,hi,ed,l1⟩:=ir fr hh hm;have⟨j,jl,bl,gj,_,hc⟩:=core i ds hi;have ge:=rh Tp he;rw[<-ei]at ge;rcases hc with ⟨z,_⟩| ⟨z,lt⟩
  ·rw[z]at ge;cases ge
  ·exact⟨i,ds,j,_,jl,bl,hi,gj,by rw[g1,z],lt⟩
def xC(fr:FR ε γ)(hh:Χ k=true)(h:Ω (eZ γ k) p)(hr:∀t,t < γ.length->Red (tb.getD t (0,1)))(e:ω γ tb p=[])(hi:γ[i]? =some (.Α k ds)):∃(j:Nat) (jl:j < ds.length),Τ p i=some (j:Int)/\∀d∈ds,fb k * V_ tb d.1.toNat<=fb k * V_ tb ds[j].1.toNat:=by
 have⟨⟨_,al⟩,_⟩:=qR (tb:=tb) fr hh h hr;have⟨j,j',jl,tK,gj,yA,all,_⟩:=al i ds hi;rw[e]at yA;have yA:Τ p i=some (j':Int):=yA;rw[gj]at yA;have:j=j':=by have:=aao yA;omega
 subst this;exact⟨j,jl,gj,all⟩
def ai:Χ (Str.ofString "one")=true:=@_
def aA:Χ (Str.ofString "other")=true:=@_
def iL(fr:FR ε γ)(hp:Ω (eZ γ "one") p)(ha:Ω (eZ γ "other") a):oF γ (aE p a):=by
 refine⟨λi r hi hk=>?_,λi r hi hk=>?_⟩
 ·rw[j_ (gJ ha)];cases r with
  | fin q=>exact aaE hk (by show¬Χ (Str.ofString "end")=true;decide)
  | Α k ds=>
   have two:k="one"\/k="other":=by have hk:Χ k=true:=hk;unfold Χ at hk;rw[Bool.or_eq_true,aca,aca]at hk;exact hk
   rcases two with rfl| rfl
   ·rw[(aW (i:=i) fr aA ha).2 _ hi (by show¬(Str.ofString "one"=Str.ofString "other");decide)];have⟨j,gj,jl⟩:=(aW (i:=i) fr ai hp).1 ds hi;rw[gj];exact⟨j,rfl,jl⟩
   ·have⟨j,gj,jl⟩:=(aW (i:=i) fr aA ha).1 ds hi;rw[gj];exact⟨j,rfl,jl⟩
 ·rw[j_ (gJ ha),(aW (i:=i) fr aA ha).2 r hi (λz=>by rw[z]at hk;exact aaE aA (by rw[hk];decide)),(aW (i:=i) fr ai hp).2 r hi (λz=>by rw[z]at hk;exact aaE ai (by rw[hk];decide))]
def dR(fr:FR ε γ)(ha:Ω (eZ γ "other") a)(hi:γ[i]? =some (.Α "one" ds)):Τ (aE p a) i=Τ p i:=by rw[j_ (gJ ha),(aW (i:=i) fr aA ha).2 _ hi (by show¬(Str.ofString "one"=Str.ofString "other");decide)]
def gF(fr:FR ε γ)(ha:Ω (eZ γ "other") a)(hi:γ[i]? =some (.Α "other" ds)):Τ (aE p a) i=Τ a i:=by have⟨j,gj,_⟩:=(aW (i:=i) fr aA ha).1 ds hi;rw[j_ (gJ ha),gj]
def cI{acc:Pl}(fr:FR ε γ)(hi:γ[i]? =some (.Α k ds))(hh:Χ k=true)(gj:Τ acc i=some (j:Int))(jl:j < ds.length)(st:pZ S i)(y:Nat->Rat):aG (λd=>cV d * y d.1.toNat) (fP γ S acc i)=y ds[j].1.toNat:=by rw[iU st,bY hi,iu fr hi hh gj jl];show cV (ds[j].1,ds[j].2.1,[((1,1):Fr)]) * y ds[j].1.toNat+0=_;have:cV (ds[j].1,ds[j].2.1,[((1,1):Fr)])=1:=mJ;rw[this];grind
def j1{acc acc':Pl}(h:Τ acc i=Τ acc' i):fP γ S acc i=fP γ S acc' i:=by unfold fP ef;rw[h]
def zE(γ:List Rw)(S:Sp)(p:Pl):Prop:=∀a,Ω (eZ γ "other") a->Lo γ S (aE p a)
def qQ(fr:FR ε γ)(hi:γ[i]? =some (.Α k ds)):k="one"\/k="other"\/k="chance":=by
 rcases(cY fr.pl (aal hi)).kd with z| ⟨_,z,_⟩
 ·unfold Χ at z;rw[Bool.or_eq_true,aca,aca]at z;rcases z with z| z
  ·exact .inl z
  ·exact .inr (.inl z)
 ·exact .inr (.inr z)
def gy(fr:FR ε γ)(hp:Ω (eZ γ "one") p)(ha:Ω (eZ γ "other") a)(hi:γ[i]? =some (.Α "chance" ds)):Τ (aE p a) i=none:=(iL fr hp ha).zB i _ hi (by show Χ (Str.ofString "chance")=false;decide)
def kQ:fb (Str.ofString "one")=1:=aaw rfl
def si:fb (Str.ofString "other")= -1:=aay @_
def wZ(γ:List Rw)(tb:List Fr)(a:Pl):Prop:=∀(i:Nat) (ds:List aS),γ[i]? =some (.Α "other" ds)->∃(j:Nat) (jl:j < ds.length),Τ a i=some (j:Int)/\∀d∈ds,V_ tb ds[j].1.toNat<=V_ tb d.1.toNat
def Hh(fr:FR ε γ)(ha:Ω (eZ γ "other") a)(hr:∀t,t < γ.length->Red (tb.getD t (0,1)))(e:ω γ tb a=[]):wZ γ tb a:=λi ds hi=>by have⟨j,jl,gj,al⟩:=xC fr aA ha hr e hi;refine⟨j,jl,gj,λd hd=>?_⟩;have:=al d hd;rw[si]at this;grind
def FD(fr:FR ε γ)(dr:aL γ gs S)(hp:Ω (eZ γ "one") p)(ha:Ω (eZ γ "other") a)(wB:Ω (eZ γ "one") p')(sT:Ω (eZ γ "other") a')(h:pW γ S (aE p a) tb)(la:wZ γ tb a)(up:∀(i:Nat) (ds:List aS),γ[i]? =some (.Α "one" ds)->∃j j':Nat,∃(jl:j < ds.length) (tK:j' < ds.length),Τ p i=some (j:Int)/\Τ p' i=some (j':Int)/\V_ tb ds[j].1.toNat<=V_ tb ds[j'].1.toNat):∀i,i < γ.length->pZ S i->V_ tb i<=aG (λd=>cV d * V_ tb d.1.toNat) (fP γ S (aE p' a') i):=λi il st=>by
 have⟨k,ds,hi⟩:=n8 dr il st;rcases qQ fr hi with rfl| rfl| rfl
 ·have⟨j,j',jl,tK,gj,yA,le⟩:=up i ds hi;rw[h.st il st,cI fr hi ai (by rw[dR fr ha hi];exact gj) jl st,cI fr hi ai (by rw[dR fr sT hi];exact yA) tK st];exact le
 ·have⟨j,jl,gj,le⟩:=la i ds hi;have⟨j',yA,tK⟩:=(aW (i:=i) fr aA sT).1 ds hi;rw[h.st il st,cI fr hi aA (by rw[gF fr ha hi];exact gj) jl st,cI fr hi aA (by rw[gF fr sT hi];exact yA) tK st];exact le _ (aaq tK)
 ·rw[h.st il st,j1 (acc:=aE p a) (acc':=aE p' a') ((gy fr hp ha hi).trans (gy fr wB sT hi).symm)];grind
def zE.better(fr:FR ε γ)(dr:aL γ gs S)(hp:Ω (eZ γ "one") p)(ha:Ω (eZ γ "other") a)(pr:zE γ S p)(h:pW γ S (aE p a) tb)(la:wZ γ tb a)(im:Imp γ tb "one" p p'):zE γ S p':=λa' sT C hC i il Sf=>by
 have SK:=iL fr im.fit sT;have⟨t,tl,tc,tm⟩:=Be C (V_ tb) γ.length ⟨i,il,Sf⟩;have ua:=FD fr dr hp ha im.fit sT h la λi ds hi=>by have⟨j,j',jl,tK,gj,yA,al,_⟩:=im.at_ i ds hi;have:=al _ (aaq jl);rw[kQ]at this;exact⟨j,j',jl,tK,gj,yA,by grind⟩
 refine pr a' sT (λj=>j < γ.length/\C j/\V_ tb j=V_ tb t) (λj jl hj=>?_) t tl ⟨tl,tc,rfl⟩;have⟨_,jc,je⟩:=hj;have⟨sj,cl⟩:=hC j jl jc;refine⟨sj,?_⟩;have⟨_,one,B,_,_,hw⟩:=nU (acc:=aE p' a') fr SK dr jl sj;have tn:∀d∈fP γ S (aE p' a') j,d.1.toNat < γ.length:=λd hd=>by have:=(hw d hd).to;omega
 have eqs:∀d∈fP γ S (aE p' a') j,V_ tb d.1.toNat=V_ tb t:=Bi (z:=λd=>V_ tb d.1.toNat) (m:=V_ tb t) (λd hd=>(hw d hd).p) (λd hd=>tm _ (tn d hd) (cl d hd)) (by rw[one,Rat.one_mul,<-je];exact ua j jl sj);have same:fP γ S (aE p a') j=fP γ S (aE p' a') j:=by
  have⟨k,ds,hi⟩:=n8 dr jl sj;rcases qQ fr hi with rfl| rfl| rfl
  ·refine j1 ?_;rw[dR fr sT hi,dR fr sT hi];have⟨x,x',xl,Ud,gx,Sn,al,ch⟩:=im.at_ j ds hi;rcases ch with e| lt
   ·rw[gx,Sn,e]
   ·exfalso;rw[kQ]at lt;have e1:=h.st jl sj;rw[cI fr hi ai (by rw[dR fr ha hi];exact gx) xl sj]at e1;have e2:=eqs (ds[x'].1,ds[x'].2.1,[(1,1)]) (by rw[iU sj,bY hi,iu fr hi ai (by rw[dR fr sT hi];exact Sn) Ud];exact aaG.mpr rfl);have e2:V_ tb ds[x'].1.toNat=V_ tb t:=e2;grind
  ·refine j1 ?_;rw[gF fr sT hi,gF fr sT hi]
  ·exact j1 ((gy fr hp sT hi).trans (gy fr im.fit sT hi).symm)
 rw[same];exactλd hd=>⟨tn d hd,cl d hd,eqs d hd⟩
def xV(γ:List Rw)(tb:List Fr)(p:Pl)(i:Nat):Rat:=match Τ p i with
 | some j=>V_ tb ((IQ γ i).getD j.toNat d0).1.toNat
 | none=>0
def mP(γ:List Rw)(tb:List Fr)(p:Pl):Rat:=dI (λi=>V_ tb i+xV γ tb p i) γ.length
def CM(hi:γ[i]? =some (.Α k ds))(gj:Τ p i=some (j:Int))(jl:j < ds.length):xV γ tb p i=V_ tb ds[j].1.toNat:=by unfold xV IQ;rw[gj,aaL,bY hi];show V_ tb (ds.getD ((j:Int)).toNat d0).1.toNat=_;rw[aaL,aab,aaa jl];rfl
def Ma(fr:FR ε γ)(hh:Χ k=true)(hp:Ω (eZ γ k) p)(im:Imp γ tb k p p')(le:∀i,i < γ.length->fb k * V_ tb i<=fb k * V_ tb' i)(il:i < γ.length):fb k * xV γ tb p i<=fb k * xV γ tb' p' i:=by
 have hi:=rw_at il;by_cases e:kindOf (e9 γ i)=k
 ·cases hr:e9 γ i with
  | fin q=>rw[hr]at e;rw[<-e]at hh;exact aaE hh (by show¬Χ (Str.ofString "end")=true;decide)
  | Α k' ds=>
   rw[hr]at e hi;have e:k'=k:=e;subst e;have⟨j,j',jl,tK,gj,yA,al,_⟩:=im.at_ i ds hi;rw[CM hi gj jl,CM hi yA tK];have a:=al _ (aaq jl);have b:=le ds[j'].1.toNat (by have:=(cY fr.pl (aal hi)).to _ (aaq tK);omega);grind
 ·have g:=(aW (i:=i) fr hh hp).2 _ hi e;have g':=(aW (i:=i) fr hh im.fit).2 _ hi e;unfold xV;rw[g,g'];grind
def FK(fr:FR ε γ)(hh:Χ k=true)(hp:Ω (eZ γ k) p)(im:Imp γ tb k p p')(le:∀i,i < γ.length->fb k * V_ tb i<=fb k * V_ tb' i)(ex:∃(i:Nat) (ds:List aS) (j j':Nat) (jl:j < ds.length) (tK:j' < ds.length),γ[i]? =some (.Α k ds)/\Τ p i=some (j:Int)/\Τ p' i=some (j':Int)/\fb k * V_ tb ds[j].1.toNat < fb k * V_ tb ds[j'].1.toNat):fb k * mP γ tb p < fb k * mP γ tb' p':=by
 have⟨i,ds,j,j',jl,tK,hi,gj,yA,lt⟩:=ex;have il:=(aaf.mp hi).1;have e:∀(t:List Fr) (q:Pl),fb k * mP γ t q=dI (λi=>fb k * (V_ t i+xV γ t q i)) γ.length:=λt q=>by unfold mP;have:=mV (fb k) 0 (λi=>V_ t i+xV γ t q i) (λ_=>0) γ.length;rw[show(λi=>fb k * (V_ t i+xV γ t q i) - 0 * 0)=λi=>fb k * (V_ t i+xV γ t q i) by funext i;grind]at this;rw[this];grind
 rw[e,e];refine CC (λt tl=>?_) il ?_
 ·have a:=le t tl;have b:=Ma fr hh hp im le tl;grind
 ·have a:=le i il;rw[CM hi gj jl,CM hi yA tK];have b:=le ds[j'].1.toNat (by have:=(cY fr.pl (aal hi)).to _ (aaq tK);omega);grind
def IG(fr:FR ε γ)(dr:aL γ gs S)(hp:Ω (eZ γ "one") p)(ha:Ω (eZ γ "other") a)(pr:zE γ S p)(h:pW γ S (aE p a) tb)(ne:ω γ tb a≠[])(h':pW γ S (aE p (aE a (ω γ tb a))) tb'):mP γ tb' (aE a (ω γ tb a)) < mP γ tb a:=by
 have⟨im,ex⟩:=qR (tb:=tb) fr aA ha h.tab.red;have sT:=im.fit;have ex:=ex ne;generalize aE a (ω γ tb a)=a' at *
 have hs:∀i,i < γ.length->pZ S i->fb "other" * V_ tb i<=fb "other" * aG (λd=>cV d * V_ tb d.1.toNat) (fP γ S (aE p a') i):=λi il st=>by
  have⟨k,ds,hi⟩:=n8 dr il st;rcases qQ fr hi with rfl| rfl| rfl
  ·rw[h.st il st,j1 (acc:=aE p a) (acc':=aE p a') (by rw[dR fr ha hi,dR fr sT hi])];grind
  ·have⟨x,x',xl,Ud,gx,Sn,al,_⟩:=im.at_ i ds hi;rw[h.st il st,cI fr hi aA (by rw[gF fr ha hi];exact gx) xl st,cI fr hi aA (by rw[gF fr sT hi];exact Sn) Ud st];exact al _ (aaq xl)
  ·rw[h.st il st,j1 (acc:=aE p a) (acc':=aE p a') ((gy fr hp ha hi).trans (gy fr hp sT hi).symm)];grind
 have⟨c1,_⟩:=R3 fr (iL fr hp sT) dr (pr a' sT) h h' hs;have:=FK fr aA ha im c1 ex;rw[si]at this;grind
structure pQ(γ:List Rw)(S:Sp)(p a:Pl)(tb:List Fr):Prop where
 fa:Ω (eZ γ "other") a
 ch:pW γ S (aE p a) tb
 le:wZ γ tb a
def pQ.up(fr:FR ε γ)(dr:aL γ gs S)(hp:Ω (eZ γ "one") p)(h:pQ γ S p a tb)(wB:Ω (eZ γ "one") p')(CV:zE γ S p')(h':pQ γ S p' a' tb')(up:∀(i:Nat) (ds:List aS),γ[i]? =some (.Α "one" ds)->∃j j':Nat,∃(jl:j < ds.length) (tK:j' < ds.length),Τ p i=some (j:Int)/\Τ p' i=some (j':Int)/\V_ tb ds[j].1.toNat<=V_ tb ds[j'].1.toNat):∀i,i < γ.length->V_ tb i<=V_ tb' i:=λi il=>by
 have:=(R3 fr (iL fr wB h'.fa) dr (CV a' h'.fa) h.ch h'.ch (sg:=1) λi il st=>by
  have:=FD fr dr hp h.fa wB h'.fa h.ch h.le up i il st
  grind).1 i il
 grind
def pQ.uniq(fr:FR ε γ)(dr:aL γ gs S)(hp:Ω (eZ γ "one") p)(pr:zE γ S p)(h:pQ γ S p a tb)(h':pQ γ S p a' tb'):tb=tb':=by
 have same:∀(tb:List Fr) (i:Nat) (ds:List aS),γ[i]? =some (.Α "one" ds)->∃j j':Nat,∃(jl:j < ds.length) (tK:j' < ds.length),Τ p i=some (j:Int)/\Τ p i=some (j':Int)/\V_ tb ds[j].1.toNat<=V_ tb ds[j'].1.toNat:=λtb i ds hi=>by have⟨j,gj,jl⟩:=(aW (i:=i) fr ai hp).1 ds hi;exact⟨j,j,jl,jl,gj,gj,by grind⟩
 have u:=h.up fr dr hp hp pr h' (same tb);have v:=h'.up fr dr hp hp pr h (same tb');apply aa8
 ·rw[h.ch.tab.len,h'.ch.tab.len]
 ·intro i h1 h2;have hi:i < γ.length:=by rw[<-h.ch.tab.len];exact h1
  have x:=h.ch.tab.red i hi;have y:=h'.ch.tab.red i hi;have c:=u i hi;have d:=v i hi;have e1:tb.getD i (0,1)=tb[i]:=by rw[aab,aaa h1];rfl
  have e2:tb'.getD i (0,1)=tb'[i]:=by rw[aab,aaa h2];rfl
  rw[<-e1,<-e2];exact eR x y (by have c:val (tb.getD i (0,1))<=val (tb'.getD i (0,1)):=c;have d:val (tb'.getD i (0,1))<=val (tb.getD i (0,1)):=d;grind)
def HA(fr:FR ε γ)(dr:aL γ gs S)(hp:Ω (eZ γ "one") p)(h:pQ γ S p a tb)(ne:ω γ tb p≠[])(CV:zE γ S (aE p (ω γ tb p)))(h':pQ γ S (aE p (ω γ tb p)) a' tb'):mP γ tb p < mP γ tb' (aE p (ω γ tb p)):=by
 have⟨im,ex⟩:=qR (tb:=tb) fr ai hp h.ch.tab.red;have ex:=ex ne;generalize aE p (ω γ tb p)=p' at *
 have c:=h.up fr dr hp im.fit CV h' λi ds hi=>by have⟨j,j',jl,tK,gj,yA,al,_⟩:=im.at_ i ds hi;have:=al _ (aaq jl);rw[kQ]at this;exact⟨j,j',jl,tK,gj,yA,by grind⟩
 have:=FK (tb':=tb') fr ai hp im (λi il=>by have:=c i il;rw[kQ,Rat.one_mul,Rat.one_mul];exact this) ex;rw[kQ]at this;grind
noncomputable def QV(l:List Pl)(Q:Pl->Rat->Prop):Option Rat->Nat
 | none=>l.length+1
 | some t=>open Classical in l.countP λq=>decide (∃u,Q q u/\t < u)
def EY{l:List Pl}{Q:Pl->Rat->Prop}{q:Pl}{u:Rat}(hq:q∈l)(h:Q q u)(un:∀u',Q q u'->u'=u):∀{o:Option Rat},(∀t,o=some t->t < u)->QV l Q (some u) < QV l Q o
 | none,_=>Nat.lt_succ_of_le List.countP_le_length
 | some t,ht=>by
  classical
  have lt:=ht t rfl;unfold QV;refine E5 (λx _ hx=>?_) hq (aaB ⟨u,h,lt⟩) (aam λz=>?_)
  ·have⟨v,a,b⟩:=aas hx;exact decide_eq_true ⟨v,a,by grind⟩
  ·have⟨v,a,b⟩:=z;rw[un v a]at b;grind
end
def gS(S:Sp)(o:Option Nat)(d:aS):Bool:=match at_ S d.1.toNat,o with
 | some a,some b=>decide (a < b)
 | _,_=>false
def sI(S:Sp)(o:Option Nat):List aS->Nat->Nat
 | [],_=>0
 | d::ds,n=>if gS S o d then n else sI S o ds (n+1)
def N4{γ:List Rw}(hl:S.length=γ.length)(h0:0<=t)(h1:t < γ.length):jf (S.map eV) t=some (eV (at_ S t.toNat)):=by have:=y4 (S:=S) (p:=t.toNat) ();rwa[show((t.toNat:Nat):Int)=t by omega]at this
def lA(γ:List Rw)(S:Sp):Pl:=(fe γ "one").map λi:Nat=>((i:Int),((sI S (at_ S i) (au (e9 γ i)) 0:Nat):Int))
def qv(A:Addr):DF:=λas M q _=>∃ε γ p st S k ds,as=[ah A ε γ,.int (p:Nat),st]/\gZ M st=some (S.map eV)/\S.length=γ.length/\HN γ/\γ[p]? =some (.Α k ds)/\(at_ S p=none->∀d∈ds,at_ S d.1.toNat=none)/\q (.int (sI S (at_ S p) ds 0:Nat)) M
def jD:Γ ["floor","place","steps","door","way"] ["floor","place","steps"] (τ l_):=.of rfl
def wQ(F:cQ K "drawn_door" "drawn_door" l_ f fd)(E:Ev K mg Cm)(aH:e7 P w K mg base 2 Cm "doors" ["self","place"] (qy Cm) cy cw):av P w K mg base (ck P w) 3 f fd ["floor","place","steps"] (cP K (qv Cm)):=by
 refine F.eB jD (λds M q x h=>?_) (λbw A outer s H E' hr=>⟨_,(ζ (cH (mw E.bW (θ (cX (fQ aH hr ξ (jv 0) (Η (jv 1) η))) η cf)) (lD rfl (bD (ay (i:=3) jD.nd rfl (Or.inl rfl)) (bD (ay (i:=4) jD.nd rfl (Or.inl rfl)) iR))) kZ (μ (aI (JW.jt (Oh (Cj (Ρ (jv 2) (Ρ (jv 4) υ)) rN) (Kz (mK (Ρ (jv 2) (Ρ (jv 4) υ)) (Ρ (jv 2) (jv 1)))))) (μ (Δ (jv 3))) Ξ)))
   (μ (Δ υ))),λds M q x h=>?_⟩)
 ·have⟨ε,γ,p,st,S,k,ds,rfl,_⟩:=h;rfl
 ·have⟨ε,γ,p,st,S,k,ds,rfl,hs,hl,f,hi,hn,h⟩:=h;have rm:Rw.Α k ds∈γ:=aal hi;have ro:=(f.row _ rm).1;have pl:p < γ.length:=(aaf.mp hi).1;have l6:=xn f rm;refine⟨⟨_,_,.inl rfl,rfl⟩,ε,γ,p,.Α k ds,rfl,hi,ro,eK (dQ _) ?_⟩;refine⟨.lst (ds.map dh),ds.map dh,λ_=>True,rfl,rfl,?_⟩;refine bC (λxs ρ' M'=>∃(rest:List aS) (n:Nat) (o3 o4:Option Dt),xs=gG n (rest.map dh)/\(∀d∈rest,d∈ds)/\sI S (at_ S p) rest n=sI S (at_ S p) ds 0/\M'=M/\ρ'=[some (ah Cm ε γ),some (.int (p:Int)),some st,o3,o4]) (λxs ρ' M' hj=>trivial) (λx xs ρ' M' hj iE=>?_) (λρ' M' hj=>?_) _ _ _ ⟨ds,0,none,none,rfl,λ_ h=>h,rfl,rfl,rfl⟩
  ·have⟨rest,n,o3,o4,ex,hm,he,rfl,rfl⟩:=hj;cases rest with
   | nil=>cases ex
   | cons d rest=>
    cases ex;have dm:=hm d aae;have⟨X8,d1'⟩:=mE f rm dm;have a1:=N4 hl X8 d1';have a2:jf (S.map eV) (p:Int)=some (eV (at_ S p)):=y4 ();have nx:gS S (at_ S p) d=false->_:=λz=>iE [some (ah Cm ε γ),some (.int (p:Int)),some st,some (.int (n:Int)),some (dh d)] M' ⟨rest,n+1,_,_,rfl,λx hx=>hm x (aad _ hx),by rw[<-he];show _=if gS S (at_ S p) d=true then n else sI S (at_ S p) rest (n+1);rw[z];rfl,rfl,rfl⟩;have yes:gS S (at_ S p) d=true->q (.int (n:Int)) M':=λz=>by
     rw[<-he]at h;have:sI S (at_ S p) (d::rest) n=n:=by show(if gS S (at_ S p) d=true then n else sI S (at_ S p) rest (n+1))=n;rw[z];rfl
     rw[this]at h;exact h
    dsimp only[g2];walk_at "vc";refine ur ?_;refine(Ε hs a1 ?_:e_ st (.int d.1) _ _);refine wO ⟨λz=>?_,λz=>?_⟩
    ·refine ur ?_;refine(Ε hs a1 ?_:e_ st (.int d.1) _ _);refine(Ε hs a2 ?_:e_ st (.int (p:Int)) _ _);have⟨a,ea⟩:=aa6.mp z;cases eb:at_ S p with
     | none=>rw[hn eb d dm]at ea;cases ea
     | some b=>
      have lz:gS S (at_ S p) d=decide (a < b):=by unfold gS;rw[ea,eb]
      rw[lz]at nx yes;rw[ea];show(decide ((a:Int) < (b:Int))=true->_)/\(decide ((a:Int) < (b:Int))=false->_);exact⟨λz=>yes (aaB (by have:=aas z;omega)),λz=>nx (aam (by have:=aaK z;omega))⟩
    ·have z:at_ S d.1.toNat=none:=by simpa using z
     refine⟨nofun,λ_=>?_⟩;exact nx (by unfold gS;rw[z])
  ·have⟨rest,n,o3,o4,ex,hm,he,rfl,rfl⟩:=hj;have:rest=[]:=by cases rest with| nil=>rfl| cons p r=>cases ex
   subst this;have he:0=sI S (at_ S p) ds 0:=he;rw[<-he]at h;exact h
def iB{γ:List Rw}(dr:aL γ gs S){k:Str}{ds:List aS}(hi:γ[i]? =some (.Α k ds))(hk:k≠"other")(h:at_ S i=none):∀d∈ds,at_ S d.1.toNat=none:=λd hd=>by
 have:=dr.2 i _ hi;have this:iG k (aN S ds) (at_ S i):=this;unfold iG at this;rw[aay hk,h]at this;rcases this with ⟨_,e⟩| ⟨v,e,_⟩
 ·exact e _ (af.mpr ⟨d,hd,rfl⟩)
 ·cases e
def r9(A:Addr):DF:=λas M q _=>∃ε γ st S gs,as=[ah A ε γ,st]/\(∀E,gZ (M++E) st=some (S.map eV))/\aL γ gs S/\FR ε γ/\q (.loc M.length) (M++[dP (lA γ S)])
def jq:Γ ["floor","steps","plan","place"] ["floor","steps"] (τ l9):=.of rfl
def xp(F:cQ K "drawn_plan" "drawn_plan" l9 f fd)(E:Ev K mg Cm){oC:Addr}{nC:FuncData}(eF:aC P w K mg base 2 "places_of" ["floor","hand"] (vR Cm) oC nC){Ac:Addr}{zV:FuncData}(jP:aC P w K mg base 3 "drawn_door" ["floor","place","steps"] (qv Cm) Ac zV):av P w K mg base (ck P w) 4 f fd ["floor","steps"] (cP K (r9 Cm)):=by
 refine F.eB jq (λds M q x h=>?_) (λbw A outer s H E' hr=>⟨_,(ζ (Β 2 jq.nd An)
   (ζ (cH (bR (Φ eF hr ξ (Η (jv 0) (θ mH η aK)))) (ay (i:=3) jq.nd rfl (Or.inl rfl)) aM (μ (xu hr (jv 2) (jv 3) (Φ jP hr ξ (Η (jv 0) (Η (jv 3) (Η (jv 1) η)))))))
   (μ (Δ (jv 2))))),λds M q x h=>?_⟩)
 ·have⟨ε,γ,st,S,gs,rfl,_⟩:=h;rfl
 ·have⟨ε,γ,st,S,gs,rfl,hs,dr,fr,h⟩:=h;have sJ:=fr.pl.len;have FW:(fe γ "one").length<=12:=by have:=List.length_filter_le (λi=>decide (d9 γ i="one")) (List.range γ.length);rw[aa9]at this;unfold fe;omega
  have Po:(fe γ "one").Nodup:=List.nodup_range.filter _;walk_at "vc";dsimp only[uP,gw];walk_at "vc";refine⟨ε,γ,"one",rfl,sJ,?_⟩;refine bC (λxs ρ' M'=>∃(dJ rest:List Nat) (o3:Option Dt),fe γ "one"=dJ++rest/\xs=rest.map (λi:Nat=>Dt.int i)/\M'=M++[dP (dJ.map λi:Nat=>((i:Int),((sI S (at_ S i) (au (e9 γ i)) 0:Nat):Int)))]/\ρ'=[some (ah Cm ε γ),some st,some (.loc M.length),o3]) (λxs ρ' M' hj=>trivial) (λx xs ρ' M' hj iE=>?_) (λρ' M' hj=>?_) _ _ _ ⟨[],fe γ "one",none,rfl,rfl,rfl,rfl⟩
  ·have⟨dJ,rest,o3,e,ex,rfl,rfl⟩:=hj;cases rest with
   | nil=>cases ex
   | cons i rest=>
    cases ex;have dl:dJ.length<=12:=by have:=aaU List.length e;rw[aah]at this;omega
    have⟨ds,hi,ed,_⟩:=ir fr ai (show i∈fe γ "one" by rw[e];simp);have gn:Τ (dJ.map λi:Nat=>((i:Int),((sI S (at_ S i) (au (e9 γ i)) 0:Nat):Int))) (i:Int)=none:=kh λy=>by
     rw[aaT]at y;have⟨j,hj,ej⟩:=aan.mp y;have ej:(j:Int)=(i:Int):=ej;have:j=i:=()
     subst this;rw[e,ab0]at Po;exact Po.2.2 _ hj _ aae rfl
    dsimp only[wj];walk_at "vc";refine⟨ε,γ,i,st,S,"one",ds,rfl,hs _,dr.1,fr.Pu,hi,iB dr hi @_,?_⟩;refine⟨M.length,_,_,Sum.inl (i:Int),rfl,ao,rfl,by unfold kP;rw[List.length_map,List.length_map];omega,?_⟩;rw[x9 (v:=((sI S (at_ S i) ds 0:Nat):Int)),BY,bX];refine iE _ _ ⟨dJ++[i],rest,_,by rw[e,aaH];rfl,rfl,?_,rfl⟩;unfold jd;rw[gn,aay @_,aaV,<-ed];rfl
  ·have⟨dJ,rest,o3,e,ex,rfl,rfl⟩:=hj;have:rest=[]:=by cases rest with| nil=>rfl| cons p r=>cases ex
   subst this;rw[aaY]at e;unfold lA at h;rw[e]at h;exact h
def Hb(A:Addr):DF:=λas M q _=>∃ε γ i k acc st S gs,as=[ah A ε γ,.int (i:Nat),.loc k,st]/\M[k]? =some (dP acc)/\gZ M st=some (S.map eV)/\i < γ.length/\oF γ acc/\aL γ gs S/\FR ε γ/\∀E',q (b6 (mM (1,1) γ.length i (fP γ S acc i) (ny S i))) (M++E')
def yh:Γ ["floor","place","doors","steps"] ["floor","place","doors","steps"] (τ kN):=.of rfl
def vm(F:cQ K "chance_row" "chance_row" kN f fd)(E:Ev K mg Cm){Ju:Addr}{Kf:FuncData}(jL:aC P w K mg base 5 "led_row" ["floor","place","ways","share","given"] (Q2 Cm) Ju Kf){EA:Addr}{Dm:FuncData}(lL:aC P w K mg base 3 "ways_from" ["floor","place","doors"] (Lc Cm) EA Dm):av P w K mg base (ck P w) 6 f fd ["floor","place","doors","steps"] (cP K (Hb Cm)):=by
 refine F.eB yh (λds M q x h=>?_) (λbw A outer s H E' hr=>⟨_,(ζ (aI (AI (Ρ (jv 3) (jv 1)) rN) (μ (Δ (Φ jL hr ξ (Η (jv 0) (Η (jv 1) (θ (ng η) (θ (bO (θ υ (θ υ η aK) aK)) (θ (bO (θ υ (θ υ η aK) aK)) η mT) mT))))))) Ξ)
   (ζ (aI (cU hr (Ρ (jv 3) (jv 1)) υ) (μ (Δ (Φ jL hr ξ (Η (jv 0) (Η (jv 1) (θ (ng η) (θ (bO (θ υ (θ υ η aK) aK)) (θ (bO (θ υ (θ υ η aK) aK)) η mT) mT))))))) Ξ)
   (μ (Δ (Φ jL hr ξ (Η (jv 0) (Η (jv 1) (θ (Φ lL hr ξ (Η (jv 0) (Η (jv 1) (Η (jv 2) η)))) (θ (bO (θ υ (θ υ η aK) aK)) (θ (bO (θ υ (θ υ η aK) aK)) η mT) mT) cf)))))))),λds M q x h=>?_⟩)
 ·have⟨ε,γ,i,k,acc,st,S,gs,rfl,_⟩:=h;rfl
 ·have⟨ε,γ,i,k,acc,st,S,gs,rfl,hk,hs,il,dk,dr,fr,h⟩:=h;have⟨Ep,p,_,sz,one,LN⟩:=N7 (acc:=acc) fr dk dr il;have sl:∀{z:Nat},z<=1000->z<=sizeLine:=λh=>aaA h @_;have a2:jf (S.map eV) (i:Int)=some (eV (at_ S i)):=y4 (by rw[dr.1];exact il);have S9:Sz 11 ((1,1):Fr):=⟨@_,@_,@_⟩;walk_at "vc";refine(Ε hs a2 ?_:e_ st (.int (i:Int)) _ _);refine NQ ⟨λz=>?_,λz=>?_⟩
  ·have z:at_ S i=none:=by simpa using z
   have e1:fP γ S acc i=[]:=rD λ⟨s,e⟩=>by rw[z]at e;cases e
   have e2:ny S i=(0,1):=by unfold ny;rw[z]
   rw[e1,e2]at h p;rw[e1]at one LN;exact⟨sl @_,sl @_,sl @_,ε,(1,1),γ,i,[],(0,1),Ep,7,rfl,il,fr.pl.len,S9,one,p,sz,LN,h⟩
  ·refine(Ε hs a2 ?_:e_ st (.int (i:Int)) _ _);cases e:at_ S i with
   | none=>rw[e]at z;cases z
   | some v=>
    show(decide ((v:Int)=0)=true->_)/\(decide ((v:Int)=0)=false->_);refine⟨λy=>?_,λy=>?_⟩
    ·have y:v=0:=by have:=aas y;omega
     subst y;have e1:fP γ S acc i=[]:=rD λ⟨s,e'⟩=>by rw[e]at e';cases e'
     have e2:ny S i=(1,1):=by unfold ny;rw[e];rfl
     rw[e1,e2]at h p;rw[e1]at one LN;exact⟨sl @_,sl @_,sl @_,ε,(1,1),γ,i,[],(1,1),Ep,7,rfl,il,fr.pl.len,S9,one,p,sz,LN,h⟩
    ·have y:v≠0:=by have:=aaK y;omega
     have MN:pZ S i:=⟨v - 1,by rw[e,Nat.sub_add_cancel ()]⟩;have⟨kd,ds,hi⟩:=n8 dr il MN;have e1:fP γ S acc i=ef acc i (.Α kd ds):=by rw[iU MN,bY hi]
     rw[Lv MN]at h p;rw[e1]at h p one LN;refine⟨ε,γ,i,.Α kd ds,k,acc,rfl,hk,hi,(fr.pl.row _ (aal hi)).1,dk,?_⟩;exact⟨sl @_,sl @_,ε,(1,1),γ,i,_,(0,1),Ep,7,rfl,il,fr.pl.len,S9,one,p,sz,LN,h⟩
def b7(h:n<=12):(12 * 7000000:Int) ^ n < 2 ^ 400:=by have h1:=abx (show 0 < 84000000 by decide) h;have h2:((84000000 ^ n:Nat):Int)<=((84000000 ^ 12:Nat):Int):=Int.ofNat_le.mpr h1;rw[Int.natCast_pow,Int.natCast_pow]at h2;exact abp h2 @_
def LI(A:Addr):DF:=λas M q _=>∃ε γ kp ka st S gs p a,as=[ah A ε γ,.loc kp,.loc ka,st]/\M[kp]? =some (dP p)/\M[ka]? =some (dP a)/\(∀E,gZ (M++E) st=some (S.map eV))/\p.length+a.length<=1000/\oF γ (aE p a)/\aL γ gs S/\FR ε γ/\Lo γ S (aE p a)/\∀tb,pW γ S (aE p a) tb->q (.loc (M.length+1)) (M++[dP (aE p a),.lst (tb.map aj)])
def jO:Γ ["floor","plan","answer","steps","doors"] ["floor","plan","answer","steps"] (τ lG):=.of rfl
def vH(F:cQ K "chances_by" "chances_by" lG f fd)(E:Ev K mg Cm){D1:Addr}{Ed:FuncData}(lY:aC P w K mg base 4 "answer_of" ["rows"] xr D1 Ed)(ae:e7 P w K mg base 1 Cm "size" ["self"] (rR Cm) br bt){Ay:Addr}{zX:FuncData}(jo:aC P w K mg base 6 "chance_row" ["floor","place","doors","steps"] (Hb Cm) Ay zX):av P w K mg base (ck P w) 7 f fd ["floor","plan","answer","steps"] (cP K (LI Cm)):=by
 refine F.eB jO (λds M q x h=>?_) (λbw A outer s H E' hr=>⟨_,(ζ (Β 4 jO.nd (LW E.xv (Η (jv 1) η)))
   (ζ (dX (Ad (jv 4) (jv 2)))
   (μ (Δ (Φ lY hr ξ (θ (Nd (ys:=["floor","doors","steps"]) (Μ:=[0,4,3]) (.of jO rfl rfl rfl) (cq E.bP (θ (gI ae hr ξ (jv 0)) η cf)) (λC s H fp=>(cX (Φ jo hr (cJ (P:=P) (w:=w)) (Η (jv 1) (Η (jv 0) (Η (jv 2) (Η (jv 3) η)))))))) η)))))),λds M q x h=>?_⟩)
 ·have⟨ε,γ,kp,ka,st,S,gs,p,a,rfl,_⟩:=h;rfl
 ·have⟨ε,γ,kp,ka,st,S,gs,p,a,rfl,hp,ha,hs,lz,dk,dr,fr,pr,h⟩:=h;have sJ:=fr.pl.len;have n1:=fr.n1;have sl:∀{z:Nat},z<=1000->z<=sizeLine:=λh=>aaA h @_;have kl:ka < M.length:=(aaf.mp ha).1;have Sy:=Pn fr dk dr pr;have⟨tb,z,N,sol,n0,Q4,tab,bot⟩:=Sy.ex sJ;have cn:pW γ S (aE p a) tb:=⟨tab,λi hi=>abp (bot i hi) (b7 sJ)⟩;have hq:=h tb cn;have bd:=Sy.bd;have SR:=Sy.SR;walk_at "vc";refine⟨kp,_,_,rfl,hp,?_⟩;dsimp only[BF,ux];walk_at "vc";refine⟨⟨M.length,_,_,rfl,ao⟩,M.length,ka,_,_,_,_,rfl,rfl,(),ao,bK ha,by unfold kP;rw[List.length_map,List.length_map];exact lz,?_⟩;rw[B7,Ci,bX];generalize Dv:aE p a=acc at *
  dsimp only[uF];walk_at "vc";refine⟨⟨_,_,.inl rfl,rfl⟩,ε,γ,rfl,?_⟩;refine⟨⟨(),()⟩,by rw[dU];exact sl (),?_⟩;refine oE (f:=λx=>match x with| .int j=>b6 ((gu (1,1) γ.length (fP γ S acc) (ny S)).getD j.toNat [])| _=>.aJ) _ _ (λx Ul q' hq=>?_) ?_
  ·have⟨j,hj,rfl⟩:=jR Ul;have hj:j < γ.length:=()
   rw[Int.zero_add]at hq⊢;have hq:q' (b6 ((gu (1,1) γ.length (fP γ S acc) (ny S)).getD j [])) (M++[dP acc]):=hq;have e:(gu (1,1) γ.length (fP γ S acc) (ny S)).getD j []=mM (1,1) γ.length j (fP γ S acc j) (ny S j):=by unfold gu;rw[aab,aak,aaO hj];rfl
   rw[e]at hq;exact⟨ε,γ,j,M.length,acc,st,S,gs,rfl,ao,hs _,hj,dk,dr,fr,λE'=>gX (.old (xh _)) hq⟩
  have er:=Ka (gu (1,1) γ.length (fP γ S acc) (ny S)) [] b6;rw[ki]at er;rw[aaS,show((γ.length:Int)).toNat=γ.length by omega];refine(λ(key:∀l,l=(gu (1,1) γ.length (fP γ S acc) (ny S)).map b6->xr [.lst l] (M++[dP acc]) q _)=>key _ er) λl hl=>?_;subst hl;have ln:∀r∈gu (1,1) γ.length (fP γ S acc) (ny S),r.length=γ.length+1:=λr p9=>by unfold gu at p9;have⟨i,hi,rfl⟩:=aan.mp p9;have⟨E,p,_⟩:=N7 (acc:=acc) fr dk dr (aba.mp hi);exact(z6 (aba.mp hi) p).1
  refine⟨gu (1,1) γ.length (fP γ S acc) (ny S),γ.length,7000000,tb,z,N,rfl,⟨by rw[ki];exact n1,by rw[ki];exact sJ,sJ,ln,by rw[ki];exact bd,@_⟩,n1,tab.len,by rw[ki];exact sol,n0,λi hi=>⟨(tab.red i hi).pos,(tab.red i hi).low,Q4 i hi⟩,by rw[ki];exact SR,?_⟩;simpa [List.append_assoc] using hq
end
end Pg
namespace L2
open PySem
def yp{g:Dt->En->(En->Prop)->Prop}{tb:DS}{Dn:kD}{k:Nat}{u:Addr->HO}{m:MO}(J:List Key->En->Ms->Prop)(aO:∀xs ρ M,J xs ρ M->M[k]? =some (.raw u))
  (step:∀x xs ρ M,J (x::xs) ρ M->(∀ρ M,J xs ρ M->tN g tb Dn k u m xs ρ M)->g (FF x) ρ λρ'=>tb {Dn with nx:=tN g tb Dn k u m xs,ct:=tN g tb Dn k u m xs,bk:=λρ M=>M[k]? =some (.raw u)/\Dn.nx ρ (M.set k m)} ρ' M)
  (fin:∀ρ M,J [] ρ M->Dn.nx ρ (M.set k m)):∀(xs:List Key) (ρ:En) (M:Ms),J xs ρ M->tN g tb Dn k u m xs ρ M
 | [],ρ,M,h=>⟨aO _ _ _ h,fin _ _ h⟩
 | x::xs,ρ,M,h=>⟨aO _ _ _ h,step x xs ρ M h λρ' M' h'=>yp J aO step fin xs ρ' M' h'⟩
end L2
namespace Pg
open PySem L2 Fr0 Tx
variable{M:Ms}{γ:List Rw}{tb:List Fr}{mg:Str->Option Value}{f bq:Addr}{fd bj:FuncData}{ε:Fr}{gs:List Nat}{S:Sp}{p:Pl}{i ν:Nat}{ds:List aS}{ns:List Int}{u:Int}
def IP{k:Nat}{m:MO}(h:M[k]? =some m):M.set k m=M:=by
 apply List.ext_getElem?;intro i;rw[List.getElem?_set];split
 ·rename_i e;subst e;rw[aaw (aaf.mp h).1,h]
 ·rfl
def xo(pl:Pl):vP pl=(pl.map (·.2)).map Dt.int:=by unfold vP;rw[List.map_map];rfl
def QA(p q:Fr):lK [.int p.1,.int p.2] [.int q.1,.int q.2]=decide (p=q):=by
 have⟨a,b⟩:=p;have⟨c,d⟩:=q;show((a==c)&&((b==d)&&true))=_;rw[Bool.and_true];by_cases h1:a=c
 ·by_cases h2:b=d
  ·subst h1 h2;simp
  ·have:¬((a,b)=(c,d)):=λz=>h2 (Prod.mk.inj z).2;rw[decide_eq_false this];simp[h2]
 ·have:¬((a,b)=(c,d)):=λz=>h1 (Prod.mk.inj z).1;rw[decide_eq_false this];simp[h1]
structure Nq(γ:List Rw)(tb:List Fr):Prop where
 tl:tb.length=γ.length
 sz:∀i,i < γ.length->Sz 400 (tb.getD i (0,1))
def PV{t:Int}(h:Nq γ tb)(h0:0<=t)(h1:t < γ.length):jf (tb.map aj) t=some (aj (tb.getD t.toNat (0,1))):=by
 have hl:t.toNat < tb.length:=by rw[h.tl];omega
 have e2:(tb.map aj)[t.toNat]? =some (aj (tb.getD t.toNat (0,1))):=by rw[aak,aab,aaa hl];rfl
 have:=az e2;rwa[show((t.toNat:Nat):Int)=t by omega]at this
def Mg(p r:Fr):D3 M 1 (aj p) (aj r) (decide (p=r)):=by
 have:=D3.tup (M:=M) (n:=0) (ds:=[.int p.1,.int p.2]) (es:=[.int r.1,.int r.2]) (f:=λj=>if j=0 then decide (p.1=r.1) else decide (p.2=r.2)) (λj d e hd he=>by
  match j,hd,he with
  | 0,hd,he=>cases hd;cases he;have:=D3.flat (M:=M) (n:=0) (d:=.int p.1) (e:=.int r.1) rfl rfl;rwa[show uW (.int p.1) (.int r.1)=decide (p.1=r.1) by show(p.1==r.1)=_;by_cases h:p.1=r.1 <;> simp[h]]at this
  | 1,hd,he=>cases hd;cases he;have:=D3.flat (M:=M) (n:=0) (d:=.int p.2) (e:=.int r.2) rfl rfl;rwa[show uW (.int p.2) (.int r.2)=decide (p.2=r.2) by show(p.2==r.2)=_;by_cases h:p.2=r.2 <;> simp[h]]at this
  | j+2,hd,_=>cases hd)
 have e:((List.range (min [Dt.int p.1,.int p.2].length [Dt.int r.1,.int r.2].length)).all (λj=>if j=0 then decide (p.1=r.1) else decide (p.2=r.2))&&[Dt.int p.1,.int p.2].length==[Dt.int r.1,.int r.2].length)=decide (p=r):=by show((decide (p.1=r.1)&&(decide (p.2=r.2)&&true))&&true)=_;rw[Bool.and_true,Bool.and_true];have⟨a,b⟩:=p;have⟨c,d⟩:=r;simp[Prod.ext_iff,Bool.decide_and]
 rw[e]at this;exact this
section
variable{P:Program}{w:World}{K:fI}{base:Heap}{Cm:Addr}
def GZ(A:Addr):DF:=λas M q _=>∃(ε:Fr) (γ:List Rw) (tb:List Fr) (k kt:Nat) (pl:Pl),as=[ah A ε γ,.loc k,.loc kt]/\M[k]? =some (dP pl)/\M[kt]? =some (.lst (tb.map aj))/\Nq γ tb/\HN γ/\EX pl/\pl.length<=12/\(∀p∈pl,0<=p.1/\∃kd ds,γ[p.1.toNat]? =some (.Α kd ds)/\0<=p.2/\p.2 < ds.length)/\q (.loc M.length) (M++[dP (ω γ tb pl)])
def dF:Γ ["floor","plan","table","better","place","numbers","best"] ["floor","plan","table"] (τ lq):=.of rfl
def wa(F:cQ K "better_led" "better_led" lq f fd)(E:Ev K mg Cm){cy:Addr}{cw:FuncData}(aH:e7 P w K mg base 2 Cm "doors" ["self","place"] (qy Cm) cy cw){bc:Addr}{ba:FuncData}(Ψ:e7 P w K mg base 1 Cm "kind" ["self","place"] (qt Cm) bc ba){EC:Addr}{D0:FuncData}(k9:aC P w K mg base 2 "greatest" ["numbers"] (vn qY) EC D0){Mt:Addr}{NN:FuncData}(v_:aC P w K mg base 2 "least" ["numbers"] (vn r6) Mt NN):av P w K mg base (ck P w) 3 f fd ["floor","plan","table"] (cP K (GZ Cm)):=by
 refine F.eB dF (λds M q x h=>?_) (λbw A outer s H E' hr=>⟨_,(ζ (Β 3 dF.nd An)
   (ζ (KU (jv 1) (ay (i:=4) dF.nd rfl (Or.inl rfl)) aM (ζ (gL (i:=5) dF.nd rfl (Or.inl rfl) (ys:=["table"]) (Μ:=[2]) (.of dF rfl rfl rfl) (bR (cX (fQ aH hr ξ (jv 0) (Η (jv 4) η)))) (λC s H fp=>(Ρ (jv 1) (Ρ (jv 0) υ))))
   (ζ (jK (Β 6 dF.nd (Cu (cU hr (fQ Ψ hr ξ (jv 0) (Η (jv 4) η)) mH) (Φ k9 hr ξ (Η (jv 5) η)) (Φ v_ hr ξ (Η (jv 5) η)))))
   (μ (aI (pj hr (Ρ (jv 5) (KI (jv 1) (jv 4))) (jv 6)) (μ (xu hr (jv 3) (jv 4) (KA 1 hr (jv 5) (Η (jv 6) η)))) Ξ)))))
   (μ (Δ (jv 3))))),λds M q x h=>?_⟩)
 ·have⟨ε,γ,tb,k,kt,pl,rfl,_⟩:=h;rfl
 ·have⟨ε,γ,tb,k,kt,pl,rfl,hk,zN,tok,f,nd,sJ,hp,h⟩:=h;have kl:k < M.length:=(aaf.mp hk).1;have Sq:kt < M.length:=(aaf.mp zN).1;have kn:k≠kt:=λe=>by rw[e,zN]at hk;cases hk
  walk_at "vc";refine⟨k,kP pl,pl.map (·.2),rfl,by rw[<-xo];exact bK hk,λep=>?_⟩;show tN _ _ _ k (Jt P w (kP pl) (pl.map (·.2)) ep) _ _ _ ((M++[MO.kE [] []]).set k (.raw (Jt P w (kP pl) (pl.map (·.2)) ep)));have Tn:∀p∈pl,eI (kP pl) ((pl.map (·.2)).map Dt.int) (Sum.inl p.1)=some (.int p.2):=λp hm=>by rw[<-xo,Co,rh nd hm];rfl
  generalize hu:Jt P w (kP pl) (pl.map (·.2)) ep=u;have VM:(M++[MO.kE [] []]).set k (.raw u)=M.set k (.raw u)++[dP []]:=by rw[abJ _ _ kl];rfl
  have hb:∀acc,((M.set k (.raw u)++[dP acc]).set k (.kE (kP pl) (vP pl)))=M++[dP acc]:=λacc=>by
   rw[abJ _ _ (by rw[aa3];exact kl),List.set_set]
   congr 1
   exact IP hk
  have hT:∀acc,(M.set k (.raw u)++[dP acc])[kt]? =some (.lst (tb.map aj)):=λacc=>bK (by rw[abb kn];exact zN);rw[VM];refine yp (λxs ρ' M'=>∃(dJ rest:Pl) (o4 o5 o6:Option Dt),pl=dJ++rest/\xs=kP rest/\M'=M.set k (.raw u)++[dP (ω γ tb dJ)]/\ρ'=[some (ah Cm ε γ),some (.loc k),some (.loc kt),some (.loc M.length),o4,o5,o6]) (λxs ρ' M' hj=>?_) (λx xs ρ' M' hj iE=>?_) (λρ' M' hj=>?_) _ _ _ ⟨[],pl,none,none,none,rfl,rfl,rfl,rfl⟩
  ·have⟨dJ,rest,o4,o5,o6,e,rfl,rfl,rfl⟩:=hj;exact bK (by rw[aa0 kl])
  ·have⟨dJ,rest,o4,o5,o6,e,ex,rfl,rfl⟩:=hj;cases rest with
   | nil=>cases ex
   | cons p rest=>
    cases ex;have pm:p∈pl:=by rw[e];simp
    have⟨p0,kd,ds,K_,v0,v1⟩:=hp p pm;have⟨p1,v⟩:=p;obtain⟨i,rfl⟩:∃i:Nat,p1=(i:Int):=⟨p1.toNat,by have:0<=p1:=p0;omega⟩;obtain⟨j,rfl⟩:∃j:Nat,v=(j:Int):=⟨v.toNat,by have:0<=v:=v0;omega⟩;have K_:γ[i]? =some (.Α kd ds):=K_;have jl:j < ds.length:=by have:(j:Int) < ds.length:=v1;omega
    have rm:Rw.Α kd ds∈γ:=aal K_;have ro:=(f.row _ rm).1;have l6:=xn f rm;have JY:(M.set k (.raw u)++[dP (ω γ tb dJ)])[k]? =some (.raw u):=bK (by rw[aa0 kl]);have Rm:(M.set k (.raw u)++[dP (ω γ tb dJ)])[M.length]? =some (dP (ω γ tb dJ)):=by have:=ao (M:=M.set k (.raw u)) (o:=dP (ω γ tb dJ));rwa[aa3]at this
    have XQ:ω γ tb (dJ++[((i:Int),(j:Int))])=ω γ tb dJ++nR (tw γ tb) (zi γ tb) ((i:Int),(j:Int)):=by unfold ω;rw[List.flatMap_append];simp
    have ed:IQ γ (i:Int)=ds:=by unfold IQ;rw[Int.toNat_natCast,bY K_];rfl
    have nl:(aB tb ds).length=ds.length:=by unfold aB;rw[List.length_map]
    have eb:tw γ tb (i:Int) (j:Int)=decide ((aB tb ds).getD j (0,1)=b9 kd (aB tb ds)):=by unfold tw;rw[ed,aaL,aaL,mD K_]
    have ex:zi γ tb (i:Int)=(zF (b9 kd (aB tb ds)) (aB tb ds):Nat):=by unfold zi;rw[ed,aaL,mD K_]
    have Pq:∀acc o5 o6,acc=ω γ tb (dJ++[((i:Int),(j:Int))])->_:=λacc o5 o6 ea=>iE [some (ah Cm ε γ),some (.loc k),some (.loc kt),some (.loc M.length),some (.int (i:Int)),o5,o6] (M.set k (.raw u)++[dP acc]) ⟨dJ++[((i:Int),(j:Int))],rest,_,o5,o6,by rw[e,aaH];rfl,rfl,by rw[ea],rfl⟩;have hg:=Tn _ pm;have nz:∀n∈aB tb ds,Sz 1300 n:=λn hn=>by have⟨d,hd,rfl⟩:=aan.mp hn;have:=mE f rm hd;exact vF (tok.sz _ ()) @_
    have n0:aB tb ds≠[]:=λz=>by rw[z]at nl;have:(0:Nat)=ds.length:=nl;omega
    have⟨bm,_⟩:=pU (k:=kd) n0 λn hn=>(nz n hn).2.1;have⟨xl,xe,xf⟩:=A8 bm;have Xg:=hT (ω γ tb dJ);rw[<-hu]at JY Rm Pq Xg⊢;walk_at "vc";refine⟨⟨_,_,.inl rfl,rfl⟩,ε,γ,i,.Α kd ds,rfl,K_,ro,eK (dQ _) ?_⟩;refine⟨by show(ds.map dh).length<=sizeLine;rw[aag];exact aaA l6.2 @_,?_⟩;refine eL (F:=λx d=>x=dh d/\d∈ds) (f:=λd=>aj (tb.getD d.1.toNat (0,1))) (as:=ds) trivial (λx d hx qq hq=>?_) (jI dh ds ds λx hx=>hx) ?_
    ·have⟨rfl,hd⟩:=hx;have⟨t0,t1⟩:=mE f rm hd;walk_at "vc";refine ur ?_;exact Ε (d:=.loc kt) (lN Xg) (PV tok t0 t1) hq
    rw[aaS];have en:ds.map (λd=>aj (tb.getD d.1.toNat (0,1)))=(aB tb ds).map aj:=by unfold aB;rw[List.map_map];rfl
    rw[en];generalize aB tb ds=ns at *
    refine⟨λρ M2=>M2=M.set k (.raw (Jt P w (kP pl) (pl.map (·.2)) ep))++[dP (ω γ tb dJ)]/\ρ=[some (ah Cm ε γ),some (.loc k),some (.loc kt),some (.loc M.length),some (.int (i:Int)),some (.lst (ns.map aj)),some (aj (b9 kd ns))],?_,?_⟩
    ·walk_at "vc";refine⟨⟨_,_,.inl rfl,rfl⟩,ε,γ,i,.Α kd ds,rfl,K_,λz=>?_,λz=>?_⟩
     ·have z:kd="one":=aas z;exact⟨ns,rfl,n0,nz,rfl,by unfold b9;rw[if_pos z];rfl⟩
     ·have z:kd≠"one":=aaK z;exact⟨ns,rfl,n0,nz,rfl,by unfold b9;rw[if_neg z];rfl⟩
    rintro ρ2 M2 ⟨rfl,rfl⟩;generalize b9 kd ns=b at *
    walk_at "vc";refine⟨k,kP pl,(pl.map λx:Int×Int=>x.2),ep,Sum.inl (i:Int),(j:Int),rfl,JY,rfl,hg,?_⟩;refine(Ε (d:=.lst (ns.map aj)) (xs:=ns.map aj) rfl (az (j:=j) (by rw[aak,aaa (show j < ns.length by omega)];rfl)) ?_:e_ (.lst (ns.map aj)) (.int (j:Int)) _ _);have gj:ns.getD j (0,1)=ns[j]'():=by rw[aab,aaa (show j < ns.length by omega)];rfl
    rw[gj]at eb;generalize ns[j]'()=c at *
    show((!lK [.int c.1,.int c.2] [.int b.1,.int b.2])=true->_)/\((!lK [.int c.1,.int c.2] [.int b.1,.int b.2])=false->_);rw[QA,<-eb];refine⟨λz=>?_,λz=>?_⟩
    ·have z:¬tw γ tb (i:Int) (j:Int)=true:=by simpa using z
     dsimp only[wj,Fo];walk_at "vc";have dl:dJ.length<=12:=by have:=aaU List.length e;rw[aah]at this;omega
     have ll:(ω γ tb dJ).length<=dJ.length:=qe dJ;refine⟨⟨ns.map aj,rfl⟩,aj b,ns.map aj,λi=>decide (ns.getD i (0,1)=b),zF b ns,rfl,rfl,λi' z' SG=>?_,by rw[aag];exact xl,aaB (by rw[aab,xe];rfl),λi' Er=>aam λy=>xf i' Er (by rw[aaa (show i' < ns.length by omega)];rw[aab,aaa (show i' < ns.length by omega)]at y;exact aaU some y),?_⟩
     ·rw[aak]at SG;have⟨n,hn,rfl⟩:=abS.mp SG;have YY:ns.getD i' (0,1)=n:=by rw[aab,hn];rfl
      show D3 _ 1 (aj n) (aj b) (decide (ns.getD i' (0,1)=b));rw[YY];exact Mg n b
     refine⟨M.length,_,_,Sum.inl (i:Int),rfl,Rm,rfl,by unfold kP;rw[List.length_map];omega,?_⟩;rw[x9 (v:=((zF b ns:Nat):Int)),BY];have gn:Τ (ω γ tb dJ) (i:Int)=none:=kh λy=>by have y:=iA y;rw[e]at nd;unfold EX at nd;rw[aaV,ab0]at nd;exact nd.2.2 _ y _ aae rfl
     have e1:jd (ω γ tb dJ) (i:Int) ((zF b ns:Nat):Int)=ω γ tb (dJ++[((i:Int),(j:Int))]):=by rw[XQ];unfold jd nR;rw[gn,aay z,ex,aay @_]
     rw[e1,List.set_append_right (h:=by rw[aa3];exact aai _),aa3,abH];exact Pq _ _ _ rfl
    ·have z:tw γ tb (i:Int) (j:Int)=true:=by simpa using z
     exact Pq _ _ _ (by rw[XQ];unfold nR;rw[if_pos z,List.append_nil])
  ·have⟨dJ,rest,o4,o5,o6,e,ex,rfl,rfl⟩:=hj;have:rest=[]:=by cases rest with| nil=>rfl| cons p r=>cases ex
   subst this;rw[aaY]at e;rw[xo]at hb;rw[hb,<-e];exact h
section
variable{tb':List Fr}{a:Pl}{k:Str}
def pW.tok(fr:FR ε γ)(dr:aL γ gs S)(hp:Ω (eZ γ "one") p)(ha:Ω (eZ γ "other") a)(pr:zE γ S p)(h:pW γ S (aE p a) tb):Nq γ tb:=⟨h.tab.len,λi il=>(h.sz fr (iL fr hp ha) dr (pr a ha) il).2.2.2⟩
def sC(h:Ω (eZ γ k) a)(sJ:γ.length<=12):a.length<=12:=by have:=aaU List.length (b_ h);rw[aag,iM,aag]at this;have l:=List.length_filter_le (λi=>decide (d9 γ i=k)) (List.range γ.length);rw[aa9]at l;have l:(fe γ k).length<=γ.length:=l;omega
def Cr(fr:FR ε γ)(hh:Χ k=true)(h:Ω (eZ γ k) a):∀e∈a,0<=e.1/\∃kd ds,γ[e.1.toNat]? =some (.Α kd ds)/\0<=e.2/\e.2 < ds.length:=λe he=>by have ke:e.1∈a.map (·.1):=aan.mpr ⟨e,he,rfl⟩;rw[b_ h,iM]at ke;have⟨i,hm,ei⟩:=aan.mp ke;have ei:(i:Int)=e.1:=ei;have⟨ds,hi,_,_⟩:=ir fr hh hm;have⟨j,gj,jl⟩:=(aW (i:=i) fr hh h).1 ds hi;have ge:=rh (gJ h) he;rw[<-ei,gj]at ge;have ge:=aao ge;exact⟨(),k,ds,by rw[<-ei,aaL];exact hi,(),()⟩
def Qin(γ:List Rw)(S:Sp)(p:Pl):Pl->Rat->Prop:=λa u=>∃tb,pW γ S (aE p a) tb/\u= -mP γ tb a
def pW.uniq(fr:FR ε γ)(dr:aL γ gs S)(hp:Ω (eZ γ "one") p)(ha:Ω (eZ γ "other") a)(pr:zE γ S p)(h:pW γ S (aE p a) tb)(h':pW γ S (aE p a) tb'):tb=tb':=(Pn fr (iL fr hp ha) dr (pr a ha)).uniq h.tab h'.tab
end
def LR(A:Addr):DF:=λas M q _=>∃(ε:Fr) (γ:List Rw) (kp:Nat) (p:Pl) (S:Sp) (gs:List Nat),as=[ah A ε γ,.loc kp,.lst (S.map eV)]/\M[kp]? =some (dP p)/\FR ε γ/\aL γ gs S/\Ω (eZ γ "one") p/\zE γ S p/\∀(a:Pl) (tb:List Fr) (E':Ms) (kt:Nat),pQ γ S p a tb->ω γ tb a=[]->M.length < kt->(M++[dP a]++E')[kt]? =some (.lst (tb.map aj))->q (.tup [.loc M.length,.loc kt]) (M++[dP a]++E')
def gU:Γ ["floor","plan","steps","answer","table","better"] ["floor","plan","steps"] (τ lS):=.of rfl
def v9(F:cQ K "kept_least" "kept_least" lS f fd)(E:Ev K mg Cm){Bp:Addr}{AN:FuncData}(jE:aC P w K mg base 3 "first_plan" ["floor","hand"] (CF Cm) Bp AN){Ae:Addr}{zS:FuncData}(jj:aC P w K mg base 7 "chances_by" ["floor","plan","answer","steps"] (LI Cm) Ae zS){kJ:Addr}{k6:FuncData}(dD:aC P w K mg base 3 "better_led" ["floor","plan","table"] (GZ Cm) kJ k6):av P w K mg base (ck P w) 8 f fd ["floor","plan","steps"] (cP K (LR Cm)):=by
 refine F.eB gU (λds M q x h=>?_) (λbw A outer s H E' hr=>⟨_,(ζ (Β 3 gU.nd (Φ jE hr ξ (Η (jv 0) (θ mH η aK))))
   (μ (jT (fY Km) (ζ (Β 4 gU.nd (Φ jj hr ξ (Η (jv 0) (Η (jv 1) (Η (jv 3) (Η (jv 2) η))))))
   (ζ (Β 5 gU.nd (Φ dD hr ξ (Η (jv 0) (Η (jv 3) (Η (jv 4) η)))))
   (ζ (aI (cU hr (HQ E.dz (Η (jv 5) η)) υ) (μ (Δ (bO (Η (jv 3) (Η (jv 4) η))))) Ξ)
   (μ (dX (Ad (jv 3) (jv 5)))))))))),λds M q x h=>?_⟩)
 ·have⟨ε,γ,kp,p,S,gs,rfl,_⟩:=h;rfl
 ·have⟨ε,γ,kp,p,S,gs,rfl,hp,fr,dr,fp,pr,h⟩:=h;have sJ:=fr.pl.len;have f0:=Av fr aA;walk_at "vc";refine⟨ε,γ,"other",rfl,sJ,?_⟩;generalize AO γ "other"=a0 at *
  refine⟨λm ρ' M'=>∃(a:Pl) (E1:Ms) (o:Option Rat) (o4 o5:Option Dt),Ω (eZ γ "other") a/\m=QV (Jo (eZ γ "other")) (Qin γ S p) o/\(∀t,o=some t->∀tb,pW γ S (aE p a) tb->t < -mP γ tb a)/\M'=M++[dP a]++E1/\ρ'=[some (ah Cm ε γ),some (.loc kp),some (.lst (S.map eV)),some (.loc M.length),o4,o5],⟨_,a0,[],none,none,none,f0,rfl,λ_ z=>(nomatch z),by rw[aaY],rfl⟩,λm ρ' M' hw=>?_⟩;have⟨a,E1,o,o4,o5,fa,rfl,ho,rfl,rfl⟩:=hw;have kpl:kp < M.length:=(aaf.mp hp).1;have Nu:(M++[dP a]++E1)[kp]? =some (dP p):=bK (bK hp);have SS:∀(a:Pl) (E:Ms),(M++[dP a]++E)[M.length]? =some (dP a):=λa E=>bK ao;have FW:=sC fp sJ;have RZ:=sC fa sJ;have dk:=iL fr fp fa;walk_at "vc";refine⟨λ_=>⟨_,λρ2 M2 hn=>hn,?_⟩,nofun⟩;refine⟨ε,γ,kp,M.length,.lst (S.map eV),S,gs,p,a,rfl,Nu,SS a E1,λ_=>rfl,(),dk,dr,fr,pr a fa,λtb cn=>?_⟩;have tok:=cn.tok fr dr fp fa pr;have e1:M++[dP a]++E1++[dP (aE p a),MO.lst (tb.map aj)]=M++[dP a]++(E1++[dP (aE p a),MO.lst (tb.map aj)]):=by simp
  obtain⟨E2,W0⟩:∃E2,E2=E1++[dP (aE p a),MO.lst (tb.map aj)]:=⟨_,rfl⟩;obtain⟨kt,zN⟩:∃kt,kt=(M++[dP a]++E1).length+1:=⟨_,rfl⟩;have QU:M.length < kt:=by rw[zN,aah,aah];show M.length < M.length+1+E1.length+1;omega
  have XD:(M++[dP a]++E2)[kt]? =some (.lst (tb.map aj)):=by rw[W0,<-e1,zN,aax (abr _ 1),abz];rfl
  rw[e1,<-W0,<-zN];refine⟨ε,γ,tb,M.length,kt,a,rfl,SS a E2,XD,tok,fr.Pu,gJ fa,RZ,Cr fr aA fa,?_⟩;have Wu:(ω γ tb a).length<=12:=aaA (qe a) RZ;have O5:(M++[dP a]++E2++[dP (ω γ tb a)])[(M++[dP a]++E2).length]? =some (dP (ω γ tb a)):=ao;have kl:(kP (ω γ tb a)).length=(ω γ tb a).length:=by unfold kP;rw[List.length_map]
  refine⟨_,_,_,rfl,O5,?_⟩;rw[kl];show(decide (((ω γ tb a).length:Int)=0)=true->_)/\(decide (((ω γ tb a).length:Int)=0)=false->_);refine⟨λz=>?_,λz=>?_⟩
  ·have e:ω γ tb a=[]:=List.length_eq_zero_iff.mp (by have:=aas z;omega);refine⟨gV,?_⟩;rw[aaH (M++[dP a]) E2];exact h a tb _ kt ⟨fa,cn,Hh fr fa cn.tab.red e⟩ e QU (by rw[<-aaH];exact bK XD)
  ·have ne:ω γ tb a≠[]:=λy=>by rw[y]at z;exact aaE z @_
   have⟨im,_⟩:=qR (tb:=tb) fr aA fa cn.tab.red;have ml:M.length < (M++[dP a]++E2).length:=by rw[aah,aah];show M.length < M.length+1+E2.length;omega
   dsimp only[ux,BF];walk_at "vc";refine⟨⟨M.length,_,_,rfl,bK (SS a E2)⟩,M.length,_,_,_,_,_,rfl,rfl,(),bK (SS a E2),O5,by rw[kl];unfold kP;rw[List.length_map];omega,?_⟩;rw[B7,Ci];have se:(M++[dP a]++E2++[dP (ω γ tb a)]).set M.length (dP (aE a (ω γ tb a)))=M++[dP (aE a (ω γ tb a))]++(E2++[dP (ω γ tb a)]):=by rw[aaH (M++[dP a]),aaH,aaH,List.set_append_right (h:=aai _),abH];rfl
   rw[se];refine⟨_,?_,aE a (ω γ tb a),_,some (-mP γ tb a),_,_,im.fit,rfl,λt et tb' Ut=>?_,rfl,rfl⟩
   ·exact EY (rF fa) ⟨tb,cn,rfl⟩ (λu' ⟨tb',Ut,e⟩=>by rw[e,Ut.uniq fr dr fp fa pr cn]) λt et=>ho t et tb cn
   ·cases et;have:=IG fr dr fp fa pr cn ne Ut;grind
def nG{E:Ms}{n:Nat}:∀(γ:List Rw) (j:Nat),(∀i m,(ky γ)[i]? =some m->E[j+i]? =some m)->fg n E (mz (n+j) γ) (γ.map aX)
 | [],_,_=>.nil
 | .fin p::r,j,h=>.cons (.old (wJ (.fin p))) (nG r j h)
 | .Α k ds::r,j,h=>.cons (.tup (.cons (.old trivial) (.cons (.vK (abr _ _) (by rw[abz];exact h 0 _ rfl) (fg.old (dQ ds))) .nil))) (nG r (j+1) λi m e=>by rw[show j+1+i=j+(i+1) by omega];exact h (i+1) m e)
def Hq(γ:List Rw)(M:Ms)(x:MO):fg M.length (ky γ++[x]) (mz M.length γ) (γ.map aX):=
 nG γ 0 λi m e=>by rw[acd,aap (aaf.mp e).1];exact e
def B9(M:Ms):∀rs:List Rw,Paired (iY M) (rs.map aX) rs
 | []=>.nil
 | r::rs=>.cons (vC _ r) (B9 M rs)
def iZ(p:Pl)(i:Nat)(r:Rw):Rw:=match Τ p i,r with
 | some j,.Α k ds=>.Α k [ds.getD j.toNat d0]
 | _,r=>r
def iX(p:Pl):Nat->List Rw->List Rw
 | _,[]=>[]
 | n,r::rs=>iZ p n r::iX p (n+1) rs
def j4(p:Pl):∀(rs:List Rw) (n:Nat),(iX p n rs).length=rs.length
 | [],_=>rfl
 | _::rs,n=>aaU Nat.succ (j4 p rs (n+1))
def qH(p:Pl):∀(rs:List Rw) (n i:Nat),(iX p n rs)[i]? =(rs[i]?).map (iZ p (n+i))
 | [],_,_=>rfl
 | r::rs,n,0=>rfl
 | r::rs,n,i+1=>by show(iX p (n+1) rs)[i]? =(rs[i]?).map (iZ p (n+(i+1)));rw[qH p rs (n+1) i,show n+1+i=n+(i+1) by omega]
def uM{te:DE}{ρ0:En}{ok:Ms->Prop}{M:Ms}{p:Pl}{k:List Dt->Ms->Prop}(ho:ok M):∀(rs:List Rw) (n:Nat) (acc:List Dt),(∀j r,rs[j]? =some r->∀q:DQ,q (aX (iZ p (n+j) r)) M->g2 0 1 (.tup [.int ((n+j:Nat):Int),aX r]) ρ0 λρ'=>te ρ' M q jh)->k (acc++(iX p n rs).map aX) M->uz (g2 0 1) te ρ0 ok (gG n (rs.map aX)) acc M k
 | [],n,acc,ht,h=>⟨ho,by simpa [iX] using h⟩
 | r::rs,n,acc,ht,h=>⟨ho,ht 0 r rfl _ (uM ho rs (n+1) _ (λj r' hj q hq=>by
   have:=ht (j+1) r' hj q (by rw[show n+(j+1)=n+1+j by omega];exact hq)
   rwa[show n+(j+1)=n+1+j by omega]at this) (by simpa [iX] using h))⟩
def JR(M:Ms)(g:Dt)(gs:List Nat):Prop:=g= .lst (gs.map cj)\/∃k,g= .loc k/\M[k]? =some (.lst (gs.map cj))
def JR.app{E:Ms}{g:Dt}(h:JR M g gs):JR (M++E) g gs:=by
 rcases h with h| ⟨k,e,h⟩
 ·exact .inl h
 ·exact .inr ⟨k,e,bK h⟩
def JR.it{g:Dt}(h:JR M g gs):∃ok,js M g=some (gs.map cj,ok)/\ok M/\gZ M g=some (gs.map cj):=by
 rcases h with rfl| ⟨k,rfl,h⟩
 ·exact⟨λ_=>True,rfl,trivial,rfl⟩
 ·have e:iC M (.loc k)=some (gs.map cj,λM':Ms=>M'[k]? =some (MO.lst (gs.map cj))):=by show(match M[k]? with| some (MO.lst xs)=>some (xs,λM':Ms=>M'[k]? =some (MO.lst xs))| _=>none)=_;rw[h]
  exact⟨_,mX e,h,lN h⟩
section
def Gp(fr:FR ε γ)(fp:Ω (eZ γ "one") p)(hi:γ[i]? =some (.Α "one" ds)):∃(j:Nat) (jl:j < ds.length),Τ p i=some (j:Int)/\iZ p i (.Α "one" ds)= .Α "one" [ds[j]]:=by have⟨j,gj,jl⟩:=(aW (i:=i) fr ai fp).1 ds hi;refine⟨j,jl,gj,?_⟩;unfold iZ;rw[gj];show Rw.Α "one" [ds.getD ((j:Int)).toNat d0]=_;rw[aaL,aab,aaa jl];rfl
def zo(fr:FR ε γ)(fp:Ω (eZ γ "one") p){r:Rw}(hi:γ[i]? =some r)(hk:kindOf r≠"one"):iZ p i r=r:=by unfold iZ;rw[(aW (i:=i) fr ai fp).2 r hi hk]
def E_(fr:FR ε γ)(fp:Ω (eZ γ "one") p):HN (iX p 0 γ):=by
 refine⟨by rw[j4];exact fr.pl.len,λr hr=>?_⟩;rw[j4];have⟨i,hi,rfl⟩:=abf hr;have e:=aaa hi;rw[qH]at e;have⟨r0,TX,er⟩:=abS.mp e;rw[acd]at er;rw[<-er];have rm:=aal TX;by_cases hk:kindOf r0="one"
 ·cases r0 with
  | fin q=>exact aaE hk (by show¬(Str.ofString "end"=Str.ofString "one");decide)
  | Α k ds=>
   have hk:k="one":=hk;subst hk;have⟨j,jl,_,eh⟩:=Gp fr fp TX;rw[eh];have dm:=aaq jl;have⟨ro,rf⟩:=fr.pl.row _ rm;have fd:=(oq fr.Pu rm).1;unfold Ν at fd;rw[aaC,aaC]at fd;refine⟨⟨@_,(by show 1<=12;decide),λz=>aaE z @_,λd hd=>by rw[aaG.mp hd];exact ro.2.2.2 _ dm⟩,?_⟩;show(if Χ (Str.ofString "one") then Ν [ds[j]] γ.length else if (Str.ofString "one")="chance" then Ν [ds[j]] γ.length&&aa ([ds[j]].map χ) else false)=true;rw[aaw ai];unfold Ν;rw[aaC,aaC];refine⟨⟨rfl,rfl⟩,?_⟩;rw[abG,List.all_nil,Bool.and_true];exact aa2.mp fd.2 _ dm
 ·rw[zo fr fp TX hk];exact fr.pl.row _ rm
def Ao(fr:FR ε γ)(fp:Ω (eZ γ "one") p)(go:gH γ gs):gH (iX p 0 γ) gs:=by refine⟨go.up,λg hg=>?_⟩;have⟨q,hq⟩:=go.fin g hg;refine⟨q,?_⟩;rw[qH,hq,acd];show some (iZ p g (.fin q))=_;rw[zo fr fp hq (by show¬(Str.ofString "end"=Str.ofString "one");decide)]
end
def LS:DF:=λas M q _=>∃(r:Rw) (i k:Nat) (p:Pl),as=[aX r,.int (i:Nat),.loc k]/\M[k]? =some (dP p)/\(∀v,Τ p i=some v->∃kd ds,r= .Α kd ds/\0<=v/\v < ds.length)/\q (aX (iZ p i r)) M
def D5:Γ ["row","place","plan"] ["row","place","plan"] (τ rq):=.of rfl
def zQ(F:cQ K "held_row" "held_row" rq f fd)(E:Ev K mg Cm):av P w K mg base (ck P w) 1 f fd ["row","place","plan"] (cP K LS):=by
 refine F.eB D5 (λds M q x h=>?_) (λbw A outer s H E' hr=>⟨_,(ζ (aI (M_ hr (jv 1) (jv 2)) (μ (Δ (bO (θ (Ρ (jv 0) υ) (θ (ng (θ (Ρ (Ρ (jv 0) υ) (GC hr (jv 2) (jv 1))) η aU)) η) aU)))) Ξ)
   (μ (Δ (jv 0)))),λds M q x h=>?_⟩)
 ·have⟨r,i,k,p,rfl,_⟩:=h;rfl
 ·have⟨r,i,k,p,rfl,hk,hv,h⟩:=h;refine⟨k,_,_,Sum.inl (i:Int),rfl,hk,rfl,?_⟩;rw[J9];cases hg:Τ p i with
  | none=>
   unfold iZ at h;rw[hg]at h;exact⟨nofun,λ_=>h⟩
  | some v=>
   have⟨kd,ds,rfl,v0,v1⟩:=hv v hg;have dg:eI (kP p) (vP p) (Sum.inl (i:Int))=some (.int v):=by rw[Co,hg];rfl
   obtain⟨j,rfl⟩:∃j:Nat,v=(j:Int):=⟨v.toNat,()⟩;have jl:j < ds.length:=()
   have gd:ds.getD j d0=ds[j]:=by rw[aab,aaa jl];rfl
   unfold iZ at h;rw[hg]at h;have h:q (aX (.Α kd [ds.getD ((j:Int)).toNat d0])) M:=h;rw[aaL,gd]at h;refine⟨λ_=>?_,nofun⟩;walk_at "vc";refine(Ε (d:=.tup [.str kd,.lst (ds.map dh)]) (xs:=[.str kd,.lst (ds.map dh)]) rfl cC ?_:e_ (.tup [.str kd,.lst (ds.map dh)]) (.int 0) M _);refine(Q5 ?_:e_ (.tup [.str kd,.lst (ds.map dh)]) (.int 1) M _);refine⟨k,_,_,Sum.inl (i:Int),_,rfl,hk,rfl,dg,?_⟩;refine(Ε (d:=.lst (ds.map dh)) (xs:=ds.map dh) rfl (az (j:=j) (by rw[aak,aaa jl];rfl)) ?_:e_ (.lst (ds.map dh)) (.int (j:Int)) M _);exact⟨by show 1<=sizeLine;decide,gV,h⟩
def Io(A:Addr):DF:=λas M q _=>∃(ε:Fr) (γ:List Rw) (kp:Nat) (p:Pl) (g:Dt) (gs:List Nat),as=[ah A ε γ,.loc kp,g]/\M[kp]? =some (dP p)/\Ω (eZ γ "one") p/\FR ε γ/\JR M g gs/\gH γ gs/\∀(S2:Sp) (m:MO),aL (iX p 0 γ) gs S2->q (.loc M.length) (M++[.lst (S2.map eV),m])
def oI:Γ ["floor","plan","goals","rows"] ["floor","plan","goals"] (τ qN):=.of rfl
def AK(F:cQ K "steps_by" "steps_by" qN f fd)(E:Ev K mg Cm){Bg:Addr}{zI:FuncData}(jk:e7 P w K mg base 2 Cm "rows" ["self"] (Lj Cm) Bg zI){Gs:Addr}{Hj:FuncData}(nv:aC P w K mg base 1 "held_row" ["row","place","plan"] LS Gs Hj){Gq:Addr}{Gh:FuncData}(nB:aC P w K mg base 5 "draw" ["floor","goals"] (GP Cm) Gq Gh){lO:Addr}{lW:FuncData}(dG:JG P w K mg base 5 "Floor" Cm ["self","share","rows"] (He Cm) lO lW){x5:Addr}{xE:FuncData}(iW:e7 P w K mg base 1 Cm "share" ["self"] (ID Cm) x5 xE):av P w K mg base (ck P w) 7 f fd ["floor","plan","goals"] (cP K (Io Cm)):=by
 refine F.eB oI (λds M q x h=>?_) (λbw A outer s H E' hr=>⟨_,(ζ (xI (i:=3) oI.nd rfl (Or.inl rfl) (ys:=["plan"]) (Μ:=[1]) (.of oI rfl rfl rfl) (mw E.bW (θ (cX (gI jk hr ξ (jv 0))) η cf)) (λC s H fp=>(Φ nv hr (cJ (P:=P) (w:=w)) (Η (jv 1) (Η (jv 0) (Η (jv 2) η))))))
   (μ (Δ (Ρ (Φ nB hr ξ (θ (cX (GU dG hr ξ (θ (gI iW hr ξ (jv 0)) (Η (jv 3) η) cf))) (Η (jv 2) η) cf)) υ)))),λds M q x h=>?_⟩)
 ·have⟨ε,γ,kp,p,g,gs,rfl,_⟩:=h;rfl
 ·have⟨ε,γ,kp,p,g,gs,rfl,hp,fp,fr,ga,go,h⟩:=h;have⟨ok,g1,Rj,g3⟩:=ga.it;have fl:=E_ fr fp;have hg:=Ao fr fp go;have sl:∀{z:Nat},z<=1000->z<=sizeLine:=λh=>aaA h @_;have sJ:=fr.pl.len;refine⟨⟨_,_,.inl rfl,rfl⟩,ε,γ,rfl,sJ,λr hr=>(fr.pl.row r hr).1,?_⟩;rw[aaH];refine gX (d':=.lst (γ.map aX)) (.vK (Nat.le_add_right _ _) (by simp) (Hq γ M _)) ?_;walk_at "vc";refine⟨.lst (γ.map aX),γ.map aX,λ_=>True,rfl,rfl,?_⟩;refine⟨by rw[fo,aag];exact sl (),?_⟩;refine uM (p:=p) trivial γ 0 [] (λj r hj qq hq=>?_) ?_
  ·rw[acd]at hq⊢;dsimp only[g2];walk_at "vc";refine⟨r,j,kp,p,rfl,hp,λv hv=>?_,hq⟩;cases r with
   | fin e=>rw[(aW (i:=j) fr ai fp).2 _ hj (by show¬(Str.ofString "end"=Str.ofString "one");decide)]at hv;cases hv
   | Α kd ds=>
    by_cases hk:kd="one"
    ·subst hk;have⟨x,gx,xl⟩:=(aW (i:=j) fr ai fp).1 ds hj;rw[gx]at hv;cases hv;exact⟨_,ds,rfl,(),()⟩
    ·rw[(aW (i:=j) fr ai fp).2 _ hj hk]at hv;cases hv
  rw[aaS];generalize hh:iX p 0 γ=mU at *
  have hl:mU.length=γ.length:=by rw[<-hh,j4]
  refine⟨⟨_,_,.inl rfl,rfl⟩,ε,γ,rfl,?_⟩;refine⟨M.length,.lst (mU.map aX),ε,mU.map aX,mU,λ_=>True,rfl,by simp,rfl,B9 _ _,fr.pl.sh,by rw[hl];exact fr.n1,fl.len,fl.row,rfl,?_⟩;rw[show(M++[MO.ins Cm [] []]).set M.length (.ins Cm ["kept_share","kept_rows"] [aj ε,.lst (mU.map aX)])=M++[.ins Cm ["kept_share","kept_rows"] [aj ε,.lst (mU.map aX)]] by simp[List.set_append]];refine gX (d':=ah Cm ε mU) (.Qa (Nat.le_refl _) (by simp) (.cons (.old (jJ ε)) (.cons (.old (qk mU)) .nil))) ?_;refine⟨ε,mU,g,gs,ok,rfl,g1,Rj,g3,hg,fl,λS2 d2=>?_⟩;exact Ε (xs:=[.loc (M.length+1),.loc M.length]) rfl (az (j:=1) rfl) (h S2 _ d2)
section
def AQ(o:Option Nat):∀(ds:List aS) (n:Nat),(sI S o ds n=0/\∀d∈ds,gS S o d=false)\/∃(j:Nat) (jl:j < ds.length),sI S o ds n=n+j/\gS S o ds[j]=true
 | [],_=>.inl ⟨rfl,λ_ h=>nomatch h⟩
 | d::ds,n=>by
  by_cases c:gS S o d=true
  ·refine .inr ⟨0,by simp,?_,c⟩;show(if gS S o d=true then n else sI S o ds (n+1))=_;rw[aaw c];rfl
  ·have e:sI S o (d::ds) n=sI S o ds (n+1):=aay c;rw[e];rcases AQ o ds (n+1) with ⟨a,b⟩| ⟨j,jl,a,b⟩
   ·refine .inl ⟨a,λx hx=>?_⟩;rcases aav.mp hx with y| y
    ·rw[y];simpa using c
    ·exact b x y
   ·exact .inr ⟨j+1,by simpa using jl,by rw[a];omega,b⟩
def Ew{l:List Nat}{f:Nat->Int}(h:i∈l):Τ (l.map λi:Nat=>((i:Int),f i)) (i:Int)=some (f i):=by
 induction l with
 | nil=>cases h
 | cons a l ih=>
  rw[aaW];unfold Τ;by_cases e:a=i
  ·rw[aaw (by show(a:Int)=i;omega)];show some (f a)=_;rw[e]
  ·rw[aay (by show¬(a:Int)=i;omega)];exact ih ((aav.mp h).resolve_left λz=>e z.symm)
def qp(fr:FR ε γ):Ω (eZ γ "one") (lA γ S):=by
 have key:∀{l:List Nat},(∀i∈l,sI S (at_ S i) (au (e9 γ i)) 0 < (au (e9 γ i)).length)->Ω (l.map λi:Nat=>((i:Int),(au (e9 γ i)).length)) (l.map λi:Nat=>((i:Int),((sI S (at_ S i) (au (e9 γ i)) 0:Nat):Int))):=λ{l}=>by
  induction l with
  | nil=>exactλ_=>trivial
  | cons a l ih=>exactλh=>⟨rfl,(),by have:=h a aae;omega,ih λi hi=>h i (aad _ hi)⟩
 refine key λi hi=>?_;have⟨ds,_,e,l⟩:=ir fr ai hi;rw[e];rcases AQ (S:=S) (at_ S i) ds 0 with ⟨a,_⟩| ⟨j,jl,a,_⟩
 ·rw[a];exact l
 ·rw[a];omega
def tY(dr:aL γ gs S){k:Str}(hi:γ[i]? =some (.Α k ds)){s:Nat}(e:at_ S i=some (s+1)):(k="other"->∀d∈ds,∃t,at_ S d.1.toNat=some t/\t<=s)/\∃d∈ds,at_ S d.1.toNat=some s:=by
 have:=dr.2 i _ hi;have this:iG k (aN S ds) (at_ S i):=this;unfold iG at this;rw[e]at this;by_cases hk:k="other"
 ·rw[aaw hk]at this;rcases this with ⟨z,_⟩| ⟨v,ev,h1,h2⟩
  ·cases z
  ·cases ev;have⟨d,hd,ed⟩:=af.mp h1;exact⟨λ_ d hd=>h2 _ (af.mpr ⟨d,hd,rfl⟩),d,hd,ed⟩
 ·rw[aay hk]at this;rcases this with ⟨z,_⟩| ⟨v,ev,h1,h2⟩
  ·cases z
  ·cases ev;have⟨d,hd,ed⟩:=af.mp h1;exact⟨λz=>aaE z hk,d,hd,ed⟩
def Fp(fr:FR ε γ)(dr:aL γ gs S)(fp:Ω (eZ γ "one") p)(hd:∀(i:Nat) (ds:List aS) (s:Nat),γ[i]? =some (.Α "one" ds)->at_ S i=some (s+1)->∃(j:Nat) (jl:j < ds.length) (t:Nat),Τ p i=some (j:Int)/\at_ S ds[j].1.toNat=some t/\t<=s):zE γ S p:=λa fa C hC i il Sf=>by
 have main:∀(s i:Nat),i < γ.length->C i->at_ S i=some s->False:=λs=>by
  induction s using Nat.strongRecOn with
  | _ s ih=>
   intro i il ci e;have⟨st,cl⟩:=hC i il ci;have⟨s',e'⟩:=id st;rw[e]at e';have es:s=s'+1:=aao e';subst es;have⟨k,ds,hi⟩:=n8 dr il st;have NF:=cY fr.pl (aal hi);have go:∀d∈fP γ S (aE p a) i,∀t,at_ S d.1.toNat=some t->t<=s'->False:=λd hd t et lt=>by have:=(nU (acc:=aE p a) fr (iL fr fp fa) dr il st).2.2;have⟨B,_,_,hw⟩:=this;have:=(hw d hd).to;exact ih t () d.1.toNat () (cl d hd) et
   have⟨n1,d1,V6,U9⟩:=tY dr hi e;rcases qQ fr hi with rfl| rfl| rfl
   ·have⟨j,jl,t,gj,et,lt⟩:=hd i ds s' hi e;refine go (ds[j].1,ds[j].2.1,[(1,1)]) ?_ t et lt;rw[iU st,bY hi,iu fr hi ai (by rw[dR fr fa hi];exact gj) jl];exact aaG.mpr rfl
   ·have⟨j,gj,jl⟩:=(aW (i:=i) fr aA fa).1 ds hi;have⟨t,et,lt⟩:=n1 rfl _ (aaq jl);refine go (ds[j].1,ds[j].2.1,[(1,1)]) ?_ t et lt;rw[iU st,bY hi,iu fr hi aA (by rw[gF fr fa hi];exact gj) jl];exact aaG.mpr rfl
   ·refine go d1 ?_ s' U9 (aai _);rw[iU st,bY hi];unfold ef;rw[gy fr fp fa hi];exact V6
 have⟨⟨s,e⟩,_⟩:=hC i il Sf;exact main _ i il Sf e
def Im(fr:FR ε γ)(dr:aL γ gs S):zE γ S (lA γ S):=by
 refine Fp fr dr (qp fr) λi ds s hi e=>?_;have il:=(aaf.mp hi).1;have hm:i∈fe γ "one":=nq.mpr ⟨il,mD hi⟩;have g:Τ (lA γ S) (i:Int)=some ((sI S (at_ S i) (au (e9 γ i)) 0:Nat):Int):=Ew (f:=λi=>((sI S (at_ S i) (au (e9 γ i)) 0:Nat):Int)) hm;rw[bY hi]at g;have g:Τ (lA γ S) (i:Int)=some ((sI S (at_ S i) ds 0:Nat):Int):=g;have⟨_,d1,V6,U9⟩:=tY dr hi e;rcases AQ (S:=S) (at_ S i) ds 0 with ⟨_,b⟩| ⟨j,jl,ej,b⟩
 ·have:=b d1 V6;unfold gS at this;rw[U9,e]at this;exact aaE (aaK this) ()
 ·rw[ej,acd]at g;unfold gS at b;rw[e]at b;cases et:at_ S ds[j].1.toNat with
  | none=>rw[et]at b;cases b
  | some t=>
   rw[et]at b;have:=aas b;exact⟨j,jl,t,g,et,()⟩
def Uw(γ:List Rw)(S:Sp):Pl->Rat->Prop:=λp u=>∃a tb,zE γ S p/\pQ γ S p a tb/\u=mP γ tb p
structure gq(γ:List Rw)(gs:List Nat)(S S2:Sp)(p a:Pl)(tb:List Fr):Prop where
 dr:aL γ gs S
 fp:Ω (eZ γ "one") p
 pr:zE γ S p
 kp:pQ γ S p a tb
 np:ω γ tb p=[]
 na:ω γ tb a=[]
 d2:aL (iX p 0 γ) gs S2
end
def Kt{q:DQ}{xs:List Nat}(h:q (.tup [.lst (xs.map cj),.lst (S.map eV)]) M):u9 M q (.tup [.loc (M.length+1),.loc M.length]) (M++[.lst (S.map eV),.lst (xs.map cj)]):=by
 have u1:∀(S:Sp),Dt.bo M.length (S.map eV):=λS=>by
  induction S with
  | nil=>trivial
  | cons o S ih=>cases o with| none=>exact⟨trivial,ih⟩| some v=>exact⟨trivial,ih⟩
 have u2:∀(xs:List Nat),Dt.bo M.length (xs.map cj):=λxs=>by
  induction xs with
  | nil=>trivial
  | cons o S ih=>exact⟨trivial,ih⟩
 exact gX (d':=.tup [.lst (xs.map cj),.lst (S.map eV)]) (.tup (.cons (.vK (Nat.le_succ _) (by rw[abz];rfl) (fg.old (u2 xs))) (.cons (.vK (aai _) (by rw[abH];rfl) (fg.old (u1 S))) .nil))) h
def rA(A:Addr):DF:=λas M q _=>∃(ε:Fr) (γ:List Rw) (g:Dt) (gs:List Nat),as=[ah A ε γ,g]/\FR ε γ/\JR M g gs/\gH γ gs/\∀(S S2:Sp) (p a:Pl) (tb:List Fr) (E':Ms) (kt ka ks:Nat),gq γ gs S S2 p a tb->M.length < ka->ka < kt->kt < ks->(M++[dP p]++E')[ka]? =some (dP a)->(M++[dP p]++E')[kt]? =some (.lst (tb.map aj))->(M++[dP p]++E')[ks]? =some (.lst (S2.map eV))->q (.tup [.loc kt,.loc M.length,.loc ka,.loc ks]) (M++[dP p]++E')
def ic:Γ ["floor","goals","steps","plan","found","better"] ["floor","goals"] (τ rQ):=.of rfl
def AX(F:cQ K "chances" "chances" rQ f fd)(E:Ev K mg Cm){Gq:Addr}{Gh:FuncData}(nB:aC P w K mg base 5 "draw" ["floor","goals"] (GP Cm) Gq Gh){Ak:Addr}{Bw:FuncData}(jm:aC P w K mg base 4 "drawn_plan" ["floor","steps"] (r9 Cm) Ak Bw){BE:Addr}{A9:FuncData}(jn:aC P w K mg base 8 "kept_least" ["floor","plan","steps"] (LR Cm) BE A9){kJ:Addr}{k6:FuncData}(dD:aC P w K mg base 3 "better_led" ["floor","plan","table"] (GZ Cm) kJ k6){FN:Addr}{Iw:FuncData}(nP:aC P w K mg base 7 "steps_by" ["floor","plan","goals"] (Io Cm) FN Iw):av P w K mg base (ck P w) 9 f fd ["floor","goals"] (cP K (rA Cm)):=by
 refine F.eB ic (λds M q x h=>?_) (λbw A outer s H E' hr=>⟨_,(ζ (Β 2 ic.nd (Ρ (cX (Φ nB hr ξ (Η (jv 0) (Η (jv 1) η)))) υ))
   (ζ (Β 3 ic.nd (Φ jm hr ξ (Η (jv 0) (Η (jv 2) η))))
   (μ (jT (fY Km) (ζ (Β 4 ic.nd (Φ jn hr ξ (Η (jv 0) (Η (jv 3) (Η (jv 2) η)))))
   (ζ (Β 5 ic.nd (Φ dD hr ξ (Η (jv 0) (Η (jv 3) (θ (Ρ (jv 4) υ) η aU)))))
   (ζ (aI (cU hr (HQ E.dz (Η (jv 5) η)) υ) (μ (Δ (bO (θ (Ρ (jv 4) υ) (Η (jv 3) (θ (Ρ (jv 4) υ) (θ (Φ nP hr ξ (Η (jv 0) (Η (jv 3) (Η (jv 1) η)))) η cf) aU)) aU)))) Ξ)
   (μ (dX (Ad (jv 3) (jv 5))))))))))),λds M q x h=>?_⟩)
 ·have⟨ε,γ,g,gs,rfl,_⟩:=h;rfl
 ·have⟨ε,γ,g,gs,rfl,fr,ga,go,h⟩:=h;have sJ:=fr.pl.len;have⟨ok,g1,Rj,g3⟩:=ga.it;refine⟨ε,γ,g,gs,ok,rfl,g1,Rj,g3,go,fr.Pu,λS dr=>Kt ?_⟩;walk_at "vc";refine(Ε (d:=.tup [.lst ((i5 S).map cj),.lst (S.map eV)]) (xs:=[.lst ((i5 S).map cj),.lst (S.map eV)]) rfl (az (j:=1) rfl) ?_:e_ (.tup [.lst ((i5 S).map cj),.lst (S.map eV)]) (.int 1) _ _);refine⟨ε,γ,.lst (S.map eV),S,gs,rfl,λ_=>rfl,dr,fr,?_⟩;have f0:=qp (S:=S) fr;have pr0:=Im fr dr;generalize lA γ S=p0 at *
  refine⟨λm ρ' M'=>∃(p:Pl) (E1:Ms) (o:Option Rat) (o4 o5:Option Dt),Ω (eZ γ "one") p/\zE γ S p/\m=QV (Jo (eZ γ "one")) (Uw γ S) o/\(∀t,o=some t->∀a tb,pQ γ S p a tb->t < mP γ tb p)/\M'=M++[dP p]++E1/\ρ'=[some (ah Cm ε γ),some g,some (.lst (S.map eV)),some (.loc M.length),o4,o5],⟨_,p0,[],none,none,none,f0,pr0,rfl,λ_ z=>(nomatch z),by rw[aaY],rfl⟩,λm ρ' M' hw=>?_⟩;have⟨p,E1,o,o4,o5,fp,pr,rfl,ho,rfl,rfl⟩:=hw;have Nu:∀(p:Pl) (E:Ms),(M++[dP p]++E)[M.length]? =some (dP p):=λa E=>bK ao;have FW:=sC fp sJ;walk_at "vc";refine⟨λ_=>⟨_,λρ2 M2 hn=>hn,?_⟩,nofun⟩;refine⟨ε,γ,M.length,p,S,gs,rfl,Nu p E1,fr,dr,fp,pr,λa tb E2 kt kp na QU zN=>?_⟩;have tok:=kp.ch.tok fr dr fp kp.fa pr;obtain⟨ka,Gb⟩:∃ka,ka=(M++[dP p]++E1).length:=⟨_,rfl⟩;have Xs:M.length < ka:=by rw[Gb,aah,aah];show M.length < M.length+1+E1.length;omega
  have Pa:(M++[dP p]++E1++[dP a]++E2)[ka]? =some (dP a):=by rw[Gb];exact bK ao
  rw[<-Gb]at QU⊢;have e1:M++[dP p]++E1++[dP a]++E2=M++[dP p]++(E1++[dP a]++E2):=by simp
  rw[e1]at zN Pa⊢;generalize E1++[dP a]++E2=E3 at *
  refine(Ε (d:=.tup [.loc ka,.loc kt]) (xs:=[.loc ka,.loc kt]) rfl (az (j:=1) rfl) ?_:e_ (.tup [.loc ka,.loc kt]) (.int 1) _ _);refine⟨ε,γ,tb,M.length,kt,p,rfl,Nu p E3,zN,tok,fr.Pu,gJ fp,FW,Cr fr ai fp,?_⟩;have Wu:(ω γ tb p).length<=12:=aaA (qe p) FW;have O5:(M++[dP p]++E3++[dP (ω γ tb p)])[(M++[dP p]++E3).length]? =some (dP (ω γ tb p)):=ao;have kl:(kP (ω γ tb p)).length=(ω γ tb p).length:=by unfold kP;rw[List.length_map]
  refine⟨_,_,_,rfl,O5,?_⟩;rw[kl];show(decide (((ω γ tb p).length:Int)=0)=true->_)/\(decide (((ω γ tb p).length:Int)=0)=false->_);refine⟨λz=>?_,λz=>?_⟩
  ·have e:ω γ tb p=[]:=List.length_eq_zero_iff.mp (by have:=aas z;omega);rw[aaH (M++[dP p]) E3];generalize Xu:E3++[dP (ω γ tb p)]=E4;have Qf:(M++[dP p]++E4)[kt]? =some (.lst (tb.map aj)):=by rw[<-Xu,<-aaH];exact bK zN
   have UE:(M++[dP p]++E4)[ka]? =some (dP a):=by rw[<-Xu,<-aaH];exact bK Pa
   refine(Ε (d:=.tup [.loc ka,.loc kt]) (xs:=[.loc ka,.loc kt]) rfl (az (j:=1) rfl) ?_:e_ (.tup [.loc ka,.loc kt]) (.int 1) _ _);refine(Ε (d:=.tup [.loc ka,.loc kt]) (xs:=[.loc ka,.loc kt]) rfl cC ?_:e_ (.tup [.loc ka,.loc kt]) (.int 0) _ _);refine⟨ε,γ,M.length,p,g,gs,rfl,Nu p E4,fp,fr,JR.app (JR.app ga),go,λS2 m2 d2=>?_⟩;refine⟨by show 4<=sizeLine;decide,?_⟩;have Sq:=(aaf.mp Qf).1;have es:(M++[dP p]++E4++[MO.lst (S2.map eV),m2])[(M++[dP p]++E4).length]? =some (.lst (S2.map eV)):=by rw[aax (aai _),abH];rfl
   rw[aaH (M++[dP p]) E4]at es⊢;exact h S S2 p a tb _ kt ka _ ⟨dr,fp,pr,kp,e,na,d2⟩ Xs QU Sq (by rw[<-aaH];exact bK UE) (by rw[<-aaH];exact bK Qf) es
  ·have ne:ω γ tb p≠[]:=λy=>by rw[y]at z;exact aaE z @_
   have⟨im,_⟩:=qR (tb:=tb) fr ai fp kp.ch.tab.red;have CV:=zE.better fr dr fp kp.fa pr kp.ch kp.le im;have ml:M.length < (M++[dP p]++E3).length:=by rw[aah,aah];show M.length < M.length+1+E3.length;omega
   dsimp only[ux,BF];walk_at "vc";refine⟨⟨M.length,_,_,rfl,bK (Nu p E3)⟩,M.length,_,_,_,_,_,rfl,rfl,(),bK (Nu p E3),O5,by rw[kl];unfold kP;rw[List.length_map];omega,?_⟩;rw[B7,Ci];have se:(M++[dP p]++E3++[dP (ω γ tb p)]).set M.length (dP (aE p (ω γ tb p)))=M++[dP (aE p (ω γ tb p))]++(E3++[dP (ω γ tb p)]):=by rw[aaH (M++[dP p]),aaH,aaH,List.set_append_right (h:=aai _),abH];rfl
   rw[se];refine⟨_,?_,aE p (ω γ tb p),_,some (mP γ tb p),_,_,im.fit,CV,rfl,λt et a' tb' UH=>?_,rfl,rfl⟩
   ·exact EY (rF fp) ⟨a,tb,pr,kp,rfl⟩ (λu' ⟨a',tb',_,UH,e⟩=>by rw[e,UH.uniq fr dr fp pr kp]) λt et=>ho t et a tb kp
   ·cases et;exact HA fr dr fp kp ne CV UH
def EM(ns:List Int)(k:Int):Int:=ns.getD k.toNat 0
def MW{k:Int}(h0:0<=k)(h2:k < ns.length):jf (ns.map Dt.int) k=some (.int (EM ns k)):=by
 have e:(ns.map Dt.int)[k.toNat]? =some (.int (EM ns k)):=by rw[aak,aaa (show k.toNat < ns.length by omega)];unfold EM;rw[aab,aaa (show k.toNat < ns.length by omega)];rfl
 have:=az e;rwa[show((k.toNat:Nat):Int)=k by omega]at this
def Jg{k:Int}(h:¬k < ns.length):EM ns k=0:=by unfold EM;rw[aab,List.getElem?_eq_none ()];rfl
def ZQ:G6 10 18:=⟨@_,@_,@_⟩
def Xl:G6 10 64:=⟨@_,@_,@_⟩
def Nm(n:Int):Prop:=0<=n/\n < 10 ^ 128
def IK{a m:Int}(h0:0 < m)(h1:m<=10 ^ 128):Nm (a % m):=⟨abC _ (),Int.lt_of_lt_of_le (abI _ h0) h1⟩
def NI(x:Int)(h0:0<=x)(h1:x < 2147483647):i4 x/\i4 (x % 65521+30011):=⟨bg (k:=40) (),bg (k:=40) ()⟩
def Me{k:Int}(h0:0<=k)(h1:k<=200):i4 ((k+1) * (k+1)):=by have a:=Int.mul_le_mul (show k+1<=201 by omega) (show k+1<=201 by omega) (show 0<=k+1 by omega) (show(0:Int)<=201 by decide);have b:0<=(k+1) * (k+1):=abA () ();exact bg (k:=40) ()
def Iv{a b:Int}(h1: -(10 ^ 30)<=a)(h2:a<=10 ^ 30)(h3:b<=1000000):aD (a,b)=true:=by
 unfold aD;have:(if a < 0 then -a else a)<=10 ^ 30:=by split <;> omega
 show(decide ((if a < 0 then -a else a)<=10 ^ 30)&&decide (b<=1000000))=true;rw[aaB this,aaB h3];rfl
def M6:DF:=λas M q _=>∃t b:Int,as=[.int t,.int b]/\0 < b/\i4 b/\q (aj (ak t b)) M
def gD:Γ ["_law_top","_law_bottom","_law_one","_law_other"] ["_law_top","_law_bottom"] (τ k8):=.of rfl
def ve(F:cQ K "_law_lowest" "_law_lowest" k8 f fd)(E:Ev K mg Cm):av P w K mg base (ck P w) 1 f fd ["_law_top","_law_bottom"] (cP K M6):=by
 refine F.eB gD (λds M q x h=>?_) (λbw A outer s H E' hr=>⟨_,(ζ (Β 2 gD.nd (BX E.qr (Η (jv 0) η)))
   (ζ (Β 3 gD.nd (jv 1))
   (ζ (jT (pj hr (jv 3) υ) (μ (Mm (i:=2) (j:=3) gD.nd rfl rfl (Η (jv 3) (θ (cT (jv 2) (jv 3)) η bM)))))
   (μ (Δ (bO (θ (o9 (jv 0) (jv 2)) (θ (o9 (jv 1) (jv 2)) η bM) bM))))))),λds M q x h=>?_⟩)
 ·have⟨t,b,rfl,_⟩:=h;rfl
 ·have⟨t,b,rfl,h0,h1,h⟩:=h;have ga:g (if t < 0 then -t else t) b=g t b:=by have:=LM t b;rwa[aay (show¬b < 0 by omega)]at this
  refine⟨λm ρ M'=>M'=M/\∃(x y:Int),ρ=[some (.int t),some (.int b),some (.int x),some (.int y)]/\0<=x/\0<=y/\g x y=g t b/\m=y.toNat,⟨_,rfl,_,_,rfl,by split <;> omega,(),ga,rfl⟩,?_⟩;rintro m ρ M' ⟨rfl,x,y,rfl,hx,hy,e,rfl⟩;refine⟨λhb=>?_,λhb=>?_⟩
  ·have Jc:y≠0:=by simpa using hb
   refine⟨_,λρ' M2 h2=>h2,?_⟩;refine⟨(),(x % y).toNat,?_,rfl,y,x % y,rfl,hy,abC _ Jc,?_,rfl⟩
   ·have:=abI x (show 0 < y by omega);have:=abC x Jc;omega
   ·rw[<-abD x hy,II ()];exact e
  ·have Jc:y=0:=by simpa using hb
   subst Jc;rw[GB hx]at e;subst e;have hg:0 < g t b:=zk ();have hle:g t b<=b:=ab1 h0 (Int.gcd_dvd_right ..);have hb:i4 (g t b):=aa7 (show(g t b).natAbs<=b.natAbs by omega) h1;have e:ak t b=(t / g t b,b / g t b):=by rw[Jy h0,ab3 _ (aau hg),ab3 _ (aau hg)]
   rw[e]at h;exact⟨⟨hg,hb⟩,⟨hg,hb⟩,gV,h⟩
def Nn(c k:Int):Int:=(c * 48271+(k+1) * (k+1) * 69621) % 2147483647
def cb(ns:List Int)(k:Int):Int:=if EM ns k < 0\/EM ns k ≥ 10 ^ 18 then EM ns k % 10 ^ 64 else (Nn (EM ns k) k * (Nn (EM ns k) k % 65521+30011)+(k+3) * 104729) % 2147483647
def Mz(ns:List Int)(k:Int):Nm (cb ns k):=by
 unfold cb;split
 ·exact IK @_ @_
 ·exact IK @_ @_
def rL:DF:=λas M q _=>∃(ns:List Int) (k:Int),as=[.hW ns,.int k]/\0<=k/\k<=200/\q (.int (cb ns k)) M
def jF:Γ ["_law_script","_law_k","_law_cell","_law_number_here"] ["_law_script","_law_k"] (τ k4):=.of rfl
def xA(F:cQ K "_law_number" "_law_number" k4 f fd)(E:Ev K mg Cm):av P w K mg base (ck P w) 1 f fd ["_law_script","_law_k"] (cP K rL):=by
 refine F.eB jF (λds M q x h=>?_) (λbw A outer s H E' hr=>⟨_,(ζ (jK (Β 2 jF.nd (Cu (mK (jv 1) (fJ E.dz (Η (jv 0) η))) (Ρ (jv 0) (jv 1)) υ)))
   (ζ (aI (JW.jt (jC (mK (jv 2) υ) (iF (Li (jv 2) (Gu υ υ))))) (μ (Δ (cT (jv 2) (Gu υ υ)))) Ξ)
   (ζ (Β 3 jF.nd (cT (bx (cW (jv 2) υ) (cW (cW (bx (jv 1) υ) (bx (jv 1) υ)) υ)) υ))
   (μ (Δ (cT (bx (cW (jv 3) (bx (cT (jv 3) υ) υ)) (cW (bx (jv 1) υ) υ)) υ)))))),λds M q x h=>?_⟩)
 ·have⟨ns,k,rfl,_⟩:=h;rfl
 ·have⟨ns,k,rfl,hk,k2,h⟩:=h;have bk:=Me hk k2;have b1:i4 (k+1):=bg (k:=40) ();have b3:i4 (k+3):=bg (k:=40) ();have cc:∀n:Int,n.natAbs < 2 ^ 20->i4 n:=λn hn=>bg hn;refine⟨λρ M'=>M'=M/\ρ=[some (.hW ns),some (.int k),some (.int (EM ns k)),none],?_,?_⟩
  ·walk_at "vc";refine(bf (d:=.hW ns) (xs:=ns.map .int) rfl ?_:lI [.hW ns] M _);rw[aag];refine⟨λh1=>?_,λh1=>?_⟩
   ·have n6:k < ns.length:=aas h1;refine(Ε (d:=.hW ns) rfl (MW hk n6) ?_:e_ (.hW ns) (.int k) M _);exact⟨rfl,rfl⟩
   ·have n6:¬k < ns.length:=aaK h1;exact⟨rfl,by rw[Jg n6];rfl⟩
  rintro ρ M' ⟨rfl,rfl⟩;unfold cb Nn at h;generalize EM ns k=c at *
  walk_at "vc";have ν:(c < 0\/c ≥ 10 ^ 18)->q (.int (c % 10 ^ 64)) M':=λz=>by rw[aaw z]at h;exact h
  refine⟨λz=>?_,λz=>?_⟩
  ·have z:c < 0:=aas z;exact⟨λ_=>⟨Xl,@_,ν (.inl z)⟩,nofun⟩
  ·have z:¬c < 0:=aaK z;refine⟨ZQ,λy=>?_,λy=>?_⟩
   ·have y:c ≥ 10 ^ 18:=aas y;exact⟨Xl,@_,ν (.inr y)⟩
   ·have y:¬c ≥ 10 ^ 18:=aaK y;rw[aay ()]at h;refine⟨⟨bg (k:=64) (),cc _ @_⟩,⟨b1,b1⟩,⟨bk,cc _ @_⟩,@_,?_⟩;exact⟨@_,NI _ (abC _ @_) (abI _ @_),⟨b3,cc _ @_⟩,@_,h⟩
def gK(u d:Int)(ν:Nat):Nat->Int
 | 0=>0
 | n+1=>gK u d ν n+u ^ (ν - 1 - n) * d ^ n
def vw{u d:Int}{ν:Nat}:∀{n:Nat},n<=ν->gK u d ν n * (u - d)=u ^ ν - u ^ (ν - n) * d ^ n
 | 0,_=>by show 0 * (u - d)=u ^ ν - u ^ (ν - 0) * d ^ 0;rw[Nat.sub_zero,Int.pow_zero];grind
 | n+1,h=>by
  have ih:=vw (u:=u) (d:=d) (ν:=ν) (n:=n) ();have e:ν - n=(ν - 1 - n)+1:=()
  have e2:ν - (n+1)=ν - 1 - n:=()
  show(gK u d ν n+u ^ (ν - 1 - n) * d ^ n) * (u - d)=_;rw[e2,abl d n];rw[e,abl u]at ih;generalize u ^ (ν - 1 - n)=x at *
  generalize d ^ n=y at *
  grind
def wU{u:Int}{ν:Nat}(h1:1<=ν):∀{n:Nat},n<=ν->gK u u ν n=n * u ^ (ν - 1)
 | 0,_=>by show(0:Int)=0 * _;grind
 | n+1,h=>by
  have ih:=wU (u:=u) h1 (n:=n) ();show gK u u ν n+u ^ (ν - 1 - n) * u ^ n=_;rw[ih,<-Int.pow_add,show ν - 1 - n+n=ν - 1 by omega]
  push_cast
  grind
def qO(h:0 < u)(n:Nat):0 < u ^ n:=by
 induction n with
 | zero=>rw[abV];decide
 | succ n ih=>rw[abl];exact abo ih h
def K'{d:Int}(hu:0 < u)(hd:0 < d)(n:Nat):gK u d ν n < gK u d ν (n+1):=by show gK u d ν n < gK u d ν n+u ^ (ν - 1 - n) * d ^ n;have:=abo (qO hu (ν - 1 - n)) (qO hd n);omega
def BR{d:Int}(hu:0 < u)(hd:0 < d){a b:Nat}(h:a<=b):gK u d ν a<=gK u d ν b:=by
 induction b with
 | zero=>rw[show a=0 by omega];exact Int.le_refl _
 | succ b ih=>
  by_cases c:a=b+1
  ·rw[c];exact Int.le_refl _
  ·have:=ih ();have:=K' hu hd (ν:=ν) b;omega
def Ap{d:Int}(hu:0 < u)(hd:0 < d){n:Nat}(h:0 < n):0 < gK u d ν n:=by have a:=K' hu hd (ν:=ν) 0;have b:=BR hu hd (ν:=ν) (show 1<=n by omega);have a:0 < gK u d ν 1:=a;omega
noncomputable def kV(u d:Int)(ν n:Nat):Rat:=(gK u d ν n:Rat) / (gK u d ν ν:Rat)
def zM{b:Int}(h:b.natAbs < 2 ^ 20):∀n:Nat,(b ^ n).natAbs < 2 ^ (20 * n+1)
 | 0=>by rw[abV];show 1 < 2 ^ 1;decide
 | n+1=>by rw[abl,abj,show 20 * (n+1)+1=(20 * n+1)+20 by omega];exact dc (zM h n) h
def Qr:DF:=λas M q _=>∃(b:Int) (n:Nat),as=[.int b,.int (n:Nat)]/\b.natAbs < 2 ^ 20/\n<=12/\q (.int (b ^ n)) M
def iJ:Γ ["_law_base","_law_many","_law_found","_law_k"] ["_law_base","_law_many"] (τ oN):=.of rfl
def yC(F:cQ K "_law_power" "_law_power" oN f fd)(E:Ev K mg Cm):av P w K mg base (ck P w) 1 f fd ["_law_base","_law_many"] (cP K Qr):=by
 refine F.eB iJ (λds M q x h=>?_) (λbw A outer s H E' hr=>⟨_,(ζ (Β 2 iJ.nd υ)
   (ζ (rG (cq E.bP (Η (jv 1) η)) (ay (i:=3) iJ.nd rfl (Or.inl rfl)) aM (μ (Β 2 iJ.nd (cW (jv 2) (jv 0)))))
   (μ (Δ (jv 2))))),λds M q x h=>?_⟩)
 ·have⟨b,n,rfl,_⟩:=h;rfl
 ·have⟨b,n,rfl,hb,DO,h⟩:=h;walk_at "vc";refine⟨(),?_⟩;rw[show((n:Int)).toNat=n by omega];refine ix (λzs ρ M2=>∃(m k:Nat) (o:Option Dt),zs=cM k m/\k+m=n/\M2=M/\ρ=[some (.int b),some (.int (n:Int)),some (.int (b ^ k)),o]) (λx zs ρ M2 hj iE=>?_) (λρ M2 hj=>?_) _ _ _ ⟨n,0,none,by simp,by simp,rfl,by rw[Int.pow_zero];rfl⟩
  ·have⟨m,k,o,ex,hk,rfl,rfl⟩:=hj;have⟨m',rfl,rfl,rfl⟩:=iz ex;walk_at "vc";refine⟨⟨bg (zM hb k) (),bg hb⟩,iE _ _ ⟨m',k+1,_,by simp,(),rfl,by rw[Int.pow_succ]⟩⟩
  ·have⟨m,k,o,ex,hk,rfl,rfl⟩:=hj;have hm:m=0:=by have:=aaU List.length ex;rw[dU]at this;exact this.symm
   have:k=n:=()
   subst this;exact h
def Ib:DF:=λas M q _=>∃(u d:Int) (ν n:Nat),as=[.int u,.int d,.int (ν:Nat),.int (n:Nat)]/\1<=u/\u<=500000/\1<=d/\d<=500000/\1<=ν/\ν<=9/\n<=ν/\∀p,Red p->val p=kV u d ν n->q (aj p) M
def kR:Γ ["_law_up","_law_down","_law_far","_law_at","_law_top","_law_bottom"] ["_law_up","_law_down","_law_far","_law_at"] (τ nI):=.of rfl
def yo(F:cQ K "_law_known" "_law_known" nI f fd)(E:Ev K mg Cm){kH:Addr}{lF:FuncData}(bG:aC P w K mg base 1 "_law_lowest" ["_law_top","_law_bottom"] M6 kH lF){Ez:Addr}{Dj:FuncData}(dt:aC P w K mg base 1 "_law_power" ["_law_base","_law_many"] Qr Ez Dj):av P w K mg base (ck P w) 3 f fd ["_law_up","_law_down","_law_far","_law_at"] (cP K Ib):=by
 refine F.eB kR (λds M q x h=>?_) (λbw A outer s H E' hr=>⟨_,(ζ (aI (cU hr (jv 0) (jv 1)) (μ (Δ (Φ bG hr ξ (Η (jv 3) (Η (jv 2) η))))) Ξ)
   (ζ (Β 4 kR.nd (eT (Φ dt hr ξ (Η (jv 0) (Η (jv 2) η))) (cW (Φ dt hr ξ (Η (jv 0) (θ (eT (jv 2) (jv 3)) η bM))) (Φ dt hr ξ (Η (jv 1) (Η (jv 3) η))))))
   (ζ (Β 5 kR.nd (eT (Φ dt hr ξ (Η (jv 0) (Η (jv 2) η))) (Φ dt hr ξ (Η (jv 1) (Η (jv 2) η)))))
   (ζ (aI (mK (jv 5) υ) (μ (Δ (Φ bG hr ξ (θ (eT υ (jv 4)) (θ (eT υ (jv 5)) η bM) bM)))) Ξ)
   (μ (Δ (Φ bG hr ξ (Η (jv 4) (Η (jv 5) η))))))))),λds M q x h=>?_⟩)
 ·have⟨u,d,ν,n,rfl,_⟩:=h;rfl
 ·have⟨u,d,ν,n,rfl,u1,u2,d1,d2,f1,f9,nf,h⟩:=h;have gp:=Ap (u:=u) (d:=d) () () (ν:=ν) (n:=ν) ();have gz:=aT (show gK u d ν ν≠0 by omega);have us:u.natAbs < 2 ^ 20:=()
  have Qb:d.natAbs < 2 ^ 20:=()
  have bp:∀{b:Int} {k:Nat},b.natAbs < 2 ^ 20->k<=9->(b ^ k).natAbs < 2 ^ 181:=λhb hk=>aat (zM hb _) (abx @_ ());have key:∀t b:Int,b≠0->t * gK u d ν ν=b * gK u d ν n->val (ak t b)=kV u d ν n:=λt b hb e=>by
   rw[ig hb];unfold kV;have bz:=aT hb;have e:(t:Rat) * (gK u d ν ν:Rat)=(b:Rat) * (gK u d ν n:Rat):=by rw[<-aaQ,<-aaQ,e]
   generalize (t:Rat)=x at *
   generalize (b:Rat)=y at *
   generalize (gK u d ν ν:Rat)=z at *
   generalize (gK u d ν n:Rat)=v at *
   clear gp us Qb bp h;grind
  show(decide (u=d)=true->_)/\(decide (u=d)=false->_);refine⟨λz=>?_,λz=>?_⟩
  ·have z:u=d:=aas z;subst z;refine⟨(n:Int),(ν:Int),rfl,(),bg (k:=10) (),h _ (ip ()) (key _ _ () ?_)⟩;rw[wU f1 (aai _),wU f1 nf];grind
  ·have z:u≠d:=aaK z;have gd:=vw (u:=u) (d:=d) (ν:=ν) nf;have VI:=vw (u:=u) (d:=d) (ν:=ν) (aai ν);rw[abH,abV,Int.one_mul]at VI;have ne:u ^ ν - d ^ ν≠0:=by
    rw[<-VI];intro y;rcases Int.mul_eq_zero.mp y with y| y
    ·omega
    ·omega
   have e1:(u ^ ν - u ^ (ν - n) * d ^ n) * gK u d ν ν=(u ^ ν - d ^ ν) * gK u d ν n:=by rw[<-gd,<-VI];grind
   have b1:=bp us f9;have b2:=bp us (show ν - n<=9 by omega);have b3:=bp Qb (show n<=9 by omega);have b4:=bp Qb f9;walk_at "vc";refine⟨u,ν,rfl,us,(),?_⟩;refine⟨u,ν - n,by rw[Int.ofNat_sub nf],us,(),?_⟩;refine⟨d,n,rfl,Qb,(),?_⟩;refine⟨⟨bg b2,bg b3⟩,?_⟩;refine⟨u,ν,rfl,us,(),?_⟩;refine⟨d,ν,rfl,Qb,(),?_⟩;have bb:(u ^ ν - d ^ ν).natAbs < 2 ^ 182:=by
    have:=Int.natAbs_sub_le (u ^ ν) (d ^ ν);have e:(2:Nat) ^ 182=2 ^ 181+2 ^ 181:=@_
    omega
   refine⟨λy=>?_,λy=>?_⟩
   ·have y:u ^ ν - d ^ ν < 0:=aas y;refine⟨0 - (u ^ ν - u ^ (ν - n) * d ^ n),0 - (u ^ ν - d ^ ν),rfl,(),bg (k:=182) (),h _ (ip ()) (key _ _ () ?_)⟩;grind
   ·have y:¬u ^ ν - d ^ ν < 0:=aaK y;exact⟨_,_,rfl,(),bg bb,h _ (ip ne) (key _ _ ne e1)⟩
def eS(ns:List Int):Int:=if cb ns 1 / 81 % 4=3 then 1+cb ns 2 % 499999 else 1+cb ns 1 % 9
def eU(ns:List Int):Int:=if cb ns 1 / 81 % 4=3 then 1+cb ns 3 % 499999 else 1+cb ns 1 / 9 % 9
def B8(ns:List Int):1<=eS ns/\eS ns<=499999/\1<=eU ns/\eU ns<=499999:=by unfold eS eU;split <;> omega
def Jj(ns:List Int)(size at_:Int):Int:=((if cb ns 4 % 2=1 then size - 1 - at_ else at_)+cb ns 4 / 2) % size
def Ax(ns:List Int){size:Int}(h:0 < size)(a:Int):0<=Jj ns size a/\Jj ns size a < size:=⟨abC _ (),abI _ h⟩
def Gk{size a b:Int}(h:0 < size)(a0:0<=a)(a1:a < size)(b0:0<=b)(b1:b < size)(e:Jj ns size a=Jj ns size b):a=b:=by
 unfold Jj at e;have key:∀x y c:Int,0<=x->x < size->0<=y->y < size->(x+c) % size=(y+c) % size->x=y:=λx y c x0 x1 y0 y1 e=>by
  have h1:size∣(x+c) - (y+c):=Int.dvd_of_emod_eq_zero (Int.emod_eq_emod_iff_emod_sub_eq_zero.mp e);have⟨m,hm⟩:=h1;have hm:x - y=size * m:=()
  rcases Int.lt_trichotomy m 0 with z| z| z
  ·have:=aaJ (show m<= -1 by omega) (aau h);omega
  ·rw[z]at hm;omega
  ·have:=aaJ (show 1<=m by omega) (aau h);omega
 split at e
 ·have:=key (size - 1 - a) (size - 1 - b) _ () () () () e;omega
 ·exact key a b _ a0 a1 b0 b1 e
def rE:DF:=λas M q _=>∃ns:List Int,as=[.hW ns]/\q (.tup [.int (eS ns),.int (eU ns)]) M
def gm:Γ ["_law_script","_law_up","_law_down"] ["_law_script"] (τ oz):=.of rfl
def y6(F:cQ K "_law_parts" "_law_parts" oz f fd)(E:Ev K mg Cm)(Ζ:aC P w K mg base 1 "_law_number" ["_law_script","_law_k"] rL bq bj):av P w K mg base (ck P w) 2 f fd ["_law_script"] (cP K rE):=by
 refine F.eB gm (λds M q x h=>?_) (λbw A outer s H E' hr=>⟨_,(ζ (Β 1 gm.nd (bx υ (cT (Φ Ζ hr ξ (Η (jv 0) (θ υ η aK))) υ)))
   (ζ (Β 2 gm.nd (bx υ (cT (o9 (Φ Ζ hr ξ (Η (jv 0) (θ υ η aK))) υ) υ)))
   (ζ (jK (aI (cU hr (cT (o9 (Φ Ζ hr ξ (Η (jv 0) (θ υ η aK))) υ) υ) υ) (ζ (Β 1 gm.nd (bx υ (cT (Φ Ζ hr ξ (Η (jv 0) (θ υ η aK))) υ)))
   (μ (Β 2 gm.nd (bx υ (cT (Φ Ζ hr ξ (Η (jv 0) (θ υ η aK))) υ))))) Ξ))
   (μ (Δ (bO (Η (jv 1) (Η (jv 2) η)))))))),λds M q x h=>?_⟩)
 ·have⟨ns,rfl,_⟩:=h;rfl
 ·have⟨ns,rfl,h⟩:=h;have nm:=Mz ns 1;unfold eS eU at h;refine⟨ns,1,rfl,@_,@_,@_,?_⟩;refine⟨ns,1,rfl,@_,@_,⟨@_,bg (k:=4) @_⟩,@_,?_⟩;refine⟨λρ M'=>M'=M/\ρ=[some (.hW ns),some (.int (if cb ns 1 / 81 % 4=3 then 1+cb ns 2 % 499999 else 1+cb ns 1 % 9)),some (.int (if cb ns 1 / 81 % 4=3 then 1+cb ns 3 % 499999 else 1+cb ns 1 / 9 % 9))],?_,?_⟩
  ·walk_at "vc";refine⟨ns,1,rfl,@_,@_,⟨@_,bg (k:=8) @_⟩,@_,?_⟩;show(decide (cb ns 1 / 81 % 4=3)=true->_)/\(decide (cb ns 1 / 81 % 4=3)=false->_);refine⟨λz=>?_,λz=>?_⟩
   ·have z:=aas z;refine⟨ns,2,rfl,@_,@_,@_,?_⟩;refine⟨ns,3,rfl,@_,@_,@_,?_⟩;exact⟨rfl,by rw[aaw z,aaw z];rfl⟩
   ·have z:=aaK z;exact⟨rfl,by rw[aay z,aay z];rfl⟩
  rintro ρ M' ⟨rfl,rfl⟩;exact⟨gV,h⟩
def rX:DF:=λas M q _=>∃(ns:List Int) (size a:Int),as=[.hW ns,.int size,.int a]/\0 < size/\size<=12/\q (.int (Jj ns size a)) M
def ma:Γ ["_law_script","_law_size","_law_at","_law_number_here"] ["_law_script","_law_size","_law_at"] (τ ot):=.of rfl
def yH(F:cQ K "_law_place" "_law_place" ot f fd)(E:Ev K mg Cm)(Ζ:aC P w K mg base 1 "_law_number" ["_law_script","_law_k"] rL bq bj):av P w K mg base (ck P w) 2 f fd ["_law_script","_law_size","_law_at"] (cP K rX):=by
 refine F.eB ma (λds M q x h=>?_) (λbw A outer s H E' hr=>⟨_,(ζ (Β 3 ma.nd (Φ Ζ hr ξ (Η (jv 0) (θ υ η aK))))
   (ζ (jK (aI (cU hr (cT (jv 3) υ) υ) (μ (Β 2 ma.nd (eT (eT (jv 1) υ) (jv 2)))) Ξ))
   (μ (Δ (cT (bx (jv 2) (o9 (jv 3) υ)) (jv 1)))))),λds M q x h=>?_⟩)
 ·have⟨ns,size,a,rfl,_⟩:=h;rfl
 ·have⟨ns,size,a,rfl,s0,UT,h⟩:=h;unfold Jj at h;refine⟨ns,4,rfl,@_,@_,?_⟩;refine⟨λρ M'=>M'=M/\ρ=[some (.hW ns),some (.int size),some (.int (if cb ns 4 % 2=1 then size - 1 - a else a)),some (.int (cb ns 4))],?_,?_⟩
  ·walk_at "vc";refine⟨@_,?_⟩;show(decide (cb ns 4 % 2=1)=true->_)/\(decide (cb ns 4 % 2=1)=false->_);exact⟨λz=>⟨rfl,by rw[aaw (aas z)];rfl⟩,λz=>⟨rfl,by rw[aay (aaK z)];rfl⟩⟩
  rintro ρ M' ⟨rfl,rfl⟩;exact⟨⟨@_,bg (k:=4) @_⟩,s0,h⟩
def xk:DF:=λas M q _=>∃(ns:List Int) (size:Int) (a:Int) (cd:Dt) (cs:List Fr),as=[.hW ns,.int size,.int a,cd]/\0 < size/\size<=12/\0<=a/\a<=100/\(cd= .aJ/\cs=[]\/∃c,cd=aj c/\cs=[c])/\∀p:Fr,aD p=true->0 < p.2->q (dh (Jj ns size a,p,cs)) M
def uB:Γ ["_law_script","_law_size","_law_at","_law_chance","_law_pay"] ["_law_script","_law_size","_law_at","_law_chance"] (τ rH):=.of rfl
def zZ(F:cQ K "_law_door" "_law_door" rH f fd)(E:Ev K mg Cm)(Ζ:aC P w K mg base 1 "_law_number" ["_law_script","_law_k"] rL bq bj){oO:Addr}{oo:FuncData}(b8:aC P w K mg base 2 "_law_place" ["_law_script","_law_size","_law_at"] rX oO oo):av P w K mg base (ck P w) 3 f fd ["_law_script","_law_size","_law_at","_law_chance"] (cP K xk):=by
 refine F.eB uB (λds M q x h=>?_) (λbw A outer s H E' hr=>⟨_,(ζ (Β 4 uB.nd (bO (θ (eT (cT (Φ Ζ hr ξ (Η (jv 0) (θ (bx υ (jv 2)) η bM))) υ) υ) (θ υ η aK) bM)))
   (ζ (aI (MH (jv 3) rN) (μ (Δ (bO (θ (Φ b8 hr ξ (Η (jv 0) (Η (jv 1) (Η (jv 2) η)))) (Η (jv 4) η) cf)))) Ξ)
   (μ (Δ (bO (θ (Φ b8 hr ξ (Η (jv 0) (Η (jv 1) (Η (jv 2) η)))) (Η (jv 4) (Η (jv 3) η)) cf)))))),λds M q x h=>?_⟩)
 ·have⟨ns,size,a,cd,cs,rfl,_⟩:=h;rfl
 ·have⟨ns,size,a,cd,cs,rfl,s0,UT,a0,a1,hc,h⟩:=h;have fp:aD (cb ns (5+a) % 9 - 4,1)=true:=Iv () () @_;refine⟨ns,5+a,rfl,(),(),@_,gV,?_⟩;have h:=h _ fp (show(0:Int) < 1 by decide);generalize cb ns (5+a) % 9 - 4=v at *
  rcases hc with ⟨rfl,rfl⟩| ⟨c,rfl,rfl⟩
  ·refine⟨rfl,λ_=>⟨ns,size,a,rfl,s0,UT,gV,h⟩,nofun⟩
  ·refine⟨rfl,nofun,λ_=>⟨ns,size,a,rfl,s0,UT,by show 3<=sizeLine;decide,h⟩⟩
def eG(ns:List Int)(ν:Nat)(c:Int):Int:=cb ns c % ((ν:Int)+1)
def oj(ns:List Int)(ν:Nat)(c:Int):0<=eG ns ν c/\eG ns ν c<=ν:=by have a:=abC (cb ns c) (show(ν:Int)+1≠0 by omega);have b:=abI (cb ns c) (show 0 < (ν:Int)+1 by omega);unfold eG;omega
abbrev bN(ns:List Int)(ν:Nat)(a:Int):Int:=Jj ns ((ν:Int)+3) a
structure JN(ns:List Int)(ν:Nat)(a w0 w1:Int)(sf:Bool)(ds:List aS):Prop where
 l1:1<=ds.length
 l3:ds.length<=3
 all:∀d∈ds,(d.2.2=[]/\aD d.2.1=true/\0 < d.2.1.2)/\(d.1=bN ns ν w0\/d.1=bN ns ν w1\/(sf=true/\d.1=bN ns ν a))
 e0:∃d∈ds,d.1=bN ns ν w0
 e1:∃d∈ds,d.1=bN ns ν w1
 es:sf=true->∃d∈ds,d.1=bN ns ν a
def fX(ns:List Int):Bool:=decide (cb ns 40 % 2=1)
structure pd(ns:List Int)(ν at_:Nat)(r:Rw):Prop where
 fin:at_=0\/at_=ν->∃p,r= .fin p/\aD p=true/\0 < p.2
 W6:0 < at_->at_ < ν->∃(ds:List aS) (pA pB:Fr),r= .Α "chance" ds/\(aD pA=true/\0 < pA.2)/\(aD pB=true/\0 < pB.2)/\(ds=[(bN ns ν ((at_:Int)+1),pA,[ak (eS ns) (eS ns+eU ns)]),(bN ns ν ((at_:Int) - 1),pB,[ak (eU ns) (eS ns+eU ns)])]\/ds=[(bN ns ν ((at_:Int) - 1),pB,[ak (eU ns) (eS ns+eU ns)]),(bN ns ν ((at_:Int)+1),pA,[ak (eS ns) (eS ns+eU ns)])])
 one:at_=ν+1->∃ds,r= .Α "one" ds/\JN ns ν ((ν:Int)+1) (eG ns ν 34) (eG ns ν 35) true ds
 zB:at_=ν+2->∃ds,r= .Α "other" ds/\JN ns ν ((ν:Int)+2) (eG ns ν 36) (eG ns ν 37) (fX ns) ds
def xH{k:Str}:BH M.length [.lst (ds.map dh)] (.tup [.str k,.loc M.length]) (aX (.Α k ds)):=.tup (.cons (.old trivial) (.cons (.vK (aai _) (by rw[abH];rfl) (fg.old (dQ ds))) .nil))
def HU:DF:=λas M q _=>∃(ns:List Int) (ν a:Nat),as=[.hW ns,.int (ν:Nat),.int (a:Nat)]/\2<=ν/\ν<=9/\a<=ν+2/\∀r d E,pd ns ν a r->BH M.length E d (aX r)->q d (M++E)
def eX:Γ ["_law_script","_law_far","_law_at","_law_size","_law_up","_law_down","_law_turned_about","_law_doors"] ["_law_script","_law_far","_law_at"] (τ vh):=.of rfl
def DG(F:cQ K "_law_row" "_law_row" vh f fd)(E:Ev K mg Cm){oR:Addr}{oh:FuncData}(eC:aC P w K mg base 2 "_law_parts" ["_law_script"] rE oR oh)(Ζ:aC P w K mg base 1 "_law_number" ["_law_script","_law_k"] rL bq bj){GH:Addr}{Fj:FuncData}(fC:aC P w K mg base 3 "_law_door" ["_law_script","_law_size","_law_at","_law_chance"] xk GH Fj){kH:Addr}{lF:FuncData}(bG:aC P w K mg base 1 "_law_lowest" ["_law_top","_law_bottom"] M6 kH lF):av P w K mg base (ck P w) 5 f fd ["_law_script","_law_far","_law_at"] (cP K HU):=by
 refine F.eB eX (λds M q x h=>?_) (λbw A outer s H E' hr=>⟨_,(ζ (Β 3 eX.nd (bx (jv 1) υ))
   (ζ (CK (Φ eC hr ξ (Η (jv 0) η)) (lD rfl (bD (ay (i:=4) eX.nd rfl (Or.inl rfl)) (bD (ay (i:=5) eX.nd rfl (Or.inl rfl)) iR))))
   (ζ (aI (JW.jt (jC (cU hr (jv 2) υ) (iF (cU hr (jv 2) (jv 1))))) (μ (Δ (bO (θ mH (θ (Cu (cU hr (cT (jv 2) υ) υ) (bO (θ (eT υ (jv 2)) (θ υ η aK) bM)) (bO (Η (jv 2) (θ υ η aK)))) η) aK)))) Ξ)
   (ζ (jK (Β 6 eX.nd (cT (Φ Ζ hr ξ (Η (jv 0) (θ (bx υ (jv 2)) η bM))) υ)))
   (ζ (aI (mK (jv 2) (jv 1)) (ζ (Β 7 eX.nd (vt (θ (Φ fC hr ξ (Η (jv 0) (Η (jv 3) (θ (bx (jv 2) υ) (θ (Φ bG hr ξ (Η (jv 4) (θ (bx (jv 4) (jv 5)) η bM))) η cf) bM)))) η cf)))
   (ζ (dX (iq (jv 7) (θ (Φ fC hr ξ (Η (jv 0) (Η (jv 3) (θ (eT (jv 2) υ) (θ (Φ bG hr ξ (Η (jv 5) (θ (bx (jv 4) (jv 5)) η bM))) η cf) bM)))) η cf)))
   (μ (Δ (bO (θ mH (θ (cX (NP (jv 7) (eT υ (cW υ (jv 6))))) η aU) aK)))))) Ξ)
   (ζ (fc (i:=7) eX.nd rfl (Or.inl rfl) (ys:=["_law_script","_law_size","_law_far","_law_at"]) (Μ:=[0,3,1,2]) (.of eX rfl rfl rfl) (oY (cq E.bP (θ υ η aK))) (λC s H fp=>(Φ fC hr (cJ (P:=P) (w:=w)) (Η (jv 1) (Η (jv 2) (θ (cT (Φ Ζ hr (cJ (P:=P) (w:=w)) (Η (jv 1) (θ (bx (bx υ (cW υ (eT (jv 4) (jv 3)))) (jv 0)) η bM))) (bx (jv 3) υ)) (θ rN η aK) bM))))))
   (ζ (jK (aI (JW.jt (jC (cU hr (jv 2) (bx (jv 1) υ)) (iF (cU hr (cT (Φ Ζ hr ξ (Η (jv 0) (θ υ η aK))) υ) υ)))) (μ (dX (Iq (jv 7) (Η (jv 6) (θ (Φ fC hr ξ (Η (jv 0) (Η (jv 3) (Η (jv 2) (θ rN η aK))))) η cf))))) Ξ))
   (μ (Δ (bO (θ (Ρ (gM 3 (d:=.lst [.str "one",.str "other"]) (by rfl)) (eT (eT (jv 2) (jv 1)) υ)) (Η (jv 7) η) aU))))))))))),λds M q x h=>?_⟩)
 ·have⟨ns,ν,a,rfl,_⟩:=h;rfl
 ·have⟨ns,ν,a,rfl,f2,f9,al,h⟩:=h;have⟨u1,u2,d1,d2⟩:=B8 ns;have bu:i4 (eS ns+eU ns):=bg (k:=22) ();have h0:∀r,pd ns ν a r->Dt.under M.length (aX r)->q (aX r) M:=λr p9 hu=>by have:=h r (aX r) [] p9 (.old hu);rwa[aaY]at this
  refine⟨ns,rfl,?_⟩;dsimp only[Fv];walk_at "vc";have fin:∀p:Fr,(a=0\/a=ν)->aD p=true->0 < p.2->q (.tup [.str "end",aj p]) M:=λp ha fp pp=>h0 (.fin p) ⟨λ_=>⟨p,rfl,fp,pp⟩,λz1 z2=>(),λz=>(),λz=>()⟩ ⟨trivial,jJ p,trivial⟩;have pe:aD (3 - (a:Int),2)=true:=Iv () () @_;have po:aD ((a:Int),1)=true:=Iv () () @_;show(decide ((a:Int)=0)=true->_)/\(decide ((a:Int)=0)=false->_);refine⟨λz=>⟨λ_=>⟨@_,?_⟩,nofun⟩,λz=>?_⟩
  ·have z:a=0:=by have:=aas z;omega
   show(decide ((a:Int) % 2=0)=true->_)/\(decide ((a:Int) % 2=0)=false->_);exact⟨λ_=>⟨gV,gV,fin _ (.inl z) pe (by show(0:Int) < 2;decide)⟩,λ_=>⟨gV,gV,fin _ (.inl z) po (by show(0:Int) < 1;decide)⟩⟩
  have z:a≠0:=by have:=aaK z;omega
  show(decide ((a:Int)=(ν:Int))=true->_)/\(decide ((a:Int)=(ν:Int))=false->_);refine⟨λy=>⟨@_,?_⟩,λy=>?_⟩
  ·have y:a=ν:=by have:=aas y;omega
   show(decide ((a:Int) % 2=0)=true->_)/\(decide ((a:Int) % 2=0)=false->_);exact⟨λ_=>⟨gV,gV,fin _ (.inr y) pe (by show(0:Int) < 2;decide)⟩,λ_=>⟨gV,gV,fin _ (.inr y) po (by show(0:Int) < 1;decide)⟩⟩
  have y:a≠ν:=by have:=aaK y;omega
  refine⟨λρ M'=>M'=M/\∃ta:Nat,ta<=1/\ρ=[some (.hW ns),some (.int (ν:Int)),some (.int (a:Int)),some (.int ((ν:Int)+3)),some (.int (eS ns)),some (.int (eU ns)),some (.int (ta:Int)),none],?_,?_⟩
  ·walk_at "vc";refine⟨ns,20+(a:Int),rfl,(),(),@_,rfl,(cb ns (20+(a:Int)) % 2).toNat,(),?_⟩;rw[ab9 ()];rfl
  rintro ρ M' ⟨rfl,ta,ta1,rfl⟩;walk_at "vc";refine⟨λv=>?_,λv=>?_⟩
  ·have v:a < ν:=by have:=aas v;omega
   dsimp only[Ls,PX,LH,Sa,ux];walk_at "vc";refine⟨eS ns,eS ns+eU ns,rfl,(),bu,?_⟩;refine⟨ns,(ν:Int)+3,(a:Int)+1,_,[ak (eS ns) (eS ns+eU ns)],rfl,(),(),(),(),.inr ⟨_,rfl,rfl⟩,λpA fA pA0=>?_⟩;refine⟨by show 1<=sizeLine;decide,?_⟩;refine⟨⟨_,_,rfl,ao⟩,?_⟩;refine⟨eU ns,eS ns+eU ns,rfl,(),bu,?_⟩;refine⟨ns,(ν:Int)+3,(a:Int) - 1,_,[ak (eU ns) (eS ns+eU ns)],rfl,(),(),(),(),.inr ⟨_,rfl,rfl⟩,λpB fB Ym=>?_⟩;refine⟨M'.length,_,_,rfl,rfl,ao,by show 1 < sizeLine;decide,?_⟩;rw[bX];generalize hA:((bN ns ν ((a:Int)+1),pA,[ak (eS ns) (eS ns+eU ns)]):aS)=dA;generalize hB:((bN ns ν ((a:Int) - 1),pB,[ak (eU ns) (eS ns+eU ns)]):aS)=dB;have row:∀ds:List aS,(ds=[dA,dB]\/ds=[dB,dA])->pd ns ν a (.Α "chance" ds):=λds hd=>⟨λx=>(),λ_ _=>⟨ds,pA,pB,rfl,⟨fA,pA0⟩,⟨fB,Ym⟩,by rw[hA,hB];exact hd⟩,λx=>(),λx=>()⟩;have fin2:∀(ds:List aS) (m:MO),(ds=[dA,dB]\/ds=[dB,dA])->q (.tup [.str "chance",.lst (ds.map dh)]) (M'++[m]):=λds m hd=>h _ _ _ (row ds hd) (.old (wJ (.Α "chance" ds)));refine⟨⟨bg (k:=4) @_,bg (k:=2) ()⟩,?_⟩;have TF:ta=0\/ta=1:=()
   rcases TF with rfl| rfl
   ·refine⟨[dA,dB].map dh,[dA,dB].map dh,FV (mG ao),.inl ⟨rfl,rfl⟩,?_⟩;refine eK (dQ [dA,dB]) ?_;exact⟨gV,fin2 [dA,dB] _ (.inl rfl)⟩
   ·refine⟨[dA,dB].map dh,[dB,dA].map dh,FV (mG ao),.inr ⟨rfl,rfl⟩,?_⟩;refine eK (dQ [dB,dA]) ?_;exact⟨gV,fin2 [dB,dA] _ (.inr rfl)⟩
  ·have v:¬a < ν:=by have:=aaK v;omega
   obtain⟨b,hb,b2⟩:∃b:Nat,(a:Int) - (ν:Int)=(b:Int)/\(b=1\/b=2):=⟨a - ν,(),()⟩;dsimp only[mF,Vb];walk_at "vc";refine⟨@_,@_,?_⟩;have wr:=oj ns ν;show kB _ _ _ [.int 0,.int 1] [] _ _;have c0:32+2 * ((a:Int) - (ν:Int))+0=32+2 * (b:Int):=()
   have c1:32+2 * ((a:Int) - (ν:Int))+1=33+2 * (b:Int):=()
   refine⟨trivial,?_⟩;walk_at "vc";refine⟨⟨bg (k:=4) @_,bg (k:=10) ()⟩,ns,_,rfl,(),(),(),?_⟩;rw[c0];refine⟨ns,(ν:Int)+3,eG ns ν (32+2 * (b:Int)),.aJ,[],rfl,(),(),(wr _).1,by have:=(wr (32+2 * (b:Int))).2;omega,.inl ⟨rfl,rfl⟩,λp0 f0 q0=>?_⟩;refine⟨trivial,?_⟩;walk_at "vc";refine⟨⟨bg (k:=4) @_,bg (k:=10) ()⟩,ns,_,rfl,(),(),(),?_⟩;rw[c1];refine⟨ns,(ν:Int)+3,eG ns ν (33+2 * (b:Int)),.aJ,[],rfl,(),(),(wr _).1,by have:=(wr (33+2 * (b:Int))).2;omega,.inl ⟨rfl,rfl⟩,λp1 f1 q1=>?_⟩;refine⟨trivial,?_⟩;generalize hA:((bN ns ν (eG ns ν (32+2 * (b:Int))),p0,[]):aS)=dA;generalize hB:((bN ns ν (eG ns ν (33+2 * (b:Int))),p1,[]):aS)=dB;have a1:dA.1=bN ns ν (eG ns ν (32+2 * (b:Int))):=by rw[<-hA]
   have a2:dA.2.2=[]/\aD dA.2.1=true/\0 < dA.2.1.2:=by rw[<-hA];exact⟨rfl,f0,q0⟩
   have b1:dB.1=bN ns ν (eG ns ν (33+2 * (b:Int))):=by rw[<-hB]
   have WX:dB.2.2=[]/\aD dB.2.1=true/\0 < dB.2.1.2:=by rw[<-hB];exact⟨rfl,f1,q1⟩
   refine⟨λρ M2=>∃ds:List aS,JN ns ν (a:Int) (eG ns ν (32+2 * (b:Int))) (eG ns ν (33+2 * (b:Int))) (decide (a=ν+1)|| fX ns) ds/\M2=M'++[.lst (ds.map dh)]/\ρ=[some (.hW ns),some (.int (ν:Int)),some (.int (a:Int)),some (.int ((ν:Int)+3)),some (.int (eS ns)),some (.int (eU ns)),some (.int (ta:Int)),some (.loc M'.length)],?_,?_⟩
   ·have no:(decide (a=ν+1)|| fX ns)=false->∃ds:List aS,JN ns ν (a:Int) (eG ns ν (32+2 * (b:Int))) (eG ns ν (33+2 * (b:Int))) (decide (a=ν+1)|| fX ns) ds/\M'++[MO.lst [dh dA,dh dB]]=M'++[.lst (ds.map dh)]/\True:=λz=>⟨[dA,dB],⟨(by show 1<=2;decide),(by show 2<=3;decide),λd hd=>by
      rcases aav.mp hd with e| e
      ·rw[e];exact⟨a2,.inl a1⟩
      ·rw[aaG.mp e];exact⟨WX,.inr (.inl b1)⟩,⟨dA,aae,a1⟩,⟨dB,aad _ aae,b1⟩,λy=>by rw[z]at y;cases y⟩,rfl,trivial⟩
    have yes:(decide (a=ν+1)|| fX ns)=true->M7 (lx 7) (mv (lx 6) (mv (HZ xk (mv (lx 0) (mv (lx 3) (mv (lx 2) (mv (dC .aJ) IA))))) IA)) [some (.hW ns),some (.int (ν:Int)),some (.int (a:Int)),some (.int ((ν:Int)+3)),some (.int (eS ns)),some (.int (eU ns)),some (.int (ta:Int)),some (.loc M'.length)] (M'++[MO.lst [dh dA,dh dB]]) (λ_ M2=>∃ds:List aS,JN ns ν (a:Int) (eG ns ν (32+2 * (b:Int))) (eG ns ν (33+2 * (b:Int))) (decide (a=ν+1)|| fX ns) ds/\M2=M'++[.lst (ds.map dh)]/\[some (Dt.hW ns),some (.int (ν:Int)),some (.int (a:Int)),some (.int ((ν:Int)+3)),some (.int (eS ns)),some (.int (eU ns)),some (.int (ta:Int)),some (.loc M'.length)]=[some (.hW ns),some (.int (ν:Int)),some (.int (a:Int)),some (.int ((ν:Int)+3)),some (.int (eS ns)),some (.int (eU ns)),some (.int (ta:Int)),some (.loc M'.length)]) jh:=λz=>by
     dsimp only[M7];walk_at "vc";refine⟨⟨_,_,rfl,ao⟩,ns,(ν:Int)+3,(a:Int),.aJ,[],rfl,(),(),(),(),.inl ⟨rfl,rfl⟩,λpS fS qS=>?_⟩;generalize hS:((bN ns ν (a:Int),pS,[]):aS)=dS;have s1:dS.1=bN ns ν (a:Int):=by rw[<-hS]
     have s2:dS.2.2=[]/\aD dS.2.1=true/\0 < dS.2.1.2:=by rw[<-hS];exact⟨rfl,fS,qS⟩
     refine⟨M'.length,_,dh dS,ta,rfl,rfl,ao,by show 2 < sizeLine;decide,by show ta<=2;omega,?_⟩;rw[bX]
     have mk:∀ds:List aS,ds.length=3->(∀d,d∈ds↔(d=dS\/d=dA\/d=dB))->JN ns ν (a:Int) (eG ns ν (32+2 * (b:Int))) (eG ns ν (33+2 * (b:Int))) (decide (a=ν+1)|| fX ns) ds:=λds l m=>⟨(),(),λd hd=>by
      rcases(m d).mp hd with e| e| e
      ·rw[e];exact⟨s2,.inr (.inr ⟨z,s1⟩)⟩
      ·rw[e];exact⟨a2,.inl a1⟩
      ·rw[e];exact⟨WX,.inr (.inl b1)⟩,⟨dA,(m dA).mpr (.inr (.inl rfl)),a1⟩,⟨dB,(m dB).mpr (.inr (.inr rfl)),b1⟩,λ_=>⟨dS,(m dS).mpr (.inl rfl),s1⟩⟩
     have TF:ta=0\/ta=1:=()
     rcases TF with rfl| rfl
     ·exact⟨[dS,dA,dB],mk _ rfl (λd=>by simp),rfl,rfl⟩
     ·exact⟨[dA,dS,dB],mk _ rfl (λd=>by simp;constructor <;> rintro(h| h| h) <;> simp[h]),rfl,rfl⟩
    walk_at "vc";show(decide ((a:Int)=(ν:Int)+1)=true->_)/\(decide ((a:Int)=(ν:Int)+1)=false->_);refine⟨λz=>⟨λ_=>yes ?_,nofun⟩,λz=>⟨ns,40,rfl,@_,@_,@_,?_⟩⟩
    ·have z:=aas z;rw[aaB (show a=ν+1 by omega)];rfl
    have z:=aaK z;show(decide (cb ns 40 % 2=1)=true->_)/\(decide (cb ns 40 % 2=1)=false->_);refine⟨λy=>yes ?_,λy=>?_⟩
    ·rw[aam (show¬a=ν+1 by omega)];exact y
    ·have⟨ds,x1,x2,_⟩:=no (by rw[aam (show¬a=ν+1 by omega)];exact y);exact⟨ds,x1,x2,rfl⟩
   rintro ρ2 M2 ⟨ds,hn,rfl,rfl⟩;walk_at "vc";rcases b2 with rfl| rfl
   ·have ea:a=ν+1:=()
    dsimp only[AM];refine(Ε (d:=.lst [.str "one",.str "other"]) (xs:=[.str "one",.str "other"]) rfl (show jf _ ((a:Int) - (ν:Int) - 1)=some (.str "one") by rw[show(a:Int) - (ν:Int) - 1=0 by omega];exact cC) ?_:e_ (.lst [.str "one",.str "other"]) (.int ((a:Int) - (ν:Int) - 1)) _ _);refine⟨gV,h (.Α "one" ds) _ _ ⟨λx=>(),λx1 x2=>(),λ_=>⟨ds,rfl,?_⟩,λx=>()⟩ xH⟩;rw[aaB ea,Bool.true_or]at hn;have e1:(a:Int)=(ν:Int)+1:=()
    rw[e1]at hn;exact hn
   ·have ea:a=ν+2:=()
    dsimp only[AM];refine(Ε (d:=.lst [.str "one",.str "other"]) (xs:=[.str "one",.str "other"]) rfl (show jf _ ((a:Int) - (ν:Int) - 1)=some (.str "other") by rw[show(a:Int) - (ν:Int) - 1=((1:Nat):Int) by omega];exact az (j:=1) rfl) ?_:e_ (.lst [.str "one",.str "other"]) (.int ((a:Int) - (ν:Int) - 1)) _ _);refine⟨gV,h (.Α "other" ds) _ _ ⟨λx=>(),λx1 x2=>(),λx=>(),λ_=>⟨ds,rfl,?_⟩⟩ xH⟩;rw[aam (),Bool.false_or]at hn;have e1:(a:Int)=(ν:Int)+2:=()
    rw[e1]at hn;exact hn
def y8{α:Type}{te:DE}{cs:En}{ok:Ms->Prop}{M:Ms}{f:α->Dt}(Q:Nat->α->Prop){k:List Dt->Ms->Prop}(ho:ok M):∀(n lo:Nat) (acc:List α),(∀j (h:j < acc.length),Q j acc[j])->acc.length=lo->(∀i,i < lo+n->∀q:DQ,(∀a,Q i a->q (f a) M)->te (some (.int (i:Int))::cs) M q jh)->(∀ys:List α,ys.length=lo+n->(∀j (h:j < ys.length),Q j ys[j])->k (ys.map f) M)->kB te cs ok (cM (lo:Int) n) (acc.map f) M k
 | 0,lo,acc,ha,hl,_,h=>⟨ho,h acc () ha⟩
 | n+1,lo,acc,ha,hl,ht,h=>by
  have e:cM (lo:Int) (n+1)= .int (lo:Int)::cM ((lo+1:Nat):Int) n:=by
   unfold cM;rw[abt,aaW,aaT];refine congr (aaU List.cons (aaU Dt.int ())) (aaZ λk _=>?_);show Dt.int ((lo:Int)+((k+1:Nat):Int))=Dt.int (((lo+1:Nat):Int)+(k:Int))
   congr 1
   omega
  rw[e];refine⟨ho,ht lo () _ λa qa=>?_⟩;have e2:acc.map f++[f a]=(acc++[a]).map f:=by simp
  rw[e2];refine y8 Q ho n (lo+1) (acc++[a]) (λj hj=>?_) (by simp;omega) (λi hi=>ht i ()) λys hy=>h ys ();rcases Nat.lt_or_ge j acc.length with z| z
  ·rw[List.getElem_append_left z];exact ha j z
  ·have:j=acc.length:=by simp at hj;omega
   subst this;rw[List.getElem_append_right (aai _)];simp;rw[hl];exact qa
structure LF(ns:List Int)(ν:Nat)(du:List Fr):Prop where
 len:du.length=ν+3
 kn:∀n,n<=ν->Red (du.getD n (0,1))/\val (du.getD n (0,1))=kV (eS ns) (eU ns) ν n
 one:du.getD (ν+1) (0,1)=du.getD (if eG ns ν 34 < eG ns ν 35 then eG ns ν 35 else eG ns ν 34).toNat (0,1)
 zB:du.getD (ν+2) (0,1)=if fX ns then (0,1) else du.getD (if eG ns ν 37 < eG ns ν 36 then eG ns ν 37 else eG ns ν 36).toNat (0,1)
def EU:DF:=λas M q _=>∃(ns:List Int) (ν:Nat),as=[.hW ns,.int (ν:Nat)]/\2<=ν/\ν<=9/\∀du,LF ns ν du->q (.loc M.length) (M++[.lst (du.map aj)])
def dY:Γ ["_law_script","_law_far","_law_up","_law_down","_law_some","_law_ways","_law_more","_law_less"] ["_law_script","_law_far"] (τ wG):=.of rfl
def DD(F:cQ K "_law_due" "_law_due" wG f fd)(E:Ev K mg Cm){oR:Addr}{oh:FuncData}(eC:aC P w K mg base 2 "_law_parts" ["_law_script"] rE oR oh){DC:Addr}{Ey:FuncData}(lH:aC P w K mg base 3 "_law_known" ["_law_up","_law_down","_law_far","_law_at"] Ib DC Ey)(Ζ:aC P w K mg base 1 "_law_number" ["_law_script","_law_k"] rL bq bj):av P w K mg base (ck P w) 5 f fd ["_law_script","_law_far"] (cP K EU):=by
 refine F.eB dY (λds M q x h=>?_) (λbw A outer s H E' hr=>⟨_,(ζ (CK (Φ eC hr ξ (Η (jv 0) η)) (lD rfl (bD (ay (i:=2) dY.nd rfl (Or.inr rfl)) (bD (ay (i:=3) dY.nd rfl (Or.inr rfl)) iR))))
   (ζ (fc (i:=4) dY.nd rfl (Or.inl rfl) (ys:=["_law_up","_law_down","_law_far"]) (Μ:=[2,3,1]) (.of dY rfl rfl rfl) (oY (cq E.bP (θ (bx (jv 1) υ) η bM))) (λC s H fp=>(Φ lH hr (cJ (P:=P) (w:=w)) (Η (jv 1) (Η (jv 2) (Η (jv 3) (Η (jv 0) η)))))))
   (ζ (Bc (i:=5) dY.nd rfl (Or.inl rfl) (ys:=["_law_script","_law_far"]) (Μ:=[0,1]) (.of dY rfl rfl rfl) (t_ E.bP (θ υ (θ υ η aK) aK)) (λC s H fp=>(cT (Φ Ζ hr (cJ (P:=P) (w:=w)) (Η (jv 1) (θ (bx υ (jv 0)) η bM))) (bx (jv 2) υ))))
   (ζ (Β 6 dY.nd (RJ E.BG (θ (Ρ (jv 5) υ) (θ (Ρ (jv 5) υ) η aU) aU)))
   (ζ (Β 7 dY.nd (QG E.BZ (θ (Ρ (jv 5) υ) (θ (Ρ (jv 5) υ) η aU) aU)))
   (ζ (dX (iq (jv 4) (θ (Ρ (jv 4) (jv 6)) η aU)))
   (ζ (jK (aI (cU hr (cT (Φ Ζ hr ξ (Η (jv 0) (θ υ η aK))) υ) υ) (μ (dX (iq (jv 4) (θ (bO (θ υ (θ υ η aK) aK)) η mT)))) (μ (dX (iq (jv 4) (θ (Ρ (jv 4) (jv 7)) η aU))))))
   (μ (Δ (jv 4)))))))))),λds M q x h=>?_⟩)
 ·have⟨ns,ν,rfl,_⟩:=h;rfl
 ·have⟨ns,ν,rfl,f2,f9,h⟩:=h;have⟨u1,u2,d1,d2⟩:=B8 ns;have wr:=oj ns ν;refine⟨ns,rfl,?_⟩;dsimp only[Fv];refine⟨(),by rw[dU];exact aaA (show _<=12 by omega) @_,?_⟩;rw[show((ν:Int)+1).toNat=ν+1 by omega];refine y8 (f:=aj) (λn p=>Red p/\val p=kV (eS ns) (eU ns) ν n) trivial (ν+1) 0 [] (λ_ h=>aaE h (abv _)) rfl (λi hi qq hq=>?_) λys hy hv=>?_
  ·exact⟨eS ns,eU ns,ν,i,rfl,u1,(),d1,(),(),f9,(),λp rp vp=>hq p ⟨rp,vp⟩⟩
  have hg:∀n,n<=ν->Red (ys.getD n (0,1))/\val (ys.getD n (0,1))=kV (eS ns) (eU ns) ν n:=λn hn=>by
   have:n < ys.length:=()
   rw[aab,aaa this];exact hv n this
  walk_at "vc";dsimp only[uF,AS];walk_at "vc";refine⟨(),@_,?_⟩;refine oE (f:=λx=>match x with| .int j=>.int (eG ns ν (32+j))| _=>.aJ) _ _ (λx Ul q' hq=>?_) ?_
  ·have⟨j,hj,rfl⟩:=jR Ul;have hj:j < 4:=hj;exact⟨ns,32+(2+(j:Int)),rfl,(),(),(),hq⟩
  have e4:([]:List Dt)++(cM 2 (6 - 2:Int).toNat).map (λx=>match x with| .int j=>.int (eG ns ν (32+j))| _=>.aJ)=[.int (eG ns ν 34),.int (eG ns ν 35),.int (eG ns ν 36),.int (eG ns ν 37)]:=rfl;rw[e4];have r0:=wr 34;have r1:=wr 35;have r2:=wr 36;have r3:=wr 37;have h:∀du:List Fr,du.length=ν+3->(∀n,n<=ν->Red (du.getD n (0,1))/\val (du.getD n (0,1))=kV (eS ns) (eU ns) ν n)->du.getD (ν+1) (0,1)=du.getD (if eG ns ν 34 < eG ns ν 35 then eG ns ν 35 else eG ns ν 34).toNat (0,1)->du.getD (ν+2) (0,1)=(if fX ns then (0,1) else du.getD (if eG ns ν 37 < eG ns ν 36 then eG ns ν 37 else eG ns ν 36).toNat (0,1))->q (.loc M.length) (M++[.lst (du.map aj)]):=λdu a b c d=>h du ⟨a,b,c,d⟩;generalize eG ns ν 34=a at *
  generalize eG ns ν 35=b at *
  generalize eG ns ν 36=c at *
  generalize eG ns ν 37=d at *
  obtain⟨L4,P6⟩:∃L,L=[Dt.int a,.int b,.int c,.int d]:=⟨_,rfl⟩;rw[<-P6];have x0:jf L4 0=some (.int a):=by rw[P6];exact cC
  have x1:jf L4 1=some (.int b):=by rw[P6];exact az (j:=1) rfl
  have x2:jf L4 2=some (.int c):=by rw[P6];exact az (j:=2) rfl
  have x3:jf L4 3=some (.int d):=by rw[P6];exact az (j:=3) rfl
  refine(Ε (d:=.lst L4) rfl x0 ?_:e_ (.lst L4) (.int 0) _ _);refine(Ε (d:=.lst L4) rfl x1 ?_:e_ (.lst L4) (.int 1) _ _);dsimp only[Kl];refine(Ε (d:=.lst L4) rfl x2 ?_:e_ (.lst L4) (.int 2) _ _);refine(Ε (d:=.lst L4) rfl x3 ?_:e_ (.lst L4) (.int 3) _ _);dsimp only[Jl];obtain⟨mx,Sm,mxl⟩:∃mx:Nat,(if b > a then b else a)=(mx:Int)/\mx<=ν:=⟨(if b > a then b else a).toNat,by split <;> omega,by split <;> omega⟩;obtain⟨mn,Su,mnl⟩:∃mn:Nat,(if d < c then d else c)=(mn:Int)/\mn<=ν:=⟨(if d < c then d else c).toNat,by split <;> omega,by split <;> omega⟩;have TU:(if a < b then b else a)=(mx:Int):=Sm;rw[TU,Su]at h;rw[Sm,Su];have at_:∀(zs:List Fr) (n:Nat),n < zs.length->jf (zs.map aj) (n:Int)=some (aj (zs.getD n (0,1))):=λzs n hn=>az (by rw[aak,aab,aaa hn];rfl);have yl:ys.length=ν+1:=()
  have Uj:(ys.map aj).length < sizeLine:=by rw[aag];exact aa7 (show _<=12 by omega) @_
  refine⟨⟨_,_,rfl,ao⟩,?_⟩;refine(Ε (d:=.loc M.length) (lN ao) (at_ ys mx ()) ?_:e_ (.loc M.length) (.int (mx:Int)) _ _);refine⟨M.length,_,_,rfl,rfl,ao,Uj,?_⟩;rw[bX];have e5:ys.map aj++[aj (ys.getD mx (0,1))]=(ys++[ys.getD mx (0,1)]).map aj:=by rw[aaV];rfl
  rw[e5];have g1:∀n,n<=ν->(ys++[ys.getD mx (0,1)]).getD n (0,1)=ys.getD n (0,1):=λn hn=>by rw[aab,aap (),<-aab]
  have g2:(ys++[ys.getD mx (0,1)]).getD (ν+1) (0,1)=ys.getD mx (0,1):=by rw[aab,aax (),show ν+1 - ys.length=0 by omega];rfl
  have l2:(ys++[ys.getD mx (0,1)]).length=ν+2:=by rw[aah];show ys.length+1=_;omega
  have g2:=g2.trans (g1 mx mxl).symm;have Y9:∀n,n<=ν->Red ((ys++[ys.getD mx (0,1)]).getD n (0,1))/\val ((ys++[ys.getD mx (0,1)]).getD n (0,1))=kV (eS ns) (eU ns) ν n:=λn hn=>by rw[g1 n hn];exact hg n hn
  generalize ys++[ys.getD mx (0,1)]=zs at *
  have Sk:(zs.map aj).length < sizeLine:=by rw[aag];exact aa7 (show _<=12 by omega) @_
  have done:∀v:Fr,v=(if fX ns then (0,1) else zs.getD mn (0,1))->q (.loc M.length) (M++[.lst ((zs++[v]).map aj)]):=λv hv=>by
   have k1:∀n,n<=ν+1->(zs++[v]).getD n (0,1)=zs.getD n (0,1):=λn hn=>by rw[aab,aap (),<-aab]
   have k2:(zs++[v]).getD (ν+2) (0,1)=v:=by rw[aab,aax (),show ν+2 - zs.length=0 by omega];rfl
   refine h (zs++[v]) (by rw[aah];show zs.length+1=_;omega) (λn hn=>by rw[k1 n ()];exact Y9 n hn) ?_ ?_
   ·rw[k1 _ (),aaL,k1 _ ()];exact g2
   ·rw[k2,aaL,k1 _ ()];exact hv
  refine⟨λρ M2=>ρ[4]? =some (some (.loc M.length))/\∃v:Fr,v=(if fX ns then (0,1) else zs.getD mn (0,1))/\M2=M++[.lst ((zs++[v]).map aj)],?_,?_⟩
  ·refine⟨ns,40,rfl,@_,@_,@_,?_⟩;show(decide (cb ns 40 % 2=1)=true->_)/\(decide (cb ns 40 % 2=1)=false->_);refine⟨λz=>?_,λz=>?_⟩
   ·have z:fX ns=true:=z;refine⟨⟨_,_,rfl,ao⟩,gV,M.length,_,_,rfl,rfl,ao,Sk,rfl,(0,1),by rw[z];rfl,?_⟩;rw[bX,aaV];rfl
   ·have z:fX ns=false:=z;refine⟨⟨_,_,rfl,ao⟩,?_⟩;refine(Ε (d:=.loc M.length) (lN ao) (at_ zs mn ()) ?_:e_ (.loc M.length) (.int (mn:Int)) _ _);refine⟨M.length,_,_,rfl,rfl,ao,Sk,rfl,zs.getD mn (0,1),by rw[z];rfl,?_⟩;rw[bX,aaV];rfl
  ·rintro ρ M2 ⟨h4,v,hv,rfl⟩;dsimp only[Om,lx];rw[h4];exact done v hv
def Ua(M:Ms)(d:Dt)(xs:List Dt):Prop:=d= .lst xs\/∃k,d= .loc k/\M[k]? =some (.lst xs)
def Ua.kind{d:Dt}{xs:List Dt}(h:Ua M d xs):Fz M d=some (.type "list"):=by
 rcases h with rfl| ⟨k,rfl,h⟩
 ·rfl
 ·show(match M[k]? with| some (.lst _)=>some (Value.type "list")| _=>none)=_;rw[h]
def Kx{k:Nat}{xs:List Dt}(h:M[k]? =some (MO.lst xs)):iC M (.loc k)=some (xs,λM':Ms=>M'[k]? =some (MO.lst xs)):=by show(match M[k]? with| some (MO.lst xs)=>some (xs,λM':Ms=>M'[k]? =some (MO.lst xs))| _=>none)=_;rw[h]
structure Nw(tb:List Fr)(n:Nat):Prop where
 len:tb.length=n
 red:∀i,i < n->Red (tb.getD i (0,1))
 unt:∀i,i < n->0<=(tb.getD i (0,1)).1/\(tb.getD i (0,1)).1<=(tb.getD i (0,1)).2
 sz:∀i,i < n->Sz 400 (tb.getD i (0,1))
def Nw.at{tb:List Fr}{n:Nat}(h:Nw tb n){t:Int}(h0:0<=t)(h1:t < n):jf (tb.map aj) t=some (aj (tb.getD t.toNat (0,1))):=by
 have hl:t.toNat < tb.length:=by rw[h.len];omega
 have e2:(tb.map aj)[t.toNat]? =some (aj (tb.getD t.toNat (0,1))):=by rw[aak,aab,aaa hl];rfl
 have:=az e2;rwa[show((t.toNat:Nat):Int)=t by omega]at this
def K8{p:Fr}{k:Bool->Ms->Prop}(h:k false M):JZ (aj p) (aj p) M (λd M1=>match d with| .bl b=>k b M1| _=>False):=by show k (!lK [.int p.1,.int p.2] [.int p.1,.int p.2]) M;rw[QA,aaB rfl];exact h
def Hr{f:aS->Rat}:∀{ds:List aS},(∀d∈ds,f d=0)->aG f ds=0
 | [],_=>rfl
 | d::ds,h=>by show f d+aG f ds=0;rw[h d List.mem_cons_self,Hr λx hx=>h x (List.mem_cons_of_mem _ hx)];grind
section
variable{S2:Sp}{a:Pl}{k:Str}
def gq.dk(fr:FR ε γ)(t:gq γ gs S S2 p a tb):oF γ (aE p a):=iL fr t.fp t.kp.fa
def gq.CV(t:gq γ gs S S2 p a tb):Lo γ S (aE p a):=t.pr a t.kp.fa
def gq.tk(fr:FR ε γ)(t:gq γ gs S S2 p a tb):Nw tb γ.length:=
 ⟨t.kp.ch.tab.len,t.kp.ch.tab.red,λi il=>let z:=t.kp.ch.sz fr (t.dk fr) t.dr t.CV il;⟨z.2.1,z.2.2.1⟩,λi il=>(t.kp.ch.sz fr (t.dk fr) t.dr t.CV il).2.2.2⟩
def gq.unit(fr:FR ε γ)(t:gq γ gs S S2 p a tb):∀i,i < γ.length->0<=V_ tb i/\V_ tb i<=1:=t.kp.ch.unit fr (t.dk fr) t.dr t.CV
def gq.tP(t:gq γ gs S S2 p a tb)(il:i < γ.length)(h:at_ S i=none):V_ tb i=0:=by rw[t.kp.ch.no il λ⟨s,e⟩=>by rw[h]at e;cases e];unfold ny;rw[h];exact kI
def gq.goal(t:gq γ gs S S2 p a tb)(il:i < γ.length)(h:at_ S i=some 0):V_ tb i=1:=by rw[t.kp.ch.no il λ⟨s,e⟩=>by rw[h]at e;cases e];unfold ny;rw[h];exact mJ
def gq.hand(fr:FR ε γ)(t:gq γ gs S S2 p a tb)(hi:γ[i]? =some (.Α k ds))(hh:Χ k=true):∃(j:Nat) (jl:j < ds.length),Τ (if k="one" then p else a) i=some (j:Int)/\(∀d∈ds,fb k * V_ tb d.1.toNat<=fb k * V_ tb ds[j].1.toNat)/\(pZ S i->V_ tb i=V_ tb ds[j].1.toNat):=by
 have il:=(aaf.mp hi).1;rcases qQ fr hi with rfl| rfl| rfl
 ·have⟨j,jl,gj,al⟩:=xC fr ai t.fp t.kp.ch.tab.red t.np hi;refine⟨j,jl,by rw[aaw rfl];exact gj,al,λst=>?_⟩;rw[t.kp.ch.st il st,cI fr hi ai (by rw[dR fr t.kp.fa hi];exact gj) jl st]
 ·have⟨j,jl,gj,al⟩:=xC fr aA t.kp.fa t.kp.ch.tab.red t.na hi;refine⟨j,jl,by rw[aay @_];exact gj,al,λst=>?_⟩;rw[t.kp.ch.st il st,cI fr hi aA (by rw[gF fr t.kp.fa hi];exact gj) jl st]
 ·exact aaE hh @_
def gq.Oo(fr:FR ε γ)(t:gq γ gs S S2 p a tb)(hi:γ[i]? =some (.Α "chance" ds)):V_ tb i=aG (λd=>cV d * V_ tb d.1.toNat) ds:=by
 have il:=(aaf.mp hi).1;have NF:=cY fr.pl (aal hi);by_cases st:pZ S i
 ·rw[t.kp.ch.st il st,iU st,bY hi];unfold ef;rw[gy fr t.fp t.kp.fa hi];rfl
 ·have hn:at_ S i=none:=by
   have:=t.dr.2 i _ hi;have this:iG "chance" (aN S ds) (at_ S i):=this;unfold iG at this;rw[aay @_]at this;rcases this with ⟨z,_⟩| ⟨v,z,_⟩
   ·exact z
   ·exact aaE ⟨v,z⟩ st
  rw[t.tP il hn,Hr λd hd=>?_];have:=iB t.dr hi @_ hn d hd;rw[t.tP (by have:=NF.to d hd;omega) this];grind
def gq.best(fr:FR ε γ)(t:gq γ gs S S2 p a tb)(hi:γ[i]? =some (.Α k ds))(hh:Χ k=true):tb.getD i (0,1)=b9 k (aB tb ds):=by
 have il:=(aaf.mp hi).1;have NF:=cY fr.pl (aal hi);have tn:∀d∈ds,d.1.toNat < γ.length:=λd hd=>by have:=NF.to d hd;omega
 have⟨j,jl,_,al,es⟩:=t.hand fr hi hh;have red:=t.kp.ch.tab.red
 have⟨bm,bb⟩:=pU (k:=k) (ns:=aB tb ds) (λz=>by
  have:=aaU List.length z;unfold aB at this;rw[aag]at this;have l1:=NF.l1;rw[this]at l1
  exact aaE l1 @_) λn hn=>by have⟨d,hd,rfl⟩:=aan.mp hn;exact(red _ (tn d hd)).pos
 have⟨d,hd,eb⟩:=aan.mp bm;have eb:tb.getD d.1.toNat (0,1)=b9 k (aB tb ds):=eb;rw[<-eb];refine eR (red i il) (red _ (tn d hd)) ?_;have e1:V_ tb d.1.toNat=V_ tb ds[j].1.toNat:=by
  have x:=al d hd;have y:=bb _ (aan.mpr ⟨ds[j],aaq jl,rfl⟩);rw[<-eb]at y;have y:fb k * V_ tb ds[j].1.toNat<=fb k * V_ tb d.1.toNat:=y;have:fb k * V_ tb d.1.toNat=fb k * V_ tb ds[j].1.toNat:=by grind
  unfold fb at this;split at this <;> grind
 show V_ tb i=V_ tb d.1.toNat;by_cases st:pZ S i
 ·rw[es st,e1]
 ·have ji:=t.dr.2 i _ hi;have ji:iG k (aN S ds) (at_ S i):=ji;have hn:at_ S i=none:=by
   unfold iG at ji;split at ji
   ·rcases ji with ⟨z,_⟩| ⟨v,z,_⟩
    ·exact z
    ·exact aaE ⟨v,z⟩ st
   ·rcases ji with ⟨z,_⟩| ⟨v,z,_⟩
    ·exact z
    ·exact aaE ⟨v,z⟩ st
  rw[t.tP il hn];by_cases hk:k="other"
  ·unfold iG at ji;rw[aaw hk]at ji;rcases ji with ⟨_,z⟩| ⟨v,z,_⟩
   ·have⟨d2,hd2,UG⟩:=af.mp z;have z2:=t.tP (tn d2 hd2) UG;have:=al d2 hd2;rw[z2,<-e1,hk,si]at this;have:=(t.unit fr _ (tn d hd)).1;grind
   ·exact aaE ⟨v,z⟩ st
  ·exact(t.tP (tn d hd) (iB t.dr hi hk hn d hd)).symm
def gq.fin(t:gq γ gs S S2 p a tb){e:Fr}(hi:γ[i]? =some (.fin e)):tb.getD i (0,1)=if i∈gs then (1,1) else (0,1):=by
 have il:=(aaf.mp hi).1;have:=t.dr.2 i _ hi;have this:at_ S i=if i∈gs then some 0 else none:=this
 have red:=t.kp.ch.tab.red i il;split at this
 ·rename_i c;rw[aaw c];exact eR red ⟨@_,@_⟩ (by rw[mJ];exact t.goal il this)
 ·rename_i c;rw[aay c];exact eR red ⟨@_,@_⟩ (by rw[kI];exact t.tP il this)
end
def Rq(size:Int)(r:Rw):Prop:=wy size r/\∀k ds,r= .Α k ds->Χ k=true->∀d∈ds,d.2.2=[]
def pd.good{a:Nat}{r:Rw}(h:pd ns ν a r)(f2:2<=ν)(al:a<=ν+2):Rq ((ν:Int)+3) r:=by
 have pr:∀b,0<=bN ns ν b/\bN ns ν b < (ν:Int)+3:=λb=>Ax ns () b;have fd:∀b (p:Fr),aD p=true->aR (bN ns ν b) p ((ν:Int)+3)=true:=λb p hp=>by unfold aR;rw[aaB (pr b).1,aaB (pr b).2,hp];rfl
 have hand:∀(k:Str) (ds:List aS) (c w0 w1:Int) (sf:Bool),Χ k=true->JN ns ν c w0 w1 sf ds->Rq ((ν:Int)+3) (.Α k ds):=λk ds c w0 w1 sf hk hd=>by
  refine⟨Jb hk hd.l1 (by have:=hd.l3;omega) (λd hm=>?_) (λd hm=>⟨(hd.all d hm).1.1,(hd.all d hm).1.2.2⟩),λk' Kr e _ d hm=>?_⟩
  ·have⟨⟨_,fp,_⟩,hp⟩:=hd.all d hm;rcases hp with e| e| ⟨_,e⟩ <;> rw[e] <;> exact fd _ _ fp
  ·have⟨_,e2⟩:=Rw.Α.inj e;rw[<-e2]at hm;exact(hd.all d hm).1.1
 have⟨u1,u2,d1,d2⟩:=B8 ns;by_cases c1:a=0\/a=ν
 ·have⟨p,rfl,fp,pp⟩:=h.fin c1;exact⟨⟨pp,fp⟩,λ_ _ z=>(nomatch z)⟩
 ·by_cases c2:a < ν
  ·have⟨ds,pA,pB,rfl,⟨fA,a0⟩,⟨fB,b0⟩,hd⟩:=h.W6 () c2;have cA:=qj (ws:=[eS ns,eU ns]) (S:=eS ns+eU ns) (by simp) (λw hw=>by simp at hw;omega) (by simp) () (by show 2<=12;decide);have cB:=qj (ws:=[eU ns,eS ns]) (S:=eS ns+eU ns) (by simp;omega) (λw hw=>by simp at hw;omega) (by simp) () (by show 2<=12;decide);refine⟨?_,λk' Kr e hk d hm=>?_⟩
   ·rcases hd with rfl| rfl
    ·exact uA (by show 1<=2;decide) (by show 2<=6;decide) (λd hm=>by
      rcases aav.mp hm with e| e
      ·rw[e];exact fd _ _ fA
      ·rw[aaG.mp e];exact fd _ _ fB) (λd hm=>by
      rcases aav.mp hm with e| e
      ·rw[e];rfl
      ·rw[aaG.mp e];rfl) cA.1 cA.2 (λd hm=>by
      rcases aav.mp hm with e| e
      ·rw[e];exact a0
      ·rw[aaG.mp e];exact b0)
    ·exact uA (by show 1<=2;decide) (by show 2<=6;decide) (λd hm=>by
      rcases aav.mp hm with e| e
      ·rw[e];exact fd _ _ fB
      ·rw[aaG.mp e];exact fd _ _ fA) (λd hm=>by
      rcases aav.mp hm with e| e
      ·rw[e];rfl
      ·rw[aaG.mp e];rfl) cB.1 cB.2 (λd hm=>by
      rcases aav.mp hm with e| e
      ·rw[e];exact b0
      ·rw[aaG.mp e];exact a0)
   ·have⟨e1,_⟩:=Rw.Α.inj e;rw[<-e1]at hk;exact aaE hk @_
  ·by_cases c3:a=ν+1
   ·have⟨ds,rfl,hd⟩:=h.one c3;exact hand _ _ _ _ _ _ ai hd
   ·have⟨ds,rfl,hd⟩:=h.zB ();exact hand _ _ _ _ _ _ aA hd
def Nx{d:Int}{W:Nat->Rat}(u0:0 < u)(d0:0 < d)(f1:1<=ν)(w0:W 0=0)(wf:W ν=1)(h:∀k,0 < k->k < ν->((u+d:Int):Rat) * W k=(u:Rat) * W (k+1)+(d:Rat) * W (k - 1)):∀k,k<=ν->W k=kV u d ν k:=by
 have ep:∀(b:Int) n,((b ^ (n+1):Int):Rat)=((b ^ n:Int):Rat) * (b:Rat):=λb n=>by rw[abl,aaQ]
 have e1:∀k,k < ν->((u ^ k:Int):Rat) * (W (k+1) - W k)=((d ^ k:Int):Rat) * (W 1 - W 0):=λk=>by
  induction k with
  | zero=>intro _;rw[abV,abV]
  | succ k ih=>
   intro hk;have i:=ih ();have r:=h (k+1) () hk;rw[Nat.add_sub_cancel,Rat.intCast_add]at r;rw[ep,ep];generalize ((u ^ k:Int):Rat)=x at *
   generalize ((d ^ k:Int):Rat)=y at *
   generalize (u:Rat)=p at *
   generalize (d:Rat)=q at *
   generalize W (k+1+1)=w2 at *
   generalize W (k+1)=w1 at *
   generalize W k=wk at *
   generalize W 1 - W 0=e at *
   have:p * (w2 - w1)=q * (w1 - wk):=by grind
   grind
 have e2:∀k,k<=ν->((u ^ (ν - 1):Int):Rat) * W k=(gK u d ν k:Rat) * (W 1 - W 0):=λk=>by
  induction k with
  | zero=>intro _;rw[w0];show _=((0:Int):Rat) * _;grind
  | succ k ih=>
   intro hk;have i:=ih ();have r:=e1 k ();have es:((u ^ (ν - 1):Int):Rat)=((u ^ (ν - 1 - k):Int):Rat) * ((u ^ k:Int):Rat):=by rw[<-aaQ,<-Int.pow_add,show ν - 1 - k+k=ν - 1 by omega]
   have eg:(gK u d ν (k+1):Rat)=(gK u d ν k:Rat)+((u ^ (ν - 1 - k):Int):Rat) * ((d ^ k:Int):Rat):=by show((gK u d ν k+u ^ (ν - 1 - k) * d ^ k:Int):Rat)=_;rw[Rat.intCast_add,aaQ]
   rw[eg];rw[es]at i⊢;generalize ((u ^ k:Int):Rat)=x at *
   generalize ((d ^ k:Int):Rat)=y at *
   generalize ((u ^ (ν - 1 - k):Int):Rat)=z at *
   generalize W (k+1)=w1 at *
   generalize W k=wk at *
   generalize W 1 - W 0=e at *
   generalize (gK u d ν k:Rat)=g at *
   clear e1 es eg h;have:z * (x * (w1 - wk))=z * (y * e):=by rw[r]
   grind
 intro k hk;have a:=e2 k hk;have b:=e2 ν (aai _);rw[wf]at b;have gp:=aT (show gK u d ν ν≠0 by have:=Ap u0 d0 (ν:=ν) (n:=ν) ();omega);have pz:=aT (show u ^ (ν - 1)≠0 by have:=qO u0 (ν - 1);omega);unfold kV;generalize ((u ^ (ν - 1):Int):Rat)=x at *
 generalize W k=wk at *
 generalize (gK u d ν k:Rat)=g at *
 generalize (gK u d ν ν:Rat)=gf at *
 generalize W 1 - W 0=e at *
 clear e1 e2 h;have:x * (wk * gf)=x * g:=by grind
 have:wk * gf=g:=by
  have z:x * (wk * gf - g)=0:=by grind
  rcases Rat.mul_eq_zero.mp z with y| y
  ·exact aaE y pz
  ·grind
 grind
def K1{d:Int}(u0:0 < u)(d0:0 < d){a b:Nat}(f1:1<=ν)(h:a<=b):kV u d ν a<=kV u d ν b:=by have g:=BR u0 d0 (ν:=ν) h;have gp:=Ap u0 d0 (ν:=ν) (n:=ν) ();have q:(gK u d ν a:Rat)<=(gK u d ν b:Rat):=Rat.intCast_le_intCast.mpr g;have p:(0:Rat) < (gK u d ν ν:Rat):=abh.mpr gp;unfold kV;rw[Rat.div_def,Rat.div_def];exact Rat.mul_le_mul_of_nonneg_right q (Rat.le_of_lt (Rat.inv_pos.mpr p))
section
variable{S2:Sp}{a:Pl}
def gq.known(fr:FR ε γ)(hl:γ.length=ν+3)(f2:2<=ν)(Bb:∀b:Nat,b < ν+3->∃r,γ[(bN ns ν (b:Int)).toNat]? =some r/\pd ns ν b r)(t:gq γ [(bN ns ν (ν:Int)).toNat] S S2 p a tb){du:List Fr}(hd:LF ns ν du):∀b:Nat,b < ν+3->tb.getD (bN ns ν (b:Int)).toNat (0,1)=du.getD b (0,1):=by
 have⟨u1,u2,d1,d2⟩:=B8 ns;have pr:∀b,0<=bN ns ν b/\bN ns ν b < (ν:Int)+3:=λb=>Ax ns () b;have pn:∀b:Int,(bN ns ν b).toNat < γ.length:=λb=>by have:=pr b;omega
 have pi:∀b c:Int,0<=b->b < ν+3->0<=c->c < ν+3->(bN ns ν b).toNat=(bN ns ν c).toNat->b=c:=λb c b0 b1 c0 c1 e=>Gk (ns:=ns) () b0 b1 c0 c1 (by have:=pr b;have:=pr c;show bN ns ν b=bN ns ν c;omega);have w0:V_ tb (bN ns ν ((0:Nat):Int)).toNat=0:=by
  have⟨r,hr,hi⟩:=Bb 0 ();have⟨q,rfl,_⟩:=hi.fin (.inl rfl);unfold V_;rw[t.fin hr,aay λz=>?_]
  ·exact kI
  ·have:=pi _ _ () () () () (aaG.mp z);omega
 have wf:V_ tb (bN ns ν (ν:Int)).toNat=1:=by have⟨r,hr,hi⟩:=Bb ν ();have⟨q,rfl,_⟩:=hi.fin (.inr rfl);unfold V_;rw[t.fin hr,aaw (aaG.mpr rfl)];exact mJ
 have vf:∀x:Int,val (ak x (eS ns+eU ns))=(x:Rat) / ((eS ns+eU ns:Int):Rat):=λx=>ig ();have sz:=aT (show eS ns+eU ns≠0 by omega);have hw:=Nx (u:=eS ns) (d:=eU ns) (ν:=ν) (W:=λk=>V_ tb (bN ns ν ((k:Nat):Int)).toNat) () () () w0 wf λk k0 kf=>by
  have⟨r,hr,hi⟩:=Bb k ();have⟨ds,pA,pB,rfl,_,_,he⟩:=hi.W6 k0 kf;have c:=t.Oo fr hr;show((eS ns+eU ns:Int):Rat) * V_ tb (bN ns ν (k:Int)).toNat=(eS ns:Rat) * V_ tb (bN ns ν ((k+1:Nat):Int)).toNat+(eU ns:Rat) * V_ tb (bN ns ν ((k - 1:Nat):Int)).toNat;rw[c,show((k+1:Nat):Int)=(k:Int)+1 by omega,show((k - 1:Nat):Int)=(k:Int) - 1 by omega];rcases he with rfl| rfl
  ·show _ * (val (ak (eS ns) (eS ns+eU ns)) * V_ tb (bN ns ν ((k:Int)+1)).toNat+(val (ak (eU ns) (eS ns+eU ns)) * V_ tb (bN ns ν ((k:Int) - 1)).toNat+0))=_;rw[vf,vf];generalize V_ tb (bN ns ν ((k:Int)+1)).toNat=x at *
   generalize V_ tb (bN ns ν ((k:Int) - 1)).toNat=y at *
   generalize ((eS ns+eU ns:Int):Rat)=s at *
   generalize (eS ns:Rat)=uu at *
   generalize (eU ns:Rat)=dd at *
   clear c hr hi w0 wf vf pi pr pn hd Bb;grind
  ·show _ * (val (ak (eU ns) (eS ns+eU ns)) * V_ tb (bN ns ν ((k:Int) - 1)).toNat+(val (ak (eS ns) (eS ns+eU ns)) * V_ tb (bN ns ν ((k:Int)+1)).toNat+0))=_;rw[vf,vf];generalize V_ tb (bN ns ν ((k:Int)+1)).toNat=x at *
   generalize V_ tb (bN ns ν ((k:Int) - 1)).toNat=y at *
   generalize ((eS ns+eU ns:Int):Rat)=s at *
   generalize (eS ns:Rat)=uu at *
   generalize (eU ns:Rat)=dd at *
   clear c hr hi w0 wf vf pi pr pn hd Bb;grind
 have hw:∀k:Nat,k<=ν->V_ tb (bN ns ν (k:Int)).toNat=kV (eS ns) (eU ns) ν k:=hw;have red:=t.kp.ch.tab.red;have kn:∀k:Nat,k<=ν->tb.getD (bN ns ν (k:Int)).toNat (0,1)=du.getD k (0,1):=λk hk=>eR (red _ (pn _)) (hd.kn k hk).1 (by rw[(hd.kn k hk).2];exact hw k hk);have mono:∀x y:Nat,x<=y->y<=ν->V_ tb (bN ns ν (x:Int)).toNat<=V_ tb (bN ns ν (y:Int)).toNat:=λx y h h'=>by rw[hw x (),hw y h'];exact K1 () () () h
 have unit:=t.unit fr;intro b bl;by_cases c1:b<=ν
 ·exact kn b c1
 ·by_cases c2:b=ν+1
  ·subst c2;rw[hd.one];have r0:=oj ns ν 34;have r1:=oj ns ν 35;have⟨r,hr,hi⟩:=Bb (ν+1) ();have⟨ds,rfl,hn⟩:=hi.one rfl;have hn:JN ns ν ((ν+1:Nat):Int) (eG ns ν 34) (eG ns ν 35) true ds:=by rw[show((ν+1:Nat):Int)=(ν:Int)+1 by omega];exact hn
   generalize eG ns ν 34=x at *
   generalize eG ns ν 35=y at *
   obtain⟨x,rfl⟩:∃n:Nat,x=(n:Int):=⟨x.toNat,()⟩;obtain⟨y,rfl⟩:∃n:Nat,y=(n:Int):=⟨y.toNat,()⟩;obtain⟨mx,Sm,Yj,Yt,V8⟩:∃mx:Nat,(if (x:Int) < (y:Int) then (y:Int) else (x:Int))=(mx:Int)/\x<=mx/\y<=mx/\(mx=x\/mx=y):=by
    by_cases c:(x:Int) < y
    ·exact⟨y,by rw[aaw c],(),(),.inr rfl⟩
    ·exact⟨x,by rw[aay c],(),(),.inl rfl⟩
   rw[Sm,aaL,<-kn mx ()];refine eR (red _ (pn _)) (red _ (pn _)) ?_;show V_ tb (bN ns ν ((ν+1:Nat):Int)).toNat=V_ tb (bN ns ν (mx:Int)).toNat;have XC:=mono x mx Yj ();have W8:=mono y mx Yt ();have⟨da,Sr,SF⟩:=hn.e0;have⟨db,ub,S7⟩:=hn.e1;have⟨j,jl,gj,al,es⟩:=t.hand fr hr ai;rw[aaw rfl]at gj;have il:=(aaf.mp hr).1;by_cases st:pZ S (bN ns ν ((ν+1:Nat):Int)).toNat
   ·have ev:=es st;have a1:=al da Sr;have a2:=al db ub;rw[kQ,SF]at a1;rw[kQ,S7]at a2;have Jd:ds[j].1.toNat≠(bN ns ν ((ν+1:Nat):Int)).toNat:=λz=>by refine t.CV (λi=>i=(bN ns ν ((ν+1:Nat):Int)).toNat) (λi _ Er=>?_) _ il rfl;rw[Er];refine⟨st,λd zD=>?_⟩;rw[iU st,bY hr,iu fr hr ai (by rw[dR fr t.kp.fa hr];exact gj) jl]at zD;rw[aaG.mp zD];exact z
    rw[ev];rw[<-ev]at a1 a2;rcases(hn.all _ (aaq jl)).2 with z| z| ⟨_,z⟩
    ·rw[z];rw[ev,z]at a1 a2;rcases V8 with e| e
     ·rw[e]
     ·rw[e]at XC W8⊢;grind
    ·rw[z];rw[ev,z]at a1 a2;rcases V8 with e| e
     ·rw[e]at XC W8⊢;grind
     ·rw[e]
    ·exact aaE (by rw[z]) Jd
   ·have ji:=t.dr.2 _ _ hr;have ji:iG "one" (aN S ds) (at_ S (bN ns ν ((ν+1:Nat):Int)).toNat):=ji;have NK:at_ S (bN ns ν ((ν+1:Nat):Int)).toNat=none:=by
     unfold iG at ji;rw[aay @_]at ji;rcases ji with ⟨z,_⟩| ⟨v,z,_⟩
     ·exact z
     ·exact aaE ⟨v,z⟩ st
    have n1:=iB t.dr hr @_ NK da Sr;have n2:=iB t.dr hr @_ NK db ub;rw[SF]at n1;rw[S7]at n2;rw[t.tP (pn _) NK];rcases V8 with e| e
    ·rw[e];exact(t.tP (pn _) n1).symm
    ·rw[e];exact(t.tP (pn _) n2).symm
  ·have c3:b=ν+2:=()
   subst c3;rw[hd.zB];have r0:=oj ns ν 36;have r1:=oj ns ν 37;have⟨r,hr,hi⟩:=Bb (ν+2) ();have⟨ds,rfl,hn⟩:=hi.zB rfl;have hn:JN ns ν ((ν+2:Nat):Int) (eG ns ν 36) (eG ns ν 37) (fX ns) ds:=by rw[show((ν+2:Nat):Int)=(ν:Int)+2 by omega];exact hn
   generalize eG ns ν 36=x at *
   generalize eG ns ν 37=y at *
   obtain⟨x,rfl⟩:∃n:Nat,x=(n:Int):=⟨x.toNat,()⟩;obtain⟨y,rfl⟩:∃n:Nat,y=(n:Int):=⟨y.toNat,()⟩;have ji:=t.dr.2 _ _ hr;have ji:iG "other" (aN S ds) (at_ S (bN ns ν ((ν+2:Nat):Int)).toNat):=ji;unfold iG at ji;rw[aaw rfl]at ji;by_cases ho:fX ns=true
   ·rw[aaw ho];have NK:at_ S (bN ns ν ((ν+2:Nat):Int)).toNat=none:=by
     rcases ji with ⟨z,_⟩| ⟨v,z,_,al⟩
     ·exact z
     ·have⟨d,zD,ed⟩:=hn.es ho;have⟨u,eu,lu⟩:=al _ (af.mpr ⟨d,zD,rfl⟩);rw[ed,z]at eu;have:=aao eu;omega
    exact eR (red _ (pn _)) ⟨@_,@_⟩ (by rw[kI];exact t.tP (pn _) NK)
   ·rw[aay ho];obtain⟨mn,Su,mnx,mny,XJ⟩:∃mn:Nat,(if (y:Int) < (x:Int) then (y:Int) else (x:Int))=(mn:Int)/\mn<=x/\mn<=y/\(mn=x\/mn=y):=by
     by_cases c:(y:Int) < x
     ·exact⟨y,by rw[aaw c],(),(),.inr rfl⟩
     ·exact⟨x,by rw[aay c],(),(),.inl rfl⟩
    rw[Su,aaL,<-kn mn ()];refine eR (red _ (pn _)) (red _ (pn _)) ?_;show V_ tb (bN ns ν ((ν+2:Nat):Int)).toNat=V_ tb (bN ns ν (mn:Int)).toNat;have XY:=mono mn x mnx ();have XZ:=mono mn y mny ();have⟨da,Sr,SF⟩:=hn.e0;have⟨db,ub,S7⟩:=hn.e1;have NF:=cY fr.pl (aal hr);have tn:∀d∈ds,d.1.toNat < γ.length:=λd zD=>by have:=NF.to d zD;omega
    have⟨bm,bb⟩:=pU (k:="other") (ns:=aB tb ds) (λz=>by
     have:=aaU List.length z;unfold aB at this;rw[aag]at this;have l1:=hn.l1;rw[this]at l1
     exact aaE l1 @_) λn Mo=>by have⟨d,zD,rfl⟩:=aan.mp Mo;exact(red _ (tn d zD)).pos
    rw[<-t.best fr hr aA]at bm bb;have b1:=bb _ (aan.mpr ⟨da,Sr,rfl⟩);have b2:=bb _ (aan.mpr ⟨db,ub,rfl⟩);rw[si,SF]at b1;rw[si,S7]at b2;have b1: -1 * V_ tb (bN ns ν (x:Int)).toNat<= -1 * V_ tb (bN ns ν ((ν+2:Nat):Int)).toNat:=b1;have b2: -1 * V_ tb (bN ns ν (y:Int)).toNat<= -1 * V_ tb (bN ns ν ((ν+2:Nat):Int)).toNat:=b2;have⟨d,zD,ed⟩:=aan.mp bm;have ed:V_ tb d.1.toNat=V_ tb (bN ns ν ((ν+2:Nat):Int)).toNat:=aaU val ed;rw[<-ed]at b1 b2⊢;rcases(hn.all d zD).2 with z| z| ⟨z,_⟩
    ·rw[z]at b1 b2⊢;rcases XJ with e| e
     ·rw[e]
     ·rw[e]at XY XZ⊢;grind
    ·rw[z]at b1 b2⊢;rcases XJ with e| e
     ·rw[e]at XY XZ⊢;grind
     ·rw[e]
    ·exact aaE z ho
end
def ya{M:Ms}:∀rs:List Rw,Paired (iY M) (rs.map aX) rs
 | []=>.nil
 | r::rs=>.cons (vC _ r) (ya rs)
def GF{q:DQ}{A:Addr}(h:q (ah A ε γ) M):u9 M q (.loc M.length) ((M++[MO.ins A [] []]).set M.length (.ins A ["kept_share","kept_rows"] [aj ε,.lst (γ.map aX)])):=by rw[bX];exact gX (d':=ah A ε γ) (.Qa (Nat.le_refl _) (by simp) (.cons (.old (jJ ε)) (.cons (.old (qk γ)) .nil))) h
def FR.of(hs:h_ ε=true)(n1:1<=γ.length)(DO:γ.length<=12)(hg:∀r∈γ,Rq γ.length r):FR ε γ:=⟨⟨hs,DO,λr hr=>(hg r hr).1⟩,n1,λk ds hm hh d hd=>(hg _ hm).2 k ds rfl hh d hd⟩
def HF{n:Nat}:∀tb:List Fr,Dt.bo n (tb.map aj)
 | []=>trivial
 | t::tb=>⟨jJ t,HF tb⟩
def kF:Γ ["_law_script","_law_far","_law_size","_law_rows","_law_at","_law_found","_law_due_here","_law_one"] ["_law_script"] (τ NM):=.of rfl
def N6(F:cQ K "law" "law" NM f fd)(E:Ev K mg Cm)(Ζ:aC P w K mg base 1 "_law_number" ["_law_script","_law_k"] rL bq bj){oO:Addr}{oo:FuncData}(b8:aC P w K mg base 2 "_law_place" ["_law_script","_law_size","_law_at"] rX oO oo){IW:Addr}{I_:FuncData}(qX:aC P w K mg base 5 "_law_row" ["_law_script","_law_far","_law_at"] HU IW I_){Ha:Addr}{HB:FuncData}(oB:aC P w K mg base 9 "chances" ["floor","goals"] (rA Cm) Ha HB){lO:Addr}{lW:FuncData}(dG:JG P w K mg base 5 "Floor" Cm ["self","share","rows"] (He Cm) lO lW){Jn:Addr}{Kv:FuncData}(sD:aC P w K mg base 5 "_law_due" ["_law_script","_law_far"] EU Jn Kv):av P w K mg base (ck P w) 11 f fd ["_law_script"] (cP K Nv):=by
 refine F.eB kF (λds M q x h=>?_) (λbw A outer s H E' hr=>⟨_,(ζ (Β 1 kF.nd (bx υ (cT (Φ Ζ hr ξ (Η (jv 0) (θ υ η aK))) υ)))
   (ζ (Β 2 kF.nd (bx (jv 1) υ))
   (ζ (fc (i:=3) kF.nd rfl (Or.inl rfl) (ys:=[]) (Μ:=[]) (.of kF rfl rfl rfl) (oY (cq E.bP (Η (jv 2) η))) (λC s H fp=>(gM 3 (d:=.tup [.str "end",.tup [.int 0,.int 1]]) (by rfl))))
   (ζ (rG (cq E.bP (Η (jv 2) η)) (ay (i:=4) kF.nd rfl (Or.inl rfl)) aM (μ (ik (jv 3) (Φ b8 hr ξ (Η (jv 0) (Η (jv 2) (Η (jv 4) η)))) (cX (Φ qX hr ξ (Η (jv 0) (Η (jv 1) (Η (jv 4) η))))))))
   (ζ (Β 5 kF.nd (Φ oB hr ξ (θ (cX (GU dG hr ξ (θ (bO (θ υ (θ υ η aK) aK)) (Η (jv 3) η) mT))) (θ (ng (θ (Φ b8 hr ξ (Η (jv 0) (Η (jv 2) (Η (jv 1) η)))) η cf)) η) cf)))
   (ζ (Β 6 kF.nd (cX (Φ sD hr ξ (Η (jv 0) (Η (jv 1) η)))))
   (ζ (aI (JW.jt (jC (sA (fY (AW K E.cK (Η (jv 5) (Η (Ni E.nc pD) η))))) (jC (sA (fY (AW K E.cK (θ (Ρ (jv 5) υ) (Η (Ni E.oQ qf) η) aU)))) (iF (pj hr (fJ E.dz (θ (Ρ (jv 5) υ) η aU)) (jv 2)))))) (μ (Δ Km)) Ξ)
   (ζ (rG (cq E.bP (Η (jv 2) η)) (ay (i:=4) kF.nd rfl (Or.inl rfl)) aM (ζ (Β 7 kF.nd (Ρ (Ρ (jv 5) υ) (Φ b8 hr ξ (Η (jv 0) (Η (jv 2) (Η (jv 4) η))))))
   (μ (aI (JW.jt (jC (sA (fY (AW K E.cK (Η (jv 7) (Η (Ni E.nc pD) η))))) (iF (pj hr (jv 7) (Ρ (jv 6) (jv 4)))))) (μ (Δ Km)) Ξ))))
   (μ (Δ Km)))))))))),λds M q x h=>?_⟩)
 ·have⟨ns,rfl,_⟩:=h;rfl
 ·have⟨ns,rfl,hl,hq⟩:=h;refine⟨ns,0,rfl,@_,@_,@_,?_⟩;obtain⟨ν,hf,f2,f9⟩:∃ν:Nat,2+cb ns 0 % 8=(ν:Int)/\2<=ν/\ν<=9:=⟨(2+cb ns 0 % 8).toNat,(),(),()⟩;dsimp only[JM];rw[hf];have pr:∀b,0<=bN ns ν b/\bN ns ν b < (ν:Int)+3:=λb=>Ax ns () b;have pi:∀b c:Int,0<=b->b < ν+3->0<=c->c < ν+3->(bN ns ν b).toNat=(bN ns ν c).toNat->b=c:=λb c b0 b1 c0 c1 e=>Gk (ns:=ns) () b0 b1 c0 c1 (by have:=pr b;have:=pr c;show bN ns ν b=bN ns ν c;omega);have sl:∀{z:Nat},z<=1000->z<=sizeLine:=λh=>aaA h @_;walk_at "vc";refine⟨(),by rw[dU];exact sl (),?_⟩;refine dw (f:=λ_=>aX (.fin (0,1))) trivial (λx hx q' mj=>mj) ?_;have e0:([]:List Dt)++(cM 0 ((ν:Int)+3).toNat).map (λ_=>aX (.fin (0,1)))=(List.replicate (ν+3) (Rw.fin (0,1))).map aX:=by rw[aaS,List.map_replicate,List.map_const',dU,show((ν:Int)+3).toNat=ν+3 by omega]
  rw[e0];have g0:∀r∈List.replicate (ν+3) (Rw.fin (0,1)),Rq ((ν:Int)+3) r:=λr hr=>by rw[List.eq_of_mem_replicate hr];exact⟨⟨by show(0:Int) < 1;decide,(by show aD (0,1)=true;decide)⟩,λ_ _ z=>(nomatch z)⟩
  have l0:(List.replicate (ν+3) (Rw.fin (0,1))).length=ν+3:=aaX;generalize List.replicate (ν+3) (Rw.fin (0,1))=rs0 at *
  refine⟨(),?_⟩;rw[show((ν:Int)+3).toNat=ν+3 by omega];refine ix (λzs ρ M2=>∃(n k:Nat) (rs:List Rw) (o4:Option Dt),zs=cM k n/\k+n=ν+3/\rs.length=ν+3/\(∀r∈rs,Rq ((ν:Int)+3) r)/\(∀b:Nat,b < k->∃r,rs[(bN ns ν (b:Int)).toNat]? =some r/\pd ns ν b r)/\M2=M++[MO.lst (rs.map aX)]/\ρ=[some (.hW ns),some (.int (ν:Int)),some (.int ((ν:Int)+3)),some (.loc M.length),o4,none,none,none]) (λx zs ρ M2 hj iE=>?_) (λρ M2 hj=>?_) _ _ _ ⟨ν+3,0,rs0,none,by simp,(),l0,g0,λb z=>absurd z (Nat.not_lt_zero _),rfl,rfl⟩
  ·have⟨n,k,rs,o4,ex,VE,rl,rg,hb,rfl,rfl⟩:=hj;have⟨m,rfl,rfl,rfl⟩:=iz ex;dsimp only[qo];walk_at "vc";refine⟨ns,ν,k,rfl,f2,f9,(),λr d E ri fz=>gX fz ?_⟩;refine⟨ns,(ν:Int)+3,(k:Int),rfl,(),(),?_⟩;have pk:=pr (k:Int);have pl:(bN ns ν (k:Int)).toNat < rs.length:=()
   refine⟨M.length,bN ns ν (k:Int),rs.map aX,(bN ns ν (k:Int)).toNat,rfl,rfl,ao,by
    rw[aag];have:=nO pl
    rwa[show(((bN ns ν (k:Int)).toNat:Nat):Int)=bN ns ν (k:Int) by omega]at this,?_⟩
   rw[bX,<-List.map_set];refine iE _ _ ⟨m,k+1,rs.set (bN ns ν (k:Int)).toNat r,_,by simp,(),by rw[List.length_set];exact rl,λr' p9=>?_,λb hbk=>?_,rfl,rfl⟩
   ·rcases List.mem_or_eq_of_mem_set p9 with z| z
    ·exact rg r' z
    ·rw[z];exact ri.good f2 ()
   ·by_cases c:b=k
    ·subst c;exact⟨r,by rw[aa0 pl],ri⟩
    ·have⟨r',h1,h2⟩:=hb b ();exact⟨r',by rw[abb λz=>c (by have:=pi _ _ () () () () z;omega)];exact h1,h2⟩
  ·have⟨n,k,rs,o4,ex,VE,rl,rg,hb,rfl,rfl⟩:=hj;have hn:n=0:=by have:=aaU List.length ex;rw[dU]at this;exact this.symm
   have hb:∀b:Nat,b < ν+3->∃r,rs[(bN ns ν (b:Int)).toNat]? =some r/\pd ns ν b r:=λb hb'=>hb b ();have fr:FR (0,1) rs:=.of @_ () () λr hr=>by rw[rl];exact rg r hr
   have go:gH rs [(bN ns ν (ν:Int)).toNat]:=⟨List.pairwise_singleton _ _,λg hg=>by
    rw[aaG.mp hg];have⟨r,h1,h2⟩:=hb ν ();have⟨p,rfl,_⟩:=h2.fin (.inr rfl)
    exact⟨p,h1⟩⟩
   have pf:=pr (ν:Int);have eg:Dt.lst [.int (bN ns ν (ν:Int))]= .lst ([(bN ns ν (ν:Int)).toNat].map cj):=by show _=Dt.lst [.int (((bN ns ν (ν:Int)).toNat:Nat):Int)];rw[ab9 pf.1]
   walk_at "vc";refine⟨gV,?_⟩;refine⟨(M++[MO.lst (rs.map aX)]).length,.loc M.length,(0,1),rs.map aX,rs,_,rfl,ao,Kx (bK ao),ya rs,@_,(),(),λr hr=>by rw[rl];exact(rg r hr).1,rfl,GF ?_⟩;refine⟨ns,(ν:Int)+3,(ν:Int),rfl,(),(),by show 1<=sizeLine;decide,?_⟩;show rA _ [_,Dt.lst [.int (bN ns ν (ν:Int))]] _ _ _;rw[eg];refine⟨(0,1),rs,_,_,rfl,fr,.inl rfl,go,λS S2 p a tb E1 kt ka ks t Xs QU ks1 _ zN _=>?_⟩;generalize (M++[MO.lst (rs.map aX)]).length=kp at *
   generalize M++[MO.lst (rs.map aX)]++[dP p]++E1=M1 at *
   refine⟨ns,ν,rfl,f2,f9,λdu hd=>eK (HF du) ?_⟩;have known:=t.known fr rl f2 hb hd;have tk:=t.tk fr;obtain⟨fd,Wx⟩:∃fd,fd=Dt.tup [.loc kt,.loc kp,.loc ka,.loc ks]:=⟨_,rfl⟩;have i0:∀{M':Ms} {q':DQ},q' (.loc kt) M'->e_ fd (.int 0) M' q':=λh=>by rw[Wx];exact Ε (xs:=[.loc kt,.loc kp,.loc ka,.loc ks]) rfl cC h
   rw[<-Wx];have la:Ua M1 (.loc kt) (tb.map aj):=.inr ⟨kt,rfl,zN⟩;refine⟨_,_,_,_,true,rfl,by rw[Wx];rfl,rfl,AB,nofun,λ_=>?_⟩;refine i0 ?_;refine⟨_,_,_,_,true,rfl,la.kind,rfl,AB,nofun,λ_=>?_⟩;refine i0 ?_;refine(bf (d:=.loc kt) (lN zN) ?_:lI [.loc kt] _ _);rw[aag,tk.len,rl];show((!decide (((ν+3:Nat):Int)=(ν:Int)+3))=true->_)/\((!decide (((ν+3:Nat):Int)=(ν:Int)+3))=false->_);rw[aaB (show((ν+3:Nat):Int)=(ν:Int)+3 by omega)];refine⟨nofun,λ_=>⟨(),?_⟩⟩;rw[show((ν:Int)+3).toNat=ν+3 by omega];refine ix (λzs ρ M2=>∃(n k:Nat) (o4 o7:Option Dt),zs=cM k n/\k+n=ν+3/\M2=M1/\ρ=[some (.hW ns),some (.int (ν:Int)),some (.int ((ν:Int)+3)),some (.loc M.length),o4,some fd,some (.lst (du.map aj)),o7]) (λx zs ρ M2 hj iE=>?_) (λρ M2 hj=>?_) _ _ _ ⟨ν+3,0,_,_,by simp,(),rfl,rfl⟩
   ·have⟨n,k,o4,o7,ex,VE,rfl,rfl⟩:=hj;have⟨m,rfl,rfl,rfl⟩:=iz ex;have pk:=pr (k:Int);have ta:jf (tb.map aj) (bN ns ν (k:Int))=some (aj (du.getD k (0,1))):=by rw[<-known k ()];exact tk.at pk.1 ()
    have ka:jf (du.map aj) (k:Int)=some (aj (du.getD k (0,1))):=az (by rw[aak,aab,aaa (show k < du.length by rw[hd.len];omega)];rfl);walk_at "vc";refine i0 ?_;refine⟨ns,(ν:Int)+3,(k:Int),rfl,(),(),?_⟩;refine(Ε (d:=.loc kt) (lN zN) ta ?_:e_ (.loc kt) (.int (bN ns ν (k:Int))) _ _);refine⟨_,_,_,_,true,rfl,rfl,rfl,AB,nofun,λ_=>?_⟩;refine(Ε (d:=.lst (du.map aj)) rfl ka ?_:e_ (.lst (du.map aj)) (.int (k:Int)) _ _);refine K8 ?_;exact⟨nofun,λ_=>iE _ _ ⟨m,k+1,_,_,by simp,(),rfl,rfl⟩⟩
   ·have⟨n,k,o4,o7,ex,VE,rfl,rfl⟩:=hj;exact hq _
structure FT(K:fI)(f:Addr)(x:Str)(st:Stmt):Prop where
 a:PySem.W.nsIn K mainGlobals x=some (some (.ref f))
 e:∃fd,cQ K x x st f fd
structure FM(K:fI)(C f:Addr)(m x:Str)(st:Stmt):Prop where
 a:PySem.W.findIn K (.ref C) m=some (some (.ref f))
 i:PySem.W.isFn K (.ref f)=true
 e:∃fd,cQ K m x st f fd
section
variable{K:fI}{C:Addr}{m x:Str}{st:Stmt}{oc:Value}{od an:Option Addr}{G_:Array (Option Value)}{kV doc pm bw ct:Value}
def FT.of(a:PySem.W.nsIn K mainGlobals x=some (some (.ref f)))(l:K.lookup f=some ⟨oc,od,.func (PySem.W.fnOf x x (j5 st) (gB st) (τ st) .none kV doc pm an bw ct),G_⟩)(c:PySem.W.codeIn K bw x=true)(k:PySem.W.keepIn K (.ref f)=true):FT K f x st:=⟨a,_,ET l c k⟩
def FM.of(a:PySem.W.findIn K (.ref C) m=some (some (.ref f)))(i:PySem.W.isFn K (.ref f)=true)(l:K.lookup f=some ⟨oc,od,.func (PySem.W.fnOf m x (j5 st) (gB st) (τ st) .none kV doc pm an bw ct),G_⟩)(c:PySem.W.codeIn K bw x=true)(k:PySem.W.keepIn K (.ref f)=true):FM K C f m x st:=⟨a,i,_,ET l c k⟩
end
section
variable{P:List Value->Prop}
def QW(h:P []):∀us:List Value,us.length=0->P us
 | [],_=>h
 | _::_,e=>nomatch e
def fN(h:∀a0:Value,P [a0]):∀us:List Value,us.length=1->P us
 | [],e=>nomatch e
 | a::us,e=>QW (P:=λus=>P (a::us)) (h a) us (Nat.succ.inj e)
def cv(h:∀a0 a1:Value,P [a0,a1]):∀us:List Value,us.length=2->P us
 | [],e=>nomatch e
 | a::us,e=>fN (P:=λus=>P (a::us)) (h a) us (Nat.succ.inj e)
def h9(h:∀a0 a1 a2:Value,P [a0,a1,a2]):∀us:List Value,us.length=3->P us
 | [],e=>nomatch e
 | a::us,e=>cv (P:=λus=>P (a::us)) (h a) us (Nat.succ.inj e)
def qJ(h:∀a0 a1 a2 a3:Value,P [a0,a1,a2,a3]):∀us:List Value,us.length=4->P us
 | [],e=>nomatch e
 | a::us,e=>h9 (P:=λus=>P (a::us)) (h a) us (Nat.succ.inj e)
def Pb(h:∀a0 a1 a2 a3 a4:Value,P [a0,a1,a2,a3,a4]):∀us:List Value,us.length=5->P us
 | [],e=>nomatch e
 | a::us,e=>qJ (P:=λus=>P (a::us)) (h a) us (Nat.succ.inj e)
end
def we{K:fI}(h:PySem.W.subIn K (.type "int") (.type "bool")=some false):PySem.W.kitOne K (.type "int") (.type "bool")=some false:=by unfold PySem.W.kitOne PySem.W.kitCls;rw[aay (by decide+kernel)];show(if PySem.W.kitMeta "bool"=true then _ else _)=_;rw[aaw (by decide+kernel)];exact h
def zy{K:fI}(h:PySem.W.subIn K (.type "int") (.type "str")=some false):PySem.W.kitOne K (.type "int") (.type "str")=some false:=by unfold PySem.W.kitOne PySem.W.kitCls;rw[aay (by decide+kernel)];show(if PySem.W.kitMeta "str"=true then _ else _)=_;rw[aaw (by decide+kernel)];exact h
def tD{K:fI}(h:PySem.W.subIn K (.type "tuple") (.type "str")=some false):PySem.W.kitOne K (.type "tuple") (.type "str")=some false:=by unfold PySem.W.kitOne PySem.W.kitCls;rw[aay (by decide+kernel)];show(if PySem.W.kitMeta "str"=true then _ else _)=_;rw[aaw (by decide+kernel)];exact h
def sL{K:fI}(h:PySem.W.subIn K (.type "tuple") (.type "int")=some false):PySem.W.kitOne K (.type "tuple") (.type "int")=some false:=by unfold PySem.W.kitOne PySem.W.kitCls;rw[aay (by decide+kernel)];show(if PySem.W.kitMeta "int"=true then _ else _)=_;rw[aaw (by decide+kernel)];exact h
def wY{K:fI}(h:PySem.W.subIn K (.type "list") (.type "str")=some false):PySem.W.kitOne K (.type "list") (.type "str")=some false:=by unfold PySem.W.kitOne PySem.W.kitCls;rw[aay (by decide+kernel)];show(if PySem.W.kitMeta "str"=true then _ else _)=_;rw[aaw (by decide+kernel)];exact h
def vg{K:fI}(h:PySem.W.subIn K (.type "list") (.type "int")=some false):PySem.W.kitOne K (.type "list") (.type "int")=some false:=by unfold PySem.W.kitOne PySem.W.kitCls;rw[aay (by decide+kernel)];show(if PySem.W.kitMeta "int"=true then _ else _)=_;rw[aaw (by decide+kernel)];exact h
def rP{K:fI}(h:PySem.W.subIn K (.type "tuple") (.type "list")=some false):PySem.W.kitOne K (.type "tuple") (.type "list")=some false:=by unfold PySem.W.kitOne PySem.W.kitCls;rw[aay (by decide+kernel)];show(if PySem.W.kitMeta "list"=true then _ else _)=_;rw[aaw (by decide+kernel)];exact h
def qM{K:fI}(h:PySem.W.subIn K (.type "list") (.type "tuple")=some false):PySem.W.kitOne K (.type "list") (.type "tuple")=some false:=by unfold PySem.W.kitOne PySem.W.kitCls;rw[aay (by decide+kernel)];show(if PySem.W.kitMeta "tuple"=true then _ else _)=_;rw[aaw (by decide+kernel)];exact h
open PySem.W in
def all_mk{l:OpenLaw}{w:World}{K:Frag}{h:Heap}{fa Cm Cy f1 f2 f3 f4 f5 f6 f7 f8 f9 Ze Yi S_ f13 f14 YQ Yc YN Zz Y1 f20 Ys ZM f23 Z3 Zo Yr ZV f28 f29 ZD f31 f32 f33 f34 f35 YT f37 Za Y0 f40 f41 f42 Zt f44 f45 f46 Yb Zr Y8 f50 ZZ Yh f53 f54 f55 f56:Addr}(X:K.In h)(G:h.Ns mainGlobals mg)(hfa:mg "law"=some (.ref fa))
  {xx tq tO ko:Tok}
  (xw:nsIn K mainGlobals "MOST_DOORS"=some (some (.int (6) xx)))
  (sS:nsIn K mainGlobals "MOST_BOTTOM"=some (some (.int (1000000) tq)))
  (sZ:nsIn K mainGlobals "MOST_PLACES"=some (some (.int (12) tO)))
  (kq:nsIn K mainGlobals "MOST_SHARE_BOTTOM"=some (some (.int (1000) ko)))
  (JJ:nsIn K mainGlobals "Floor"=some (some (.ref Cm))) (jY:plainGet K Cm Str.empty=true) (j9:hasDictIn K Cm=true) (j2:plainOver K Cm=true) (j0:findIn K (.ref Cm) "__setattr__"=some (some (.builtin "object.__setattr__"))) (Kg:makesIn K Cm=true) (JF:keepIn K (.ref Cm)=true)
  (v7:findIn K (.ref Cm) "kept_rows"=some none)
  (tG:findIn K (.ref Cm) "kept_share"=some none)
  {GI HR:Tok} {Gr:Option Addr} {Hi:Array (Option Value)} {Fy:Nat} (FH:nsIn K mainGlobals "HANDS"=some (some (.ref Cy))) (Gf:K.lookup Cy=some ⟨.type "tuple",Gr,.seq #[(.str "one" GI),(.str "other" HR)] Fy,Hi⟩)
  (zu:subIn K (.type "int") (.type "bool")=some false)
  (AE:subIn K (.type "int") (.type "str")=some false)
  (wg:subIn K (.type "tuple") (.type "str")=some false)
  (wN:subIn K (.type "tuple") (.type "int")=some false)
  (yG:subIn K (.type "list") (.type "str")=some false)
  (yX:subIn K (.type "list") (.type "int")=some false)
  (sN:subIn K (.type "tuple") (.type "list")=some false)
  (sY:subIn K (.type "list") (.type "tuple")=some false)
  (t1:FT K f1 "_law_number" k4)
  (t2:FT K f2 "_law_place" ot)
  (t3:FT K f3 "_law_parts" oz)
  (t4:FT K f4 "_law_door" rH)
  (t5:FT K f5 "_law_lowest" k8)
  (t6:FT K f6 "_law_row" vh)
  (t7:FM K Cm f7 "kind" "Floor.kind" kK)
  (t8:FM K Cm f8 "size" "Floor.size" md)
  (t9:FT K f9 "check_goals" jr)
  (YZ:FM K Cm Ze "doors" "Floor.doors" jy)
  (Yq:FT K Yi "is_drawn" qF)
  (ZC:FT K S_ "drawn_next" lC)
  (t13:FT K f13 "draw" Gx)
  (Yx:FT K f14 "places_of" nW)
  (t15:FT K YQ "drawn_door" l_)
  (t16:FT K Yc "drawn_plan" l9)
  (t17:FT K YN "first_plan" kU)
  (t18:FT K Zz "with_weights" iH)
  (YX:FT K Y1 "number_of_head" g7)
  (YA:FT K f20 "moved_ahead" jX)
  (t21:FT K Ys "cleared_line" iT)
  (X9:FT K ZM "cleared" qi)
  (t23:FT K f23 "common_divisor" gh)
  (ZY:FT K Z3 "fraction" nV)
  (YI:FT K Zo "quotients" lX)
  (Y':FT K Yr "answer_of" nu)
  (t27:FT K ZV "minus" A1)
  (t28:FT K f28 "times" BB)
  (t29:FT K f29 "common_bottom" hU)
  (t30:FT K ZD "whole_row" nH)
  (t31:FT K f31 "led_row" vD)
  (t32:FT K f32 "ways_from" nZ)
  (t33:FT K f33 "chance_row" kN)
  (Z':FT K f34 "chances_by" lG)
  (Zi:FT K f35 "under" AU)
  (YG:FT K YT "greatest" nY)
  (t37:FT K f37 "least" AH)
  (Z5:FT K Za "better_led" lq)
  (t39:FT K Y0 "kept_least" lS)
  (t40:FT K f40 "copied_row" mf)
  (t41:FM K Cm f41 "rows" "Floor.rows" lj)
  (Yv:FT K f42 "held_row" rq)
  (ZT:FT K Zt "fits_share" kL)
  (t44:FT K f44 "fits_pay" q_)
  (Y2:FT K f45 "fits_door" om)
  (t46:FT K f46 "fits_doors" kM)
  (X7:FT K Yb "fits_chances" iI)
  (Yu:FT K Zr "fits_row" rJ)
  (t49:FM K Cm Y8 "__init__" "Floor.__init__" kW)
  (t50:FM K Cm f50 "share" "Floor.share" ju)
  (YO:FT K ZZ "steps_by" qN)
  (Z1:FT K Yh "chances" rQ)
  (t53:FT K f53 "_law_power" oN)
  (YW:FT K f54 "_law_known" nI)
  (YH:FT K f55 "_law_due" wG)
  (t56:FT K f56 "law" NM)
  (Pj:nsIn K mainGlobals "len"=some none)
  (Qn:nsIn K mainGlobals "abs"=some none)
  (w_:nsIn K mainGlobals "isinstance"=some none)
  (Qy:nsIn K mainGlobals "int"=some none)
  (Og:nsIn K mainGlobals "bool"=some none)
  (QZ:nsIn K mainGlobals "str"=some none)
  (Kw:nsIn K mainGlobals "tuple"=some none)
  (NJ:nsIn K mainGlobals "list"=some none)
  (J':nsIn K mainGlobals "range"=some none)
  (yR:nsIn K mainGlobals "enumerate"=some none)
  (RG:nsIn K mainGlobals "any"=some none)
  (QY:nsIn K mainGlobals "all"=some none)
  (Q1:nsIn K mainGlobals "sum"=some none)
  (Pp:nsIn K mainGlobals "zip"=some none)
  (NX:nsIn K mainGlobals "dict"=some none)
  (Rk:nsIn K mainGlobals "min"=some none)
  (O6:nsIn K mainGlobals "max"=some none)
  :∃fd:FuncData,(∀(s:Shared) (v:Value),BindsTo s fd ⟨[v],[]⟩ [("_law_script",v)])/\∀base:Heap,K.In base->base.Ns mainGlobals mg->av l.prog w K mg base Sl 11 fa fd ["_law_script"] (yD K):=by
 have⟨a1,_,F1⟩:=t1;have⟨a2,_,F2⟩:=t2;have⟨a3,_,F3⟩:=t3;have⟨a4,_,F4⟩:=t4;have⟨a5,_,F5⟩:=t5;have⟨a6,_,F6⟩:=t6;have⟨a7,i7,_,F7⟩:=t7;have⟨a8,i8,_,F8⟩:=t8;have⟨a9,_,F9⟩:=t9;have⟨V2,i10,_,UA⟩:=YZ;have⟨a11,_,Vv⟩:=Yq;have⟨a12,_,Vs⟩:=ZC;have⟨a13,_,Wq⟩:=t13;have⟨a14,_,U7⟩:=Yx;have⟨a15,_,Uu⟩:=t15;have⟨ZS,_,T7⟩:=t16;have⟨Ye,_,VL⟩:=t17;have⟨a18,_,VW⟩:=t18;have⟨a19,_,T3⟩:=YX;have⟨a20,_,Vi⟩:=YA;have⟨a21,_,Th⟩:=t21;have⟨ZP,_,TJ⟩:=X9;have⟨a23,_,Wy⟩:=t23;have⟨Zh,_,TQ⟩:=ZY;have⟨a25,_,We⟩:=YI;have⟨a26,_,V1⟩:=Y';have⟨Y5,_,Uq⟩:=t27;have⟨YE,_,Ug⟩:=t28;have⟨Y4,_,VV⟩:=t29;have⟨ZG,_,TK⟩:=t30;have⟨a31,_,Wj⟩:=t31;have⟨Yo,_,Wk⟩:=t32;have⟨Zy,_,To⟩:=t33;have⟨a34,_,Vt⟩:=Z';have⟨YM,_,Tf⟩:=Zi;have⟨YK,_,Up⟩:=YG;have⟨ZI,_,Vq⟩:=t37;have⟨a38,_,TV⟩:=Z5;have⟨Zj,_,T_⟩:=t39;have⟨a40,_,VR⟩:=t40;have⟨a41,i41,_,U8⟩:=t41;have⟨a42,_,UB⟩:=Yv;have⟨Zl,_,Vm⟩:=ZT;have⟨Zg,_,V4⟩:=t44;have⟨a45,_,TR⟩:=Y2;have⟨a46,_,UN⟩:=t46;have⟨a47,_,Um⟩:=X7;have⟨a48,_,Uk⟩:=Yu;have⟨a49,i49,_,X2⟩:=t49;have⟨a50,ZW,_,Vf⟩:=t50;have⟨a51,_,Vw⟩:=YO;have⟨ZH,_,Vd⟩:=Z1;have⟨Y3,_,Tr⟩:=t53;have⟨a54,_,T9⟩:=YW;have⟨Yw,_,Vl⟩:=YH;have⟨Zb,dL,WZ⟩:=t56;have e:=hfa.symm.trans (mg_of X G Zb);cases e;have vL:=mg_of X G xw;have sW:=mg_of X G sS;have sO:=mg_of X G sZ;have kr:=mg_of X G kq;have dz:=mg_none_of X G Pj;have qr:=mg_none_of X G Qn;have cK:=mg_none_of X G w_;have Hv:=mg_none_of X G Qy;have zJ:=mg_none_of X G Og;have IB:=mg_none_of X G QZ;have nc:=mg_none_of X G Kw;have oQ:=mg_none_of X G NJ;have bP:=mg_none_of X G J';have bW:=mg_none_of X G yR;have yi:=mg_none_of X G RG;have yy:=mg_none_of X G QY;have Cz:=mg_none_of X G Q1;have ym:=mg_none_of X G Pp;have xv:=mg_none_of X G NX;have BZ:=mg_none_of X G Rk;have BG:=mg_none_of X G O6;have E:Ev K mg Cm:={dz:=dz,qr:=qr,cK:=cK,Hv:=Hv,zJ:=zJ,IB:=IB,nc:=nc,oQ:=oQ,bP:=bP,bW:=bW,yi:=yi,yy:=yy,Cz:=Cz,ym:=ym,xv:=xv,BZ:=BZ,BG:=BG,ib:=we zu,kis:=zy AE,X_:=tD wg,Zm:=sL wN,Zu:=wY yG,Zd:=vg yX,Sq:=rP sN,klt:=qM sY,eW:=⟨jY,j9,j2,j0⟩,cF:=v7,hV:=tG,Au:=⟨_,_,_,_,mg_of X G FH,Gf,rfl,rfl,gV,.cons ⟨_,rfl⟩ (.cons ⟨_,rfl⟩ .nil)⟩,pq:=⟨_,vL⟩,iO:=⟨_,sW⟩,mQ:=⟨_,sO⟩,fH:=⟨_,kr⟩};refine⟨dL,λs v=>by have⟨_,_,_,_,_,_,_,_,_,rfl,_⟩:=WZ.ex;exact .of_eq rfl,λbase _ _=>?_⟩;have mc:=@aC.mk l.prog w K mg base;have Ζ:=(xA F1 E)&&&(F1,a1,cv λ_ _=>rfl);have b8:=(yH F2 E Ζ)&&&(F2,a2,h9 λ_ _ _=>rfl);have eC:=(y6 F3 E Ζ)&&&(F3,a3,fN λ_=>rfl);have fC:=(zZ F4 E Ζ b8)&&&(F4,a4,qJ λ_ _ _ _=>rfl);have bG:=(ve F5 E)&&&(F5,a5,cv λ_ _=>rfl);have qX:=(DG F6 E eC Ζ fC bG)&&&(F6,a6,h9 λ_ _ _=>rfl);have Ψ:e7 l.prog w K mg base _ Cm "kind" _ _ _ _:=(vX F7 E)|||(F7,a7,i7,cv λ_ _=>rfl);have ae:e7 l.prog w K mg base _ Cm "size" _ _ _ _:=(wt F8 E)|||(F8,a8,i8,fN λ_=>rfl);have iN:=(tL F9 E Ψ ae)&&&(F9,a9,cv λ_ _=>rfl);have aH:e7 l.prog w K mg base _ Cm "doors" _ _ _ _:=(tM UA E Ψ)|||(UA,V2,i10,cv λ_ _=>rfl);have oP:=(z_ Vv E Ψ aH)&&&(Vv,a11,h9 λ_ _ _=>rfl);have gP:=(vy Vs E ae oP)&&&(Vs,a12,cv λ_ _=>rfl);have nB:=(Jk Wq E iN ae gP)&&&(Wq,a13,cv λ_ _=>rfl);have eF:=(yx U7 E ae Ψ)&&&(U7,a14,cv λ_ _=>rfl);have jP:=(wQ Uu E aH)&&&(Uu,a15,h9 λ_ _ _=>rfl);have jm:=(xp T7 E eF jP)&&&(T7,ZS,cv λ_ _=>rfl);have jE:=(wz VL E eF)&&&(VL,Ye,cv λ_ _=>rfl);have hJ:=(rC VW E)&&&(VW,a18,fN λ_=>rfl);have fW:=(pN T3 E)&&&(T3,a19,h9 λ_ _ _=>rfl);have iV:=(tE Vi E)&&&(Vi,a20,h9 λ_ _ _=>rfl);have eP:=(qL Th E)&&&(Th,a21,qJ λ_ _ _ _=>rfl);have oi:=(A3 TJ E hJ fW iV eP)&&&(TJ,ZP,cv λ_ _=>rfl);have bA:=(oK Wy E)&&&(Wy,a23,cv λ_ _=>rfl);have bZ:=(yW TQ E bA)&&&(TQ,Zh,cv λ_ _=>rfl);have jz:=(vS We E bZ)&&&(We,a25,qJ λ_ _ _ _=>rfl);have lY:=(zz V1 E oi jz)&&&(V1,a26,fN λ_=>rfl);have vI:=(Iz Uq E bZ)&&&(Uq,Y5,cv λ_ _=>rfl);have wm:=(E9 Ug E bZ)&&&(Ug,YE,cv λ_ _=>rfl);have bT:=(pH VV E bA)&&&(VV,Y4,fN λ_=>rfl);have ly:=(zj TK E bT)&&&(TK,ZG,fN λ_=>rfl);have jL:=(DH Wj E ae vI wm ly)&&&(Wj,a31,Pb λ_ _ _ _ _=>rfl);have lL:=(ye Wk E aH Ψ)&&&(Wk,Yo,h9 λ_ _ _=>rfl);have jo:=(vm To E jL lL)&&&(To,Zy,qJ λ_ _ _ _=>rfl);have jj:=(vH Vt E lY ae jo)&&&(Vt,a34,qJ λ_ _ _ _=>rfl);have j7:=(Hu Tf E)&&&(Tf,YM,cv λ_ _=>rfl);have k9:=(yI Up E j7)&&&(Up,YK,fN λ_=>rfl);have v_:=(Iu Vq E j7)&&&(Vq,ZI,fN λ_=>rfl);have dD:=(wa TV E aH Ψ k9 v_)&&&(TV,a38,h9 λ_ _ _=>rfl);have jn:=(v9 T_ E jE jj dD)&&&(T_,Zj,h9 λ_ _ _=>rfl);have dH:=(vG VR E)&&&(VR,a40,fN λ_=>rfl);have jk:e7 l.prog w K mg base _ Cm "rows" _ _ _ _:=(vN U8 E dH)|||(U8,a41,i41,fN λ_=>rfl);have nv:=(zQ UB E)&&&(UB,a42,h9 λ_ _ _=>rfl);have jB:=(w6 Vm E)&&&(Vm,Zl,fN λ_=>rfl);have fD:=(Bs V4 E)&&&(V4,Zg,fN λ_=>rfl);have l7:=(yB TR E fD)&&&(TR,a45,cv λ_ _=>rfl);have gA:=(xj UN E l7)&&&(UN,a46,cv λ_ _=>rfl);have g8:=(qV Um E bT)&&&(Um,a47,fN λ_=>rfl);have n9:=(Br Uk E fD gA g8)&&&(Uk,a48,cv λ_ _=>rfl);have dG:JG l.prog w K mg base _ "Floor" Cm _ _ _ _:=⟨vM X2 E jB n9 dH,(X2.binds λ_ _ _ _ _ _=>h9 λ_ _ _=>rfl),⟨Kg,a49,i49,JF⟩,mg_of X G JJ⟩;have iW:e7 l.prog w K mg base _ Cm "share" _ _ _ _:=(tQ Vf E)|||(Vf,a50,ZW,fN λ_=>rfl);have nP:=(AK Vw E jk nv nB dG iW)&&&(Vw,a51,h9 λ_ _ _=>rfl);have oB:=(AX Vd E nB jm jn dD nP)&&&(Vd,ZH,cv λ_ _=>rfl);have dt:=(yC Tr E)&&&(Tr,Y3,cv λ_ _=>rfl);have lH:=(yo T9 E bG dt)&&&(T9,a54,qJ λ_ _ _ _=>rfl);have sD:=(DD Vl E eC lH Ζ)&&&(Vl,Yw,cv λ_ _=>rfl);exact Mx (N6 WZ E Ζ b8 qX oB dG sD)
def walk{l:PySem.W.OpenLaw}{q:Program}{loose:List Str}{XP:(Str->Option Value)->Heap->Prop}{YP:World->Heap->Prop}{d:DefRec}{K:Params->fI}(hn:l.most=some 63)(PY:d.params.defaults=[])
  (hY:∀(w:World) (h:Heap),YP w h->(K w.params).In h)
  (F:∀(w:World) (mg:Str->Option Value) (fa:Addr) (h:Heap),(K w.params).In h->h.Ns mainGlobals mg->mg d.name=some (.ref fa)->
   ∃fd:FuncData,(∀(s:Shared) (u:Value),BindsTo s fd ⟨[u],[]⟩ [("_law_script",u)])/\∀base:Heap,(K w.params).In base->base.Ns mainGlobals mg->av l.prog w (K w.params) mg base Sl 11 fa fd ["_law_script"] (yD (K w.params))):
  PySem.W.WalkO q loose XP YP l.row.toRowW d [] (λf vs=>PySem.call f vs):=
 L2.vq (n:=63) (k:=11) (x:="_law_script") (CX:=λ_=>Sl) (sp:=λw=>yD (K w.params)) hn @_ PY ⟨rfl,@_,@_⟩ hY F (λ_ _ a ns hl _ hS=>⟨a,ns,rfl,hS,hl,λ_=>rfl⟩) λ_ _ _ _ _ z=>z
end
end Pg
open PySem PySem.W PyProof.Rows
set_option maxRecDepth 100000 in
set_option maxHeartbeats 0 in
theorem PySem.Challenge.cw_chanceduel_k46_a_known_way_holds : PySem.Challenge.rw_chanceduel_k46_a_known_way.Holds := by
 w_on;o_law
 refine holds_open (q:=Hd.q) (loose:=[]) (Xt:=Hd.Xt) (XP:=XL Hd.q [])
  (Yf:=Hd.H.obs) (Ya:=Hd.H.val) (YP:=Hd.H.says) Hd.left Hd.H.of Hd.H.keeps
  (λs e=>xl_of s (Bool.and_eq_true_iff.mp e).1) XL.keeps (by rfl) (by rfl) (by rfl)
  (λs e=>recFacts_of (Bool.and_eq_true_iff.mp e).2) (by rfl) (by assumption) (by decide+kernel)
  ⟨rfl,rfl,rfl,rfl,rfl,by decide+kernel⟩ ?hw ?hc
 (case hw=>w_witness2)
 refine Pg.walk (l:=PySem.Challenge.rw_chanceduel_k46_a_known_way) rfl rfl (fun w h Y=>PySem.W.kIn_of Y) ?F
 case F=>
  k_fill
  intro w mg fa h KX G Ky
  refine' Pg.all_mk KX G Ky ?_ ?_ ?_ ?_ ?_ ?_ ?_ ?_ ?_ ?_ ?_ ?_ ?_ ?_ ?_ ?_ ?_ ?_ ?_ ?_ ?_ ?_ ?_ ?_ ?_ ?_ ?_ ?_ ?_ ?_ ?_ ?_ ?_ ?_ ?_ ?_ ?_ ?_ ?_ ?_ ?_ ?_ ?_ ?_ ?_ ?_ ?_ ?_ ?_ ?_ ?_ ?_ ?_ ?_ ?_ ?_ ?_ ?_ ?_ ?_ ?_ ?_ ?_ ?_ ?_ ?_ ?_ ?_ ?_ ?_ ?_ ?_ ?_ ?_ ?_ ?_ ?_ ?_ ?_ ?_ ?_ ?_ ?_ ?_ ?_ ?_ ?_ ?_ ?_ ?_ ?_ ?_ ?_ ?_ ?_ ?_
  all_goals try first| (refine' Pg.FT.of ?_ ?_ ?_ ?_ <;> try k_is)| (refine' Pg.FM.of ?_ ?_ ?_ ?_ ?_ <;> try k_is)| k_is| k_exc| kernel_rfl
