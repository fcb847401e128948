import PyProof.Rows.All
import Wide.All
import OpenK.AllK
import Wide.FinOn
import Lean
import PyProof.EqAt
import PyProof.EqKinds
import PyProof.TupleCall
import PyProof.NeKinds
import PyProof.ZipIter
import PyProof.DictUpdate
import PyProof.FactsAll.dict_1
import PyProof.DictIter
import PyProof.DictWalks
import PySem.Challenge.RW_chanceduel_k44_plans_for_goals
set_option Elab.async false
set_option linter.all false
set_option maxRecDepth 100000
set_option maxHeartbeats 4000000
set_option compiler.extract_closed false
def aad:=@List.getElem?_eq_getElem
def aae:=@List.getD_eq_getElem?_getD
def aag:=@List.mem_cons_of_mem
def aah:=@List.length_map
def aai:=@List.mem_cons_self
def aam:=@List.getElem?_eq_some_iff
def aan:=@List.length_append
def aao:=@PySem.wpAny_bind
def aap:=@List.mem_of_getElem?
def aaq:=@Nat.le_refl
def aas:=@PySem.Heap.get?_push_of_some
def aat:=@List.getElem?_map
def aax:=@List.getElem_mem
def aay:=@Option.some.inj
def aaz:=@List.mem_map
def aaA:=@Bool.and_eq_true
def aaB:=@decide_eq_true
def aaF:=@decide_eq_false
def aaG:=@List.getElem?_append_left
def aaH:=@Nat.le_trans
def aaK:=@if_neg
def aaL:=@PySem.Heap.lt_size
def aaP:=@if_pos
def aaR:=@Nat.lt_of_lt_of_le
def aaS:=@List.mem_cons
def aaT:=@Int.le_of_lt
def aaU:=@List.size_toArray
def aaW:=@of_decide_eq_true
def aaX:=@List.getElem?_append_right
def aa1:=@Bool.false_ne_true
def aa5:=@absurd
def aa6:=@PySem.wpAny_pure
def aa7:=@List.mem_append_right
def aa8:=@List.append_assoc
def aa9:=@List.length_cons
def aba:=@List.nil_append
def abb:=@decide_eq_true_iff
def abc:=@List.all_eq_true
def abd:=@PySem.Heap.get?_push_size
def abe:=@List.map_cons
def abf:=@List.map_map
def abg:=@List.getElem?_range
def abh:=@of_decide_eq_false
def abi:=@List.mem_singleton
def abj:=@Nat.ne_of_lt
def abl:=@Int.toNat_natCast
def abm:=@congrArg
def abn:=@Int.eq_of_mul_eq_mul_left
def abo:=@List.mem_append
def abp:=@List.map_append
def abq:=@Int.mul_le_mul_of_nonneg_left
def abr:=@List.mem_range
def abt:=@Nat.lt_of_le_of_lt
def abu:=@List.length_range
def abv:=@List.getElem?_set_ne
def abw:=@List.append_nil
def abx:=@List.length_replicate
def aby:=@List.map_congr_left
def abA:=@Rat.intCast_mul
def abB:=@Int.mul_le_mul_of_nonneg_right
def abC:=@List.length_set
def abD:=@List.getElem?_set_self
def abE:=@Option.isSome_iff_exists
def abF:=@List.zip_cons_cons
def abG:=@Int.emod_lt_of_pos
def abH:=@List.getElem_of_mem
def abI:=@List.ext_getElem
def abK:=@Int.emod_nonneg
def abL:=@Int.mul_comm
def abM:=@Int.natAbs_of_nonneg
def abN:=@Option.map_eq_some_iff
def abO:=@Int.lt_of_le_of_lt
def abP:=@List.replicate_succ
def abQ:=@List.length_drop
def abR:=@Nat.add_sub_cancel_left
def abS:=@List.take_of_length_le
def abT:=@List.nodup_cons
def abU:=@List.drop_eq_getElem_cons
def abV:=@List.length_zip
def abW:=@Int.mul_ediv_cancel_left
def abX:=@Int.natAbs_mul
def abY:=@Nat.lt_succ_self
def abZ:=@Nat.le_add_right
def ab0:=@Rat.intCast_lt_intCast
def ab1:=@List.flatten_cons
def ab2:=@Nat.lt_succ_of_lt
def ab3:=@Nat.not_lt_zero
def ab4:=@Int.mul_pos
def ab5:=@Nat.lt_irrefl
def ab6:=@List.any_cons
def ab7:=@List.map_drop
def ab8:=@Int.mul_nonneg
def ab9:=@List.foldl_cons
def aca:=@List.range_succ_eq_map
def acb:=@Int.fmod_eq_emod_of_nonneg
def acd:=@List.exists_cons_of_ne_nil
def ace:=@List.lookup_cons
def acf:=@List.all_cons
def acg:=@List.getElem?_zip_eq_some
def ach:=@List.set_append_left
def aci:=@Nat.pow_le_pow_right
def acj:=@Nat.zero_add
def ack:=@Int.pow_succ
def acm:=@Int.ofNat_lt
def acn:=@Nat.zero_le
def aco:=@List.getElem?_replicate
def acp:=@PySem.F.plainAttrs_list
def acq:=@List.length_take
def acr:=@PySem.wpAny_mono
def acs:=@List.drop_zero
def acu:=@List.drop_eq_nil_of_le
def acv:=@Bool.eq_iff_iff
def acw:=@Nat.min_eq_left
def acx:=@Int.le_trans
def acy:=@Nat.sub_self
def acz:=@Int.dvd_zero
def acA:=@List.length_filter_le
def acB:=@List.nodup_append
def acC:=@Int.le_of_dvd
def acD:=@Array.getElem?_eq_some_iff
def acE:=@Int.fdiv_eq_ediv_of_nonneg
def acF:=@Array.getElem?_eq_getElem
def acH:=@Int.pow_nonneg
def acI:=@Int.mul_neg_of_pos_of_neg
def acJ:=@Int.le_of_mul_le_mul_left
def acK:=@beq_iff_eq
def acL:=@List.getElem?_take_of_lt
def acM:=@Nat.min_self
def acN:=@List.mem_of_mem_eraseIdx
def acO:=@List.mem_filterMap
def acP:=@List.of_mem_zip
def acQ:=@Nat.ne_of_gt
def acS:=@Int.ne_of_gt
namespace Hd
open PySem PySem.W PyProof.Rows
def at_(i:Nat):Stmt:=PySem.Challenge.pw_chanceduel_k44_plans_for_goals.main.body.getD i (.Pass ⟨0,0,0,0⟩)
def Ti:Stmt->Nat->Stmt
  | .ClassDef _ _ _ b _ _ _ _ _ _ _,j=>b.getD j (.Pass ⟨0,0,0,0⟩)
  | s,_=>s
def dA:Stmt->Arguments
  | .FunctionDef _ a _ _ _ _ _ _ _ _=>a
  | _=>⟨[],[],none,[],[],none,[]⟩
def dB:Stmt->List Stmt
  | .FunctionDef _ _ b _ _ _ _ _ _ _=>b
  | _=>[]
def dS:Stmt->Scope
  | .FunctionDef _ _ _ _ _ _ c _ _ _=>c
  | _=>{kind:= .function,names:=[],isGenerator:=false,isCoroutine:=false}
abbrev row:=PySem.Challenge.rw_chanceduel_k44_plans_for_goals.row
abbrev en(P:Params)(x:Str)(t:Tok)(v:Value):DictEntry:=⟨PyData.keyHash P x, .str x t,v⟩
def q:Program:={PySem.Challenge.pw_chanceduel_k44_plans_for_goals with main:={PySem.Challenge.pw_chanceduel_k44_plans_for_goals.main with body:=[at_ 1,at_ 2,at_ 3,at_ 4,at_ 5,at_ 6,at_ 7,at_ 9,at_ 10,at_ 11,at_ 12,at_ 13,at_ 14,at_ 16,at_ 17,at_ 18,at_ 19,at_ 20,at_ 21,at_ 22,at_ 23,at_ 24,at_ 25,at_ 27,at_ 28,at_ 29,at_ 30,at_ 31,at_ 32,at_ 33,at_ 35,at_ 36,at_ 37,at_ 38,at_ 39,at_ 40,at_ 41,at_ 42,at_ 44,at_ 45,at_ 46,at_ 47,at_ 48,at_ 50,at_ 51,at_ 52,at_ 53,at_ 55,at_ 56,at_ 57,at_ 58,at_ 59,at_ 60,at_ 61,at_ 62,at_ 63,at_ 65,at_ 66,at_ 67,at_ 68,at_ 69,at_ 70,at_ 71,at_ 72,at_ 73,at_ 74,at_ 75,at_ 76,at_ 77,at_ 78,at_ 79,at_ 80,at_ 81,at_ 82]}}
abbrev cO(x q:Str)(t l n f a m:Nat):Obj:=⟨.type "code",none, .fields #[.str x t, .str q (t+1), .str "/claim/cut.py" (t+2), .int l 0, .int n 0, .int 0 0, .int 0 0, .int f 0, .ref a, .bool true, .int 181 0, .ref (a+1), .none, .ref (a+2), .ref (a+3), .ref (a+4), .int m 0, .int l 0, .str "/claim/cut.py" (m+1)], #[]⟩
abbrev dO(x q:Str)(t l n f a m:Nat):Obj:=⟨.type "code",none, .fields #[.str x t, .str q (t+1), .str "/claim/cut.py" (t+2), .int l 0, .int n 0, .int 0 0, .int 0 0, .int f 0, .ref a, .bool true, .int 181 0, .ref (a+1), .none, .none, .none, .ref (a+2), .int m 0, .int l 0, .str "/claim/cut.py" (m+1)], #[]⟩
abbrev fO(x q:Str)(s:Stmt)(m:Value)(c:Nat):Obj:=⟨.type "function",none, .func ⟨x,q,(dA s), .stmts (dB s),(dS s),3,[], .none, .none, .none,m,none, .ref c, .none,0⟩, #[]⟩
abbrev m0:Value:= .str "chanceduel.parts" 341
abbrev m1:Value:= .str "chanceduel.places" 395
abbrev m2:Value:= .str "chanceduel.floors" 453
abbrev m3:Value:= .str "chanceduel.rows" 596
abbrev m4:Value:= .str "chanceduel.plans" 672
abbrev m5:Value:= .str "chanceduel.shuts" 719
abbrev m6:Value:= .str "chanceduel.reach" 749
abbrev m7:Value:= .str "law_chanceduel_k44_plans_for_goals" 833
noncomputable def K:Params->Frag:=λP=>
(nat_lit 2,⟨.none,none,(.dict #[] 0), #[]⟩)::
(nat_lit 3,⟨(.type "dict"),none,(.dict #[(en P "__name__" 165 m7),(en P "__doc__" 166 .none),(en P "__package__" 167 .none),(en P "__loader__" 168 (.builtin "__main__.__loader__#opaque")),(en P "__spec__" 169 .none),(en P "__annotations__" 170 (.ref 6)),(en P "__builtins__" 171 (.ref 4)),(en P "__file__" 173 (.str "/claim/cut.py" 172)),(en P "__cached__" 174 .none),(en P "DuelError" 206 (.ref 24)),(en P "NoNumber" 222 (.ref 37)),(en P "NoFloor" 238 (.ref 49)),(en P "NoPlace" 263 (.ref 68)),(en P "NoAnswer" 288 (.ref 87)),(en P "ManyAnswers" 315 (.ref 106)),(en P "NoGoal" 340 (.ref 125)),(en P "common_divisor" 353 (.ref 134)),(en P "fraction" 362 (.ref 141)),(en P "plus" 370 (.ref 148)),(en P "minus" 378 (.ref 155)),(en P "times" 386 (.ref 162)),(en P "under" 394 (.ref 169)),(en P "HANDS" 399 (.ref 170)),(en P "MOST_DOORS" 401 (.int 6 400)),(en P "MOST_BOTTOM" 403 (.int 1000000 402)),(en P "fits_pay" 410 (.ref 177)),(en P "fits_door" 418 (.ref 184)),(en P "common_bottom" 427 (.ref 191)),(en P "fits_chances" 433 (.ref 196)),(en P "fits_doors" 439 (.ref 201)),(en P "fits_row" 445 (.ref 206)),(en P "copied_row" 452 (.ref 213)),(en P "MOST_PLACES" 456 (.int 12 455)),(en P "MOST_SHARE_BOTTOM" 458 (.int 1000 457)),(en P "fits_share" 465 (.ref 220)),(en P "weighed" 476 (.ref 227)),(en P "greatest" 485 (.ref 234)),(en P "least" 494 (.ref 241)),(en P "Floor" 595 (.ref 318)),(en P "with_weights" 608 (.ref 329)),(en P "number_of_head" 618 (.ref 336)),(en P "moved_ahead" 627 (.ref 343)),(en P "cleared_line" 633 (.ref 348)),(en P "cleared" 639 (.ref 353)),(en P "quotients" 652 (.ref 360)),(en P "still_of" 658 (.ref 365)),(en P "answer_of" 671 (.ref 372)),(en P "places_of" 679 (.ref 377)),(en P "first_plan" 689 (.ref 384)),(en P "ways_from" 699 (.ref 391)),(en P "whole_row" 705 (.ref 396)),(en P "led_row" 718 (.ref 403)),(en P "check_goals" 730 (.ref 410)),(en P "is_drawn" 736 (.ref 415)),(en P "drawn_next" 742 (.ref 420)),(en P "draw" 748 (.ref 425)),(en P "drawn_door" 761 (.ref 432)),(en P "drawn_plan" 771 (.ref 439)),(en P "chance_row" 781 (.ref 446)),(en P "chances_by" 787 (.ref 451)),(en P "better_led" 793 (.ref 456)),(en P "kept_least" 805 (.ref 463)),(en P "held_row" 814 (.ref 470)),(en P "steps_by" 820 (.ref 475)),(en P "chances" 832 (.ref 482)),(en P "_law_far" 842 (.ref 489)),(en P "_law_number" 852 (.ref 496)),(en P "_law_rest" 861 (.ref 503)),(en P "_law_lowest" 871 (.ref 510)),(en P "_law_pay" 878 (.ref 517)),(en P "_law_doors" 884 (.ref 522)),(en P "_law_rows" 901 (.ref 529)),(en P "_law_goals" 911 (.ref 536)),(en P "_law_order" 921 (.ref 543)),(en P "_law_chain_row" 927 (.ref 548)),(en P "_law_more_row" 938 (.ref 555)),(en P "_law_detour" 944 (.ref 560)),(en P "_law_is_int" 951 (.ref 567)),(en P "_law_plan" 957 (.ref 572)),(en P "_law_fewer" 963 (.ref 577)),(en P "_law_steps" 975 (.ref 584)),(en P "_law_holds" 988 (.ref 591)),(en P "law" 1001 (.ref 598))] 83), #[]⟩)::
(nat_lit 23,⟨(.type "dict"),none,(.dict #[(en P "__module__" 196 (.str "chanceduel.errors" 187)),(en P "__firstlineno__" 200 (.int 2 199)),(en P "__static_attributes__" 201 (.ref 22)),(en P "__weakref__" 203 (.ref 25)),(en P "__doc__" 204 .none)] 3), #[]⟩)::
(nat_lit 24,⟨(.type "type"),none,(.cls ⟨"DuelError",[(.type "ValueError")],[(.ref 24),(.type "ValueError"),(.type "Exception"),(.type "BaseException"),(.type "object")],23,"DuelError",true,[],[(.ref 37),(.ref 49),(.ref 68),(.ref 87),(.ref 106),(.ref 125)],false,none,false⟩), #[(some (.ref 15)),none,(some (.str "DuelError" 189)),(some (.str "DuelError" 197)),(some (.builtin "ValueError.__new__")),(some (.bool true))]⟩)::
(nat_lit 37,⟨(.type "type"),none,(.cls ⟨"NoNumber",[(.ref 24)],[(.ref 37),(.ref 24),(.type "ValueError"),(.type "Exception"),(.type "BaseException"),(.type "object")],36,"NoNumber",true,[],[],false,none,false⟩), #[(some (.ref 28)),none,(some (.str "NoNumber" 207)),(some (.str "NoNumber" 215)),(some (.builtin "ValueError.__new__")),(some (.bool true))]⟩)::
(nat_lit 49,⟨(.type "type"),none,(.cls ⟨"NoFloor",[(.ref 24)],[(.ref 49),(.ref 24),(.type "ValueError"),(.type "Exception"),(.type "BaseException"),(.type "object")],48,"NoFloor",true,[],[],false,none,false⟩), #[(some (.ref 40)),none,(some (.str "NoFloor" 223)),(some (.str "NoFloor" 231)),(some (.builtin "ValueError.__new__")),(some (.bool true))]⟩)::
(nat_lit 68,⟨(.type "type"),none,(.cls ⟨"NoPlace",[(.ref 24)],[(.ref 68),(.ref 24),(.type "ValueError"),(.type "Exception"),(.type "BaseException"),(.type "object")],67,"NoPlace",true,[],[],false,none,false⟩), #[(some (.ref 52)),none,(some (.str "NoPlace" 239)),(some (.str "NoPlace" 247)),(some (.builtin "ValueError.__new__")),(some (.bool true))]⟩)::
(nat_lit 87,⟨(.type "type"),none,(.cls ⟨"NoAnswer",[(.ref 24)],[(.ref 87),(.ref 24),(.type "ValueError"),(.type "Exception"),(.type "BaseException"),(.type "object")],86,"NoAnswer",true,[],[],false,none,false⟩), #[(some (.ref 71)),none,(some (.str "NoAnswer" 264)),(some (.str "NoAnswer" 272)),(some (.builtin "ValueError.__new__")),(some (.bool true))]⟩)::
(nat_lit 106,⟨(.type "type"),none,(.cls ⟨"ManyAnswers",[(.ref 24)],[(.ref 106),(.ref 24),(.type "ValueError"),(.type "Exception"),(.type "BaseException"),(.type "object")],105,"ManyAnswers",true,[],[],false,none,false⟩), #[(some (.ref 90)),none,(some (.str "ManyAnswers" 289)),(some (.str "ManyAnswers" 297)),(some (.builtin "ValueError.__new__")),(some (.bool true))]⟩)::
(nat_lit 125,⟨(.type "type"),none,(.cls ⟨"NoGoal",[(.ref 24)],[(.ref 125),(.ref 24),(.type "ValueError"),(.type "Exception"),(.type "BaseException"),(.type "object")],124,"NoGoal",true,[],[],false,none,false⟩), #[(some (.ref 109)),none,(some (.str "NoGoal" 316)),(some (.str "NoGoal" 324)),(some (.builtin "ValueError.__new__")),(some (.bool true))]⟩)::
(nat_lit 133,cO "common_divisor" "common_divisor" 343 30 2 3 128 351)::
(nat_lit 134,fO "common_divisor" "common_divisor" (at_ 9) m0 133)::
(nat_lit 140,cO "fraction" "fraction" 354 38 2 3 135 360)::
(nat_lit 141,fO "fraction" "fraction" (at_ 10) m0 140)::
(nat_lit 154,cO "minus" "minus" 371 47 2 3 149 376)::
(nat_lit 155,fO "minus" "minus" (at_ 12) m0 154)::
(nat_lit 161,cO "times" "times" 379 49 2 3 156 384)::
(nat_lit 162,fO "times" "times" (at_ 13) m0 161)::
(nat_lit 168,cO "under" "under" 387 51 2 3 163 392)::
(nat_lit 169,fO "under" "under" (at_ 14) m0 168)::
(nat_lit 170,⟨(.type "tuple"),none,(.seq #[(.str "one" 397),(.str "other" 398)] 0), #[]⟩)::
(nat_lit 176,cO "fits_pay" "fits_pay" 404 57 1 3 171 408)::
(nat_lit 177,fO "fits_pay" "fits_pay" (at_ 19) m1 176)::
(nat_lit 183,cO "fits_door" "fits_door" 411 59 2 3 178 416)::
(nat_lit 184,fO "fits_door" "fits_door" (at_ 20) m1 183)::
(nat_lit 190,cO "common_bottom" "common_bottom" 419 61 1 3 185 425)::
(nat_lit 191,fO "common_bottom" "common_bottom" (at_ 21) m1 190)::
(nat_lit 195,dO "fits_chances" "fits_chances" 428 66 1 3 192 431)::
(nat_lit 196,fO "fits_chances" "fits_chances" (at_ 22) m1 195)::
(nat_lit 200,dO "fits_doors" "fits_doors" 434 72 2 3 197 437)::
(nat_lit 201,fO "fits_doors" "fits_doors" (at_ 23) m1 200)::
(nat_lit 205,dO "fits_row" "fits_row" 440 76 2 3 202 443)::
(nat_lit 206,fO "fits_row" "fits_row" (at_ 24) m1 205)::
(nat_lit 212,cO "copied_row" "copied_row" 446 85 1 3 207 450)::
(nat_lit 213,fO "copied_row" "copied_row" (at_ 25) m1 212)::
(nat_lit 219,cO "fits_share" "fits_share" 459 92 1 3 214 463)::
(nat_lit 220,fO "fits_share" "fits_share" (at_ 29) m2 219)::
(nat_lit 233,cO "greatest" "greatest" 477 99 1 3 228 483)::
(nat_lit 234,fO "greatest" "greatest" (at_ 31) m2 233)::
(nat_lit 240,cO "least" "least" 486 105 1 3 235 492)::
(nat_lit 241,fO "least" "least" (at_ 32) m2 240)::
(nat_lit 252,dO "__init__" "Floor.__init__" 507 113 3 3 249 510)::
(nat_lit 253,fO "__init__" "Floor.__init__" (Ti (at_ 33) 0) m2 252)::
(nat_lit 259,cO "size" "Floor.size" 513 124 1 3 254 517)::
(nat_lit 260,fO "size" "Floor.size" (Ti (at_ 33) 1) m2 259)::
(nat_lit 266,cO "share" "Floor.share" 520 127 1 3 261 524)::
(nat_lit 267,fO "share" "Floor.share" (Ti (at_ 33) 2) m2 266)::
(nat_lit 273,cO "kind" "Floor.kind" 527 130 2 3 268 532)::
(nat_lit 274,fO "kind" "Floor.kind" (Ti (at_ 33) 3) m2 273)::
(nat_lit 280,cO "doors" "Floor.doors" 535 133 2 3 275 540)::
(nat_lit 281,fO "doors" "Floor.doors" (Ti (at_ 33) 4) m2 280)::
(nat_lit 292,dO "rows" "Floor.rows" 551 143 1 3 289 554)::
(nat_lit 293,fO "rows" "Floor.rows" (Ti (at_ 33) 6) m2 292)::
(nat_lit 317,⟨(.type "dict"),none,(.dict #[(en P "__module__" 502 m2),(en P "__firstlineno__" 506 (.int 111 505)),(en P "__init__" 512 (.ref 253)),(en P "size" 519 (.ref 260)),(en P "share" 526 (.ref 267)),(en P "kind" 534 (.ref 274)),(en P "doors" 542 (.ref 281)),(en P "pay" 550 (.ref 288)),(en P "rows" 556 (.ref 293)),(en P "shown" 567 (.ref 300)),(en P "all_shown" 573 (.ref 305)),(en P "look" 579 (.ref 310)),(en P "best" 585 (.ref 315)),(en P "__static_attributes__" 588 (.ref 316)),(en P "__dict__" 590 (.ref 319)),(en P "__weakref__" 592 (.ref 320)),(en P "__doc__" 593 .none)] 4), #[]⟩)::
(nat_lit 318,⟨(.type "type"),none,(.cls ⟨"Floor",[(.type "object")],[(.ref 318),(.type "object")],317,"Floor",true,[],[],false,none,false⟩), #[none,none,(some (.str "Floor" 495)),(some (.str "Floor" 503)),(some (.builtin "object.__new__")),(some (.bool true))]⟩)::
(nat_lit 328,cO "with_weights" "with_weights" 598 169 1 3 323 606)::
(nat_lit 329,fO "with_weights" "with_weights" (at_ 35) m3 328)::
(nat_lit 335,cO "number_of_head" "number_of_head" 609 176 3 3 330 616)::
(nat_lit 336,fO "number_of_head" "number_of_head" (at_ 36) m3 335)::
(nat_lit 342,cO "moved_ahead" "moved_ahead" 619 181 3 3 337 625)::
(nat_lit 343,fO "moved_ahead" "moved_ahead" (at_ 37) m3 342)::
(nat_lit 347,dO "cleared_line" "cleared_line" 628 183 4 3 344 631)::
(nat_lit 348,fO "cleared_line" "cleared_line" (at_ 38) m3 347)::
(nat_lit 352,dO "cleared" "cleared" 634 185 2 3 349 637)::
(nat_lit 353,fO "cleared" "cleared" (at_ 39) m3 352)::
(nat_lit 359,cO "quotients" "quotients" 640 202 4 3 354 650)::
(nat_lit 360,fO "quotients" "quotients" (at_ 40) m3 359)::
(nat_lit 371,cO "answer_of" "answer_of" 659 212 1 3 366 669)::
(nat_lit 372,fO "answer_of" "answer_of" (at_ 42) m3 371)::
(nat_lit 376,dO "places_of" "places_of" 674 225 2 3 373 677)::
(nat_lit 377,fO "places_of" "places_of" (at_ 44) m4 376)::
(nat_lit 383,cO "first_plan" "first_plan" 680 227 2 3 378 687)::
(nat_lit 384,fO "first_plan" "first_plan" (at_ 45) m4 383)::
(nat_lit 390,cO "ways_from" "ways_from" 690 232 3 3 385 697)::
(nat_lit 391,fO "ways_from" "ways_from" (at_ 46) m4 390)::
(nat_lit 395,dO "whole_row" "whole_row" 700 237 1 3 392 703)::
(nat_lit 396,fO "whole_row" "whole_row" (at_ 47) m4 395)::
(nat_lit 402,cO "led_row" "led_row" 706 240 5 3 397 716)::
(nat_lit 403,fO "led_row" "led_row" (at_ 48) m4 402)::
(nat_lit 409,cO "check_goals" "check_goals" 721 247 2 3 404 728)::
(nat_lit 410,fO "check_goals" "check_goals" (at_ 50) m5 409)::
(nat_lit 414,dO "is_drawn" "is_drawn" 731 253 3 3 411 734)::
(nat_lit 415,fO "is_drawn" "is_drawn" (at_ 51) m5 414)::
(nat_lit 419,dO "drawn_next" "drawn_next" 737 260 2 3 416 740)::
(nat_lit 420,fO "drawn_next" "drawn_next" (at_ 52) m5 419)::
(nat_lit 424,dO "draw" "draw" 743 262 2 3 421 746)::
(nat_lit 425,fO "draw" "draw" (at_ 53) m5 424)::
(nat_lit 431,cO "drawn_door" "drawn_door" 751 275 3 3 426 759)::
(nat_lit 432,fO "drawn_door" "drawn_door" (at_ 55) m6 431)::
(nat_lit 438,cO "drawn_plan" "drawn_plan" 762 280 2 3 433 769)::
(nat_lit 439,fO "drawn_plan" "drawn_plan" (at_ 56) m6 438)::
(nat_lit 445,cO "chance_row" "chance_row" 772 285 4 3 440 779)::
(nat_lit 446,fO "chance_row" "chance_row" (at_ 57) m6 445)::
(nat_lit 450,dO "chances_by" "chances_by" 782 291 4 3 447 785)::
(nat_lit 451,fO "chances_by" "chances_by" (at_ 58) m6 450)::
(nat_lit 455,dO "better_led" "better_led" 788 295 3 3 452 791)::
(nat_lit 456,fO "better_led" "better_led" (at_ 59) m6 455)::
(nat_lit 462,cO "kept_least" "kept_least" 794 303 3 3 457 803)::
(nat_lit 463,fO "kept_least" "kept_least" (at_ 60) m6 462)::
(nat_lit 469,cO "held_row" "held_row" 806 311 3 3 464 812)::
(nat_lit 470,fO "held_row" "held_row" (at_ 61) m6 469)::
(nat_lit 474,dO "steps_by" "steps_by" 815 315 3 3 471 818)::
(nat_lit 475,fO "steps_by" "steps_by" (at_ 62) m6 474)::
(nat_lit 481,cO "chances" "chances" 821 318 2 3 476 830)::
(nat_lit 482,fO "chances" "chances" (at_ 63) m6 481)::
(nat_lit 488,cO "_law_far" "_law_far" 835 328 2 3 483 840)::
(nat_lit 489,fO "_law_far" "_law_far" (at_ 65) m7 488)::
(nat_lit 495,cO "_law_number" "_law_number" 843 330 2 3 490 850)::
(nat_lit 496,fO "_law_number" "_law_number" (at_ 66) m7 495)::
(nat_lit 502,cO "_law_rest" "_law_rest" 853 336 2 3 497 859)::
(nat_lit 503,fO "_law_rest" "_law_rest" (at_ 67) m7 502)::
(nat_lit 509,cO "_law_lowest" "_law_lowest" 862 341 2 3 504 869)::
(nat_lit 510,fO "_law_lowest" "_law_lowest" (at_ 68) m7 509)::
(nat_lit 516,cO "_law_pay" "_law_pay" 872 347 1 3 511 876)::
(nat_lit 517,fO "_law_pay" "_law_pay" (at_ 69) m7 516)::
(nat_lit 521,dO "_law_doors" "_law_doors" 879 351 5 3 518 882)::
(nat_lit 522,fO "_law_doors" "_law_doors" (at_ 70) m7 521)::
(nat_lit 528,cO "_law_rows" "_law_rows" 885 362 1 3 523 899)::
(nat_lit 529,fO "_law_rows" "_law_rows" (at_ 71) m7 528)::
(nat_lit 535,cO "_law_goals" "_law_goals" 902 383 2 3 530 909)::
(nat_lit 536,fO "_law_goals" "_law_goals" (at_ 72) m7 535)::
(nat_lit 542,cO "_law_order" "_law_order" 912 391 2 3 537 919)::
(nat_lit 543,fO "_law_order" "_law_order" (at_ 73) m7 542)::
(nat_lit 547,dO "_law_chain_row" "_law_chain_row" 922 396 3 3 544 925)::
(nat_lit 548,fO "_law_chain_row" "_law_chain_row" (at_ 74) m7 547)::
(nat_lit 554,cO "_law_more_row" "_law_more_row" 928 408 3 3 549 936)::
(nat_lit 555,fO "_law_more_row" "_law_more_row" (at_ 75) m7 554)::
(nat_lit 559,dO "_law_detour" "_law_detour" 939 414 1 3 556 942)::
(nat_lit 560,fO "_law_detour" "_law_detour" (at_ 76) m7 559)::
(nat_lit 566,cO "_law_is_int" "_law_is_int" 945 433 1 3 561 949)::
(nat_lit 567,fO "_law_is_int" "_law_is_int" (at_ 77) m7 566)::
(nat_lit 571,dO "_law_plan" "_law_plan" 952 435 4 3 568 955)::
(nat_lit 572,fO "_law_plan" "_law_plan" (at_ 78) m7 571)::
(nat_lit 576,dO "_law_fewer" "_law_fewer" 958 448 4 3 573 961)::
(nat_lit 577,fO "_law_fewer" "_law_fewer" (at_ 79) m7 576)::
(nat_lit 583,cO "_law_steps" "_law_steps" 964 456 5 3 578 973)::
(nat_lit 584,fO "_law_steps" "_law_steps" (at_ 80) m7 583)::
(nat_lit 590,cO "_law_holds" "_law_holds" 976 472 3 3 585 986)::
(nat_lit 591,fO "_law_holds" "_law_holds" (at_ 81) m7 590)::
(nat_lit 597,cO "law" "law" 989 481 1 3 592 999)::
(nat_lit 598,fO "law" "law" (at_ 82) m7 597)::[]
noncomputable abbrev H:Hook:=kHook K [2,3,23,24,37,49,68,87,106,125,133,134,140,141,154,155,161,162,168,169,170,176,177,183,184,190,191,195,196,200,201,205,206,212,213,219,220,233,234,240,241,252,253,259,260,266,267,273,274,280,281,292,293,317,318,328,329,335,336,342,343,347,348,352,353,359,360,371,372,376,377,383,384,390,391,395,396,402,403,409,410,414,415,419,420,424,425,431,432,438,439,445,446,450,451,455,456,462,463,469,470,474,475,481,482,488,489,495,496,502,503,509,510,516,517,521,522,528,529,535,536,542,543,547,548,554,555,559,560,566,567,571,572,576,577,583,584,590,591,597,598] (λ_=>by kernel_rfl)
abbrev Xt:Shared->Bool:=λs=>xlAt q [] s&&recOk (RowW.records row.toRowW) s
theorem aa2{A B C:Type}{o:Option C}{f:C->A}{g:C->B}{a:A}{b:B}(h:o.map f=some a)(k:o.map g=some b):o.map (λs=>(f s,g s))=some (a,b):=by
  cases o with
  | none=>exact nomatch h
  | some c=>injection h with h;injection k with k;subst h;subst k;rfl
section
variable{A B C D E F G X:Type}{o:Option X}{f:X->A×B×C×D×E×F×G}{t:A×B×C×D×E×F×G}
def p1:A×B×C×D×E×F×G->A
  | (a,_,_,_,_,_,_)=>a
def p2:A×B×C×D×E×F×G->B×C
  | (_,b,c,_,_,_,_)=>(b,c)
def p3:A×B×C×D×E×F×G->D
  | (_,_,_,d,_,_,_)=>d
def p5:A×B×C×D×E×F×G->E
  | (_,_,_,_,e,_,_)=>e
def p6:A×B×C×D×E×F×G->F
  | (_,_,_,_,_,f,_)=>f
def p4:A×B×C×D×E×F×G->G
  | (_,_,_,_,_,_,g)=>g
theorem pr(h:o.map (λx=>p1 (f x))=some t.1)(g:o.map (λx=>p2 (f x))=some (t.2.1,t.2.2.1))(k:o.map (λx=>p3 (f x))=some t.2.2.2.1)(k1:o.map (λx=>p5 (f x))=some t.2.2.2.2.1)(k2:o.map (λx=>p6 (f x))=some t.2.2.2.2.2.1)(l:o.map (λx=>p4 (f x))=some t.2.2.2.2.2.2):o.map f=some t:=by
  cases o with
  | none=>exact nomatch h
  | some x=>
    replace h:p1 (f x)=t.1:=aay h;replace g:p2 (f x)=(t.2.1,t.2.2.1):=aay g;replace k:p3 (f x)=t.2.2.2.1:=aay k;replace k1:p5 (f x)=t.2.2.2.2.1:=aay k1;replace k2:p6 (f x)=t.2.2.2.2.2.1:=aay k2;replace l:p4 (f x)=t.2.2.2.2.2.2:=aay l;show some (f x)=some t;revert h g k k1 k2 l;generalize f x=u;obtain ⟨a,b,c,d,e,f',y⟩:=u;obtain ⟨a',b',c',d',e',f'',y'⟩:=t;intro h g k k1 k2 l;cases (h:a=a');cases (g:(b,c)=(b',c'));cases (k:d=d');cases (k1:e=e');cases (k2:f'=f'');cases (l:y=y');rfl
end
def WJ{A B:Type}(o:Option A)(c:A->Bool)(T:A->Option B):Option (A×B):=o.bind λa=>match c a with
  | true=>(T a).map λb=>(a,b)
  | false=>none
def WW {A B:Type} (o:Option A) (c:A->Bool) (T:A->Option B) (k:A->B->Bool):Option B:=o.bind λa=>match c a with
  | true=>(T a).bind λb=>match k a b with
    | true=>some b
    | false=>none
  | false=>none
theorem bnd {A B C:Type} {o:Option A} {c:A->Bool} {T:A->Option B} {k:A->B->Bool} {g:B->C} {v:C} (h:(WJ o c T).map (λx=>k x.1 x.2)=some true) (l:(WJ o c T).map (λx=>g x.2)=some v):(WW o c T k).map g=some v:=by
  unfold WJ at h l;unfold WW;cases o with
  | none=>exact nomatch h
  | some a=>
    dsimp only [Option.bind] at h l⊢;cases hc:c a with
    | false=>rw [hc] at h;exact nomatch h
    | true=>
      rw [hc] at h l;dsimp only at h l⊢;cases hT:T a with
      | none=>rw [hT] at h;exact nomatch h
      | some b=>
        rw [hT] at h l;injection h with h;injection l with l
        dsimp only [Option.bind];rw [show k a b=true from h];exact abm some l
noncomputable abbrev oA(p:Program)(w:World)(N:Nat):Option Shared:=(Fast.tw10274390034422433532 Fast.tw14364793385576792824 (opening p) w N (Fast.tw1435165496053646825 (opening p)).1 (Fast.tw1435165496053646825 (opening p)).2).bind (fenceModules? p)
abbrev cA(s:Shared):Bool:=s.heap.isNs mainGlobals&&s.gens.size==0
noncomputable abbrev tA(p:Program)(w:World)(N:Nat)(s₀:Shared):Option Shared:=Fast.tw14082659384304107361 Fast.tw14364793385576792824 p w s₀.heap.objs.size (s₀.heap.nsMap mainGlobals "__annotations__") N s₀ (topStub p)
abbrev kA(p:Program)(s₀ s₁:Shared):Bool:=staticsOk (importedModules p.main.body) s₀.heap s₁.heap&&namesBound p s₁.heap&&gensDone s₁&&laidKept s₀.heap s₁.heap
theorem oe(p:Program)(w:World)(N:Nat):openEnds treeTable p w N=WW (oA p w N) cA (tA p w N) (kA p):=by unfold openEnds fencedOpening topFrom WW oA tA;rewrite [Fast.te14082659384304107361,Fast.te14364793385576792824,Fast.te10274390034422433532,Fast.te1435165496053646825];rfl
noncomputable abbrev go(w:World):=WJ (oA row.prog w 8294) cA (tA row.prog w 8294)
abbrev gd:=openGood q []
noncomputable abbrev sn(x:Shared×Shared):=Fast.tw4187177175401517315 q [] (importedModules row.prog.main.body) Xt true x.2
theorem la(w:World):(go w).map (λx=>p1 (sn x))=some gd.1:=by kernel_rfl
theorem lb(w:World):(go w).map (λx=>p2 (sn x))=some (gd.2.1,gd.2.2.1):=by kernel_rfl
theorem lc(w:World):(go w).map (λx=>p3 (sn x))=some gd.2.2.2.1:=by kernel_rfl
theorem le(w:World):(go w).map (λx=>p5 (sn x))=some gd.2.2.2.2.1:=by kernel_rfl
theorem lg(w:World):(go w).map (λx=>p6 (sn x))=some gd.2.2.2.2.2.1:=by kernel_rfl
theorem ld(w:World):(go w).map (λx=>p4 (sn x))=some gd.2.2.2.2.2.2:=by kernel_rfl
theorem lk(w:World):(go w).map (λx=>kA row.prog x.1 x.2)=some true:=by kernel_rfl
theorem lo(w:World):(go w).map (λx=>H.obs x.2)=some (H.val w):=by kernel_rfl
theorem V2(w:World):(openEnds treeTable row.prog w 8294).map (openSeen q [] (importedModules row.prog.main.body) Xt true)=some gd:=by rewrite [oe,Fast.te4187177175401517315];exact bnd (lk w) (pr (la w) (lb w) (lc w) (le w) (lg w) (ld w))
theorem Wt(w:World):(openEnds treeTable row.prog w 8294).map H.obs=some (H.val w):=by rewrite [oe];exact bnd (lk w) (lo w)
theorem left:LeftO row.prog q [] Xt H.obs H.val 8294:=λw=>aa2 (V2 w) (Wt w)
end Hd
local macro_rules|`(())=>`(by omega)
local macro_rules|`(@_)=>`(by decide)
open Lean in
def rpt:Nat → Term → MacroM (TSyntax `rcasesPat)
|0,_=>Macro.throwUnsupported
|n+1,t=>match t with
|`(($c,$d,*))=>do rpt n (←`(⟨$c,$d,*⟩))
|`(⟨$a,*⟩)=>do
 let b←a.getElems.mapM (rpt n)
 let b←b.mapM λp=>`(Lean.Parser.Tactic.rcasesPatLo|$p:rcasesPat)
 `(rcasesPat|⟨$b,*⟩)
|`(_)=>`(rcasesPat|_)
|`($x:ident)=>`(rcasesPat|$x:ident)
|_=>Macro.throwUnsupported
open Lean in
local macro_rules|`(tactic|have ⟨$a,*⟩:=$e)=>do
 let p←rpt 99 (←`(⟨$a,*⟩))
 `(tactic|obtain $p:rcasesPat:=$e)
open Lean in
local macro_rules|`(λ$xs*=>$b)=>do
 let mut ys:=#[]
 let mut ts:=#[]
 if (←MonadRef.getRef)[0].isToken "fun" then Macro.throwUnsupported
 for x in xs do
  if x.1.isOfKind `Lean.Parser.Term.anonymousCtor||x.1.isOfKind `Lean.Parser.Term.tuple then
   let p←rpt 99 ⟨x.1⟩
   let y←withFreshMacroScope `(h)
   ys:=ys.push y
   ts:=ts.push (←`(tactic|obtain $p:rcasesPat:=$y))
  else ys:=ys.push ⟨x.1⟩
 if ts.isEmpty then Macro.throwUnsupported
 `(λ$ys*=>by{$[$ts]*;exact $b})
set_option hygiene false in
local macro_rules|`($g &&& ($F,$a,$n))=>`(mc $g (($F).binds λ_ _ _ _ _ _=>$n) (mg_of X G $a) ($F).kp)
set_option hygiene false in
local macro_rules|`($g ||| ($F,$a,$i,$n))=>`(⟨$g,(($F).binds λ_ _ _ _ _ _=>$n),⟨lT,lB,ly,lL⟩,⟨$a,$i,($F).kp⟩⟩)
set_option genSizeOf false
set_option bootstrap.genMatcherCode false
noncomputable def PySem.W.Fast.tw17244727370673176038:=PySem.Challenge.pw_chanceduel_k44_plans_for_goals
theorem PySem.W.Fast.te17244727370673176038:PySem.Challenge.pw_chanceduel_k44_plans_for_goals=PySem.W.Fast.tw17244727370673176038:=rfl
section
open Lean in
def og(t:Syntax):MacroM Unit:=match t.getHeadInfo with
|.original _ _ t _=>if t.bsize>0 then Macro.throwUnsupported else pure .unit
|_=>Macro.throwUnsupported
open Lean in
def oh(t:Syntax):MacroM Unit:=match t.getHeadInfo with
|.original _ _ t _=>if t.bsize>1 then Macro.throwUnsupported else pure .unit
|_=>Macro.throwUnsupported
local macro_rules|`(($a,%$t$b,*))=>do og t;`(⟨$a,$b,*⟩)
def xu(h:True:=by rfl):=h
def xv(h:True:=by decide):=h
def xw(h:True:=by intro _;rfl):=h
local macro_rules|`($a|>1)=>`(autoParam $a xu._auto_1)|`($a|>2)=>`(autoParam $a xv._auto_1)|`($a|>3)=>`(autoParam $a xw._auto_1)
local macro_rules|`(-%$t$a)=>do og t;`(($a).length)
local macro_rules|`(!%$t$a)=>do og t;`(some $a)
local macro_rules|`(tactic|show%$t $e)=>do oh t;`(tactic|refine $e)
local macro_rules|`(tactic|let%$t $e:letDecl)=>do oh t;`(tactic|have $e:letDecl)
open Lean in
local macro_rules|`(tactic|let ($a,$b,*):=$e)=>do
 let p←rpt 99 (←`(⟨$a,$b,*⟩))
 `(tactic|obtain $p:rcasesPat:=$e)
def fI:2<=PySem.sizeLine:=@_
abbrev fv:=PySem.W.Frag
namespace L2
open PySem PySem.Spec PyProof.Rows
variable{us:List Value}{a b dx C:Addr}{P prog:Program}{w:World}{h h' base:Heap}{η:List (Addr×Obj)}{s:Shared}{g':Array GenState}{ch fp:List Addr}{i:Nat}{x:Str}{M:Model}{A:Around}{E Q:Value->Shared->Prop}{u:Value}{e c tg:Expr}{es:List Expr}{body:List Stmt}{f:Value->Value->Sem Value}{op:CmpOp}{mA mg:Str->Option Value}{kw:List (Str×Value)}{outer:List Env}{ps:List Str}
abbrev Key:=Sum Int Str
def vJ:Key->Value->Bool
 | .inl k,v=>Value.isInt k v
 | .inr x,v=>Value.isStrOf x v
def aaf(w:World):Key->Int
 | .inl k=>hashInt k
 | .inr x=>hashStr w x
def bO:∀{k:Key} {v:Value},vJ k v=true->(∃i t,k=Sum.inl i/\v=Value.int i t)\/(∃x t,k=Sum.inr x/\v=Value.str x t)
 | .inl i,v,h=>by let(t,e):=Value.isInt_shape (k:=i) (v:=v) h;show .inl (i,t,rfl,e)
 | .inr x,v,h=>by let(t,e):=Value.isStrOf_shape (x:=x) (v:=v) h;show .inr (x,t,rfl,e)
def GW(i:Int)(t:Tok):vJ (.inl i) (.int i t)=true:=by simp[vJ,Value.isInt]
def HS(x:Str)(t:Tok):vJ (.inr x) (.str x t)=true:=by simp[vJ,Value.isStrOf]
def Rc(a b:Int):decide ((Sum.inl a:Key)=Sum.inl b)=(a==b):=by
 by_cases e:a=b
 .subst e;simp
 .let h:¬(Sum.inl a:Key)=Sum.inl b:=λq=>e (Sum.inl.inj q);rw[aaF h];show(beq_eq_false_iff_ne.mpr e).symm
def RR(a b:Str):decide ((Sum.inr a:Key)=Sum.inr b)=decide (a=b):=by
 by_cases e:a=b
 .subst e;simp
 .let h:¬(Sum.inr a:Key)=Sum.inr b:=λq=>e (Sum.inr.inj q);rw[aaF h,aaF e]
def P_(a:Int)(b:Str):decide ((Sum.inl a:Key)=Sum.inr b)=false:=aaF nofun
def Sx(a:Str)(b:Int):decide ((Sum.inr a:Key)=Sum.inl b)=false:=aaF nofun
def bA(prog:Program)(w:World):PySem.KeyKind prog w Key where
 is:=vJ
 hash:=aaf w
 inj:=λv a b ha hb=>by
  rcases bO ha with ⟨i,t,rfl,rfl⟩| ⟨x,t,rfl,rfl⟩
  .rcases bO hb with ⟨j,u,rfl,e⟩| ⟨y,u,rfl,e⟩
   .injection e with e1 _;rw[e1]
   .show nomatch e
  .rcases bO hb with ⟨j,u,rfl,e⟩| ⟨y,u,rfl,e⟩
   .show nomatch e
   .injection e with e1 _;rw[e1]
 byValue:=λk v h=>by rcases bO h with ⟨i,t,rfl,rfl⟩| ⟨x,t,rfl,rfl⟩ <;> rfl
 pyHash:=λhv h=>by
  rcases bO hv with ⟨i,t,rfl,rfl⟩| ⟨x,t,rfl,rfl⟩
  .show wpAny_pyHash_int h
  .show wpAny_pyHash_str h
 eqBool:=λhu hv h=>by
  rcases bO hu with ⟨i,t,rfl,rfl⟩| ⟨x,t,rfl,rfl⟩
  .rcases bO hv with ⟨j,u,rfl,rfl⟩| ⟨y,u,rfl,rfl⟩
   .rw[Rc]at h;show wpAny_eqBool_int h
   .rw[P_]at h;show SeqAt.EqAt.int_str i t y u _ _ _ _ h
  .rcases bO hv with ⟨j,u,rfl,rfl⟩| ⟨y,u,rfl,rfl⟩
   .rw[Sx]at h;show SeqAt.EqAt.str_int x t j u _ _ _ _ h
   .rw[RR]at h;show wpAny_eqBool_str h
 «strs»:=λk x t v h=>by
  rcases bO h with ⟨i,u,rfl,e⟩| ⟨y,u,rfl,e⟩
  .show nomatch e
  .injection e with e1 _
   subst e1;cases v <;> rfl
def zC(prog:Program)(w:World)(i:Int)(t:Tok):(bA prog w).is (.inl i) (.int i t)=true:=GW i t
def As(prog:Program)(w:World)(x:Str)(t:Tok):(bA prog w).is (.inr x) (.str x t)=true:=HS x t
inductive V where
 | aZ| bl (b:Bool)| int (i:Int)| str (x:Str)| Ii (b:Array UInt8)| SI (b:UInt64)| ref (a:Addr)| ty (n:String)
 deriving DecidableEq
variable{v:V}
def aB:V->Value->Prop
 | .aZ,u=>u=Value.none
 | .bl b,u=>u=Value.bool b
 | .int i,u=>∃t,u=Value.int i t
 | .str x,u=>∃t,u=Value.str x t
 | .Ii b,u=>∃t,u=Value.bytes b t
 | .SI b,u=>∃t,u=Value.float b t
 | .ref a,u=>u=Value.ref a
 | .ty n,u=>u=Value.type n
abbrev aH:List V->List Value->Prop:=Paired aB
def aH.length(r:aH xs us):-xs=-us:=Paired.length r
def aH.get:∀{xs:List V} {us:List Value} {i:Nat} {x:V},aH xs us->xs[i]? =!x->∃u,us[i]? =!u/\aB x u
 | _,_,_,_,.nil,e=>by simp at e
 | _,_,0,_,.cons r _,e=>by simp at e;subst e;show(_,rfl,r)
 | _,_,i+1,x,.cons _ t,e=>by let(u,h1,h2):=aH.get (i:=i) (x:=x) t (by simpa using e);show(u,by simpa using h1,h2)
def aH.set{x:V}{u:Value}(r:aB x u):∀{xs:List V} {us:List Value} (i:Nat),aH xs us->aH (xs.set i x) (us.set i u)
 | _,_,_,.nil=>.nil
 | _,_,0,.cons _ t=>.cons r t
 | _,_,i+1,.cons q t=>.cons q (aH.set r i t)
def aH.append:∀{xs ys:List V} {us ws:List Value},aH xs us->aH ys ws->aH (xs++ys) (us++ws)
 | _,_,_,_,.nil,s=>s
 | _,_,_,_,.cons r t,s=>.cons r (aH.append t s)
def aH.take:∀{xs:List V} {us:List Value} (n:Nat),aH xs us->aH (xs.take n) (us.take n)
 | _,_,0,_=>.nil
 | _,_,_+1,.nil=>.nil
 | _,_,n+1,.cons r t=>.cons r (aH.take n t)
def aH.drop:∀{xs:List V} {us:List Value} (n:Nat),aH xs us->aH (xs.drop n) (us.drop n)
 | _,_,0,r=>r
 | _,_,_+1,.nil=>.nil
 | _,_,n+1,.cons _ t=>aH.drop n t
def jL:Option V->Option Value->Prop
 | some v,!u=>aB v u
 | none,none=>True
 | _,_=>False
def KV{κ:Type}:List (κ×V)->List (κ×Value)->Prop:=Paired λ(p:κ×V) (q:κ×Value)=>p.1=q.1/\aB p.2 q.2
def kV:Key->V
 | .inl i=>.int i
 | .inr x=>.str x
inductive HO where
 | lst (xs:List V)
 | tup (xs:List V)
 | dK (Ζ:List (Key×V))| dT (Ζ:List (List Key×V))
 | set (S:Int->Bool) (n:Nat)
 | ins (C dx:Addr) (fs:List (Str×V))
 | own (x:Addr)
 | xd (fs:List (Str×V))
 | met (f x:Addr)
 | Yr (lo hi:Int)
 | wq (o:Obj) (u:HO)
 | MD (ps:Array Value)
 | ext (φ:Heap->Prop)
variable{o:HO}
abbrev Hp:=Addr->Option HO
def upd(H:Hp)(a:Addr)(o:HO):Hp:=λb=>if b=a then !o else H b
def ao{H:Hp}:upd H a o a=!o:=by unfold upd;rw[if_pos rfl]
def Ν{H:Hp}(h:b≠a):upd H a o b=H b:=by unfold upd;rw[if_neg h]
def UB{H:Hp}{u:HO}(h:H a=!o)(h':H b=!u)(d:o≠u):a≠b:=by intro e;subst e;rw[h]at h';show d (aay h')
def cb{H:Hp}(h:H a=!o)(h':H b=none):a≠b:=by intro e;subst e;rw[h]at h';cases h'
section
variable(P:Program)(w:World)
def cw(H:Hp)(h:Heap)(a:Addr):HO->Prop
 | .lst xs=>-xs<=sizeLine/\∃(its:List Value) (n:Nat),aH xs its/\h.get? a=some {cls:=.type "list",data:=.seq its.toArray n}
 | .tup xs=>-xs<=sizeLine/\∃its:List Value,aH xs its/\IsTup h a its.toArray
 | .dK Ζ=>-Ζ<=sizeLine/\(a==sysModules)=false/\∃vs,KV Ζ vs/\h.DictOf (bA P w) a vs
 | .dT Ζ=>-Ζ<=sizeLine/\(a==sysModules)=false/\∃xs:List (List Key×Addr×Value),
   Paired (λ(p:List Key×V) (q:List Key×Addr×Value)=>p.1=q.1/\H q.2.1=!(.tup (p.1.map kV))/\aB p.2 q.2.2) Ζ xs/\
   ∃o es ep,h.get? a=!o/\o.ExactDict/\o.data= .dict es ep/\es.toList=xs.map (entryOfKey (tupleKind (bA P w)))/\(xs.map (·.1)).Nodup
 | .set S n=>h.SetOf (intKind P w) a S n
 | .ins C dx fs=>H dx=!(.own a)/\-fs<=1000/\dx≠a/\h.get? a=!(PySem.W.instObj C dx)/\
   ∃mA,h.Ns1 dx mA/\(∀f,jL (fs.lookup f) (mA f))/\PySem.Within mA (fs.map (·.1))
 | .own _=>∃o,h.get? a=!o
 | .xd fs=>∃mA,h.Ns1 a mA/\∀f,jL (fs.lookup f) (mA f)
 | .Yr lo hi=>∃t u v,h.get? a=some {cls:=.type "range",data:=.fields #[.int lo t,.int hi u,.int 1 v]}
 | .wq o u=>h.get? a=!o/\cw H h a u
 | .MD ps=>h.get? a=some {cls:=.none,data:=.fields ps}
 | .met f x=>h.get? a=!(PySem.W.methodObj (.ref f) (.ref x))
 | .ext φ=>φ h/\(∃o,h.get? a=!o)/\∀h1 h2:Heap,φ h1->(∀o,h1.get? a=!o->h2.get? a=!o)->φ h2
def lV(H:Hp)(h:Heap):Prop:=∀a o,H a=!o->cw P w H h a o
end
section
variable{H H':Hp}
def cw.lt(x:cw P w H h a o):a < h.objs.size:=by
 cases o with
 | lst xs=>let(_,_,_,_,e):=x;show aaL e
 | tup xs=>let(_,_,_,p):=x;show p.lt
 | dK Ζ=>let(_,_,_,_,o,_,_,e,_):=x;show aaL e
 | dT Ζ=>let(_,_,_,_,o,_,_,e,_):=x;show aaL e
 | set S n=>let(o,_,_,_,e,_):=x;show aaL e
 | ins C dx fs=>let(_,_,_,e,_):=x;show aaL e
 | own y=>let(_,e):=x;show aaL e
 | xd fs=>let(_,(_,_,_,e,_),_):=x;show aaL e
 | Yr lo hi=>let(_,_,_,e):=x;show aaL e
 | wq ob u=>let(e,_):=x;show aaL e
 | MD ps=>show aaL (show h.get? a=!_ from x)
 | met f y=>show aaL (show h.get? a=!_ from x)
 | ext φ=>have⟨_,⟨_,e⟩,_⟩:=x;show aaL e
def Paired.Qg{α β:Type}{F G:α->β->Prop}:∀{l₁:List α} {l₂:List β},Paired F l₁ l₂->(∀a b,F a b->G a b)->Paired G l₁ l₂
 | _,_,.nil,_=>.nil
 | _,_,.cons r t,f=>.cons (f _ _ r) (Paired.Qg t f)
def cw.CJ(x:cw P w H h a o)(k:∀b u,(b=a\/H b=!(.own a))->h.get? b=!u->h'.get? b=!u)
  (ho:∀b,H b=!(.own a)->H' b=!(.own a)) (ht:∀b xs,H b=!(.tup xs)->H' b=!(.tup xs)):cw P w H' h' a o:=by
 induction o with
 | lst xs=>let(z,its,n,r,e):=x;show(z,its,n,r,k _ _ (.inl rfl) e)
 | tup xs=>let(z,its,r,ob,e,c):=x;show(z,its,r,ob,k _ _ (.inl rfl) e,c)
 | dK Ζ=>let(z,y,vs,r,ob,es,ep,e,c):=x;show(z,y,vs,r,ob,es,ep,k _ _ (.inl rfl) e,c)
 | dT Ζ=>
  let(z,y,xs,r,ob,es,ep,e,c):=x;show(z,y,xs,Paired.Qg r λp q z=>(z.1,ht _ _ z.2.1,z.2.2),ob,es,ep,k _ _ (.inl rfl) e,c)
 | set S n=>let(ob,es,ep,t,e,c):=x;show(ob,es,ep,t,k _ _ (.inl rfl) e,c)
 | ins C dx fs=>
  let(d,z,ne,e,mA,(od,es,ep,e2,c),r):=x;show(ho _ d,z,ne,k _ _ (.inl rfl) e,mA,(od,es,ep,k _ _ (.inr d) e2,c),r)
 | own y=>let(ob,e):=x;show(ob,k _ _ (.inl rfl) e)
 | xd fs=>let(mA,(od,es,ep,e,c),r):=x;show(mA,(od,es,ep,k _ _ (.inl rfl) e,c),r)
 | Yr lo hi=>let(t,u,v,e):=x;show(t,u,v,k _ _ (.inl rfl) e)
 | wq ob u ih=>let(e,q):=x;show(k _ _ (.inl rfl) e,ih q)
 | MD ps=>
  let e:h.get? a=some {cls:=.none,data:=.fields ps}:=x;change h'.get? a=some {cls:=.none,data:=.fields ps};show k a _ (.inl rfl) e
 | met f y=>
  let e:h.get? a=!(PySem.W.methodObj (.ref f) (.ref y)):=x;change h'.get? a=!(PySem.W.methodObj (.ref f) (.ref y));show k a _ (.inl rfl) e
 | ext φ=>have⟨p,⟨o,e⟩,st⟩:=x;show(st _ _ p λo q=>k _ _ (.inl rfl) q,(o,k _ _ (.inl rfl) e),st)
def lV.lt(x:lV P w H h)(e:H a=!o):a < h.objs.size:=(x a o e).lt
def lV.fresh(x:lV P w H h)(e:h.objs.size<=a):H a=none:=by
 cases q:H a with
 | none=>rfl
 | some u=>show aa5 (aaR (x.lt q) e) (ab5 _)
def lV.kept(x:lV P w H h)(k:∀b u,h.get? b=!u->h'.get? b=!u):lV P w H h':=λa o e=>
 (x a o e).CJ (λb u _ q=>k b u q) (λ_ q=>q) λ_ _ q=>q
def lV.laid(x:lV P w H h)(k:∀b u,h.get? b=!u->h'.get? b=!u)(hp:h.objs.size<=a)(new:cw P w (upd H a o) h' a o):lV P w (upd H a o) h':=λb u e=>by
 let hn:=x.fresh hp;by_cases hb:b=a
 .subst hb;rw[ao]at e;cases e;show new
 .rw[Ν hb]at e;show(x b u e).CJ (λc v _ q=>k c v q) (λc q=>by rw[Ν (cb q hn)];show q) λc xs q=>by rw[Ν (cb q hn)];show q
end
def Rd(H:Hp)(a:Addr)(u:HO):Prop:=H a=!u\/∃o,H a=!(.wq o u)
def Rd.ok{H:Hp}{u:HO}(r:Rd H a u)(x:lV P w H h):cw P w H h a u:=by
 rcases r with r| ⟨o,r⟩
 .show x a u r
 .let(_,q):=x a _ r;show q
def Tc:Option HO->Prop
 | some (.lst _)=>True
 | some (.dK _)=>True
 | some (.dT _)=>True
 | some (.set _ _)=>True
 | some (.ins _ _ _)=>True
 | some (.ext _)=>True
 | _=>False
section
variable{H:Hp}{x e:Addr}{o':HO}
def lV.write(ok:lV P w H h)(mu:Tc (H x))(he:e=x\/H e=!(.own x))(k:∀b u,b≠e->h.get? b=!u->h'.get? b=!u)(SY:∃u,h'.get? e=!u)
  (new:cw P w (upd H x o') h' x o'):lV P w (upd H x o') h':=λb u q=>by
 let UY:∀c y,H c=!(.own y)->c≠x:=λc y r z=>by subst z;rw[r]at mu;show mu
 let ZS:∀c xs,H c=!(.tup xs)->c≠x:=λc xs r z=>by subst z;rw[r]at mu;show mu
 by_cases hb:b=x
 .subst hb;rw[ao]at q;cases q;show new
 .rw[Ν hb]at q;by_cases RN:b=e
  .let q':H b=!(.own x):=by
    rcases he with z| z
    .show aa5 (RN.trans z) hb
    .rw[RN];show z
   rw[q]at q';cases q';let(v,hv):=SY;show(v,by rw[RN];show hv)
  .show(ok b u q).CJ (λc v hc r=>k c v ?_ r) (λc r=>by rw[Ν (UY c b r)];show r) λc xs r=>by rw[Ν (ZS c xs r)];show r
   rcases hc with rfl| hc
   .show RN
   .rintro rfl;rcases he with z| z
    .show UY c b hc z
    .rw[hc]at z;cases z;show hb rfl
end
structure Un(fs ex:List Addr)(H H':Hp)(h h':Heap):Prop where
 keep:∀b o,h.get? b=!o->H b=none->b∉fs->b∉ex->h'.get? b=!o
 slot:∀b o,h.get? b=!o->H b=none->b∈fs->b∉ex->∃sl,h'.get? b=some {o with slots:=sl}
 free:∀b o,h.get? b=!o->H b=none->b∉ex->H' b=none
 there:∀b o,h.get? b=!o->b∉ex->∃o',h'.get? b=!o'
 qV:∀b xs,H b=!(.tup xs)->H' b=!(.tup xs)
 qv:∀b o u,H b=!(.wq o u)->H' b=!(.wq o u)
 rq:∀b ps,H b=!(.MD ps)->∃more,H' b=!(.MD (ps++more))
section
variable{fs X5 ex ex':List Addr}{H H1 H2:Hp}{h1 h2:Heap}{x e:Addr}
def Un.any(u:Un fs ex H H1 h h1){ob:Obj}(q:h.get? b=!ob)(n:H b=none)(hx:b∉ex):∃sl,h1.get? b=some {ob with slots:=sl}:=by
 by_cases hb:b∈fs
 .show u.slot b ob q n hb hx
 .show(ob.slots,u.keep b ob q n hb hx)
def Un.kept(k:∀b u,h.get? b=!u->h'.get? b=!u):Un fs ex H H h h':=
 (λb ob q _ _ _=>k b ob q,λb ob q _ _ _=>(ob.slots,k b ob q),λ_ _ _ n _=>n,λb ob q _=>(ob,k b ob q),λ_ _ q=>q,λ_ _ _ q=>q,λ_ ps q=>(#[],by rw[q];simp))
def Un.refl:Un fs ex H H h h:=Un.kept λ_ _ q=>q
def Un.laid(k:∀b u,h.get? b=!u->h'.get? b=!u)(hp:h.objs.size<=a)(hn:H a=none):Un fs ex H (upd H a o) h h' where
 keep:=λb u q _ _ _=>k b u q
 slot:=λb u q _ _ _=>(u.slots,k b u q)
 free:=λb u q n _=>by rw[Ν (abj (aaR (aaL q) hp))];show n
 there:=λb u q _=>(u,k b u q)
 qV:=λb xs q=>by rw[Ν (cb q hn)];show q
 qv:=λb u xs q=>by rw[Ν (cb q hn)];show q
 rq:=λb ps q=>(#[],by rw[Ν (cb q hn),q];simp)
def Un.write(mu:Tc (H x))(he:e=x\/H e=!(.own x))(k:∀b u,b≠e->h.get? b=!u->h'.get? b=!u)(SY:∃u,h'.get? e=!u):Un fs ex H (upd H x o) h h':=by
 let hx:∀b,H b=none->b≠x:=λb n z=>by subst z;rw[n]at mu;show mu
 let hb:∀b,H b=none->b≠e:=λb n z=>by
  subst z;rcases he with r| r
  .show hx b n r
  .rw[n]at r;cases r
 let hm:∀b u,H b=!u->¬Tc (!u)->b≠x:=λb u q nm z=>by subst z;rw[q]at mu;show nm mu
 show(λb u q n _ _=>k b u (hb b n) q,λb u q n _ _=>(u.slots,k b u (hb b n) q),λb u q n _=>by rw[Ν (hx b n)];show n,λb u q _=>?_,
  λb xs q=>by rw[Ν (hm b _ q λz=>z)];show q,λb u xs q=>by rw[Ν (hm b _ q λz=>z)];show q,λb ps q=>(#[],by rw[Ν (hm b _ q λz=>z),q];simp))
 by_cases RN:b=e
 .subst RN;show SY
 .show(u,k b u RN q)
end
def Xv(h:Heap)(H:Hp):List Addr:=(List.range h.objs.size).filter λa=>(H a).isSome
def y4(h:Heap)(H:Hp):Heap:=PySem.W.hideAll h (Xv h H)
def HQ(h:Heap)(H:Hp):(y4 h H).objs.size=h.objs.size:=PySem.W.hideAll_size _ _
def K0{H:Hp}{o:Obj}(e:h.get? b=!o)(n:H b=none):(y4 h H).get? b=!o:=
 PySem.W.hideAll_get _ e λhm=>by let q:(H b).isSome=true:=(List.mem_filter.mp hm).2;rw[n]at q;simp at q
def NN{H:Hp}{o:Obj}(e:(y4 h H).get? b=!o):h.get? b=!o/\H b=none:=by
 let e':h.get? b=!o:=PySem.W.of_hideAll (Xv h H) e;show(e',?_);cases q:H b with
 | none=>rfl
 | some x=>
  let hm:b∈Xv h H:=List.mem_filter.mpr (List.mem_range.mpr (Heap.lt_size e'),by simp[q]);let z:(y4 h H).get? b=none:=PySem.W.hideAll_none (Xv h H) hm;rw[z]at e;cases e
structure Mod(K:fv)(mg:Str->Option Value)(base:Heap):Prop where
 Wo:K.In base
 glob:base.Ns mainGlobals mg
 blt:∃mb,base.Ns builtinsNs mb/\∀x:Str,x≠"__name__"->mb x=bootBuiltins x
 nolimit:base.NoLimit
structure Cx where
 prog:Program
 w:World
 K:fv
 mg:Str->Option Value
 base:Heap
 A:Around
 N:List Str
 s₀:Shared
 H₀:Hp
 env:Env
 outer:List Env
 stack:List Env
 ex:List Addr
 fn:Str->Bool
 calm:Bool
 pn:List (Addr×Obj)
 xe:Value->Shared->Prop
variable{X:Cx}
def qZ(l:List Env):List Addr:=l.filterMap (·.frame)
abbrev Cx.fs(X:Cx):List Addr:=qZ X.outer
def Vis(sc:Scope)(x:Str):Prop:=sc.names.lookup x=some .local\/sc.names.lookup x=some .cell\/sc.names.lookup x=some .free
def Loc(sc:Scope)(x:Str):Prop:=sc.names.lookup x=some .local\/sc.names.lookup x=some .cell
def aa3(env:Env)(h:Heap)(m:Str->Option Value)(x:Str)(u:Value):Prop:=
 (env.kindOf x=some .local/\m x=!u)\/((env.kindOf x=some .cell\/env.kindOf x=some .free)/\∃c,env.cells.lookup x=!c/\h.IsCell c (!u))
structure Cx.Ok(X:Cx):Prop where
 mod:Mod X.K X.mg X.base
 kind:X.env.scope.kind= .function
 glob:X.env.globals=mainGlobals
 blt:X.env.builtins=builtinsNs
 above:X.s₀.heap.objs.size<=X.env.locals
 inj:∀x y c,X.env.cells.lookup x=!c->X.env.cells.lookup y=!c->x=y
 has:∀x,(X.env.kindOf x=some .cell\/X.env.kindOf x=some .free)->∃c,X.env.cells.lookup x=!c
 Zn:∀x c,X.fn x=true->X.env.cells.lookup x=!c->X.s₀.heap.objs.size<=c
 hd:X.calm=true->X.A.handled=none
 frames:X.A.frames=!X.stack
 stk:X.stack=X.outer\/(X.stack=X.env::X.outer/\X.env.frame=!X.env.locals)
 exf:∀b∈X.ex,b≠X.env.locals/\∀x c,X.env.cells.lookup x=!c->c≠b
 bs:∀b o,X.base.get? b=!o->X.s₀.heap.get? b=!o/\X.H₀ b=none
 Th:X.base.objs.size<=X.s₀.heap.objs.size
 Rt:∀b o,X.base.get? b=!o->b∉X.ex
 Rb:∀b∈X.ex,b∉X.fs
 uX:X.s₀.heap.FunFrames X.base X.outer
 Vr:∀b∈X.fs,X.H₀ b=none
structure Inv(X:Cx)(η:List (Addr×Obj))(σ:List (Option V))(H:Hp)(s:Shared):Prop where
 ok:X.Ok
 os:s.os=X.s₀.os
 bare:AllBare s.gens
 base:Un X.fs X.ex X.H₀ H X.s₀.heap s.heap
 loc:∃m,s.heap.Ns X.env.locals m/\∀(i:Nat) (x:Str) (v:V),X.N[i]? =!x->σ[i]? =!(!v)->Vis X.env.scope x->∃u,aB v u/\aa3 X.env s.heap m x u
 cell:∀x c,X.env.cells.lookup x=!c->∃v,s.heap.IsCell c v
 free:H X.env.locals=none
 qG:∀x c,X.env.cells.lookup x=!c->H c=none
 pin:∀p∈X.pn++η,s.heap.get? p.1=!p.2/\H p.1=none/\p.1≠X.env.locals/\p.1∉X.fs/\∀v,p.2.data≠ .cell v
 aU:lV X.prog X.w H s.heap
 len:-σ=-X.N
section
variable{σ:List (Option V)}{H H':Hp}
def Cx.Ok.X'(ok:X.Ok){o:Obj}(e:X.base.get? b=!o):b∉X.fs:=λhb=>by have:=(ok.uX.mem hb).1;rw[e]at this;cases this
def Inv.bs(I:Inv X η σ H s):∀b o,X.base.get? b=!o->s.heap.get? b=!o/\H b=none:=λb o e=>
 (I.base.keep b o (I.ok.bs b o e).1 (I.ok.bs b o e).2 (I.ok.X' e) (I.ok.Rt b o e),I.base.free b o (I.ok.bs b o e).1 (I.ok.bs b o e).2 (I.ok.Rt b o e))
def Inv.bk(I:Inv X η σ H s):∀b o,X.base.get? b=!o->s.heap.get? b=!o:=λb o e=>(I.bs b o e).1
def Inv.mod(I:Inv X η σ H s):Mod X.K X.mg X.base:=I.ok.mod
def Inv.qR(I:Inv X η σ H s):X.K.In s.heap:=I.ok.mod.Wo.keeps I.bk
def Inv.lt(I:Inv X η σ H s):X.env.locals < s.heap.objs.size:=let (_,hn,_):=I.loc;hn.lt
def Inv.sz(I:Inv X η σ H s):X.s₀.heap.objs.size<=s.heap.objs.size:=aaH I.ok.above (Nat.le_of_lt I.lt)
def Inv.aac(I:Inv X η σ H s)(h:s.heap.objs.size<=a):a∉X.fs:=λhb=>by let(_,o,ho,_):=I.ok.uX.mem hb;show aa5 (aaR (aaL ho) (aaH I.sz h)) (ab5 _)
def Inv.MS(I:Inv X η σ H s):∀x c,X.env.cells.lookup x=!c->c≠X.env.locals:=λx c e z=>by let(v,o,ho,hd):=I.cell x c e;let(m,(o',es,ep,AD,Mi,_),_):=I.loc;rw[z,AD]at ho;cases ho;rw[Mi]at hd;cases hd
def Inv.uX(I:Inv X η σ H s):s.heap.FunFrames X.base X.outer:=by
 let all:∀(l:List Env),(∀b∈qZ l,b∈X.fs)->X.s₀.heap.FunFrames X.base l->s.heap.FunFrames X.base l:=by
  intro l
  induction l with
  | nil=>intro _ _;trivial
  | cons env r ih=>
   intro hs hl;let(hk,(L,o,hf,hn,ho,hd),hr):=hl;let hL:L∈X.fs:=hs L (by unfold qZ;rw[List.filterMap_cons,hf];show List.mem_cons_self);let(sl,e):=I.base.slot L o ho (I.ok.Vr L hL) hL λz=>I.ok.Rb L z hL;show(hk,(L,_,hf,hn,e,hd),ih (λb hb=>hs b (by unfold qZ;rw[List.filterMap_cons,hf];show List.mem_cons_of_mem _ hb)) hr)
 show all X.outer (λ_ hb=>hb) I.ok.uX
def Inv.stack(I:Inv X η σ H s):s.heap.FunFrames X.base X.stack:=by
 rcases I.ok.stk with e| ⟨e,hf⟩
 .rw[e];show I.uX
 .rw[e];let(m,hn,_):=I.loc;show .cons (by rw[I.ok.kind];decide) hf hn ?_ I.uX;show Heap.get?_none_of_le (aaH I.ok.Th I.ok.above)
def Inv.xg(I:Inv X η σ H s):∀b∈qZ X.stack,b∈X.env.locals::X.fs:=λb hb=>by
 rcases I.ok.stk with e| ⟨e,hf⟩
 .rw[e]at hb;show aag _ hb
 .rw[e]at hb;unfold qZ at hb;rw[List.filterMap_cons,hf]at hb;show hb
def Inv.xY(I:Inv X η σ H s):∀b∈qZ X.stack,H b=none:=λb hb=>by
 rcases aaS.mp (I.xg b hb) with e| hb
 .rw[e];show I.free
 .let(_,o,ho,_):=I.ok.uX.mem hb;show I.base.free b o ho (I.ok.Vr b hb) λz=>I.ok.Rb b z hb
def Inv.step{t':Nat}{d':Drawn}(I:Inv X η σ H s)
  (BL:∀b∈ch,(b∈X.ex\/X.s₀.heap.objs.size<=b)/\b≠X.env.locals/\(∀x c,X.env.cells.lookup x=!c->c≠b)/\∀p∈X.pn++η,p.1≠b)
  (keep:∀b o,b≠X.env.locals->b∉X.fs->b∉ch->s.heap.get? b=!o->H b=none->h'.get? b=!o)
  (slot:∀b o,b≠X.env.locals->b∈X.fs->b∉ch->s.heap.get? b=!o->H b=none->∃sl,h'.get? b=some {o with slots:=sl}) (free:∀b o,b∉ch->s.heap.get? b=!o->H b=none->H' b=none)
  (there:∀b o,b∉ch->s.heap.get? b=!o->∃o',h'.get? b=!o')
  (qV:∀b xs,H b=!(.tup xs)->H' b=!(.tup xs)) (qv:∀b o u,H b=!(.wq o u)->H' b=!(.wq o u)) (rq:∀b ps,H b=!(.MD ps)->∃more,H' b=!(.MD (ps++more)))
  (ns:∀m,s.heap.Ns X.env.locals m->h'.Ns X.env.locals m) (aU:lV X.prog X.w H' h') (hg:AllBare g'):
  Inv X η σ H' {s with heap:=h',gens:=g',drawn:=d',toks:=t'}:=by
 let neL:∀b o,X.s₀.heap.get? b=!o->b≠X.env.locals:=λb o e=>abj (aaR (aaL e) I.ok.above);let Xr:∀b o,X.s₀.heap.get? b=!o->b∉X.ex->b∉ch:=λb o e hx hb=>by
  rcases(BL b hb).1 with z| z
  .show hx z
  .show aa5 (aaR (aaL e) z) (ab5 _)
 let cellK:∀x c,X.env.cells.lookup x=!c->∀v,s.heap.IsCell c v->h'.IsCell c v:=λx c e v (o,ho,hd)=>by
  let Uz:c∉ch:=λz=>(BL c z).2.2.1 x c e rfl;by_cases hc:c∈X.fs
  .let(sl,q):=slot c o (I.MS x c e) hc Uz ho (I.qG x c e);show(_,q,hd)
  .show(o,keep c o (I.MS x c e) hc Uz ho (I.qG x c e),hd)
 show(I.ok,I.os,hg,(λb o e n hb hx=>?_,λb o e n hb hx=>?_,λb o e n hx=>?_,λb o e hx=>?_,λb xs e=>qV b xs (I.base.qV b xs e),λb o xs e=>qv b o xs (I.base.qv b o xs e),λb ps e=>?_),?_,λx c e=>?_,?_,λx c e=>?_,λp hp=>?_,aU,I.len)
 .show keep b o (neL b o e) hb (Xr b o e hx) (I.base.keep b o e n hb hx) (I.base.free b o e n hx)
 .let(sl,e1):=I.base.slot b o e n hb hx;let(sl',e2):=slot b _ (neL b o e) hb (Xr b o e hx) e1 (I.base.free b o e n hx);show(sl',e2)
 .let(o',e1):=I.base.there b o e hx;show free b o' (Xr b o e hx) e1 (I.base.free b o e n hx)
 .let(o',e1):=I.base.there b o e hx;show there b o' (Xr b o e hx) e1
 .let(m1,e1):=I.base.rq b ps e;let(m2,e2):=rq b _ e1;show(m1++m2,by rw[e2,Array.append_assoc])
 .let(m,hn,hl):=I.loc;show(m,ns m hn,λi x v e1 e2 e3=>?_);let(u,r,l):=hl i x v e1 e2 e3;show(u,r,?_);rcases l with l| ⟨k,c,e,z⟩
  .show .inl l
  .show .inr (k,c,e,cellK x c e _ z)
 .let(v,z):=I.cell x c e;show(v,cellK x c e v z)
 .let(m,(o,_,_,ho,_),_):=I.loc;show free _ o (λz=>(BL _ z).2.1 rfl) ho I.free
 .let(v,o,ho,hd):=I.cell x c e;show free c o (λz=>(BL c z).2.2.1 x c e rfl) ho (I.qG x c e)
 .let(e,n,ne,nf,d):=I.pin p hp;let Uz:p.1∉ch:=λz=>(BL p.1 z).2.2.2 p hp rfl;show(keep p.1 p.2 ne nf Uz e n,free p.1 p.2 Uz e n,ne,nf,d)
def Inv.un{t':Nat}(I:Inv X η σ H s)(u:Un X.fs [] H H' s.heap h')(aU:lV X.prog X.w H' h'):Inv X η σ H' {s with heap:=h',toks:=t'}:=by
 let(m,(o,es,ep,ho,r),_):=id I.loc;let(sl,hL):=u.any ho I.free (by simp)
 show I.step (g':=s.gens) (d':=s.drawn) (ch:=[]) (λ_ z=>nomatch z) (λb o _ hb _ e n=>u.keep b o e n hb (by simp)) (λb o _ hb _ e n=>u.slot b o e n hb (by simp)) (λb o _ e n=>u.free b o e n (by simp)) (λb o _ e=>u.there b o e (by simp)) u.qV u.qv u.rq (λm' hm=>by
  let(o',Q9,ep',AD,r'):=hm;rw[ho]at AD;cases AD
  show(_,Q9,ep',hL,r')) aU I.bare
def Inv.call{t':Nat}{d':Drawn}(I:Inv X η σ H s)(u:Un (qZ X.stack) ch H H' s.heap h')(aU:lV X.prog X.w H' h')(hg:AllBare g')
  (BL:∀b∈ch,(b∈X.ex\/X.s₀.heap.objs.size<=b)/\b≠X.env.locals/\(∀x c,X.env.cells.lookup x=!c->c≠b)/\∀p∈X.pn++η,p.1≠b):
  Inv X η σ H' {s with heap:=h',gens:=g',drawn:=d',toks:=t'}:=by
 let(m,(o,es,ep,ho,r),_):=id I.loc;let(sl,hL):=u.any ho I.free λz=>(BL _ z).2.1 rfl
 show I.step (ch:=ch) BL (λb o hL hb hc e n=>u.keep b o e n (λz=>(aaS.mp (I.xg b z)).elim hL hb) hc) (λb o _ _ hc e n=>u.any e n hc) (λb o hc e n=>u.free b o e n hc) (λb o hc e=>u.there b o e hc) u.qV u.qv u.rq (λm' hm=>by
  let(o',Q9,ep',AD,r'):=hm;rw[ho]at AD;cases AD
  show(_,Q9,ep',hL,r')) aU hg
def Inv.turned{t':Nat}{it:Addr}(I:Inv X η σ H s)(k:∀b o,b≠it->s.heap.get? b=!o->h'.get? b=!o)(hn:H it=none)(hL:it≠X.env.locals)
  (h1:it∈X.ex\/X.s₀.heap.objs.size<=it) (h2:∀x c,X.env.cells.lookup x=!c->c≠it) (h3:∀p∈X.pn++η,p.1≠it):Inv X η σ H {s with heap:=h',toks:=t'}:=by
 let nit:∀b u,H b=!u->b≠it:=λb u e z=>by rw[z,hn]at e;cases e
 show I.step (g':=s.gens) (d':=s.drawn) (ch:=[it]) (λb hb=>?_) (λb o _ _ hc e _=>k b o (λz=>hc (by simp[z])) e) (λb o _ _ hc e _=>(o.slots,k b o (λz=>hc (by simp[z])) e)) (λ_ _ _ _ n=>n)
  (λb o hc e=>(o,k b o (λz=>hc (by simp[z])) e)) (λ_ _ e=>e) (λ_ _ _ e=>e) (λb ps e=>(#[],by rw[e];simp)) (λm hm=>?_) (λb u e=>?_) I.bare
 .let e:b=it:=by simpa using hb
  subst e;show(h1,hL,h2,h3)
 .let(o,es,ep,ho,r):=hm;show(o,es,ep,k _ o (Ne.symm hL) ho,r)
 .show(I.aU b u e).CJ (λc v hc q=>k c v ?_ q) (λ_ q=>q) λ_ _ q=>q;rcases hc with z| z
  .rw[z];show nit b u e
  .show nit c _ z
def Inv.tok(I:Inv X η σ H s)(t:Nat):Inv X η σ H {s with toks:=t}:=I.un (h':=s.heap) (t':=t) Un.refl I.aU
def Inv.kept{t':Nat}(I:Inv X η σ H s)(k:∀b u,s.heap.get? b=!u->h'.get? b=!u):Inv X η σ H {s with heap:=h',toks:=t'}:=I.un (Un.kept k) (I.aU.kept k)
def Inv.laid{t':Nat}(I:Inv X η σ H s)(k:∀b u,s.heap.get? b=!u->h'.get? b=!u)(hp:s.heap.objs.size<=a)(new:cw X.prog X.w (upd H a o) h' a o):
  Inv X η σ (upd H a o) {s with heap:=h',toks:=t'}:=I.un (Un.laid k hp (I.aU.fresh hp)) (I.aU.laid k hp new)
def Inv.write{x e:Addr}{t':Nat}(I:Inv X η σ H s)(mu:Tc (H x))(he:e=x\/H e=!(.own x))(k:∀b u,b≠e->s.heap.get? b=!u->h'.get? b=!u)(SY:∃u,h'.get? e=!u)
  (new:cw X.prog X.w (upd H x o) h' x o):Inv X η σ (upd H x o) {s with heap:=h',toks:=t'}:=I.un (Un.write mu he k SY) (I.aU.write mu he k SY new)
def Inv.E_{OV:List (Addr×Obj)}(I:Inv X η σ H s)(h:∀p∈OV,s.heap.get? p.1=!p.2/\H p.1=none/\p.1≠X.env.locals/\p.1∉X.fs/\∀v,p.2.data≠ .cell v):Inv X OV σ H s:=
 (I.ok,I.os,I.bare,I.base,I.loc,I.cell,I.free,I.qG,λp hp=>(abo.mp hp).elim (λz=>I.pin p (List.mem_append_left _ z)) (h p),I.aU,I.len)
def Bp{N:List Str}(hN:N.Nodup){j:Nat}(a:N[i]? =!x)(b:N[j]? =!x):i=j:=by let(h1,e1):=aam.mp a;let(h2,e2):=aam.mp b;show(List.getElem_inj hN).mp (e1.trans e2.symm)
def vO{Q:Unit->Shared->Prop}(I:Inv X η σ H s)(hN:X.N.Nodup)(hi:X.N[i]? =!x)(hx:Loc X.env.scope x)(r:aB v u)
  (h:∀s',Inv X η (σ.set i (!v)) H s'->(∃a,Heap.SameBut a s.heap s'.heap/\(a=X.env.locals\/X.env.cells.lookup x=!a))->Q Unit.unit s') (hf:X.fn x=true\/X.env.scope.names.lookup x=some .local:=by first| exact .inl rfl| exact .inr rfl| assumption):wpAny M A (storeName X.env x u) Q E s:=by
 let(m,hn,hl):=id I.loc;let ZU:(X.env.scope.kind== .class|| (X.env.scope.kind== .module&&X.env.locals != X.env.globals))=false:=by rw[I.ok.kind];rfl
 let U2:i < -σ:=by rw[I.len];show(aam.mp hi).1
 let MS:=I.MS;let tracked:∀{a:Addr} {h':Heap},(∃o,s.heap.get? a=!o/\H a=none)->Heap.SameBut a s.heap h'->lV X.prog X.w H h':=λ{a h'} ha hs b ob e=>by
  let(_,_,PL):=ha;show(I.aU b ob e).CJ (λc w' hc q=>(hs.2 c ?_).trans q) (λ_ q=>q) λ_ _ q=>q;rintro rfl;rcases hc with rfl| hc
  .rw[PL]at e;cases e
  .rw[PL]at hc;cases hc
 rcases hx with hk| hk
 .show wpAny_storeName_local hk hn (λh' SH hs=>?_) ZU;let(oL,_,_,hoL,_):=id hn;show h _ (I.ok,I.os,I.bare,(λb o e n hb hx=>?_,λb o e n hb hx=>?_,I.base.free,λb o e hx=>?_,I.base.qV,I.base.qv,I.base.rq),(_,SH,λj y v' e1 e2 e3=>?_),λy c e=>?_,I.free,I.qG,λp hp=>?_,tracked (oL,hoL,I.free) hs,by simpa using I.len) (_,hs,.inl rfl)
  .show(hs.2 b (abj (aaR (aaL e) I.ok.above))).trans (I.base.keep b o e n hb hx)
  .let(sl,e1):=I.base.slot b o e n hb hx;show(sl,(hs.2 b (abj (aaR (aaL e) I.ok.above))).trans e1)
  .let(o',e1):=I.base.there b o e hx;show(o',(hs.2 b (abj (aaR (aaL e) I.ok.above))).trans e1)
  .by_cases hj:j=i
   .subst hj;rw[hi]at e1;cases e1;rw[abD U2]at e2;cases e2;show(u,r,.inl (hk,by simp))
   .rw[abv (Ne.symm hj)]at e2;let(u',r',q):=hl j y v' e1 e2 e3;show(u',r',?_);rcases q with ⟨k,e⟩| ⟨k,c,e,z⟩
    .show .inl (k,?_);have:y≠x:=λe=>hj (Bp hN e1 (e▸hi));simp[this,e]
    .show .inr (k,c,e,z.sameBut hs (MS y c e))
  .let(w',z):=I.cell y c e;show(w',z.sameBut hs (MS y c e))
  .let(e,n,ne,nf,d):=I.pin p hp;show((hs.2 p.1 ne).trans e,n,ne,nf,d)
 .let ZY:X.fn x=true:=by
   rcases hf with z| z
   .show z
   .rw[z]at hk;cases hk
  let(c,hc):=I.ok.has x (.inl hk);let(w',z):=I.cell x c hc;show wpAny_storeName_cell I.ok.kind hk hc z (λh' Cp hs=>?_);let(oc,hoc,XF):=id z;show h {s with heap:=h'} (I.ok,I.os,I.bare,(λb o e n hb hx=>?_,λb o e n hb hx=>?_,I.base.free,λb o e hx=>?_,I.base.qV,I.base.qv,I.base.rq),(m,hn.sameBut hs (Ne.symm (MS x c hc)),λj y v' e1 e2 e3=>?_),λy c' e=>?_,I.free,I.qG,λp hp=>?_,tracked (oc,hoc,I.qG x c hc) hs,by simpa using I.len) (c,hs,.inr hc)
  .show(hs.2 b (abj (aaR (aaL e) (I.ok.Zn x c ZY hc)))).trans (I.base.keep b o e n hb hx)
  .let(sl,e1):=I.base.slot b o e n hb hx;show(sl,(hs.2 b (abj (aaR (aaL e) (I.ok.Zn x c ZY hc)))).trans e1)
  .let(o',e1):=I.base.there b o e hx;show(o',(hs.2 b (abj (aaR (aaL e) (I.ok.Zn x c ZY hc)))).trans e1)
  .by_cases hj:j=i
   .subst hj;rw[hi]at e1;cases e1;rw[abD U2]at e2;cases e2;show(u,r,.inr (.inl hk,c,hc,Cp))
   .rw[abv (Ne.symm hj)]at e2;let(u',r',q):=hl j y v' e1 e2 e3;show(u',r',?_);rcases q with q| ⟨k,c',e,z'⟩
    .show .inl q
    .show .inr (k,c',e,z'.sameBut hs ?_);rintro rfl;show hj (Bp hN e1 (I.ok.inj _ _ _ e hc▸hi))
  .by_cases QL:c'=c
   .subst QL;show(_,Cp)
   .let(w2,z2):=I.cell y c' e;show(w2,z2.sameBut hs QL)
  .let(e,n,ne,nf,d):=I.pin p hp;show((hs.2 p.1 ?_).trans e,n,ne,nf,d);intro q;rw[q,hoc]at e;let q':oc=p.2:=aay e;show d w' (by rw[<-q'];show XF)
def oE{Q:Unit->Shared->Prop}(I:Inv X η σ H s)(hN:X.N.Nodup)(hi:X.N[i]? =!x)(hx:Loc X.env.scope x)(r:aB v u)
  (h:∀s',Inv X η (σ.set i (!v)) H s'->Q Unit.unit s') (hf:X.fn x=true\/X.env.scope.names.lookup x=some .local:=by first| exact .inl rfl| exact .inr rfl| assumption):wpAny M A (storeName X.env x u) Q E s:=
 vO I hN hi hx r (λs' I' _=>h s' I') hf
def Inv.TJ{s':Shared}(I:Inv X η σ H s)(ho:s'.os=s.os)(u:Un (qZ X.stack) ch H H' s.heap s'.heap)(aU:lV X.prog X.w H' s'.heap)(hg:AllBare s'.gens)
  (BL:∀b∈ch,(b∈X.ex\/X.s₀.heap.objs.size<=b)/\b≠X.env.locals/\(∀x c,X.env.cells.lookup x=!c->c≠b)/\∀p∈X.pn++η,p.1≠b):Inv X η σ H' s':=by
 let(h',g',d',t',o'):=s';let e:o'=s.os:=ho;subst e;show I.call (g':=g') (t':=t') (d':=d') u aU hg BL
end
abbrev XK:=Value->Option Addr->Hp->Prop
abbrev St:=List (Option V)
variable{σ:St}
abbrev VK:=V->Hp->Prop
abbrev TE:=St->Hp->VK->Prop
variable{ta te:TE}
abbrev TT:=St->Hp->(Bool->Hp->Prop)->Prop
abbrev TA:=St->Hp->(List V->Hp->Prop)->Prop
structure zx where
 nx:St->Hp->Prop
 rt:VK
 bk:St->Hp->Prop:=λ_ _=>False
 ct:St->Hp->Prop:=λ_ _=>False
abbrev TS:=zx->St->Hp->Prop
def EP(X:Cx)(η:List (Addr×Obj))(σ:St)(Q:VK)(u:Value)(s':Shared):Prop:=∃v H',Inv X η σ H' s'/\aB v u/\Q v H'
def TP(X:Cx)(η:List (Addr×Obj))(σ:St)(Q:Bool->Hp->Prop)(b:Bool)(s':Shared):Prop:=∃H',Inv X η σ H' s'/\Q b H'
def AP(X:Cx)(η:List (Addr×Obj))(σ:St)(Q:List V->Hp->Prop)(us:List Value)(s':Shared):Prop:=∃vs H',Inv X η σ H' s'/\aH vs us/\Q vs H'
def SP(X:Cx)(η:List (Addr×Obj))(D:zx)(f:Flow)(s':Shared):Prop:=
 match f with
 | .next=>∃σ' H',Inv X η σ' H' s'/\D.nx σ' H'
 | .brk=>∃σ' H',Inv X η σ' H' s'/\D.bk σ' H'
 | .cont=>∃σ' H',Inv X η σ' H' s'/\D.ct σ' H'
 | .ret u=>∃v σ' H',Inv X η σ' H' s'/\aB v u/\D.rt v H'
def PE(X:Cx)(e:Expr)(t:TE):Prop:=
 ∀(η:List (Addr×Obj)) (s:Shared) (σ:St) (H:Hp) (Q:VK),Inv X η σ H s->t σ H Q->wpAny (model X.prog X.w) X.A (eval e X.env) (EP X η σ Q) X.xe s
def PT(X:Cx)(e:Expr)(t:TT):Prop:=
 ∀(η:List (Addr×Obj)) (s:Shared) (σ:St) (H:Hp) (Q:Bool->Hp->Prop),Inv X η σ H s->t σ H Q->wpAny (model X.prog X.w) X.A (isTrue e X.env (eval e X.env)) (TP X η σ Q) X.xe s
def PW(X:Cx)(e:Expr)(t:TT):Prop:=
 ∀(whole:Sem Value) (η:List (Addr×Obj)) (s:Shared) (σ:St) (H:Hp) (Q:Bool->Hp->Prop),Inv X η σ H s->t σ H Q->wpAny (model X.prog X.w) X.A (isTrue e X.env whole) (TP X η σ Q) X.xe s
def PA(X:Cx)(es:List Expr)(t:TA):Prop:=
 ∀(pos:Pos) (η:List (Addr×Obj)) (s:Shared) (σ:St) (H:Hp) (Q:List V->Hp->Prop),Inv X η σ H s->t σ H Q->wpAny (model X.prog X.w) X.A (spliced (backTo pos (starEach es X.env))) (AP X η σ Q) X.xe s
def PS(X:Cx)(st:Stmt)(t:TS):Prop:=
 ∀(η:List (Addr×Obj)) (s:Shared) (σ:St) (H:Hp) (D:zx),Inv X η σ H s->t D σ H->wpAny (model X.prog X.w) X.A (exec st X.env) (SP X η D) X.xe s
def Ig(X:Cx)(st:List Stmt)(t:TS):Prop:=
 ∀(η:List (Addr×Obj)) (s:Shared) (σ:St) (H:Hp) (D:zx),Inv X η σ H s->t D σ H->wpAny (model X.prog X.w) X.A (execs st X.env) (SP X η D) X.xe s
def bH{α:Type}{t:Sem α}{Q Q':α->Shared->Prop}(h:wpAny M A t Q E s)(hQ:∀a s,Q a s->Q' a s):wpAny M A t Q' E s:=acr h hQ λ_ _ x=>x
section
def ZP(i:Nat):TE:=λσ H Q=>∃v,σ[i]? =!(!v)/\Q v H
def tC(v:V):TE:=λ_ H Q=>Q v H
def QT{pos:Pos}(hN:X.N[i]? =!x)(hv:Vis X.env.scope x)(hd:(x==("__debug__":Str))=false|>2)(JY:(x==("__classdict__":Str))=false|>2):PE X (.Name x pos) (ZP i):=by
 intro η s σ H Q I h;let(v,e,h):=h;let(m,hn,hl):=I.loc;let(u,r,l):=hl i x v hN e hv;let fin:EP X η σ Q u s:=(v,H,I,r,h);rcases l with ⟨hk,hm⟩| ⟨hk,c,hc,Pa⟩
 .show wpAny_Name (wpAny_loadName_local I.ok.kind hk hn hm fin) hd
 .rcases hk with hk| hk
  .show wpAny_Name (wpAny_loadName_cell I.ok.kind hk hc Pa fin) hd
  .show wpAny_Name (wpAny_loadName_free I.ok.kind hk hc Pa fin JY) hd
def R_{i j pos}:PE X (.Constant (.int i) j pos) (tC (.int i)):=λ_ _ _ H _ I h=>wpAny_Constant_int (.int i,H,I.tok _,(_,rfl),h)
def V0{b j pos}:PE X (.Constant (.bool b) j pos) (tC (.bl b)):=λ_ _ _ H _ I h=>Constant_bool (.bl b,H,I,rfl,h)
def RC{j pos}:PE X (.Constant .none j pos) (tC .aZ):=λ_ _ _ H _ I h=>Constant_none (.aZ,H,I,rfl,h)
def Rp{x j pos}:PE X (.Constant (.str x) j pos) (tC (.str x)):=λ_ _ _ H _ I h=>Calls.Constant_str (.str x,H,I.tok _,(_,rfl),h)
def Gl(X:Cx)(x:Str):Prop:=X.env.kindOf x=some .globalImplicit
def y3{H:Hp}{pos:Pos}(I:Inv X η σ H s)(hg:Gl X x)(hm:X.mg x=!u)(h:Q u s)
  (hd:(x==("__debug__":Str))=false|>2):wpAny (model X.prog X.w) X.A (eval (.Name x pos) X.env) Q E s:=
 Calls.Name_function_global I.ok.kind hg (Calls.loadGlobal_global (by rw[I.ok.glob];show I.mod.glob.keeps I.bk) hm h) hd
def mY{H:Hp}{pos:Pos}(I:Inv X η σ H s)(hg:Gl X x)(hm:X.mg x=none)(hv:bootBuiltins x=!u)(h:Q u s)
  (hn:x≠"__name__"|>2) (hd:(x==("__debug__":Str))=false|>2):wpAny (model X.prog X.w) X.A (eval (.Name x pos) X.env) Q E s:=by
 let(mb,h1,h2):=I.mod.blt;show Calls.Name_function_global I.ok.kind hg (Calls.loadGlobal_builtin (by rw[I.ok.glob];show I.mod.glob.keeps I.bk) hm (by rw[I.ok.blt];show h1.keeps I.bk) ((h2 x hn).trans hv) h) hd
def ER{pos:Pos}(hg:Gl X x)(hm:X.mg x=!u)(r:aB v u)(hd:(x==("__debug__":Str))=false|>2):PE X (.Name x pos) (tC v):=
 λ_ _ _ H _ I h=>y3 I hg hm (v,H,I,r,h) hd
def NI{pos:Pos}(hg:Gl X x)(hm:X.mg x=none)(hv:bootBuiltins x=!u)(r:aB v u)(hn:x≠"__name__"|>2)(hd:(x==("__debug__":Str))=false|>2):PE X (.Name x pos) (tC v):=
 λ_ _ _ H _ I h=>mY I hg hm hv (v,H,I,r,h) hn hd
variable{a b:Expr}{tb:TE}{pos:Pos}
def tB(t:TE):TT:=λσ H Q=>t σ H λx H1=>∃c,x= .bl c/\Q c H1
def RZ(h:PE X e t)(he:(∀whole,isTrue e X.env whole=(do let  v<-whole;standAt e.pos;holding [v] (truthy v)))|>3):PT X e (tB t):=by intro η s σ H Q I hw;show isTrue_plain (bH (h η s σ H _ I hw) λv s1 xz=>?_) (he _);let(x,H1,I1,r1,q1):=xz;let(d,rfl,q):=q1;cases r1;show wpAny_truthy_bool (H1,I1,q)
variable{tA Uv:TT}{rest:List Expr}
def YX(t u:TT):TT:=λσ H Q=>t σ H λc H1=>if c=true then u σ H1 Q else Q false H1
def tOr(t u:TT):TT:=λσ H Q=>t σ H λc H1=>if c=true then Q true H1 else u σ H1 Q
def Zm(t:TT):TT:=λσ H Q=>t σ H λc H1=>Q (! c) H1
def pw_and1(ha:PT X a tA):PW X (.BoolOp .And [a] pos) tA:=by
 intro wh η s σ H Q I h;show isTrue_and (bH (ha η s σ H Q I h) λc s1 e=>?_);cases c with
 | true=>show isTrue_and_nil e
 | false=>show e
def pw_or1(ha:PT X a tA):PW X (.BoolOp .Or [a] pos) tA:=by
 intro wh η s σ H Q I h;show isTrue_or (bH (ha η s σ H Q I h) λc s1 e=>?_);cases c with
 | false=>show isTrue_or_nil e
 | true=>show e
def pw_and(ha:PT X a tA)(hb:PW X (.BoolOp .And (b::rest) pos) Uv):PW X (.BoolOp .And (a::b::rest) pos) (YX tA Uv):=by
 intro wh η s σ H Q I h;show isTrue_and (bH (ha η s σ H _ I h) λc s1 xz=>?_);let(H1,I1,q1):=xz;cases c with
 | true=>show hb wh η s1 σ H1 Q I1 q1
 | false=>show(H1,I1,q1)
def pw_or(ha:PT X a tA)(hb:PW X (.BoolOp .Or (b::rest) pos) Uv):PW X (.BoolOp .Or (a::b::rest) pos) (tOr tA Uv):=by
 intro wh η s σ H Q I h;show isTrue_or (bH (ha η s σ H _ I h) λc s1 xz=>?_);let(H1,I1,q1):=xz;cases c with
 | true=>show(H1,I1,q1)
 | false=>show hb wh η s1 σ H1 Q I1 q1
def Qk(ha:PT X a tA):PT X (.UnaryOp .Not a pos) (Zm tA):=by intro η s σ H Q I h;show isTrue_not (ha η s σ H (λc H1=>Q (! c) H1) I h)
def VJ(ta tb:TE):TE:=λσ H Q=>ta σ H λx H1=>∃c,x= .bl c/\if c=true then tb σ H1 Q else Q (.bl false) H1
def YU(ta tb:TE):TE:=λσ H Q=>ta σ H λx H1=>∃c,x= .bl c/\if c=true then Q (.bl true) H1 else tb σ H1 Q
def Vw(ta:TE):TE:=λσ H Q=>ta σ H λx H1=>∃c,x= .bl c/\Q (.bl (! c)) H1
def Si{op}(h:PE X a t):PE X (.BoolOp op [a] pos) t:=λη s σ H Q I hw=>BoolOp_one (h η s σ H Q I hw)
def Q8(ha:PE X a ta)(hb:PE X (.BoolOp .And (b::rest) pos) tb):PE X (.BoolOp .And (a::b::rest) pos) (VJ ta tb):=by
 intro η s σ H Q I h;show BoolOp_and (bH (ha η s σ H _ I h) λv s1 xz=>?_);let(x,H1,I1,r1,q1):=xz;let(c,rfl,q1):=q1;cases r1;show wpAny_truthy_bool ?_;cases c with
 | true=>show hb η s1 σ H1 Q I1 q1
 | false=>show(.bl false,H1,I1,rfl,q1)
def Wa(ha:PE X a ta)(hb:PE X (.BoolOp .Or (b::rest) pos) tb):PE X (.BoolOp .Or (a::b::rest) pos) (YU ta tb):=by
 intro η s σ H Q I h;show BoolOp_or (bH (ha η s σ H _ I h) λv s1 xz=>?_);let(x,H1,I1,r1,q1):=xz;let(c,rfl,q1):=q1;cases r1;show wpAny_truthy_bool ?_;cases c with
 | false=>show hb η s1 σ H1 Q I1 q1
 | true=>show(.bl true,H1,I1,rfl,q1)
def QQ(ha:PE X a ta):PE X (.UnaryOp .Not a pos) (Vw ta):=by intro η s σ H Q I h;show UnaryOp_ (bH (ha η s σ H _ I h) λv s1 xz=>?_);let(x,H1,I1,r1,q1):=xz;let(c,rfl,q1):=q1;cases r1;show not_of (wpAny_truthy_bool (.bl (! c),H1,I1,rfl,q1))
def tIf(t:TT)(ta tb:TE):TE:=λσ H Q=>t σ H λc H1=>if c=true then ta σ H1 Q else tb σ H1 Q
def IS(hc:PT X c tA)(ha:PE X a ta)(hb:PE X b tb):PE X (.IfExp c a b pos) (tIf tA ta tb):=by
 intro η s σ H Q I h;show wpAny_IfExp (bH (hc η s σ H _ I h) λd s1 xz=>?_);let(H1,I1,q1):=xz;cases d with
 | true=>show ha η s1 σ H1 Q I1 q1
 | false=>show hb η s1 σ H1 Q I1 q1
end
def gI(K:fv)(H:Hp)(a:Addr)(xs:List V):Prop:=
 Rd H a (.lst xs)\/
  ∃(o:Obj) (its:Array Value) (n:Nat),K.lookup a=!o/\o.cls= .type "list"/\o.dict=none/\o.data= .seq its n/\its.size<=sizeLine/\aH xs its.toList
def mR(K:fv)(H:Hp)(a:Addr)(xs:List V):Prop:=
 Rd H a (.tup xs)\/
  ∃(o:Obj) (its:Array Value) (n:Nat),K.lookup a=!o/\o.cls= .type "tuple"/\o.data= .seq its n/\its.size<=sizeLine/\aH xs its.toList
def YR:Value->Option V
 | .none=>some .aZ
 | .bool b=>!(.bl b)
 | .int i _=>!(.int i)
 | .str x _=>!(.str x)
 | .bytes b _=>!(.Ii b)
 | .float b _=>!(.SI b)
 | .ref a=>!(.ref a)
 | .type n=>!(.ty n)
 | _=>none
def aB.abs{x:V}(r:aB x u):YR u=!x:=by
 cases x with
 | aZ=>cases r;rfl
 | bl _=>cases r;rfl
 | int _=>let(t,rfl):=r;rfl
 | str _=>let(t,rfl):=r;rfl
 | Ii _=>let(t,rfl):=r;rfl
 | SI _=>let(t,rfl):=r;rfl
 | ref _=>cases r;rfl
 | ty _=>cases r;rfl
def aB.inj{x:V}{u:Value}(r:aB x u)(q:aB y u):x=y:=aay (r.abs.symm.trans q.abs)
def aH.inj:∀{xs ys:List V} {us:List Value},aH xs us->aH ys us->xs=ys
 | _,_,_,.nil,.nil=>rfl
 | _,_,_,.cons r t,.cons r' t'=>by rw[r.inj r',aH.inj t t']
section
variable{H:Hp}{xs ys:List V}
def gI.of{K:fv}(h:H a=!(.lst xs)):gI K H a xs:=.inl (.inl h)
def mR.of{K:fv}(h:H a=!(.tup xs)):mR K H a xs:=.inl (.inl h)
def Inv.list(I:Inv X η σ H s)(h:gI X.K H a xs):∃its:List Value,aH xs its/\PlainL s.heap a its.toArray/\-xs<=sizeLine:=by
 rcases h with h| ⟨o,its,n,hk,hc,hd,hs,hz,r⟩
 .let(z,its,n,r,e):=h.ok I.aU;show(its,r,(_,n,e,rfl,rfl,rfl),z)
 .show(its.toList,r,(o,n,I.qR a o hk,hc,hd,by simpa using hs),?_);let e:=-r;simp only[Array.length_toList]at e;omega
def Inv.tuple(I:Inv X η σ H s)(h:mR X.K H a xs):∃its:List Value,aH xs its/\IsTup s.heap a its.toArray/\-xs<=sizeLine:=by
 rcases h with h| ⟨o,its,n,hk,hc,hs,hz,r⟩
 .let(z,its,r,p):=h.ok I.aU;show(its,r,p,z)
 .show(its.toList,r,(o,I.qR a o hk,hc,n,by simpa using hs),?_);let e:=-r;simp only[Array.length_toList]at e;omega
def Inv.cC(I:Inv X η σ H s)(h:gI X.K H a xs)(h':gI X.K H a ys):xs=ys:=by
 let(its,r,(o,n,e,_,_,d),_):=I.list h;let(its',r',(o',n',e',_,_,d'),_):=I.list h';rw[e]at e';cases e';rw[d]at d';injection d' with d1 _
 have:its=its':=by simpa using congrArg Array.toList d1
 subst this;show r.inj r'
def Inv.lP(I:Inv X η σ H s)(h:mR X.K H a xs)(h':mR X.K H a ys):xs=ys:=by
 let(its,r,(o,e,_,n,d),_):=I.tuple h;let(its',r',(o',e',_,n',d'),_):=I.tuple h';rw[e]at e';cases e';rw[d]at d';injection d' with d1 _
 have:its=its':=by simpa using congrArg Array.toList d1
 subst this;show r.inj r'
end
section
variable{st:Stmt}{rest:List Stmt}{t u:TS}{pos:Pos}
def UO:TS:=λD σ H=>D.nx σ H
def Zb(t u:TS):TS:=λD σ H=>t {D with nx:=u D} σ H
def Oh:Ig X [] UO:=λ_ _ σ H _ I h=>wpAny_execs_nil (σ,H,I,h)
def Kj(h1:PS X st t)(h2:Ig X rest u):Ig X (st::rest) (Zb t u):=by
 intro η s σ H D I h;show wpAny_execs_cons (bH (h1 η s σ H {D with nx:=u D} I h) λf s1 q=>?_);cases f with
 | next=>
  let(σ',H',I',q):=q;show h2 η s1 σ' H' D I' q
 | ret v=>show q
 | brk=>show q
 | cont=>show q
def OF(h1:PS X st t):Ig X [st] t:=by
 intro η s σ H D I h;show wpAny_execs_cons (bH (h1 η s σ H D I h) λf s1 q=>?_);cases f with
 | next=>show wpAny_execs_nil q
 | ret v=>show q
 | brk=>show q
 | cont=>show q
def Uj:TS:=λD σ H=>D.ct σ H
def zK:PS X (.Continue pos) Uj:=λ_ _ σ H _ I h=>wpAny_Continue (σ,H,I,h)
def Inv.quiet{H:Hp}(I:Inv X η σ H s):interactive X.env=false:=by simp[interactive,I.ok.kind]
def UM(te:TE):TS:=λD σ H=>te σ H λ_ H1=>D.nx σ H1
def Nt(he:PE X e te)(hs:swapsWith e none pos.line X.env=pure false|>1):PS X (.Expr e pos) (UM te):=by intro η s σ H D I h;show wpAny_Expr_any (bH (he η s σ H _ I h) λv s1 (x,H1,I1,r1,q1)=>(σ,H1,I1,q1)) I.quiet hs
def Zl(te:TE):TS:=λD σ H=>te σ H D.rt
def Qp(he:PE X e te):PS X (.Return (!e) pos) (Zl te):=by intro η s σ H D I h;show wpAny_Return_some (bH (he η s σ H _ I h) λv s1 (x,H1,I1,r1,q1)=>(x,σ,H1,I1,r1,q1))
def aaD(c:TT)(t u:TS):TS:=λD σ H=>c σ H λb H1=>if b=true then t D σ H1 else u D σ H1
def VU{a b:List Stmt}(hc:PT X c tc)(ha:Ig X a t)(hb:Ig X b u):PS X (.If c a b pos) (aaD tc t u):=by
 intro η s σ H D I h;show wpAny_If (bH (hc η s σ H _ I h) λd s1 xz=>?_);let(H1,I1,q1):=xz;cases d with
 | true=>show ha η s1 σ H1 D I1 q1
 | false=>show hb η s1 σ H1 D I1 q1
end
abbrev TG:=V->St->Hp->(St->Hp->Prop)->Prop
abbrev Rm:=List V->St->Hp->(St->Hp->Prop)->Prop
def PG(X:Cx)(target:Expr)(t:TG):Prop:=
 ∀(η:List (Addr×Obj)) (s:Shared) (σ:St) (H:Hp) (v:V) (u:Value) (Q:St->Hp->Prop),Inv X η σ H s->aB v u->t v σ H Q->
  wpAny (model X.prog X.w) X.A (assign target X.env u) (λ_ s'=>∃σ' H',Inv X η σ' H' s'/\Q σ' H') X.xe s
def Xj(X:Cx)(ts:List Expr)(t:Rm):Prop:=
 ∀(η:List (Addr×Obj)) (s:Shared) (σ:St) (H:Hp) (vs:List V) (us:List Value) (Q:St->Hp->Prop),Inv X η σ H s->aH vs us->t vs σ H Q->
  wpAny (model X.prog X.w) X.A (assignInOrder ((assignEach ts X.env).map (·.2)) us) (λ_ s'=>∃σ' H',Inv X η σ' H' s'/\Q σ' H') X.xe s
abbrev QW:=V->V->V->Hp->(Hp->Prop)->Prop
def TQ(X:Cx)(t:QW):Prop:=
 ∀(η:List (Addr×Obj)) (s:Shared) (σ:St) (H:Hp) (o i v:V) (ov iv u:Value) (Q:Hp->Prop),Inv X η σ H s->aB o ov->aB i iv->aB v u->t o i v H Q->
  wpAny (model X.prog X.w) X.A (setItem ov iv u) (λ_ s'=>∃H',Inv X η σ H' s'/\Q H') X.xe s
section
variable{pos:Pos}
def fU(i:Nat):TG:=λv σ H Q=>Q (σ.set i (!v)) H
def ai(hN:X.N.Nodup)(hi:X.N[i]? =!x)(hx:Loc X.env.scope x)(hf:X.fn x=true\/X.env.scope.names.lookup x=some .local:=by first| exact .inl rfl| exact .inr rfl| assumption):PG X (.Name x pos) (fU i):=by intro η s σ H v u Q I r h;show wpAny_assign_Name (oE I hN hi hx r (λs' I'=>(_,H,I',h)) hf)
def Ho:Rm:=λvs σ H Q=>vs=[]/\Q σ H
def js(t:TG)(u:Rm):Rm:=λvs σ H Q=>∃v r,vs=v::r/\t v σ H λσ' H'=>u r σ' H' Q
def iu:Xj X [] Ho:=by intro η s σ H vs us Q I r h;let(e,h):=h;subst e;cases r;show assignInOrder_nil (σ,H,I,h)
def bt{u:Rm}(h1:PG X e t)(h2:Xj X es u)
  (hs:(assignEach (e::es) X.env).map (·.2)=assign e X.env::(assignEach es X.env).map (·.2)|>1):Xj X (e::es) (js t u):=by
 intro η s σ H vs us Q I r h;let(v,vr,e1,h):=h;subst e1;cases r with
 | cons r rr=>
  rw[hs];show assignInOrder_cons (bH (h1 η s σ H _ _ _ I r h) λ_ s1 xz=>?_);let(σ1,H1,I1,q1):=xz;show h2 η s1 σ1 H1 _ _ Q I1 rr q1
def Ge(K:fv)(n:Nat)(t:Rm):TG:=λv σ H Q=>∃a xs,v= .ref a/\mR K H a xs/\-xs=n/\t xs σ H Q
def km{k:Nat}{n:Nat}(hc:X.calm=true)(h:Xj X es t)
  (hn:-(assignEach es X.env)=n|>1) (RP:(assignEach es X.env).findIdx? (·.1)=none|>1):PG X (.Tuple es k pos) (Ge X.K n t):=by
 intro η s σ H v u Q I r hw;let(a,xs,e1,hq,hl,hw):=hw;subst e1;cases r;let(its,rv,ht,hz):=I.tuple hq;show assign_Tuple_tuple (I.ok.hd hc) ht (by simp[hn,<-hl,(-rv)]) RP λh' hx=>?_;let I1:Inv X η σ H {s with heap:=h'}:=I.kept (t':=s.toks) λb o e=>hx b o (abj (aaL e)) e;show h η _ σ H xs _ Q I1 (by simpa using rv) hw
def ZW(to ti:TE)(t:QW):TG:=λv σ H Q=>to σ H λo H1=>ti σ H1 λi H2=>t o i v H2 λH3=>Q σ H3
def RQ{o i:Expr}(ho:PE X o to)(hi:PE X i ti)(hs:TQ X t)
  (ha:(∀v,assign (.Subscript o i pos) X.env v=(do
   let  ov<-holding [v] (eval o X.env)
   let  iv<-holding [v,ov] (eval i X.env)
   standAt pos
   holding [v,ov,iv] (setItem ov iv v)
   release [v,ov,iv] []))|>3):PG X (.Subscript o i pos) (ZW to ti t):=by
 intro η s σ H v u Q I r h;rw[ha];show aao (wpAny_holding (bH (ho η s σ H _ I h) λov s1 xz=>?_));let(x,H1,I1,r1,q1):=xz;show aao (wpAny_holding (bH (hi η s1 σ H1 _ I1 q1) λiv s2 xz=>?_));let(y,H2,I2,r2,q2):=xz;show aao (wpAny_standAt (aao (wpAny_holding (bH (hs η s2 σ H2 x y v ov iv u _ I2 r1 r2 r q2) λ_ s3 xz=>?_))));let(H3,I3,q3):=xz;show wpAny_release (σ,H3,I3,q3)
def T2(te:TE)(g:TG):TS:=λD σ H=>te σ H λx H1=>g x σ H1 D.nx
def D6{g:TG}(he:PE X e te)(hg:PG X tg g)(hs:swapsWithSole [tg] e pos.line X.env=pure false|>1)(hw:swappedStores [tg] e X.env=pure none|>1)
  (h1:(assignEach [tg] X.env).map (·.2)=[assign tg X.env]|>1):PS X (.Assign [tg] e pos) (T2 te g):=by
 intro η s σ H D I h;show wpAny_Assign_stores (bH (he η s σ H _ I h) λv s1 xz=>?_) hs hw;let(x,H1,I1,r1,q1):=xz;rw[h1];show bH (hg η s1 σ H1 x v _ I1 r1 q1) λ_ s2 q=>q
def P9(hN:X.N.Nodup)(hi:X.N[i]? =!x)(hx:Loc X.env.scope x)(he:PE X e te)(hs:swapsWith e (!(.Name x pos')) pos.line X.env=pure false|>1)(hf:X.fn x=true\/X.env.scope.names.lookup x=some .local:=by first| exact .inl rfl| exact .inr rfl| assumption):
  PS X (.Assign [.Name x pos'] e pos) (T2 te (fU i)):=by
 intro η s σ H D I h;show wpAny_Assign_Name (bH (he η s σ H _ I h) λv s1 xz=>?_) hs;let(y,H1,I1,r1,q1):=xz;show oE I1 hN hi hx r1 (λs2 I2=>(_,H1,I2,q1)) hf
def YO(i j:Nat)(ta:TA):TS:=λD σ H=>ta σ H λvs H1=>∃v w,vs=[v,w]/\D.nx ((σ.set i (!v)).set j (!w)) H1
def QE{j:Nat}{a b:Expr}{ta:TA}{kt k2 SD}(hc:X.calm=true)(hN:X.N.Nodup)(hi:X.N[i]? =!x)(hj:X.N[j]? =!y)(XN:i≠j)
  (hx:X.env.scope.names.lookup x=some .local) (hy:X.env.scope.names.lookup y=some .local) (ha:PA X [a,b] ta)
  (hw:swappedStores [.Tuple [.Name x px,.Name y py] kt pt] (.Tuple [a,b] k2 SD) X.env=pure (![x,y]))
  (hs:swapsWithSole [.Tuple [.Name x px,.Name y py] kt pt] (.Tuple [a,b] k2 SD) pos.line X.env=pure false|>1):
  PS X (.Assign [.Tuple [.Name x px,.Name y py] kt pt] (.Tuple [a,b] k2 SD) pos) (YO i j ta):=by
 intro η s σ H D I h;rw[exec_Assign_arm];show aao (wpAny_standAt ?_);rw[hs];show aao (aa6 ?_);rw[aaK @_];show aao (Tuple_ (bH (ha _ η s σ H _ I h) λus s1 xz=>?_));let(vs,H1,I1,r1,q1):=xz;let(v,w,e1,q1):=q1;subst e1;obtain⟨u1,u2,rfl,rv,Cz⟩:∃u1 u2,us=[u1,u2]/\aB v u1/\aB w u2:=by
  cases r1 with
  | cons p q=>
   cases q with
   | cons p' q'=>
    cases q';show(_,_,rfl,p,p')
 show wpAny_newObj_type ?_ fI;let I2:Inv X η σ H1 {s1 with heap:=s1.heap.push {cls:=.type "tuple",data:=.seq [u1,u2].toArray}}:=I1.kept (t':=s1.toks) λb o e=>aas _ e;rw[hw];show aao (aa6 ?_);change wpAny (model X.prog X.w) X.A (do rule "assign.swapped-stores";let  items<-unpackItems (.ref s1.heap.objs.size) 2 none;assignInOrder [λv=>bindName X.env y v,λv=>bindName X.env x v] items.reverse;pure Flow.next) _ _ _;show aao (wpAny_rule (aao (unpackItems_tuple (items:= #[u1,u2]) (I.ok.hd hc) (IsTup.new s1.heap _) λh' Y8=>?_)));let I3:=I2.kept (h':=h') (t':=s1.toks) λb o e=>Y8 b o (abj (aaL e)) e;change wpAny _ _ (assignInOrder [λv=>bindName X.env y v,λv=>bindName X.env x v] [u2,u1] >>= λ_=>pure Flow.next) _ _ _;show aao (assignInOrder_cons (wpAny_bindName (oE I3 hN hj (.inl hy) Cz (λs2 I4=>?_) (.inr hy))));show assignInOrder_cons (wpAny_bindName (oE I4 hN hi (.inl hx) rv (λs3 I5=>assignInOrder_nil (aa6 ?_)) (.inr hx)));rw[List.set_comm _ _ (Ne.symm XN)]at I5;show(_,H1,I5,q1)
end
section
variable{pos:Pos}
def Su(c:TT)(tb:TS):TS:=λD σ H=>∃W:Nat->St->Hp->Prop,(∃m,W m σ H)/\∀m σ H,W m σ H->
 c σ H λb H1=>if b=true then∃N:St->Hp->Prop,(∀σ' H',N σ' H'->∃m',m' < m/\W m' σ' H')/\tb {D with nx:=N,ct:=N,bk:=D.nx} σ H1 else D.nx σ H1
def Kq(hp:PassesOwn (model X.prog X.w) X.A X.env X.xe)(hc:PT X c tc)(hb:Ig X body tb):PS X (.While c body [] pos) (Su tc tb):=by
 intro η s σ H D I h;let(W,(m0,w0),turn):=h;show wpAny_While (codeAny_whileLoop (λn s'=>∃σ' H',Inv X η σ' H' s'/\W n σ' H') ?_ m0 (σ,H,I,w0));rintro n s1 ⟨σ1,H1,I1,w1⟩;show wpAny_passesOwn hp (bH (hc η s1 σ1 H1 _ I1 (turn n σ1 H1 w1)) λb s2 xz=>?_);let(H2,I2,q2):=xz;cases b with
 | true=>
  let(N,hN,q2):=q2;rw[aaP rfl];show wpAny_passesOwn hp (bH (hb η s2 σ1 H2 _ I2 q2) λf s3 q3=>?_);cases f with
  | next=>
   let(σ3,H3,I3,n3):=q3;let(m',hm,w3):=hN σ3 H3 n3;show(m',hm,σ3,H3,I3,w3)
  | cont=>
   let(σ3,H3,I3,n3):=q3;let(m',hm,w3):=hN σ3 H3 n3;show(m',hm,σ3,H3,I3,w3)
  | brk=>show q3
  | ret v=>show q3
 | false=>
  rw[aaK aa1];show wpAny_execs_nil (σ1,H2,I2,q2)
end
structure It where
 go:Nat->Hp->Prop
 VI:Nat->Hp->V->Hp->Prop
 stop:Nat->Hp->Prop
def sN(X:Cx)(η:List (Addr×Obj))(H:Hp)(b:Addr):Prop:=
 H b=none/\b≠X.env.locals/\b∉X.fs/\(b∈X.ex\/X.s₀.heap.objs.size<=b)/\(∀x c,X.env.cells.lookup x=!c->c≠b)/\∀p∈X.pn++η,p.1≠b
def Inv.D9{H H':Hp}(I:Inv X η σ H s)(hb:s.heap.objs.size<=b)(hn:H' b=none):sN X η H' b:=by
 show(hn,acQ (aaR I.lt hb),I.aac hb,.inr (aaH I.sz hb),λx c e z=>?_,λp hp z=>?_)
 .let(v,q):=I.cell x c e;show aa5 (aaR q.lt (by rw[z];show hb)) (ab5 _)
 .show aa5 (aaR (aaL (I.pin p hp).1) (by rw[z];show hb)) (ab5 _)
structure Turn(P:Program)(w:World)(K:fv)(tg:Expr)(J:It)(fp:List Addr)(it:Addr)(tn:Nat->Heap->Prop):Prop where
 mem:it∈fp
 obj:∀i h,tn i h->∀b∈fp,∃o,h.get? b=!o/\∀v,o.data≠ .cell v
 keep:∀i h h',tn i h->(∀b∈fp,∀o,h.get? b=!o->h'.get? b=!o)->tn i h'
 item:∀(X:Cx),X.prog=P->X.w=w->X.K=K->X.calm=true->∀(i:Nat) (η:List (Addr×Obj)) (s:Shared) (σ:St) (H:Hp) (E:Value->Shared->Prop),Inv X η σ H s->(∀b∈fp,sN X η H b)->tn i s.heap->J.go i H->
  wpAny (model P w) X.A (pyNext (.ref it)) (λr s1=>∃u,r=!u/\
   wpAny (model P w) X.A (letOwnedTupleGo tg (.ref it) u) (λ_ s2=>∃x H',Inv X η σ H' s2/\aB x u/\J.VI i H x H'/\tn (i+1) s2.heap/\∀b∈fp,H' b=none) E s1) E s
 done:∀(X:Cx),X.prog=P->X.w=w->X.K=K->X.calm=true->∀(i:Nat) (η:List (Addr×Obj)) (s:Shared) (σ:St) (H:Hp) (E:Value->Shared->Prop),Inv X η σ H s->(∀b∈fp,sN X η H b)->tn i s.heap->J.stop i H->
  wpAny (model P w) X.A (pyNext (.ref it)) (λr s1=>r=none/\Inv X η σ H s1) E s
 self:∀(A:Around) (i:Nat) (s:Shared) (Q:Value->Shared->Prop) (E:Value->Shared->Prop),tn i s.heap->Q (.ref it) s->wpAny (model P w) A (pyIter (.ref it)) Q E s
abbrev TI:=St->Hp->(It->Hp->Prop)->Prop
def Mw(X:Cx)(η:List (Addr×Obj))(σ:St)(tg:Expr)(R:It->Hp->Prop)(WN:Value)(s2:Shared):Prop:=
 ∃(it:Addr) (fp:List Addr) (tn:Nat->Heap->Prop) (J:It) (H':Hp),WN= .ref it/\Inv X η σ H' s2/\Turn X.prog X.w X.K tg J fp it tn/\tn 0 s2.heap/\(∀b∈fp,sN X η H' b)/\R J H'
def PI(X:Cx)(tg iter:Expr)(wi:TI):Prop:=
 ∀(η:List (Addr×Obj)) (s:Shared) (σ:St) (H:Hp) (R:It->Hp->Prop),Inv X η σ H s->wi σ H R->
  wpAny (model X.prog X.w) X.A (eval iter X.env) (λv s1=>wpAny (model X.prog X.w) X.A (pyIter v) (Mw X η σ tg R) X.xe s1) X.xe s
def v7{E : Value -> Shared -> Prop}   {it : Addr}  {o : Obj}   {Q : Unit -> Shared -> Prop} (ho : s.heap.get? it = !o) (hc : o.cls = .type n) (hd : o.data = .fields vs)
    (hn : ["enumerate","zip","dict_itemiterator","dict_reverseitemiterator","odict_iterator","itertools.zip_longest","itertools.pairwise"].contains n = false) (hQ : Q Unit.unit s) : wpAny M A (letOwnedTupleGo tg (.ref it) u) Q E s :=by
  unfold letOwnedTupleGo
  cases tg <;> first
    | show aa6 hQ
    | (cases u <;> first
        | show aa6 hQ
        | (show aao (wpAny_load ho ?_)
           rw[hc,hd];change wpAny M A (if (["enumerate","zip","dict_itemiterator","dict_reverseitemiterator","odict_iterator","itertools.zip_longest","itertools.pairwise"].contains n && vs[0]? == !(rawInt _)) = true then _ else _) Q E s;rw[aaK (by intro h;rw[hn,Bool.false_and]at h;cases h)]
           show aa6 hQ))
def WC(K:fv)(a:Addr):It:=
 ⟨λi H=>∃xs x,gI K H a xs/\xs[i]? =!x,λi H x H'=>H'=H/\∀xs,gI K H a xs->xs[i]? =!x,λi H=>∃xs,gI K H a xs/\-xs<=i⟩
def Itt(K:fv)(a:Addr):It:=
 ⟨λi H=>∃xs x,mR K H a xs/\xs[i]? =!x,λi H x H'=>H'=H/\∀xs,mR K H a xs->xs[i]? =!x,λi H=>∃xs,mR K H a xs/\-xs<=i⟩
def Wc(lo:Int)(n:Nat):It:=(λi _=>i < n,λi H x H'=>H'=H/\x= .int (lo+i),λi _=>n<=i)
def Hx{K:fv}(a it:Addr):Turn P w K tg (WC K a) [it] it (λi h=>h.IsListIter it a i) where
 mem:=by simp
 obj:=λi h st b hb=>by
  let e:b=it:=by simpa using hb
  subst e;let(o,e,c,d):=st;show(o,e,λv z=>by rw[d]at z;cases z)
 keep:=λi h h' st k=>st.at λo e=>k it (by simp) o e
 item:=by intro X hP hw hK hc i η s σ H E I hf st hg;subst hP hw hK;let(xs,x,hq,hx):=hg;let(its,rv,p,hz):=I.list hq;let(u,hu,ru):=rv.get hx;let(f0,f1,f2,f3,f4,f5):=hf it (by simp);show wpAny_pyNext_list_item st p.isList (x:=u) (by simpa using hu) λh' yv sb=>?_;let I1:Inv X η σ H {s with heap:=h'}:=I.turned (t':=s.toks) (λb o hb e=>(sb.2 b hb).trans e) f0 f1 f3 f4 f5;let(o,e,c,d):=id yv;show(u,rfl,v7 (s:={s with heap:=h'}) e c d @_ (x,H,I1,ru,(rfl,λys hy=>by rw[I.cC hy hq];show hx),yv,λb hb=>(hf b hb).1))
 done:=by intro X hP hw hK hc i η s σ H E I hf st hg;subst hP hw hK;let(xs,hq,hx):=hg;let(its,rv,p,hz):=I.list hq;let(f0,f1,f2,f3,f4,f5):=hf it (by simp);let hl:=-rv;show wpAny_pyNext_list_end (I.ok.hd hc) st p.isList (by simp;omega) λh' eb=>(rfl,I.turned (t':=s.toks) (λb o hb e=>eb b o hb e) f0 f1 f3 f4 f5)
 self:=λ_ _ _ _ _ st h=>wpAny_pyIter_listiter st h
def Df{K:fv}(a it:Addr):Turn P w K tg (Itt K a) [it] it (λi h=>h.IsTupleIter it a i) where
 mem:=by simp
 obj:=λi h st b hb=>by
  let e:b=it:=by simpa using hb
  subst e;let(o,e,c,d):=st;show(o,e,λv z=>by rw[d]at z;cases z)
 keep:=λi h h' st k=>st.at λo e=>k it (by simp) o e
 item:=by intro X hP hw hK hc i η s σ H E I hf st hg;subst hP hw hK;let(xs,x,hq,hx):=hg;let(its,rv,p,hz):=I.tuple hq;let(u,hu,ru):=rv.get hx;let(f0,f1,f2,f3,f4,f5):=hf it (by simp);show wpAny_pyNext_tuple_item st (show s.heap.IsTuple a its.toArray from p) (x:=u) (by simpa using hu) λh' yv sb=>?_;let I1:Inv X η σ H {s with heap:=h'}:=I.turned (t':=s.toks) (λb o hb e=>(sb.2 b hb).trans e) f0 f1 f3 f4 f5;let(o,e,c,d):=id yv;show(u,rfl,v7 (s:={s with heap:=h'}) e c d @_ (x,H,I1,ru,(rfl,λys hy=>by rw[I.lP hy hq];show hx),yv,λb hb=>(hf b hb).1))
 done:=by intro X hP hw hK hc i η s σ H E I hf st hg;subst hP hw hK;let(xs,hq,hx):=hg;let(its,rv,p,hz):=I.tuple hq;let(f0,f1,f2,f3,f4,f5):=hf it (by simp);let hl:=-rv;show wpAny_pyNext_tuple_end (I.ok.hd hc) st (show s.heap.IsTuple a its.toArray from p) (by simp;omega) λh' eb=>(rfl,I.turned (t':=s.toks) (λb o hb e=>eb b o hb e) f0 f1 f3 f4 f5)
 self:=λ_ _ _ _ _ st h=>wpAny_pyIter_tupleiter st h
def C9{K:fv}(it:Addr)(lo:Int)(n:Nat):Turn P w K tg (Wc lo n) [it] it (λi h=>IsRangeIter h it (lo+(i:Nat) * 1) ((n:Int) - (i:Nat)) 1) where
 mem:=by simp
 obj:=λi h st b hb=>by
  let e:b=it:=by simpa using hb
  subst e
  show(_,st,λv z=>by
   let z':Data.fields _=Data.cell v:=z
   cases z')
 keep:=λi h h' st k=>k it (by simp) _ st
 item:=by intro X hP hw hK hc i η s σ H E I hf st hg;subst hP hw hK;let(f0,f1,f2,f3,f4,f5):=hf it (by simp);let W:=Walks.range (prog:=X.prog) (w:=X.w) (I.ok.hd hc) it lo 1 n;show W.item i s _ _ hg st λv h' tk hv yv kk=>?_;let(t,rfl):=hv;let I1:Inv X η σ H {s with heap:=h',toks:=tk}:=I.turned (λb o hb e=>kk b o (by simpa using hb) e) f0 f1 f3 f4 f5;show(_,rfl,v7 (s:={s with heap:=h',toks:=tk}) (n:="range_iterator") yv rfl rfl @_ (.int (lo+i),H,I1,(t,?_),(rfl,rfl),yv,λb hb=>(hf b hb).1));rw[Int.mul_one]
 done:=by intro X hP hw hK hc i η s σ H E I hf st hg;subst hP hw hK;let(f0,f1,f2,f3,f4,f5):=hf it (by simp);show wpAny_pyNext_range_end (I.ok.hd hc) st (by have:n<=i:=hg;omega) λh' eb=>(rfl,I.turned (t':=s.toks) (λb o hb e=>eb b o hb e) f0 f1 f3 f4 f5)
 self:=λ_ _ _ _ _ st h=>wpAny_pyIter_rangeiter st h
section
def Bu{H:Hp}{R:It->Hp->Prop}{lo hi:Int}{u v:Tok}{tk:Nat}(I:Inv X η σ H s)(h1: - (2 ^ 62)<=lo)(h2:lo < 2 ^ 62)(h3: - (2 ^ 62)<=hi)(h4:hi < 2 ^ 62)
  (q:R (Wc lo (hi - lo).toNat) H):wpAny (model X.prog X.w) X.A (pyIter (.ref s.heap.objs.size)) (Mw X η σ tg R) E {s with heap:=s.heap.push {cls:=.type "range",data:=.fields #[.int lo t,.int hi u,.int 1 v]},toks:=tk}:=by
 show wpAny_pyIter_range (IsRange.new ..) (small_one h1 h2 h3 h4) ?_;let I1:Inv X η σ H {s with heap:=s.heap.push {cls:=.type "range",data:=.fields #[.int lo t,.int hi u,.int 1 v]},toks:=tk}:=I.kept λb o e=>aas _ e
 show((s.heap.push {cls:=.type "range",data:=.fields #[.int lo t,.int hi u,.int 1 v]}).objs.size,[(s.heap.push {cls:=.type "range",data:=.fields #[.int lo t,.int hi u,.int 1 v]}).objs.size],_,_,H,rfl,
  I1.kept (t':=tk) λb o e=>aas _ e,C9 _ lo (hi - lo).toNat,?_,λb hb=>?_,q)
 .let e1:lo+((0:Nat):Int) * 1=lo:=by simp
  let e2:(((hi - lo).toNat:Nat):Int) - ((0:Nat):Int)=Builtin.Range.rangeSize lo hi 1:=by rw[rangeSize_one];split <;> omega
  change IsRangeIter _ _ (lo+((0:Nat):Int) * 1) ((((hi - lo).toNat:Nat):Int) - ((0:Nat):Int)) 1;rw[e1,e2];show abd _ rfl
 .let e:b=(s.heap.push {cls:=.type "range",data:=.fields #[.int lo t,.int hi u,.int 1 v]}).objs.size:=by simpa using hb
  subst e;show I1.D9 (aaq _) (I1.aU.fresh (aaq _))
def VT(ta:TA):TI:=λσ H R=>ta σ H λvs H1=>∃j:Int,vs=[.int j]/\ - (2 ^ 62)<=j/\j < 2 ^ 62/\R (Wc 0 j.toNat) H1
def Ur(ta:TA):TI:=λσ H R=>ta σ H λvs H1=>∃i j:Int,vs=[.int i,.int j]/\(- (2 ^ 62)<=i/\i < 2 ^ 62/\ - (2 ^ 62)<=j/\j < 2 ^ 62)/\R (Wc i (j - i).toNat) H1
def Gf{a:Expr}{ta:TA}{pos:Pos}(hg:Gl X "range")(hm:X.mg "range"=none)(ha:PA X [a] ta)(hs:starEach [a] X.env=[(false, eval a X.env)]|>1):PI X tg (.Call (.Name "range" p) [a] [] pos) (VT ta):=by
 intro η s σ H R I h;show Call_ (mY I hg hm boot_range (PyProof.Rows.callWith_type1 (bH (ha pos η s σ H _ I h) λus s1 xz=>?_) hs rfl));let(vs,H1,I1,r1,q1):=xz;let(j,e,q1,q2,q):=q1;subst e;cases r1 with
 | cons r rr=>
  cases rr;let(t,rfl):=r;show call_range_1 (Bu I1 () () q1 q2 (by simpa using q))
def Gz{a b:Expr}{ta:TA}{pos:Pos}(hg:Gl X "range")(hm:X.mg "range"=none)(ha:PA X [a,b] ta)(hs:starEach [a,b] X.env=[(false, eval a X.env),(false, eval b X.env)]|>1)(Ql:starEach [b] X.env=[(false, eval b X.env)]|>1):
  PI X tg (.Call (.Name "range" p) [a,b] [] pos) (Ur ta):=by
 intro η s σ H R I h;show Call_ (mY I hg hm boot_range (PyProof.Rows.callWith_type1 (bH (ha pos η s σ H _ I h) fun us s1 (vs,H1,I1,r1,q1)=>?_) (by rw[hs,Ql]) (by rw[Ql];rfl)));let(i,j,e,(q1,q2,q3,q4),q):=q1;subst e;cases r1 with
 | cons r rr=>
  cases rr with
  | cons r' rr=>
   cases rr;let(t,rfl):=r;let(t',rfl):=r';show call_range_2 (Bu I1 q1 q2 q3 q4 q)
def aaV(wi:TI)(g:TG)(tb:TS):TS:=λD σ H=>wi σ H λJ H1=>∃W:Nat->Nat->St->Hp->Prop,(∃m,W 0 m σ H1)/\∀i m σ H,W i m σ H->
 (J.stop i H/\D.nx σ H)\/(J.go i H/\∃N:St->Hp->Prop,(∀σ' H',N σ' H'->∃m',m' < m/\W (i+1) m' σ' H')/\∀x H',J.VI i H x H'->g x σ H' λσ2 H2=>tb {D with nx:=N,ct:=N,bk:=D.nx} σ2 H2)
def zi(fp:List Addr)(h:Heap):List (Addr×Obj):=fp.filterMap λb=>(h.get? b).map λo=>(b, o)
def fF{o:Obj}(hb:b∈fp)(e:h.get? b=!o):(b, o)∈zi fp h:=acO.mpr (b,hb,by rw[e];rfl)
def HU{p:Addr×Obj}(hp:p∈zi fp h):p.1∈fp/\h.get? p.1=!p.2:=by
 let(b,hb,e):=acO.mp hp;cases q:h.get? b with
 | none=>rw[q]at e;cases e
 | some o=>
  rw[q]at e;let e':(b, o)=p:=aay e;subst e';show(hb,q)
def Inv.pinned{H:Hp}(I:Inv X η σ H s)(hf:∀b∈fp,sN X η H b)(ho:∀b∈fp,∃o,s.heap.get? b=!o/\∀v,o.data≠ .cell v):Inv X (η++zi fp s.heap) σ H s:=
 I.E_ λp hp=>(abo.mp hp).elim (λz=>I.pin p (aa7 _ z)) λz=>by let(hb,e):=HU z;let(f0,f1,f2,_):=hf p.1 hb;let(o,e',d):=ho p.1 hb;rw[e]at e';cases e';show(e,f0,f1,f2,d)
def Inv.ky{pl:List (Addr×Obj)}{H:Hp}(I:Inv X (η++pl) σ H s):Inv X η σ H s:=I.E_ λp hp=>I.pin p (aa7 _ (List.mem_append_left _ hp))
def CG{g:TG}{pos:Pos}(hp:PassesOwn (model X.prog X.w) X.A X.env X.xe)(hc:X.calm=true)(hi:PI X tg iter wi)(hg:PG X tg g)(hb:Ig X body tb)
  (hs:(∀x,foldedSetIterable iter X.env x=pure x)|>3):PS X (.For tg iter body [] pos) (aaV wi g tb):=by
 intro η s σ H D I h;show wpAny_For (bH (hi η s σ H _ I h) λv s1 h1=>bH h1 λWN s2 h2=>?_) hs;let(it,fp,tn,J,H2,e,I2,T,st2,f2,W,(m0,w0),turn):=h2;subst e;let QZ:∀{H':Hp},(∀b∈fp,H' b=none)->∀b∈fp,sN X η H' b:=λhn b hb=>(hn b hb,(f2 b hb).2);show codeAny_forLoop_any (λn s'=>∃i σ' H',Inv X η σ' H' s'/\tn i s'.heap/\(∀b∈fp,H' b=none)/\W i n σ' H') ?_ m0 (0,σ,H2,I2,st2,λb hb=>(f2 b hb).1,w0);rintro n s3 ⟨i,σ3,H3,I3,st3,fr3,w3⟩;rcases turn i n σ3 H3 w3 with ⟨stop,qn⟩| ⟨go,N,hN,step⟩
 .show wpAny_passesOwn hp (bH (T.done X rfl rfl rfl hc i η s3 σ3 H3 X.xe I3 (QZ fr3) st3 stop) λr s4 xz=>?_);let(hr,I4):=xz;subst hr;show wpAny_execs_nil (σ3,H3,I4,qn)
 .show wpAny_passesOwn hp (bH (T.item X rfl rfl rfl hc i η s3 σ3 H3 X.xe I3 (QZ fr3) st3 go) λr s4 xz=>?_);let(u,hr,h4):=xz;subst hr;show wpAny_passesOwn hp (bH h4 λ_ s5 xz=>?_);let(x,H5,I5,r5,y5,st5,WS):=xz;let I5':=I5.pinned (QZ WS) (T.obj _ _ st5);show wpAny_passesOwn hp (bH (hg _ s5 σ3 H5 x u _ I5' r5 (step x H5 y5)) λ_ s6 xz=>?_);let(σ6,H6,I6,q6):=xz;show wpAny_passesOwn hp (bH (hb _ s6 σ6 H6 _ I6 q6) λf s7 q7=>?_);let again:∀{σ7:St} {H7:Hp},Inv X (η++zi fp s5.heap) σ7 H7 s7->N σ7 H7->∃m,m < n/\∃i σ' H',Inv X η σ' H' s7/\tn i s7.heap/\(∀b∈fp,H' b=none)/\W i m σ' H':=λ{σ7 H7} I7 n7=>by let(m',hm,w7):=hN σ7 H7 n7;show(m',hm,i+1,σ7,H7,I7.ky,T.keep _ _ _ st5 λb hb o e=>(I7.pin (b, o) (aa7 _ (aa7 _ (fF hb e)))).1,λb hb=>?_,w7);let(o,e,d):=T.obj _ _ st5 b hb;show(I7.pin (b, o) (aa7 _ (aa7 _ (fF hb e)))).2.1
  cases f with
  | next=>let(σ7,H7,I7,n7):=q7;show again I7 n7
  | cont=>let(σ7,H7,I7,n7):=q7;show again I7 n7
  | brk=>let(σ7,H7,I7,q7):=q7;show(σ7,H7,I7.ky,q7)
  | ret v=>let(x7,σ7,H7,I7,r7,q7):=q7;show(x7,σ7,H7,I7.ky,r7,q7)
end
abbrev R2:=V->V->Hp->VK->Prop
variable{r:R2}
def i8(X:Cx)(f:Value->Value->Sem Value)(r:R2):Prop:=
 ∀(η:List (Addr×Obj)) (s:Shared) (σ:St) (H:Hp) (x y:V) (v u:Value) (Q:VK),Inv X η σ H s->aB x v->aB y u->r x y H Q->
  wpAny (model X.prog X.w) X.A (f v u) (EP X η σ Q) X.xe s
def WO(X:Cx)(f:Value->Sem Value)(r:V->Hp->VK->Prop):Prop:=
 ∀(η:List (Addr×Obj)) (s:Shared) (σ:St) (H:Hp) (x:V) (v:Value) (Q:VK),Inv X η σ H s->aB x v->r x H Q->
  wpAny (model X.prog X.w) X.A (f v) (EP X η σ Q) X.xe s
def e6(X:Cx)(f:Value)(r:List V->Hp->VK->Prop):Prop:=
 ∀(η:List (Addr×Obj)) (s:Shared) (σ:St) (H:Hp) (xs:List V) (us:List Value) (Q:VK),Inv X η σ H s->aH xs us->r xs H Q->
  wpAny (model X.prog X.w) X.A (call f us) (EP X η σ Q) X.xe s
def V3(r:R2)(ta tb:TE):TE:=λσ H Q=>ta σ H λx H1=>tb σ H1 λy H2=>r x y H2 Q
def tUn(r:V->Hp->VK->Prop)(ta:TE):TE:=λσ H Q=>ta σ H λx H1=>r x H1 Q
def rI(C:Int->Int->Prop)(g:Int->Int->V):R2:=λx y H Q=>∃i j,x= .int i/\y= .int j/\C i j/\Q (g i j) H
def Al(g:Int->Int->V):R2:=λx y H Q=>∃i j,x= .int i/\y= .int j/\Q (g i j) H
def rU(g:Int->V):V->Hp->VK->Prop:=λx H Q=>∃i,x= .int i/\Q (g i) H
section
variable{a b:Expr}{tb tc:TE}{pos:Pos}
def Qx(ha:PE X a ta)(hb:PE X b tb){H:Hp}{R:V->V->Hp->Prop}(I:Inv X η σ H s)
  (h:ta σ H λx H1=>tb σ H1 λy H2=>R x y H2)
  (hf:∀v u s2 x y H2,Inv X η σ H2 s2->aB x v->aB y u->R x y H2->wpAny (model X.prog X.w) X.A (f v u) Q X.xe s2):
  wpAny (model X.prog X.w) X.A (eval a X.env) (λv s₁=>wpAny (model X.prog X.w) X.A (eval b X.env) (λu s₂=>wpAny (model X.prog X.w) X.A (f v u) Q X.xe s₂) X.xe s₁) X.xe s:=by
 show bH (ha η s σ H _ I h) λv s1 xz=>?_;let(x,H1,I1,r1,q1):=xz;show bH (hb η s1 σ H1 _ I1 q1) λu s2 xz=>?_;let(y,H2,I2,r2,q2):=xz;show hf v u s2 x y H2 I2 r1 r2 q2
def Wl{op:Operator}(ho:i8 X (binaryOp op) r)(ha:PE X a ta)(hb:PE X b tb):PE X (.BinOp a op b pos) (V3 r ta tb):=by intro η s σ H Q I h;show wpAny_BinOp (Qx ha hb I h λv u s2 x y H2 I2 rx ry q=>ho η s2 σ H2 x y v u Q I2 rx ry q)
def Vf{op:UnaryOp}{r:V->Hp->VK->Prop}(ho:WO X (unaryOp op) r)(ha:PE X a ta):PE X (.UnaryOp op a pos) (tUn r ta):=by intro η s σ H Q I h;show UnaryOp_ (bH (ha η s σ H _ I h) λv s1 (x,H1,I1,r1,q1)=>ho η s1 σ H1 x v Q I1 r1 q1)
def Xe{C:Int->Int->Prop}{g:Int->Int->Int}
  (rule:∀(i j:Int) (t u:Tok) (s:Shared) (Q:Value->Shared->Prop) (E:Value->Shared->Prop),C i j->Q (.int (g i j) s.toks) {s with toks:=s.toks+1}->wpAny (model X.prog X.w) X.A (f (.int i t) (.int j u)) Q E s):
  i8 X f (rI C λi j=>.int (g i j)):=by
 intro η s σ H x y v u Q I rx ry h;let(i,j,rfl,rfl,hc,q):=h;let(t,rfl):=rx;let(t',rfl):=ry;show rule i j t t' s _ _ hc (.int (g i j),H,I.tok _,(_,rfl),q)
def Ww{g:Int->Int->Int}
  (rule:∀(i j:Int) (t u:Tok) (s:Shared) (Q:Value->Shared->Prop) (E:Value->Shared->Prop),Q (.int (g i j) s.toks) {s with toks:=s.toks+1}->wpAny (model X.prog X.w) X.A (f (.int i t) (.int j u)) Q E s):
  i8 X f (Al λi j=>.int (g i j)):=by
 intro η s σ H x y v u Q I rx ry h;let(i,j,rfl,rfl,q):=h;let(t,rfl):=rx;let(t',rfl):=ry;show rule i j t t' s _ _ (.int (g i j),H,I.tok _,(_,rfl),q)
def N1{g:Int->Int->Bool}
  (rule:∀(i j:Int) (t u:Tok) (s:Shared) (Q:Value->Shared->Prop) (E:Value->Shared->Prop),Q (.bool (g i j)) s->wpAny (model X.prog X.w) X.A (f (.int i t) (.int j u)) Q E s):
  i8 X f (Al λi j=>.bl (g i j)):=by
 intro η s σ H x y v u Q I rx ry h;let(i,j,rfl,rfl,q):=h;let(t,rfl):=rx;let(t',rfl):=ry;show rule i j t t' s _ _ (.bl (g i j),H,I,rfl,q)
def xX(i j:Int):Prop:=0<=j/\j<=1000000/\i.natAbs < 2 ^ 64
def Qb:i8 X (binaryOp .Add) (Al λi j=>.int (i+j)):=Ww λ_ _ _ _ _ _ _ q=>add_int q
def Sa:i8 X (binaryOp .Sub) (Al λi j=>.int (i - j)):=Ww λ_ _ _ _ _ _ _ q=>sub_int q
def RL:i8 X (binaryOp .Mod) (rI (λ_ j=>0 < j) λi j=>.int (i % j)):=Xe λi j _ _ _ _ _ hc q=>by let h1:(0:Int) < j:=hc;show mod_int' () (by rw[acb i ()];show q)
def Q4:i8 X (binaryOp .Pow) (rI xX λi j=>.int (i ^ j.toNat)):=Xe λ_ _ _ _ _ _ _ hc q=>pow_int_small hc.1 hc.2.1 hc.2.2 q
def unI{f:Value->Sem Value}{g:Int->Int}
  (rule:∀(i:Int) (t:Tok) (s:Shared) (Q:Value->Shared->Prop) (E:Value->Shared->Prop),Q (.int (g i) s.toks) {s with toks:=s.toks+1}->wpAny (model X.prog X.w) X.A (f (.int i t)) Q E s):
  WO X f (rU λi=>.int (g i)):=by
 intro η s σ H x v Q I rx h;let(i,rfl,q):=h;let(t,rfl):=rx;show rule i t s _ _ (.int (g i),H,I.tok _,(_,rfl),q)
def Sj:WO X (unaryOp .USub) (rU λi=>.int (- i)):=unI λ_ _ _ _ _ q=>neg_int q
end
def VL:V->V->Bool
 | .aZ,.aZ=>true| .aZ,.int _=>true| .int _,.aZ=>true| .aZ,.bl _=>true| .bl _,.aZ=>true| .aZ,.str _=>true| .str _,.aZ=>true
 | .int _,.int _=>true| .bl _,.bl _=>true| .str _,.str _=>true| .Ii _,.Ii _=>true
 | .int _,.str _=>true| .str _,.int _=>true| .bl _,.str _=>true| .str _,.bl _=>true
 | _,_=>false
def rEq:R2:=λx y H Q=>VL x y=true/\Q (.bl (decide (x=y))) H
def rNe:R2:=λx y H Q=>VL x y=true/\Q (.bl (! decide (x=y))) H
def FK{i:Int}:decide (V.int i=V.int j)=(i==j):=by rw[acv];simp
def Ml{i:Bool}:decide (V.bl i=V.bl j)=(i==j):=by rw[acv];simp
def Fv{i:Str}:decide (V.str i=V.str j)=(i==j):=by rw[acv];simp
def ET{i:Array UInt8}:decide (V.Ii i=V.Ii j)=(i.toList==j.toList):=by rw[acv];cases i;cases j;simp
section
variable{a b:Expr}{tb tc:TE}{pos:Pos}
def aQ{H:Hp}{Q:VK}{k k':Bool}(I:Inv X η σ H s)(q:Q (.bl k) H)(e:k=k'):EP X η σ Q (.bool k') s:=by subst e;show(.bl k,H,I,rfl,q)
def O2:i8 X (compareOp .Eq) rEq:=by
 intro η s σ H x y v u Q I rx ry h;let(hs,q):=h;cases x with
 | aZ=>
  cases rx;cases y with
  | aZ=>cases ry;show PySem.EqNone.eq_none_none (aQ I q (by simp))
  | bl j=>cases ry;show PySem.EqNone.eq_none_bool (aQ I q (by simp))
  | int j=>let(t',rfl):=ry;show PySem.EqNone.eq_none_int (aQ I q (by simp))
  | str j=>let(t',rfl):=ry;show PySem.EqNone.eq_none_str (aQ I q (by simp))
  | _=>show aa5 (show false=true from hs) aa1
 | bl i=>
  cases rx;cases y with
  | aZ=>cases ry;show PySem.EqNone.eq_bool_none (aQ I q (by simp))
  | bl j=>cases ry;show eq_bool (aQ I q Ml)
  | str j=>let(t',rfl):=ry;show PySem.EqMixed.eq_bool_str (aQ I q (by simp))
  | _=>show aa5 (show false=true from hs) aa1
 | int i=>
  let(t,rfl):=rx;cases y with
  | aZ=>cases ry;show PySem.EqNone.eq_int_none (aQ I q (by simp))
  | int j=>let(t',rfl):=ry;show eq_int (aQ I q FK)
  | str j=>let(t',rfl):=ry;show PySem.EqMixed.eq_int_str (aQ I q (by simp))
  | _=>show aa5 (show false=true from hs) aa1
 | str i=>
  let(t,rfl):=rx;cases y with
  | aZ=>cases ry;show PySem.EqNone.eq_str_none (aQ I q (by simp))
  | bl j=>cases ry;show PySem.EqMixed.eq_str_bool (aQ I q (by simp))
  | int j=>let(t',rfl):=ry;show PySem.EqMixed.eq_str_int (aQ I q (by simp))
  | str j=>let(t',rfl):=ry;show eq_str (aQ I q Fv)
  | _=>show aa5 (show false=true from hs) aa1
 | Ii i=>
  let(t,rfl):=rx;cases y with
  | Ii j=>let(t',rfl):=ry;show PySem.W.eq_bytes (aQ I q ET)
  | _=>show aa5 (show false=true from hs) aa1
 | _=>cases y <;> show aa5 (show false=true from hs) aa1
def UE:i8 X (compareOp .NotEq) rNe:=by
 intro η s σ H x y v u Q I rx ry h;let(hs,q):=h;cases x with
 | aZ=>
  cases rx;cases y with
  | aZ=>cases ry;show PySem.EqNone.ne_none_none (aQ I q (by simp))
  | bl j=>cases ry;show PySem.EqNone.ne_none_bool (aQ I q (by simp))
  | int j=>let(t',rfl):=ry;show PySem.EqNone.ne_none_int (aQ I q (by simp))
  | str j=>let(t',rfl):=ry;show PySem.EqNone.ne_none_str (aQ I q (by simp))
  | _=>show aa5 (show false=true from hs) aa1
 | bl i=>
  cases rx;cases y with
  | aZ=>cases ry;show PySem.EqNone.ne_bool_none (aQ I q (by simp))
  | bl j=>cases ry;show ne_bool (aQ I q (abm not Ml))
  | str j=>let(t',rfl):=ry;show PySem.EqMixed.ne_bool_str (aQ I q (by simp))
  | _=>show aa5 (show false=true from hs) aa1
 | int i=>
  let(t,rfl):=rx;cases y with
  | aZ=>cases ry;show PySem.EqNone.ne_int_none (aQ I q (by simp))
  | int j=>let(t',rfl):=ry;show ne_int (aQ I q (abm not FK))
  | str j=>let(t',rfl):=ry;show PySem.EqMixed.ne_int_str (aQ I q (by simp))
  | _=>show aa5 (show false=true from hs) aa1
 | str i=>
  let(t,rfl):=rx;cases y with
  | aZ=>cases ry;show PySem.EqNone.ne_str_none (aQ I q (by simp))
  | bl j=>cases ry;show PySem.EqMixed.ne_str_bool (aQ I q (by simp))
  | int j=>let(t',rfl):=ry;show PySem.EqMixed.ne_str_int (aQ I q (by simp))
  | str j=>let(t',rfl):=ry;show ne_str (aQ I q (abm not Fv))
  | _=>show aa5 (show false=true from hs) aa1
 | Ii i=>
  let(t,rfl):=rx;cases y with
  | Ii j=>let(t',rfl):=ry;show PySem.W.ne_bytes (aQ I q (abm not ET))
  | _=>show aa5 (show false=true from hs) aa1
 | _=>cases y <;> show aa5 (show false=true from hs) aa1
def Pm:i8 X (compareOp .Lt) (Al λi j=>.bl (decide (i < j))):=N1 λ_ _ _ _ _ _ _ q=>lt_int q
def EX:i8 X (compareOp .LtE) (Al λi j=>.bl (decide (i<=j))):=N1 λ_ _ _ _ _ _ _ q=>le_int q
def T5:i8 X (compareOp .Gt) (Al λi j=>.bl (decide (j < i))):=N1 λ_ _ _ _ _ _ _ q=>gt_int q
def Pu:i8 X (compareOp .GtE) (Al λi j=>.bl (decide (j<=i))):=N1 λ_ _ _ _ _ _ _ q=>ge_int q
def Sn:i8 X (compareOp .Is) (λx y H Q=>y= .aZ/\Q (.bl (decide (x= .aZ))) H):=by
 intro η s σ H x y v u Q I rx ry h;let(rfl,q):=h;cases ry;show is_none_gen (aQ I q ?_)
 cases x <;> first
  | (cases rx;rfl)
  | (let(t,rfl):=rx;rfl)
def FC:i8 X (compareOp .IsNot) (λx y H Q=>y= .aZ/\Q (.bl (! decide (x= .aZ))) H):=by
 intro η s σ H x y v u Q I rx ry h;let(rfl,q):=h;cases ry;show isnot_none_gen (aQ I q ?_)
 cases x <;> first
  | (cases rx;rfl)
  | (let(t,rfl):=rx;rfl)
def i8.or(h:i8 X f r)(h':i8 X f r'):i8 X f (λx y H Q=>r x y H Q\/r' x y H Q):=by
 intro η s σ H x y v u Q I rx ry q;rcases q with q| q
 .show h η s σ H x y v u Q I rx ry q
 .show h' η s σ H x y v u Q I rx ry q
def fo(b:Expr)(h:op≠ .In|>2)(h2:op≠ .NotIn|>2):behindInMarks op b=false:=by
 let e1:(op==CmpOp.In)=false:=by cases op <;> first| rfl| show aa5 rfl h
 let e2:(op==CmpOp.NotIn)=false:=by cases op <;> first| rfl| show aa5 rfl h2
 cases b <;> simp[behindInMarks,e1,e2]
def NQ(ho:i8 X (compareOp op) r)(ha:PE X a ta)(hb:PE X b tb)(hm:behindInMarks op b=false):PE X (.Compare a [op] [b] pos) (V3 r ta tb):=by intro η s σ H Q I h;show wpAny_Compare1 (Qx ha hb I h λv u s2 x y H2 I2 rx ry q=>ho η s2 σ H2 x y v u Q I2 rx ry q) hm
def Pp(t:TE):TT:=λσ H Q=>t σ H λx H'=>∃k,x= .bl k/\Q k H'
def MN(ho:i8 X (compareOp op) r)(ha:PE X a ta)(hb:PE X b tb)(hm:behindInMarks op b=false):PT X (.Compare a [op] [b] pos) (Pp (V3 r ta tb)):=by
 intro η s σ H Q I h
 show wpAny_isTrue_Compare1 (bH (ha η s σ H _ I h) fun v s1 (x,H1,I1,r1,q1)=>bH (hb η s1 σ H1 _ I1 q1) fun u s2 (y,H2,I2,r2,q2)=>
  bH (ho η s2 σ H2 x y v u _ I2 r1 r2 q2) fun c s3 (z,H3,I3,r3,k,e,q3)=>?_) hm
 subst e;cases r3;show wpAny_truthy_bool (H3,I3,q3)
def IQ(r r':R2)(ta tb tc:TE):TE:=λσ H Q=>ta σ H λx H1=>tb σ H1 λy H2=>r x y H2 λz H3=>∃k,z= .bl k/\
 (if k=true then tc σ H3 λw' H4=>r' y w' H4 Q else Q (.bl false) H3)
def Jg(ho:i8 X (compareOp op) r)(AD:i8 X (compareOp Qm) r')(ha:PE X a ta)(hb:PE X b tb)(hc:PE X c tc)
  (hm:lastMarks [op,Qm] [b,c]=false:=by with_unfolding_all rfl):PT X (.Compare a [op,Qm] [b,c] pos) (Pp (IQ r r' ta tb tc)):=by
 intro η s σ H Q I h
 show isTrue_chain (bH (ha η s σ H _ I h) fun v s1 (x,H1,I1,r1,q1)=>test_link (bH (hb η s1 σ H1 _ I1 q1) fun u s2 (y,H2,I2,r2,q2)=>
  bH (ho η s2 σ H2 x y v u _ I2 r1 r2 q2) fun d s3 (z,H3,I3,r3,k,e,q3)=>?_)) hm
 subst e;cases r3;show wpAny_truthy_bool ?_;cases k with
 | false=>
  let(k',e',q'):=q3;cases e';show ite_ff (H3,I3,q')
 | true=>
  show ite_tt (test_last (bH (hc η s3 σ H3 _ I3 q3) fun w' s4 (z',H4,I4,r4,q4)=>bH (AD η s4 σ H4 y z' u w' _ I4 r2 r4 q4) λd' s5 xz=>?_));let(z2,H5,I5,r5,k2,e2,q5):=xz;subst e2;cases r5;show wpAny_truthy_bool (H5,I5,q5)
def pf:(sizeLine:Nat) < 2 ^ 63:=by rw[sizeLine_eq];decide
def C3:i8 X (binaryOp .Add) (λx y H Q=>∃i j,x= .str i/\y= .str j/\-i+-j<=sizeLine/\Q (.str (i++j)) H):=by intro η s σ H x y v u Q I rx ry h;let(i,j,rfl,rfl,hz,q):=h;let(t,rfl):=rx;let(t',rfl):=ry;show add_str (λt' tk=>(.str (i++j),H,I.tok _,(_,rfl),q)) hz
def qQ{x:V}(r:aH [x] us):∃u,us=[u]/\aB x u:=by
 cases r with
 | cons r1 r2=>cases r2;show(_,rfl,r1)
def P1{x y:V}(r:aH [x,y] us):∃u w',us=[u,w']/\aB x u/\aB y w':=by
 cases r with
 | cons r1 r2=>
  cases r2 with
  | cons r3 r4=>cases r4;show(_,_,rfl,r1,r3)
def Ip:e6 X (.builtin "abs") (λxs H Q=>∃i,xs=[.int i]/\Q (.int (if i < 0 then - i else i)) H):=by intro η s σ H xs us Q I r h;let(i,rfl,q):=h;let(u,rfl,t,rfl):=qQ r;show call_abs_int λu tk=>(.int (if i < 0 then - i else i),H,I.tok _,(_,rfl),q)
def HD(hc:X.calm=true):e6 X (.builtin "min") (λxs H Q=>∃i j,xs=[.int i,.int j]/\Q (.int (if j < i then j else i)) H):=by
 intro η s σ H xs us Q I r h;let(i,j,rfl,q):=h;let(u,w',rfl,(t,rfl),(t',rfl)):=P1 r;show min_two_ints (I.ok.hd hc) λh' tk k=>(_,H,I.kept k,?_,q);by_cases hj:j < i
 .rw[aaP hj,aaP hj];show(_,rfl)
 .rw[aaK hj,aaK hj];show(_,rfl)
end
structure DR(h:Heap)(x dx C:Addr)(mA:Str->Option Value):Prop where
 obj:h.get? x=!(PySem.W.instObj C dx)
 ns:h.Ns1 dx mA
 ne:dx≠x
def HA(n:h.Ns1 dx mA):∃od,h.get? dx=!od/\∀name,PySem.W.lookIn name od=!(mA name):=by
 let(o,es,ep,ho,hd,hk,_,hm):=n;show(o,ho,λname=>?_);let e:=hm name;unfold nsFind findBy at e;rw[<-Array.find?_toList]at e;unfold PySem.W.lookIn;rw[hd];dsimp only;split
 .rename_i y q;rw[q]at e;show abm some e
 .rename_i q;rw[q]at e;let a:es.toList.any (·.refKey)=false:=by rw[List.any_eq_false];intro y hy;let(z,t,Qw):=hk y (Array.mem_toList_iff.mp hy);simp[DictEntry.refKey,Qw]
  let a':¬es.toList.any (·.refKey)=true:=by rw[a];show aa1
  rw[aaK a'];show abm some e
def DR.look{x:Addr}(I:DR h x dx C mA):∃od,PySem.W.InstAt h x (PySem.W.instObj C dx) C (!od)/\∀name,PySem.W.lookIn name od=!(mA name):=
 let (od,ho,hl):=HA I.ns
 (od,(I.obj,rfl,rfl,ho),hl)
section
variable{K:fv}{x f:Addr}{name:Str}{v:Value}
def rY(X:K.In s.heap)(I:DR s.heap x dx C mA)(hg:PySem.W.plainGet K C name=true)(hh:PySem.W.hasDictIn K C=true)
  (ha:PySem.W.findIn K (.ref C) name=!none) (hv:mA name=!v) (hv':PySem.W.handedIn v=true) (h:Q v {s with toks:=s.toks+1}):
  wpAny (model prog w) A (getAttr (.ref x) name expr) Q E s:=by
 let(od,J,hl):=I.look;show PySem.W.get_value X J (PySem.W.plainGet_of hg).1 (PySem.W.findObj_own hh ha rfl (by rw[hl,hv])) hv' h
def KG{Q:Value×List Value->Shared->Prop}(X:K.In s.heap)(I:DR s.heap x dx C mA)(hg:PySem.W.plainGet K C name=true)
  (hf:PySem.W.findIn K (.ref C) name=!(!(.ref f))) (ht:PySem.W.isFn K (.ref f)=true) (hv:mA name=none) (h:Q (.ref f, [.ref x]) s):
  wpAny (model prog w) A (getMethod (.ref x) name pl) Q E s:=by
 let(od,J,hl):=I.look;show PySem.W.method_fn X J (PySem.W.plainGet_of hg).1 (PySem.W.plainGet_of hg).2 hf (acK.mp ht) (by change(PySem.W.lookIn name od).map (·.isSome)=!false;rw[hl,hv];rfl) h
def N9{Q:Unit->Shared->Prop}(X:K.In s.heap)(I:DR s.heap x dx C mA)
  (hs:PySem.W.findIn K (.ref C) "__setattr__"=!(!(.builtin "object.__setattr__"))) (hp:PySem.W.plainOver K C=true) (ht:PySem.W.takerIn K C name=!none) (hh:PySem.W.hasDictIn K C=true)
  (hw:PySem.Within mA ns) (hsz:-ns<=sizeLine)
  (h:∀h',DR h' x dx C (λy=>if y=name then !v else mA y)->Heap.SameBut dx s.heap h'->Q Unit.unit {s with heap:=h',toks:=s.toks+2}):
  wpAny (model prog w) A (setAttr (.ref x) name v) Q E s:=by
 let(od,J,hl):=I.look;show PySem.W.set_plain X J hs (PySem.W.osa_open (s:={s with toks:=s.toks+1}) (r:=none) X J hp ht λb=>?_);let(cd,hc,Mi):=PySem.W.any_some hh;let hx:s.heap.get? x=!(.ref C,!dx,.plain,#[]):=I.obj;show aao (aa6 (aao (aao (wpAny_loadPart hx (aao (PySem.W.Looks.here (s:={s with toks:=s.toks+1}) (PySem.W.looks_clsIn X hc) ?_))))));rw[Mi];show aa6 (a:=!dx) (aao (aa6 (aao ?_)));show wpAny_nsSet1 (s:={s with toks:=s.toks+1}) I.ns λh' Td Ql=>?_;let(oD,esD,epD,hoD,hdD,hcD):=Td.count (PySem.Within.cons name v hw);show aao (wpAny_lookBehind hoD (by rw[hdD];show pastItsLine_dict (aaH hcD (by rw[aa9];omega))) ?_);show aa6 (h _ ((Ql.2 _ (Ne.symm I.ne)).trans I.obj,Td,I.ne) Ql)
def LM{vs:List Value}(X:K.In s.heap)(hm:PySem.W.makesIn K C=true)
  (hi:PySem.W.findIn K (.ref C) "__init__"=!(!(.ref f))) (hf:PySem.W.typeIn K (.ref f)=!(.type "function"))
  (h:codeAny (model prog w) (A.under (.builtin "type.__call__" (.ref C::vs,kw))) (.call (.ref f) (.ref (s.heap.objs.size+1)::vs,kw)) (PySem.W.InitBack (s.heap.objs.size+1) R)
   {s with heap:=(s.heap.push PySem.W.emptyDict).push (PySem.W.instObj C s.heap.objs.size)}):
  codeAny (model prog w) A (.call (.ref C) (vs,kw)) R s:=by
 let(hh,g,d,t,os):=s;show PySem.W.make_core (PySem.W.makes_of X hm) (PySem.W.looks_findIn X hi) (λself=>PySem.W.bind_fn X self hf) (.inl rfl) h
end
def j6(f:Str)(v:V):List (Str×V)->List (Str×V)
 | []=>[(f, v)]
 | (g, x)::r=>if g=f then (g, v)::r else (g, x)::j6 f v r
def qE(f g:Str)(v:V):∀fs:List (Str×V),(j6 f v fs).lookup g=if g=f then !v else fs.lookup g
 | []=>by
  change List.lookup g [(f, v)]=_;by_cases h:g=f
  .let hb:(g==f)=true:=acK.mpr h;simp only[List.lookup,hb,if_pos h]
  .let hb:(g==f)=false:=beq_eq_false_iff_ne.mpr h;simp only[List.lookup,hb,if_neg h]
 | (k, x)::r=>by
  let ih:=qE f g v r;rw[show j6 f v ((k, x)::r)=(if k=f then (k, v)::r else (k, x)::j6 f v r) from rfl];by_cases hk:k=f
  .rw[aaP hk];by_cases h:g=k
   .let hb:(g==k)=true:=acK.mpr h;simp only[List.lookup,hb,if_pos (h.trans hk)]
   .let hb:(g==k)=false:=beq_eq_false_iff_ne.mpr h;simp only[List.lookup,hb,if_neg (λe:g=f=>h (e.trans hk.symm))]
  .rw[aaK hk];by_cases h:g=k
   .let hb:(g==k)=true:=acK.mpr h;simp only[List.lookup,hb,if_neg (λe:g=f=>hk (h.symm.trans e))]
   .let hb:(g==k)=false:=beq_eq_false_iff_ne.mpr h;simp only[List.lookup,hb];show ih
def pB(f:Str)(v:V):∀fs:List (Str×V),f∈(j6 f v fs).map (·.1)/\∀g,g∈fs.map (·.1)->g∈(j6 f v fs).map (·.1)
 | []=>(by simp[j6],λg h=>by simp at h)
 | (k, x)::r=>by
  let(i1,i2):=pB f v r;rw[show j6 f v ((k, x)::r)=(if k=f then (k, v)::r else (k, x)::j6 f v r) from rfl];by_cases hk:k=f
  .rw[aaP hk];subst hk;show(by simp,λg h=>by simpa using h)
  .rw[aaK hk];show(?_,λg h=>?_)
   .rw[abe];show aag _ i1
   .rw[abe]at h⊢;rcases aaS.mp h with e| e
    .show aaS.mpr (.inl e)
    .show aag _ (i2 g e)
def qy(f:Str)(v:V):∀fs:List (Str×V),-(j6 f v fs)<=-fs+1
 | []=>by simp[j6]
 | (k, x)::r=>by
  let ih:=qy f v r;rw[show j6 f v ((k, x)::r)=(if k=f then (k, v)::r else (k, x)::j6 f v r) from rfl];by_cases hk:k=f
  .rw[aaP hk,aa9,aa9];omega
  .rw[aaK hk,aa9,aa9];omega
def jL.some_of{o:Option Value}(r:jL (!v) o):∃u,o=!u/\aB v u:=by
 cases o with
 | none=>show(show False from r).elim
 | some u=>show(u,rfl,r)
def jL.none_of{o:Option Value}(r:jL none o):o=none:=by
 cases o with
 | none=>rfl
 | some u=>show(show False from r).elim
def Hf(r:aB v u):PySem.W.handedIn u=true:=by
 cases v with
 | aZ=>cases(show u=Value.none from r);rfl
 | bl b=>cases(show u=Value.bool b from r);rfl
 | int i=>let(t,e):=(show∃t,u=Value.int i t from r);cases e;rfl
 | str x=>let(t,e):=(show∃t,u=Value.str x t from r);cases e;rfl
 | Ii b=>let(t,e):=(show∃t,u=Value.bytes b t from r);cases e;rfl
 | SI b=>let(t,e):=(show∃t,u=Value.float b t from r);cases e;rfl
 | ref a=>cases(show u=Value.ref a from r);rfl
 | ty n=>cases(show u=Value.type n from r);rfl
section
variable{H H':Hp}{fs X5:List (Str×V)}
def rG(aU:lV P w H h)(e:H a=!(.ins C dx fs)):∃mA,DR h a dx C mA/\(∀f,jL (fs.lookup f) (mA f))/\PySem.Within mA (fs.map (·.1))/\-fs<=1000/\H dx=!(.own a):=by let(d,z,ne,ob,mA,n,r,q):=(show cw P w H h a (.ins C dx fs) from aU a _ e);show(mA,(ob,n,ne),r,q,z,d)
end
structure Eh(K:fv)(C:Addr):Prop where
 pg:PySem.W.plainGet K C Str.empty=true
 hd:PySem.W.hasDictIn K C=true
 po:PySem.W.plainOver K C=true
 sa:PySem.W.findIn K (.ref C) "__setattr__"=!(!(.builtin "object.__setattr__"))
def Eh.get{K:fv}{C:Addr}(c:Eh K C)(f:Str):PySem.W.plainGet K C f=true:=c.pg
def iL(K:fv)(C:Addr)(f:Str):Prop:=PySem.W.findIn K (.ref C) f=!none
def iL.Wu{K:fv}{f:Str}(n:iL K C f):PySem.W.takerIn K C f=!none:=by unfold PySem.W.takerIn;rw[show PySem.W.findIn K (.ref C) f=!none from n];rfl
structure OH(K:fv)(C:Addr)(m:Str)(f:Addr):Prop where
 at_:PySem.W.findIn K (.ref C) m=!(!(.ref f))
 fn:PySem.W.isFn K (.ref f)=true
 kp:PySem.W.keepIn K (.ref f)=true
section
variable{H:Hp}{fs:List (Str×V)}{f:Str}
def B3{b:Bool}(I:Inv X η σ H s)(e:H a=!(.ins C dx fs))(c:Eh X.K C)(n:iL X.K C f)(l:fs.lookup f=!v)
  (h:∀u s',Inv X η σ H s'->aB v u->Q u s'):wpAny (model X.prog X.w) A (getAttr (.ref a) f b) Q E s:=by
 let(mA,O,r,_,_,_):=rG I.aU e;let(u,hu,ru):=jL.some_of (v:=v) (o:=mA f) (by rw[<-l];show r f);show rY I.qR O (c.get f) c.hd n hu (Hf ru) (h u _ (I.tok _) ru)
def uK{g:Addr}{Q:Value×List Value->Shared->Prop}(I:Inv X η σ H s)(e:H a=!(.ins C dx fs))(c:Eh X.K C)(k:OH X.K C m g)(l:fs.lookup m=none)
  (h:Q (.ref g, [.ref a]) s):wpAny (model X.prog X.w) A (getMethod (.ref a) m pl) Q E s:=by
 let(mA,O,r,_,_,_):=rG I.aU e;let hn:mA m=none:=jL.none_of (by rw[<-l];show r m);show KG I.qR O (c.get m) k.at_ k.fn hn h
def BZ{Q:Unit->Shared->Prop}(I:Inv X η σ H s)(e:H a=!(.ins C dx fs))(c:Eh X.K C)(n:iL X.K C f)(hl:-fs < 1000)(ry:aB y u)
  (h:∀s',Inv X η σ (upd H a (.ins C dx (j6 f y fs))) s'->Q Unit.unit s'):wpAny (model X.prog X.w) A (setAttr (.ref a) f u) Q E s:=by
 let(mA,O,r,wi,_,ho):=rG I.aU e;let hz:-(fs.map (·.1))<=sizeLine:=by rw[aah,sizeLine_eq];omega
 show N9 I.qR O c.sa c.po n.Wu c.hd wi hz λh' O' sb=>h _ ?_;let hd:∃o,h'.get? dx=!o:=let (o,_,_,e',_):=O'.ns;(o,e')
 show I.write (x:=a) (e:=dx) (by rw[e];show True.intro) (.inr ho) (λb q hb z=>(sb.2 b hb).trans z) hd ?_;show(by rw[Ν O.ne];show ho,?_,O.ne,O'.obj,_,O'.ns,λg=>?_,λg hg=>?_)
 .have:=qy f y fs;omega
 .change jL ((j6 f y fs).lookup g) (if g=f then !u else mA g);rw[qE];by_cases q:g=f
  .rw[aaP q,aaP q];show ry
  .rw[aaK q,aaK q];show r g
 .by_cases q:g=f
  .rw[q];show(pB f y fs).1
  .show(pB f y fs).2 g (wi g λz=>hg ?_);change(if g=f then !u else mA g)=none;rw[aaK q];show z
def Inv.made(I:Inv X η σ H s):Inv X η σ (upd (upd H s.heap.objs.size (.own (s.heap.objs.size+1))) (s.heap.objs.size+1) (.ins C s.heap.objs.size []))
  {s with heap:=(s.heap.push PySem.W.emptyDict).push (PySem.W.instObj C s.heap.objs.size)}:=by
 let e1:(s.heap.push PySem.W.emptyDict).get? s.heap.objs.size=!PySem.W.emptyDict:=abd s.heap rfl;let e2:((s.heap.push PySem.W.emptyDict).push (PySem.W.instObj C s.heap.objs.size)).get? (s.heap.objs.size+1)=!(PySem.W.instObj C s.heap.objs.size):=by have:=abd (s.heap.push PySem.W.emptyDict) (o:=PySem.W.instObj C s.heap.objs.size) rfl;rwa[Heap.size_push]at this
 let e3:(s.heap.push PySem.W.emptyDict).Ns s.heap.objs.size (λ_=>none):=(PySem.W.emptyDict,#[],_,e1,rfl,(λe he=>absurd he (by simp)),λ_=>rfl);let I1:=I.laid (a:=s.heap.objs.size) (o:=.own (s.heap.objs.size+1)) (h':=s.heap.push PySem.W.emptyDict) (t':=s.toks) (λb u q=>aas _ q) (aaq _) (_,e1);show I1.laid (a:=s.heap.objs.size+1) (o:=.ins C s.heap.objs.size []) (t':=s.toks) (λb u q=>aas _ q) (Nat.le_of_eq (Heap.size_push _ _)) ?_;let ne:s.heap.objs.size≠s.heap.objs.size+1:=abj (abY _);show(by rw[Ν ne,ao],acn _,ne,e2,λ_=>none,(Heap.Ns1.of_empty e3).at λo q=>aas _ q,λ_=>True.intro,λy hy=>aa5 rfl hy)
def MY{f:Str}{pos:Pos}(hb:attributeBase e f env (eval e env)=eval e env)
  (h:wpAny (model prog w) A (eval e env) (λo s₁=>wpAny (model prog w) A (getAttr o f true) Q E s₁) E s):wpAny (model prog w) A (eval (.Attribute e f pos) env) Q E s:=
 Attribute_any_ h (by rw[arm_eval_Attribute,hb])
end
def X0(K:fv)(ta:TE)(f:Str):TE:=λσ H Q=>ta σ H λx H1=>∃a C dx fs v,x= .ref a/\H1 a=!(.ins C dx fs)/\Eh K C/\iL K C f/\fs.lookup f=!v/\Q v H1
def Yb(K:fv)(ta tv:TE)(f:Str):TS:=λD σ H=>tv σ H λy H1=>ta σ H1 λx H2=>∃a C dx fs,x= .ref a/\H2 a=!(.ins C dx fs)/\Eh K C/\iL K C f/\-fs < 1000/\
 D.nx σ (upd H2 a (.ins C dx (j6 f y fs)))
section
variable{o value:Expr}{f:Str}{pos pos' uD:Pos}{tv:TE}
def Rk(he:PE X e ta)(hb:attributeBase e f X.env (eval e X.env)=eval e X.env):PE X (.Attribute e f pos) (X0 X.K ta f):=by intro η s σ H Q I h;show MY hb (bH (he η s σ H _ I h) λu s1 xz=>?_);let(x,H1,I1,rx,a,C,dx,fs,v,ex,ea,c,n,l,q):=xz;subst ex;obtain rfl:u=Value.ref a:=rx;show B3 I1 ea c n l λu' s2 I2 ru=>(v,H1,I2,ru,q)
def R8(ha:PE X o ta)(hv:PE X value tv)(hs:swapsWith value (!(.Attribute o f pos')) pos.line X.env=pure false):PS X (.Assign [.Attribute o f pos'] value pos) (Yb X.K ta tv f):=by intro η s σ H D I h;show plainObj_wpAny_Assign_Attribute (bH (hv η s σ H _ I h) fun u s1 (y,H1,I1,ry,q)=>bH (ha η s1 σ H1 _ I1 q) λov s2 xz=>?_) hs;let(x,H2,I2,rx,a,C,dx,fs,ex,ea,c,n,l,q2):=xz;subst ex;obtain rfl:ov=Value.ref a:=rx;show BZ I2 ea c n l ry λs3 I3=>(σ,_,I3,q2)
end
section
variable{H:Hp}{c:Value}{b:Bool}
inductive j_(K:fv)(H:Hp):V->Value->Prop where
 | aZ:j_ K H .aZ (.type "NoneType")
 | bl (x:Bool):j_ K H (.bl x) (.type "bool")
 | int (i:Int):j_ K H (.int i) (.type "int")
 | str (x:Str):j_ K H (.str x) (.type "str")
 | SI (x:UInt64):j_ K H (.SI x) (.type "float")
 | lst {a:Addr} {xs:List V} (e:H a=!(.lst xs)):j_ K H (.ref a) (.type "list")
 | wq {a:Addr} {o:Obj} {xs:List V} (e:H a=!(.wq o (.lst xs))):j_ K H (.ref a) (.type "list")
 | tup {a:Addr} {xs:List V} (e:H a=!(.tup xs)):j_ K H (.ref a) (.type "tuple")
 | dK {a:Addr} {Ζ:List (Key×V)} (e:H a=!(.dK Ζ)):j_ K H (.ref a) (.type "dict")
 | dT {a:Addr} {Ζ:List (List Key×V)} (e:H a=!(.dT Ζ)):j_ K H (.ref a) (.type "dict")
 | ins {a C dx:Addr} {fs:List (Str×V)} (e:H a=!(.ins C dx fs)) (cl:Eh K C) (ha:PySem.W.findIn K (.ref C) "__class__"=!(!(.builtin "object.__class__")))
   (hn:PySem.W.specialIn K (.builtin "object.__class__") "__get__"=!(!(.builtin "getset_descriptor.__get__"))) (htk:PySem.W.takesIn K (.builtin "object.__class__")=!true)
   (hm:PySem.W.mroIn K C (.type "object")=!true):j_ K H (.ref a) (.ref C)
def Hg{x:V}(I:Inv X η σ H s)(rx:aB x u)(ty:j_ X.K H x t)(e:PySem.W.kitOne X.K t c=!b)(h:∀tk,Q (.bool b) {s with toks:=tk}):
  wpAny (model X.prog X.w) A (call (.builtin "isinstance") [u,c]) Q E s:=by
 cases ty with
 | aZ=>cases(show u=Value.none from rx);show PySem.W.kia_one PySem.W.kitx_none I.qR True.intro e nofun h
 | bl y=>cases(show u=Value.bool y from rx);show PySem.W.kia_one PySem.W.kitx_bool I.qR True.intro e nofun h
 | int i=>let(t,q):=(show∃t,u=Value.int i t from rx);cases q;show PySem.W.kia_one PySem.W.kitx_int I.qR True.intro e nofun h
 | str y=>let(t,q):=(show∃t,u=Value.str y t from rx);cases q;show PySem.W.kia_one PySem.W.kitx_str I.qR True.intro e nofun h
 | SI y=>let(t,q):=(show∃t,u=Value.float y t from rx);cases q;show PySem.W.kia_one PySem.W.kitx_float I.qR True.intro e nofun h
 | @lst a xs ea=>
  cases(show u=Value.ref a from rx);let(_,_,n,_,h1):=(show cw X.prog X.w H s.heap a (.lst xs) from I.aU a _ ea);show PySem.W.kia_one PySem.W.kitx_list I.qR (_,h1,rfl) e nofun h
 | @wq a ob xs ea=>
  cases(show u=Value.ref a from rx);let(_,_,_,n,_,h1):=(show cw X.prog X.w H s.heap a (.wq ob (.lst xs)) from I.aU a _ ea);show PySem.W.kia_one PySem.W.kitx_list I.qR (_,h1,rfl) e nofun h
 | @tup a xs ea=>
  cases(show u=Value.ref a from rx);let(_,_,_,p):=(show cw X.prog X.w H s.heap a (.tup xs) from I.aU a _ ea);let(o,h1,h2,_):=p;show PySem.W.kia_one PySem.W.kitx_tuple I.qR (o,h1,h2) e nofun h
 | @dK a Ζ ea=>
  cases(show u=Value.ref a from rx);let(_,_,vs,_,p):=(show cw X.prog X.w H s.heap a (.dK Ζ) from I.aU a _ ea);let(o,es,ep,h1,h2,_):=p;show PySem.W.kia_one PySem.W.kitx_dict I.qR (o,h1,h2.1) e nofun h
 | @dT a Ζ ea=>
  cases(show u=Value.ref a from rx);let(_,_,xs,_,o,es,ep,h1,h2,_):=(show cw X.prog X.w H s.heap a (.dT Ζ) from I.aU a _ ea);show PySem.W.kia_one PySem.W.kitx_dict I.qR (o,h1,h2.1) e nofun h
 | @ins a C dx fs ea cl ha hn htk hm=>
  cases(show u=Value.ref a from rx);let(mA,O,_):=rG I.aU ea;let(od,J,_):=O.look;show PySem.W.kia_one (PySem.W.kitx_own (cl.get _) cl.hd ha hn htk hm) I.qR J e nofun h
end
structure ck(k:Nat)(A:Around):Prop where
 hd:A.handled=none
 dp:A.depth+3 * k+5 < recursionLimit
 un:A.units+16 * k+200 < cLine
def ck.mono{j k:Nat}(r:ck k A)(h:j<=k):ck j A:=(r.hd,by have:=r.dp;omega,by have:=r.un;omega)
def ck.deeper{k:Nat}(r:ck (k+1) A)(env:Env):ck k (A.deeper env):=
 (r.hd,by have:=r.dp;change A.depth+1+3 * k+5 < _;omega,by have:=r.un;change A.units+3+16 * k+200 < _;omega)
def Cw:(A.under (.builtin "type.__call__" (.ref C::us,kw))).depth=A.depth+1:=by
 first| rfl| simp[Around.under,Code.weight,Code.isCreation,Code.isGuard,Code.isCaller,Code.frames,Code.isFrame,guardIds]
def Dk:(A.under (.builtin "type.__call__" (.ref C::us,kw))).units=A.units+1:=by
 first| rfl| simp[Around.under,Code.cUnits,Code.frames,Code.isFrame]
def ck.make{k:Nat}(r:ck (k+1) A)(C:Addr)(us:List Value)(kw:List (Str×Value)):ck k (A.under (.builtin "type.__call__" (.ref C::us,kw))):=
 (r.hd,by have:=r.dp;rw[Cw];omega,by have:=r.un;rw[Dk];omega)
def ck.depth{k:Nat}(r:ck k A):A.depth < recursionLimit:=by have:=r.dp;omega
def ck.units{k:Nat}(r:ck k A):A.units+64 < cLine:=by have:=r.un;omega
def ck.CB{k:Nat}(r:ck k A):A.units < cLine:=by have:=r.un;omega
def TK:TA:=λ_ H Q=>Q [] H
def Ul(ta:TE)(tr:TA):TA:=λσ H Q=>ta σ H λx H1=>tr σ H1 λxs H2=>Q (x::xs) H2
section
variable{t:TA}{pos:Pos}
def SO:PA X [] TK:=λ_ _ _ _ H Q I h=>Calls.spliced_nil ([],H,I,.nil,h)
def Nl(ha:PE X e te)(hr:PA X es t)(hs:starEach (e::es) X.env=(false, eval e X.env)::starEach es X.env|>1):PA X (e::es) (Ul te t):=by intro pos η s σ H Q I h;rw[hs];change wpAny _ _ (spliced ((false, eval e X.env)::backTo pos (starEach es X.env))) _ _ s;show Calls.spliced_cons (bH (ha η s σ H _ I h) λu s1 xz=>?_);let(x,H1,I1,r1,q1):=xz;show bH (hr pos η s1 σ H1 _ I1 q1) λus s2 (xs,H2,I2,r2,q2)=>(x::xs,H2,I2,.cons r1 r2,q2)
def Yn(t:TA):TE:=λσ H Q=>t σ H λxs H1=>-xs<=sizeLine/\∀p,H1 p=none->Q (.ref p) (upd H1 p (.tup xs))
def Z7(t:TA):TE:=λσ H Q=>t σ H λxs H1=>-xs<=sizeLine/\∀p,H1 p=none->Q (.ref p) (upd H1 p (.lst xs))
def QF{x1}(h:PA X es t):PE X (.Tuple es x1 pos) (Yn t):=by intro η s σ H Q I hq;show wpAny_Tuple_spliced (bH (h pos η s σ H _ I hq) fun us s1 (xs,H1,I1,r,z,q)=>(by rw[<--r];show z,?_));let hf:H1 s1.heap.objs.size=none:=I1.aU.fresh (aaq _);show(.ref s1.heap.objs.size,upd H1 s1.heap.objs.size (.tup xs),I1.laid (t':=s1.toks) (λb u e=>aas _ e) (aaq _) ?_,rfl,q _ hf);show(z,us,r,(_,abd _ rfl,rfl,_,rfl))
def IT(h:PA X es t):PE X (.List es pos) (Z7 t):=by intro η s σ H Q I hq;show wpAny_List_spliced (bH (h pos η s σ H _ I hq) fun us s1 (xs,H1,I1,r,z,q)=>(by rw[<--r];show z,?_));let hf:H1 s1.heap.objs.size=none:=I1.aU.fresh (aaq _);show(.ref s1.heap.objs.size,upd H1 s1.heap.objs.size (.lst xs),I1.laid (t':=s1.toks) (λb u e=>aas _ e) (aaq _) ?_,rfl,q _ hf);show(z,us,0,r,abd _ rfl)
end
abbrev Sp:=List V->Hp->VK->XK->Prop
abbrev BP:=List Env->Hp->Shared->XK->Value->Shared->Prop
structure D4(P:Program)(w:World)(K:fv)(mg:Str->Option Value)(base:Heap)(A:Around)(outer:List Env)(s:Shared)(H:Hp):Prop where
 frames:A.frames=!outer
 mod:Mod K mg base
 bs:∀b o,base.get? b=!o->s.heap.get? b=!o/\H b=none
 Th:base.objs.size<=s.heap.objs.size
 uX:s.heap.FunFrames base outer
 Vr:∀b∈qZ outer,H b=none
 aU:lV P w H s.heap
 bare:AllBare s.gens
def CE(outer:List Env)(P:Program)(w:World)(H:Hp)(s:Shared)(Q:VK)(u:Value)(s':Shared):Prop:=
 ∃v H',s'.os=s.os/\AllBare s'.gens/\Un (qZ outer) [] H H' s.heap s'.heap/\lV P w H' s'.heap/\aB v u/\Q v H'
def CR(CX:BP)(outer:List Env)(P:Program)(w:World)(H:Hp)(s:Shared)(Q:VK)(E:XK)(r:Result)(s':Shared):Prop:=
 match r with
 | .ok (.ret u)=>CE outer P w H s Q u s'
 | .ok _=>False
 | .error e=>CX outer H s E e s'
structure aC(P:Program)(w:World)(K:fv)(mg:Str->Option Value)(base:Heap)(CX:BP)(k:Nat)(f:Addr)(fd:FuncData)(ps:List Str)(sp:Sp):Prop where
 len:∀vs H Q E,sp vs H Q E->-vs=-ps
 run:∀(A:Around) (outer:List Env) (s:Shared) (H:Hp) (args:Args) (us:List Value) (vs:List V) (Q:VK) (E:XK),ck k A->D4 P w K mg base A outer s H->BindsTo s fd args (ps.zip us)->aH vs us->sp vs H Q E->
  codeAny (model P w) A (.call (.ref f) args) (CR CX outer P w H s Q E) s
def D4.make{K:fv}{H:Hp}(e:D4 P w K mg base A outer s H)(C:Addr)(us:List Value)(kw:List (Str×Value)):
  D4 P w K mg base (A.under (.builtin "type.__call__" (.ref C::us,kw))) outer s H:=(by first| show e.frames| (simpa [Around.under,Code.envs,Code.isFrame,pushEnvs] using e.frames),e.mod,e.bs,e.Th,e.uX,e.Vr,e.aU,e.bare)
section
variable{H:Hp}{s':Shared}
def Inv.V8(I:Inv X η σ H s):D4 X.prog X.w X.K X.mg X.base X.A X.stack s H:=
 (I.ok.frames,I.ok.mod,I.bs,aaH I.ok.Th I.sz,I.stack,I.xY,I.aU,I.bare)
def Inv.after{Q:VK}(I:Inv X η σ H s)(h:CE X.stack X.prog X.w H s Q u s'):EP X η σ Q u s':=by let(v,H',os,bare,un,aU,r,q):=h;let(hh,g,d,t,WG):=s';obtain rfl:WG=s.os:=os;show(v,H',I.call (h':=hh) (g':=g) (d':=d) (t':=t) (ch:=[]) un aU bare (λb z=>absurd z (by simp)),r,q)
end
def j5(K:fv)(fd:FuncData)(ps:List Str)(ds:List Value):Prop:=
 ∀(s:Shared) (us:List Value),K.In s.heap->-(us++ds)=-ps->BindsTo s fd (us,[]) (ps.zip (us++ds))
def j5.all{K:fv}(h:∀us:List Value,-us=-ps->bindArgs fd (us,[])=pure (ps.zip us)):j5 K fd ps []:=λs us _ hl=>by rw[abw]at hl⊢;show .of_eq (h us hl)
section
variable{CX:BP}{k:Nat}{f:Addr}{fd:FuncData}{sp:Sp}{rF:List V}{ds:List Value}{E:XK}{m:Str}{p pos apos:Pos}{o:Expr}{t:TA}
structure Mk(K:fv)(C f:Addr):Prop where
 makes:PySem.W.makesIn K C=true
 init:PySem.W.findIn K (.ref C) "__init__"=!(!(.ref f))
 fn:PySem.W.isFn K (.ref f)=true
 kp:PySem.W.keepIn K (.ref C)=true
end
structure Γ(N P:List Str)(sc:Scope):Prop where
 kind:sc.kind= .function
 co:sc.isCoroutine=false
 gen:sc.isGenerator=false
 nd:N.Nodup
 pre:N.take (-P)=P
 par:∀x∈P,sc.names.lookup x=some .local\/sc.names.lookup x=some .cell
 Sf:∀y∈sc.names,y.2≠ .free
def wk{kindOf:Str->Option NameKind}{x:Str}:∀{binds:List (Str×Value)} {m:Str->Option Value},(∀v,(x, v)∉binds)->bindL kindOf binds m x=m x
 | [],_,_=>rfl
 | (n, v)::r,m,h=>by
  unfold bindL;rw[wk λw hw=>h w (aag _ hw)];split
  .have:x≠n:=by rintro rfl;show h v aai
   simp[this]
  .rfl
def wc{kindOf:Str->Option NameKind}{x:Str}:∀{binds:List (Str×Value)} {m:Str->Option Value},(∀v,(x, v)∉binds)->bindC kindOf binds m x=m x
 | [],_,_=>rfl
 | (n, v)::r,m,h=>by
  unfold bindC;rw[wc λw hw=>h w (aag _ hw)];split
  .rfl
  .have:x≠n:=by rintro rfl;show h v aai
   simp[this]
def vH{kindOf:Str->Option NameKind}{x:Str}{v:Value}:∀{P:List Str} {vs:List Value} {i:Nat} {m:Str->Option Value},P.Nodup->P[i]? =!x->vs[i]? =!v->kindOf x=some .local->
  bindL kindOf (P.zip vs) m x=!v
 | [],_,_,_,_,h,_,_=>by simp at h
 | _::_,[],_,_,_,_,h,_=>by simp at h
 | p::P,w::vs,0,m,nd,h1,h2,hk=>by simp at h1 h2;subst h1;subst h2;change bindL kindOf ((p, w)::P.zip vs) m p=_;unfold bindL;rw[wk λv hv=>(abT.mp nd).1 (acP hv).1,aaP hk];simp
 | p::P,w::vs,i+1,m,nd,h1,h2,hk=>by change bindL kindOf ((p, w)::P.zip vs) m x=_;unfold bindL;show vH (i:=i) (List.nodup_cons.mp nd).2 (by simpa using h1) (by simpa using h2) hk
def wK{kindOf:Str->Option NameKind}{x:Str}{v:Value}:∀{P:List Str} {vs:List Value} {i:Nat} {m:Str->Option Value},P.Nodup->P[i]? =!x->vs[i]? =!v->kindOf x≠some .local->
  bindC kindOf (P.zip vs) m x=!v
 | [],_,_,_,_,h,_,_=>by simp at h
 | _::_,[],_,_,_,_,h,_=>by simp at h
 | p::P,w::vs,0,m,nd,h1,h2,hk=>by simp at h1 h2;subst h1;subst h2;change bindC kindOf ((p, w)::P.zip vs) m p=_;unfold bindC;rw[wc λv hv=>(abT.mp nd).1 (acP hv).1,aaK hk];simp
 | p::P,w::vs,i+1,m,nd,h1,h2,hk=>by change bindC kindOf ((p, w)::P.zip vs) m x=_;unfold bindC;show wK (i:=i) (List.nodup_cons.mp nd).2 (by simpa using h1) (by simpa using h2) hk
def start(N:List Str)(vs:List V):St:=vs.map some++List.replicate (-N - -vs) none
def xi(CX:BP)(P:Program)(w:World)(K:fv)(mg:Str->Option Value)(base:Heap)(N:List Str)(qual:Str)(scope:Scope)(f:Addr)(cd:Value)(A:Around)(outer:List Env)(s:Shared)(H:Hp)(E:XK):Cx where
 prog:=P
 w:=w
 K:=K
 mg:=mg
 base:=base
 A:=A.deeper (envOfC qual scope s.heap.objs.size f cd)
 N:=N
 s₀:=s
 H₀:=H
 env:=envOfC qual scope s.heap.objs.size f cd
 outer:=outer
 stack:=envOfC qual scope s.heap.objs.size f cd::outer
 ex:=[]
 calm:=true
 fn:=λ_=>true
 pn:=[]
 xe:=λe s'=>wpAny (model P w) (A.deeper (envOfC qual scope s.heap.objs.size f cd)) (leaving (envOfC qual scope s.heap.objs.size f cd) e) (λ_ Tb=>CX outer H s E e Tb) (λe' Tb=>CX outer H s E e' Tb) s'
def AJ{sc:Scope}(h:sc.names.lookup x=some .cell):∃c,(cellsFrom n sc.names []).lookup x=!c:=by let q:=PySem.W.cellsFrom_some sc.names n [] (.inl h);show abE.mp q
def Hh{K:fv}{f:Addr}{H:Hp}{E:XK}{vs:List V}
  (S:Γ N ps scope) (hd:A.handled=none) (e0:D4 P w K mg base A outer s H) (hl:-vs=-ps) (r:aH vs us)
  (x:InCallC s s.heap.objs.size (bindL (envOfC qual scope s.heap.objs.size f cd).kindOf (ps.zip us) λ_=>none) (cellsFrom (s.heap.objs.size+1) scope.names []) (bindC (envOfC qual scope s.heap.objs.size f cd).kindOf (ps.zip us) λ_=>none) s1):
  Inv (xi CX P w K mg base N qual scope f cd A outer s H E) [] (start N vs) H s1:=by
 let fZ:-ps<=-N:=by have:=abm List.length S.pre;rw[acq]at this;omega
 let(h1,tk,rfl,hk):=x.done;let Tj:∀b:Addr,b∉(xi CX P w K mg base N qual scope f cd A outer s H E).ex:=λb z=>absurd (show b∈([]:List Addr) from z) (by simp)
 show⟨(e0.mod,S.kind,rfl,rfl,aaq _,λy z c h1 h2=>?_,λy hy=>?_,λy c _ h=>?_,λ_=>hd,Around.frames_deeper e0.frames,.inr (rfl,rfl),λb z=>aa5 z (Tj b),e0.bs,e0.Th,λb _ _=>Tj b,λb z=>aa5 z (Tj b),e0.uX,e0.Vr),
  rfl,e0.bare,Un.kept hk,(_,x.toInCall.ns,λi y v h1 h2 h3=>?_),λy c h=>(_,x.cell y c h),e0.aU.fresh (Nat.le_refl _),λy c h=>?_,λp hp=>absurd (show p∈([]:List (Addr×Obj)) from hp) (by simp),e0.aU.kept hk,?_⟩
 .show name_of_addr x.apart (PySem.mem_of_lookup h1) (PySem.mem_of_lookup h2)
 .let hy:scope.names.lookup y=some .cell\/scope.names.lookup y=some .free:=hy;rcases hy with hy| hy
  .show AJ hy
  .show aa5 rfl (S.Sf _ (PySem.mem_of_lookup hy))
 .show Nat.le_of_lt (x.above y c (PySem.mem_of_lookup h))
 .let hi:i < -vs:=by
   unfold start at h2;by_cases hi:i < -vs
   .show hi
   .rw[List.getElem?_append_right (by simpa using hi)]at h2;rw[aco]at h2;split at h2 <;> cases h2
  let ha:vs[i]? =!v:=by
   unfold start at h2;rw[List.getElem?_append_left (by simpa using hi),List.getElem?_map]at h2;cases e:vs[i]? with
   | none=>rw[e]at h2;cases h2
   | some a=>rw[e]at h2;cases h2;rfl
  let(u,hu,rv):=r.get ha;let hp:ps[i]? =!y:=by rw[<-S.pre,acL ()];show h1
  let ndP:ps.Nodup:=by rw[<-S.pre];show S.nd.sublist (List.take_sublist _ _)
  show(u,rv,?_);rcases S.par y (aap hp) with k| k
  .show .inl (k,vH ndP hp hu k)
  .let(c,e):=AJ (n:=s.heap.objs.size+1) k;show .inr (.inl k,c,e,?_);let q:=x.cell y c e;rw[wK ndP hp hu (by change scope.names.lookup y≠_;rw[k];decide)]at q;show q
 .show e0.aU.fresh (Nat.le_of_lt (x.above y c (PySem.mem_of_lookup h)))
 .unfold start;change _=-N;rw[aan,aah,abx];omega
def TM{K:fv}{k:Nat}{f:Addr}{kV oc:Value}{od:Option Addr}
  {Jz:Array (Option Value)}  {sp:Sp} (lk:K.lookup f=!(oc,od,.func (PySem.W.fnOf name qual params body scope dV kV doc pm an bI ct),Jz)) (JY:PySem.W.codeIn K bI qual=true) (S:Γ N ps scope)
  (len:∀vs H Q E,sp vs H Q E->-vs=-ps)
  (BC:∀(A:Around) (outer:List Env) (s:Shared) (H:Hp) (vs:List V) (Q:VK) (E:XK),ck k (A.deeper (envOfC qual scope s.heap.objs.size f bI))->sp vs H Q E->
   ∃t,Ig (xi CX P w K mg base N qual scope f bI A outer s H E) body t/\t {nx:=λ_ H'=>Q .aZ H',rt:=Q} (start N vs) H):
  aC P w K mg base CX (k+1) f (PySem.W.fnOf name qual params body scope dV kV doc pm an bI ct) ps sp:=by
 show(len,λA outer s H args us vs Q E hr e0 hb r OZ=>?_);let hl:=len _ _ _ _ OZ;let KX:K.In s.heap:=e0.mod.Wo.keeps λb o e=>(e0.bs b o e).1;let lim:s.heap.NoLimit:=e0.mod.nolimit.keeps λb o e=>(e0.bs b o e).1;let Ve:∀y∈ps.zip us,scope.names.lookup y.1=some .local\/(scope.names.lookup y.1=some .cell/\((cellsFrom (s.heap.objs.size+1) scope.names []).lookup y.1).isSome=true):=λ(n,v) hy=>by
  rcases S.par n (acP hy).1 with q| q
  .show .inl q
  .show .inr (q,PySem.W.cellsFrom_some _ _ _ (.inl q))
 show codeAny_call_function hr.depth (KX _ _ lk) rfl S.co S.gen rfl (PySem.W.codeRec_of KX JY) (hb _ _ _ _ ?_);show wpAny_newFunctionEnv_cells S.kind Ve λenv he s1 x=>?_;subst he;show(lim.keeps x.toInCall.keep,codeAny_func ?_);let(t,ht,hq):=BC A outer s H vs Q E (hr.deeper _) OZ;let I:Inv (xi CX P w K mg base N qual scope f bI A outer s H E) [] (start N vs) H s1:=Hh S hr.hd e0 hl r x;show acr (ht [] s1 (start N vs) H _ I hq) (λfl s' hs=>?_) λe s' hs=>hs
 let fin:∀{σ':St} {H':Hp} {v:V} {u:Value},Inv (xi CX P w K mg base N qual scope f bI A outer s H E) [] σ' H' s'->aB v u->Q v H'->CE outer P w H s Q u s':=
  λ{σ' H' v u} J rv q=>(v,H',J.os,J.bare,J.base,J.aU,rv,q)
 cases fl with
 | ret u=>
  let(v,σ',H',J,rv,q):=hs;show fin J rv q
 | next=>
  let(σ',H',J,q):=hs;show fin (v:=V.aZ) (u:=Value.none) J rfl q
 | brk=>
  let(_,_,_,q):=hs;show False.elim q
 | cont=>
  let(_,_,_,q):=hs;show False.elim q
section
variable{p pos:Pos}{t:TA}{id T:String}{r:List V->Hp->VK->Prop}
def Y5(r:List V->Hp->VK->Prop)(t:TA):TE:=λσ H Q=>t σ H λvs H1=>r vs H1 Q
def Md(hc:e6 X (.builtin id) r)(hg:Gl X x)(hm:X.mg x=none)(hv:bootBuiltins x=!(.builtin id))(ha:PA X (e::es) t)(hn:x≠"__name__"|>2)(ub:(x==("__debug__":Str))=false|>2)
  (he:starEach (e::es) X.env=(false, eval e X.env)::starEach es X.env|>1) (fZ:(backTo pos (starEach es X.env)).any (·.1)=false|>1):PE X (.Call (.Name x p) (e::es) [] pos) (Y5 r t):=by
 intro η s σ H Q I h;show wpAny_Call_Name_kw (mY I hg hm hv ?_ hn ub);show PyProof.Rows.callWith_builtin1 (bH (ha pos η s σ H _ I h) λus s1 (vs,H1,I1,r1,q1)=>hc η s1 σ H1 vs us Q I1 r1 q1) he fZ
def HR(hc:e6 X (.type T) r)(hg:Gl X x)(hm:X.mg x=none)(hv:bootBuiltins x=!(.type T))(ha:PA X (e::es) t)(hn:x≠"__name__"|>2)(ub:(x==("__debug__":Str))=false|>2)
  (he:starEach (e::es) X.env=(false, eval e X.env)::starEach es X.env|>1) (fZ:(backTo pos (starEach es X.env)).any (·.1)=false|>1):PE X (.Call (.Name x p) (e::es) [] pos) (Y5 r t):=by
 intro η s σ H Q I h;show wpAny_Call_Name_kw (mY I hg hm hv ?_ hn ub);show PyProof.Rows.callWith_type1 (bH (ha pos η s σ H _ I h) λus s1 (vs,H1,I1,r1,q1)=>hc η s1 σ H1 vs us Q I1 r1 q1) he fZ
end
end L2
namespace HT
open PySem PyProof.Rows
section
variable{prog:Program}{w:World}{A:Around}{E:Value->Shared->Prop}{s:Shared}
def Ny{vs ws:List Value}{Q:Value->Shared->Prop}(ht:IsTup s.heap t vs.toArray)(hb:IsTup s.heap b ws.toArray)(hv:vs≠[])
  (h1:ws=[]->Q (.ref t) s) (h2:ws≠[]->Q (.ref s.heap.objs.size) {s with heap:=s.heap.push {cls:=.type "tuple",data:=.seq (vs++ws).toArray}})
  (hsz:-vs+-ws<=sizeLine):wpAny (model prog w) A (binaryOp .Add (.ref t) (.ref b)) Q E s:=by
 let((cls,dd,data,sl),ho,hc,n,hd):=id ht;let((acG,W8,data2,WE),W5,hc2,n2,hd2):=id hb;simp only at hc hd hc2 hd2;subst hc hd hc2 hd2;let e:vs.toArray++ws.toArray=(vs++ws).toArray:=by simp
 by_cases hw:ws=[]
 .show concat_meets (_,ho,rfl) (_,W5,rfl) noFill_tuple_add seq_tuple_add PySem.F.slot_tuple_add PySem.F.entry_tuple_add (PySem.F.args_tuple_add_2 _ _)
   (tuple_addW1 t b vs.toArray ws.toArray n n2 dd W8 sl WE (by simpa using hv) (by simp[hw])) (ho,W5,h1 hw)
 .show concat_meets (_,ho,rfl) (_,W5,rfl) noFill_tuple_add seq_tuple_add PySem.F.slot_tuple_add PySem.F.entry_tuple_add (PySem.F.args_tuple_add_2 _ _)
   (tuple_addW2 t b vs.toArray ws.toArray n n2 dd W8 sl WE (by simpa using hv) (by simpa using hw) (by rw[List.size_toArray,List.size_toArray];show hsz)) (ho,W5,?_)
  rw[e];show h2 hw
def fW(n d:Nat):Option Int->Nat
 | none=>d
 | some v=>if v < 0 then (v+(n:Int)).toNat else min v.toNat n
def Br(n d:Nat):fW n d none=d:=rfl
def oI(n d k:Nat):fW n d (!(k:Int))=min k n:=by change(if (k:Int) < 0 then ((k:Int)+(n:Int)).toNat else min (k:Int).toNat n)=min k n;rw[aaK (),abl]
def P6(n d:Nat)(hd:d<=n)(o:Option Int):fW n d o<=n:=by
 cases o with
 | none=>show hd
 | some v=>
  change(if v < 0 then (v+(n:Int)).toNat else min v.toNat n)<=n;by_cases hv:v < 0
  .rw[aaP hv];omega
  .rw[aaK hv];show Nat.min_le_right _ _
def Fi(v:Int)(n d:Nat):(if v < 0 then max (v+(n:Int)) 0 else min v (n:Int))=((fW n d (!v):Nat):Int):=by
 change(if v < 0 then max (v+(n:Int)) 0 else min v (n:Int))=(((if v < 0 then (v+(n:Int)).toNat else min v.toNat n):Nat):Int);by_cases hv:v < 0
 .simp only[if_pos hv];omega
 .simp only[if_neg hv];omega
def Ci(lo hi:Option Int)(n:Nat):Builtin.Slice.sliceAdjust lo hi 1 (n:Int)=(((fW n 0 lo:Nat):Int), ((fW n n hi:Nat):Int)):=by
 let h1:¬((1:Int) < 0):=()
 unfold Builtin.Slice.sliceAdjust;simp only[h1,if_false];show Prod.ext ?_ ?_
 .cases lo with
  | none=>rfl
  | some v=>show Fi v n 0
 .cases hi with
  | none=>rfl
  | some v=>show Fi v n n
def D3(i j:Nat):Builtin.Slice.slicePlaces (i:Int) (j:Int) 1=j - i:=by
 unfold Builtin.Slice.slicePlaces;let h1:(1:Int) > 0:=()
 simp only[h1,if_true,Int.ediv_one];split <;> omega
def uu{Q:Option Int->Shared->Prop}(p:IsPart v o)(h:Q o s):wpAny (model prog w) A (Builtin.Slice.slicePartIndex v) Q E s:=by
 cases p with
 | none=>show slicePart_none h
 | int i t=>show slicePart_int h
def oY{lo:Option Int}{Q:Int×Int×Nat->Shared->Prop}(hs:s.heap.IsSliceOf sl vl vu .none)(pl:IsPart vl lo)(pu:IsPart vu hi)
  (h:Q (((fW n 0 lo:Nat):Int), 1,fW n n hi - fW n 0 lo) s):wpAny (model prog w) A (Builtin.Slice.sliceApplied (.ref sl) (pure (n:Int))) Q E s:=by
 let(os,Ro,WK,SS):=id hs;unfold Builtin.Slice.sliceApplied Builtin.Slice.sliceFields;show aao (aao (wpAny_field Ro SS (x:=vl) rfl (aao (wpAny_field Ro SS (x:=vu) rfl (aao (wpAny_field Ro SS (x:=.none) rfl (aa6 ?_)))))));show aao (slicePart_none ?_);change wpAny _ _ (if ((1:Int)==0)=true then _ else _) _ _ s;rw[aaK @_];show aao (uu pl (aao (uu pu (aao (aa6 ?_)))));change wpAny _ _ (match Builtin.Slice.sliceAdjust lo hi 1 (n:Int) with| (lo, hi)=>pure (lo, (1:Int),Builtin.Slice.slicePlaces lo hi 1)) _ _ s;rw[Ci lo hi n];change wpAny _ _ (pure (((fW n 0 lo:Nat):Int), (1:Int),Builtin.Slice.slicePlaces ((fW n 0 lo:Nat):Int) ((fW n n hi:Nat):Int) 1)) _ _ s;rw[D3];show aa6 h
def KU(xs:Array Value)(i k:Nat):((List.range k).filterMap λ(m:Nat)=>xs[((i:Int)+(m:Int) * 1).toNat]?).toArray=((xs.toList.drop i).take k).toArray:=by
 let e:(λ(m:Nat)=>xs[((i:Int)+(m:Int) * 1).toNat]?)=λm=>xs[i+m]? :=by
  funext m
  have:((i:Int)+(m:Int) * 1).toNat=i+m:=()
  rw[this]
 rw[e];have:=pick_run xs i k;rw[List.filterMap_map]at this;let e2:((λx=>xs[x]?) ∘ λx=>i+x)=λm=>xs[i+m]? :=rfl;rw[e2]at this;rw[this]
def oy{lo:Option Int}{Q:Value->Shared->Prop}(ht:IsTup s.heap t items)(hs:s.heap.IsSliceOf sl vl vu .none)(pl:IsPart vl lo)(pu:IsPart vu hi)
  (hw:¬(fW items.size 0 lo=0/\fW items.size items.size hi=items.size))
  (h:Q (.ref s.heap.objs.size) {s with heap:=s.heap.push {cls:=.type "tuple",data:=.seq ((items.toList.drop (fW items.size 0 lo)).take (fW items.size items.size hi - fW items.size 0 lo)).toArray}})
  (hsz:items.size<=sizeLine):wpAny (model prog w) A (getItem (.ref t) (.ref sl)) Q E s:=by
 let EG:sizeOk (.seq ((items.toList.drop (fW items.size 0 lo)).take (fW items.size items.size hi - fW items.size 0 lo)).toArray):=by change((items.toList.drop (fW items.size 0 lo)).take (fW items.size items.size hi - fW items.size 0 lo)).toArray.size<=sizeLine;rw[aaU,acq,abQ,Array.length_toList];omega
 let hj:fW items.size items.size hi<=items.size:=P6 _ _ (aaq _) hi;let(os,Ro,WK,SS):=id hs;let hTs:s.TypeIs (.ref sl) "slice":=(os,Ro,WK);unfold getItem
 try with_reducible show wpAny_holding ?_
 first| show aao (aa6 ?_)| skip
 show aao (wpAny_sequenceKey ht.typeIs @_ ?_)
 show aao (wpAny_callSpecial?_slot (name:=Str.ofString "__getitem__") ht.typeIs PyProof.Rows.slot_tuple_getitem
  (wpAny_call_entry PyProof.Rows.slot_tuple_getitem ht.typeIs entry_tuple_getitem ?_ (args_tuple_getitem _ _)))
 change wpAny _ _ (Builtin.Tuple.tupleItemsOf (.ref t) >>= _) _ _ s;show aao (tupleItemsOf_ ht ?_);show aao (wpAny_typeOf hTs ?_);rw[aaP @_];show aao (oY hs pl pu ?_);let K5:¬((((fW items.size 0 lo:Nat):Int)==0&&(1:Int)==1&&(fW items.size items.size hi - fW items.size 0 lo)==items.size)=true):=by intro q;rw[aaA,aaA]at q;let q1:((fW items.size 0 lo:Nat):Int)=0:=eq_of_beq q.1.1;let q2:fW items.size items.size hi - fW items.size 0 lo=items.size:=eq_of_beq q.2;show hw ((),())
 change wpAny _ _ (if (((fW items.size 0 lo:Nat):Int)==0&&(1:Int)==1&&(fW items.size items.size hi - fW items.size 0 lo)==items.size)=true then _ else _) _ _ s;rw[aaK K5,KU]
 first
  | show aao (m:=Builtin.Tuple.tupleExact _) (wpAny_newObj_type (aa6 (_,rfl,aa6 h)) EG)
  | show aao (m:=Builtin.Tuple.tupleExact _) (wpAny_newObj_type (aao (aa6 (aa6 (_,rfl,aa6 h)))) EG)
  | show aao (aao (m:=Builtin.Tuple.tupleExact _) (wpAny_newObj_type (aa6 (aa6 (_,rfl,aa6 h))) EG))
  | show aao (aao (m:=Builtin.Tuple.tupleExact _) (wpAny_newObj_type (aa6 (_,rfl,aa6 h)) EG))
end
end HT
namespace L2
open PySem PySem.Spec PyProof.Rows
variable{X:Cx}{n:Nat}{η:List (Addr×Obj)}{s:Shared}{its:List Value}
abbrev TO:=St->Hp->(Option Int->Hp->Prop)->Prop
def PO(X:Cx)(e:Option Expr)(t:TO):Prop:=
 ∀(η:List (Addr×Obj)) (s:Shared) (σ:St) (H:Hp) (Q:Option Int->Hp->Prop),Inv X η σ H s->t σ H Q->
  wpAny (model X.prog X.w) X.A (evalPart e X.env) (λu s'=>∃o H',Inv X η σ H' s'/\IsPart u o/\Q o H') X.xe s
def Nw:TO:=λ_ H Q=>Q none H
def Wq(t:TE):TO:=λσ H Q=>t σ H λx H1=>∃i,x= .int i/\Q (!i) H1
section
variable{e:Expr}{te:TE}{lo hi:Option Expr}{tl th:TO}{pos p2:Pos}
def yB:PO X none Nw:=by intro η s σ H Q I h;rw[evalPart_none];show aa6 (none,H,I,.none,h)
def lJ(h:PE X e te):PO X (!e) (Wq te):=by intro η s σ H Q I hw;rw[evalPart_some];show bH (h η s σ H _ I hw) λu s1 xz=>?_;let(x,H1,I1,r1,q1):=xz;let(i,rfl,q):=q1;let(t,rfl):=r1;show(!i,H1,I1,.int i t,q)
def XT(X:Cx)(r:V->Option Int->Option Int->Hp->VK->Prop):Prop:=
 ∀(η:List (Addr×Obj)) (s:Shared) (σ:St) (H:Hp) (x:V) (v vl vu:Value) (lo hi:Option Int) (sl:Addr) (Q:VK),Inv X η σ H s->aB x v->s.heap.IsSliceOf sl vl vu .none->IsPart vl lo->IsPart vu hi->r x lo hi H Q->
  ∃T id,typeLookup (.type T) "__getitem__"=pure (!(.builtin id))/\s.TypeIs v T/\wpAny (model X.prog X.w) X.A (getItem v (.ref sl)) (EP X η σ Q) X.xe s
def tSl(r:V->Option Int->Option Int->Hp->VK->Prop)(te:TE)(tl th:TO):TE:=λσ H Q=>te σ H λx H1=>tl σ H1 λl H2=>th σ H2 λu H3=>r x l u H3 Q
def ow(hr:XT X r)(he:PE X e te)(hl:PO X lo tl)(hu:PO X hi th):PE X (.Subscript e (.Slice lo hi none p2) pos) (tSl r te tl th):=by intro η s σ H Q I h;show Subscript_ (bH (he η s σ H _ I h) λv s1 xz=>?_);let(x,H1,I1,r1,q1):=xz;show wpAny_Slice (bH (hl η s1 σ H1 _ I1 q1) fun vl s2 (l,H2,I2,pl,q2)=>bH (hu η s2 σ H2 _ I2 q2) λvu s3 xz=>?_);let(u,H3,I3,pu,q3):=xz;rw[evalPart_none];show aa6 ?_;let I4:Inv X η σ H3 {s3 with heap:=s3.heap.push {cls:=.type "slice",data:=.fields #[vl,vu,.none]}}:=I3.kept (t':=s3.toks) λb ob q=>aas _ q;let(T,id,hT,ht,hg):=hr η {s3 with heap:=s3.heap.push {cls:=.type "slice",data:=.fields #[vl,vu,.none]}} σ H3 x v vl vu l u s3.heap.objs.size Q I4 r1 (Heap.IsSliceOf.new ..) pl pu q3;change wpAny (model X.prog X.w) X.A (subscriptTail e (.Slice lo hi none p2) v (.ref s3.heap.objs.size)) (EP X η σ Q) X.xe {s3 with heap:=s3.heap.push {cls:=.type "slice",data:=.fields #[vl,vu,.none]}};show tail_any (ops:=[.ref s3.heap.objs.size,v]) ht hT hg (by with_unfolding_all rfl)
def qU(xs:List V)(lo hi:Option Int):List V:=(xs.drop (HT.fW (-xs) 0 lo)).take (HT.fW (-xs) (-xs) hi - HT.fW (-xs) 0 lo)
def qx(xs:List V)(lo hi:Option Int):-(qU xs lo hi)<=-xs:=by unfold qU;rw[acq,abQ];omega
def YL(K:fv):V->Option Int->Option Int->Hp->VK->Prop:=λx lo hi H Q=>∃a xs,x= .ref a/\mR K H a xs/\
 ¬(HT.fW (-xs) 0 lo=0/\HT.fW (-xs) (-xs) hi=-xs)/\∀p,H p=none->Q (.ref p) (upd H p (.tup (qU xs lo hi)))
def Qc:XT X (YL X.K):=by
 intro η s σ H x v vl vu lo hi sl Q I rx hs pl pu h;let(a,xs,rfl,hx,hw,q):=h;cases rx;let(its,r,ht,hz):=I.tuple hx;let hlen:its.toArray.size=-xs:=by rw[aaU];show r.length.symm
 show("tuple",_,PyProof.Rows.slot_tuple_getitem.lookup,ht.typeIs,?_);show HT.oy ht hs pl pu (by rw[hlen];show hw) ?_ (by rw[hlen];show hz);rw[hlen];show(.ref s.heap.objs.size,_,I.laid (t':=s.toks) (o:=.tup (qU xs lo hi)) (λb ob q=>aas _ q) (aaq _) ?_,rfl,q _ (I.aU.fresh (aaq _)));show(aaH (qx xs lo hi) hz,_,(r.drop (HT.fW (-xs) 0 lo)).take (HT.fW (-xs) (-xs) hi - HT.fW (-xs) 0 lo),IsTup.new _ _)
def Pw(K:fv):R2:=λx y H Q=>∃a b xs ys,x= .ref a/\y= .ref b/\mR K H a xs/\mR K H b ys/\xs≠[]/\-xs+-ys<=sizeLine/\
 (ys=[]->Q (.ref a) H)/\(ys≠[]->∀p,H p=none->Q (.ref p) (upd H p (.tup (xs++ys))))
def aH.yc(r:aH xs us):us=[]↔xs=[]:=by
 cases r with
 | nil=>simp
 | cons _ _=>simp
def MW:i8 X (binaryOp .Add) (Pw X.K):=by intro η s σ H x y v u Q I rx ry h;let(a,b,xs,ys,rfl,rfl,ha,hb,hx,hz,q1,q2):=h;cases rx;cases ry;let(its,r1,p1,_):=I.tuple ha;let(IM,r2,p2,_):=I.tuple hb;show HT.Ny p1 p2 (λz=>hx (r1.yc.mp z)) (λz=>(.ref a,H,I,rfl,q1 (r2.yc.mp z))) (λz=>?_) (by rw[<--r1,<--r2];show hz);show(.ref s.heap.objs.size,_,I.laid (t':=s.toks) (o:=.tup (xs++ys)) (λb ob q=>aas _ q) (aaq _) ?_,rfl,q2 (λw=>z (r2.yc.mpr w)) _ (I.aU.fresh (aaq _)));show(by rw[aan];show hz,_,r1.append r2,IsTup.new _ _)
end
def JZ(n:Nat)(i:Int):Option Nat:=if 0<=i then (if i < n then !i.toNat else none) else if - (n:Int)<=i then !(i+n).toNat else none
def ic{α:Type}(xs:List α)(i:Int):Option α:=(JZ (-xs) i).bind λj=>xs[j]?
def FN{j:Nat}(h:JZ n i=!j):seqIndex? i n=!j/\j < n/\ - (n:Int)<=i/\i < n:=by
 unfold JZ at h;by_cases h0:0<=i
 .rw[aaP h0]at h;by_cases h1:i < n
  .rw[aaP h1]at h;let e:i.toNat=j:=aay h;show(by rw[seqIndex_of h0 h1,e],(),(),h1)
  .rw[aaK h1]at h;cases h
 .rw[aaK h0]at h;by_cases h1: - (n:Int)<=i
  .rw[aaP h1]at h;let e:(i+n).toNat=j:=aay h;show(by rw[seqIndex_neg () h1,e],(),h1,())
  .rw[aaK h1]at h;cases h
def xq{α:Type}{xs:List α}{i:Int}{v:α}(h:ic xs i=!v):∃j,seqIndex? i (-xs)=!j/\xs[j]? =!v/\j < -xs/\ - (-xs:Int)<=i/\i < -xs:=by
 unfold ic at h;cases e:JZ (-xs) i with
 | none=>rw[e]at h;cases h
 | some j=>
  rw[e]at h;let(h1,h2,h3,h4):=FN e;show(j,h1,h,h2,h3,h4)
def Λ{α:Type}{xs:List α}{j:Nat}{v:α}(h:xs[j]? =!v):ic xs (j:Int)=!v:=by
 let hj:j < -xs:=(aam.mp h).1;let e:JZ (-xs) (j:Int)=!j:=by unfold JZ;rw[if_pos (),if_pos ()];simp
 unfold ic;rw[e];show h
def xW(b:Expr):Prop:=∀o i,subscripted b false o i=operate [o,i] (getItem o i)
def Mx(X:Cx)(r:R2):Prop:=
 ∀(value slice:Expr) (η:List (Addr×Obj)) (s:Shared) (σ:St) (H:Hp) (x y:V) (v u:Value) (Q:VK),Inv X η σ H s->aB x v->aB y u->r x y H Q->
  subscripted slice false v u=operate [v,u] (getItem v u)->wpAny (model X.prog X.w) X.A (subscriptTail value slice v u) (EP X η σ Q) X.xe s
def MtR(X:Cx)(id:String)(r:V->List V->Hp->VK->Prop):Prop:=
 ∀(η:List (Addr×Obj)) (s:Shared) (σ:St) (H:Hp) (x:V) (xs:List V) (v:Value) (us:List Value) (Q:VK),Inv X η σ H s->aB x v->aH xs us->r x xs H Q->
  wpAny (model X.prog X.w) X.A (call (.builtin id) (v::us)) (EP X η σ Q) X.xe s
section
variable{a b:Expr}{ta tb:TE}{pos:Pos}
def Mx.or(h:Mx X r)(h':Mx X r'):Mx X (λx y H Q=>r x y H Q\/r' x y H Q):=by
 intro value slice η s σ H x y v u Q I rx ry q hs;rcases q with q| q
 .show h value slice η s σ H x y v u Q I rx ry q hs
 .show h' value slice η s σ H x y v u Q I rx ry q hs
def TR(hr:Mx X r)(ha:PE X a ta)(hb:PE X b tb)(hs:xW b):PE X (.Subscript a b pos) (V3 r ta tb):=by intro η s σ H Q I h;show Subscript_ (Qx ha hb I h λv u s2 x y H2 I2 rx ry q=>hr a b η s2 σ H2 x y v u Q I2 rx ry q (hs _ _))
def Ut(K:fv):R2:=λx y H Q=>∃p xs i v,x= .ref p/\y= .int i/\gI K H p xs/\ic xs i=!v/\Q v H
def Wd(K:fv):R2:=λx y H Q=>∃p xs i v,x= .ref p/\y= .int i/\mR K H p xs/\ic xs i=!v/\Q v H
def TN:R2:=λx y H Q=>∃z i c,x= .str z/\y= .int i/\-z<=sizeLine/\ic z.cps.toList i=!c/\Q (.str ⟨#[c]⟩) H
def MI:Mx X (Ut X.K):=by
 intro value slice η s σ H x y v u Q I rx ry h hs;let(p,xs,i,z,rfl,rfl,hq,he,q):=h;cases rx;let(t,rfl):=ry;let(its,r,pl,hz):=I.list hq;let(j,h1,h2,h3,h4,h5):=xq he;let(w,ew,Cz):=r.get h2;let hl:=-r;let hn:=pf;let fin:EP X η σ Q w s:=(z,H,I,Cz,q);by_cases h0:0<=i
 .let hj:i.toNat=j:=by rw[seqIndex_of h0 h5]at h1;show aay h1
  show item_listR pl.isList h0 () (by rw[hj];simpa using ew) fin hs
 .let hj:(i+(its.toArray.size:Int)).toNat=j:=by rw[seqIndex_neg () h4]at h1;rw[aaU,<-hl];show aay h1
  show subscriptTail_builtinR (x:=w) pl.isList.typeIs slot_list_getitem.lookup
   (wpAny_getItem_list_neg (Q:=λr s'=>r=w/\EP X η σ Q r s') pl.isList () (by rw[List.size_toArray] <;> omega) () (by rw[hj];simpa using ew) (rfl,fin)) hs
def RJ:Mx X (Wd X.K):=by
 intro value slice η s σ H x y v u Q I rx ry h hs;let(p,xs,i,z,rfl,rfl,hq,he,q):=h;cases rx;let(t,rfl):=ry;let(its,r,pl,hz):=I.tuple hq;let(j,h1,h2,h3,h4,h5):=xq he;let(w,ew,Cz):=r.get h2;let hl:=-r;let hn:=pf;let fin:EP X η σ Q w s:=(z,H,I,Cz,q)
 show subscriptTail_builtinR (x:=w) pl.typeIs slot_tuple_getitem.lookup
  (getItem_tuple (j:=j) (Q:=λr s'=>r=w/\EP X η σ Q r s') pl () () (by rw[List.size_toArray,<-hl];show h1) (by simpa using ew) (rfl,fin)) hs
def R0:Mx X TN:=by
 intro value slice η s σ H x y v u Q I rx ry h hs;let(z,i,c,rfl,rfl,hz,he,q):=h;let(t,rfl):=rx;let(t',rfl):=ry;let(j,h1,h2,h3,h4,h5):=xq he;let hl:-z.cps.toList=-z:=by simp[Str.length]
 rw[hl]at h1 h4 h5;let hn:=pf
 show tail_any (typeIs_str s z t) slot_str_getitem.lookup (getItem_str (c:=c) (by
  let e1:decide (i < - (2 ^ 63:Int))=false:=aaF ();let e2:decide (i ≥ 2 ^ 63)=false:=aaF ()
  rw[e1,e2,Bool.or_false]) (by rw[h1];simpa using h2) (.str ⟨#[c]⟩,H,I.tok _,(_,rfl),q)) hs
def rIx(K:fv):R2:=λx y H Q=>Ut K x y H Q\/Wd K x y H Q\/TN x y H Q
def R1:Mx X (rIx X.K):=MI.or (RJ.or R0)
def Cj(its:List Value)(n j:Nat)(u:Value):Obj.mapSeq (·.setIfInBounds j u) {cls:=.type "list",data:=.seq its.toArray n}={cls:=.type "list",data:=.seq (its.set j u).toArray n}:=by simp[Obj.mapSeq]
def Inv.lst{η:List (Addr×Obj)}{H:Hp}{s:Shared}(I:Inv X η σ H s)(h:H p=!(.lst xs)):
  ∃(its:List Value) (n:Nat),aH xs its/\s.heap.get? p=some {cls:=.type "list",data:=.seq its.toArray n}/\-xs<=sizeLine:=by
 let(z,its,n,r,e):=I.aU p _ h;show(its,n,r,e,z)
def Inv.Rv{H:Hp}{its':List Value}{f:Obj->Obj}(I:Inv X η σ H s)(h:H p=!(.lst xs))
  (ho:s.heap.get? p=some {cls:=.type "list",data:=.seq its.toArray n}) (hf:f {cls:=.type "list",data:=.seq its.toArray n}={cls:=.type "list",data:=.seq its'.toArray n'}) (r:aH ys its') (hz:-ys<=sizeLine) (t:Nat):
  Inv X η σ (upd H p (.lst ys)) {s with heap:=s.heap.update p f,toks:=t}:=by
 let e:(s.heap.update p f).get? p=some {cls:=.type "list",data:=.seq its'.toArray n'}:=by rw[Heap.get?_update_self f ho (by rw[hf] <;> rfl),hf]
 show I.write (x:=p) (e:=p) (by rw[h];trivial) (.inl rfl) (λb u hb q=>(Heap.get?_update_other _ _ (Ne.symm hb)).trans q) (_,e) ?_;show(hz,its',n',r,e)
def PB:V->V->V->Hp->(Hp->Prop)->Prop:=λo i v H Q=>∃p xs k j,o= .ref p/\i= .int k/\H p=!(.lst xs)/\JZ (-xs) k=!j/\Q (upd H p (.lst (xs.set j v)))
def Mm:TQ X PB:=by
 intro η s σ H o i v ov iv u Q I ro ri rv h;let(p,xs,k,j,rfl,rfl,hp,hj,q):=h;cases ro;let(t,rfl):=ri;let(its,n,r,ho,hz):=I.lst hp;let(h1,h2,h3,h4):=FN hj;let hl:=-r;let hn:=pf
 let I':Inv X η σ (upd H p (.lst (xs.set j v))) {s with heap:=s.heap.update p (Obj.mapSeq (·.setIfInBounds j u))}:=
  I.Rv hp ho (Cj its n j u) (r.set rv j) (by rw[abC];show hz) s.toks
 by_cases h0:0<=k
 .let hk:k.toNat=j:=by rw[seqIndex_of h0 h4]at h1;show aay h1
  show PySem.W.ki_setAt ho h0 () (by rw[aaU,<-hl];show h4) (by rw[hk];show(_,I',q))
 .let hk:(k+(its.toArray.size:Int)).toNat=j:=by rw[seqIndex_neg () h3]at h1;rw[aaU,<-hl];show aay h1
  show PySem.W.ki_setBack ho () (by rw[aaU,<-hl];show h3) () (by rw[hk];show(_,I',q))
def yo(lo hi:Option Int)(n:Nat):(sliceBounds lo hi none n).1=((HT.fW n 0 lo:Nat):Int)/\(sliceBounds lo hi none n).2.1=((HT.fW n n hi:Nat):Int)/\(sliceBounds lo hi none n).2.2=1:=by
 show(?_,?_,rfl)
 .cases lo with
  | none=>simp[sliceBounds,HT.fW]
  | some i=>
   simp only[sliceBounds,HT.fW,Option.getD_none,show(1:Int) > 0 by decide,if_true];by_cases h:i < 0
   .simp only[h,if_true] <;> omega
   .simp only[h,if_false] <;> omega
 .cases hi with
  | none=>simp[sliceBounds,HT.fW]
  | some i=>
   simp only[sliceBounds,HT.fW,Option.getD_none,show(1:Int) > 0 by decide,if_true];by_cases h:i < 0
   .simp only[h,if_true] <;> omega
   .simp only[h,if_false] <;> omega
def uV(its:List Value)(lo hi:Option Int):slicePick its.toArray lo hi none=((its.drop (HT.fW (-its) 0 lo)).take (HT.fW (-its) (-its) hi - HT.fW (-its) 0 lo)).toArray:=by let(h1,h2,h3):=yo lo hi its.toArray.size;unfold slicePick;rw[h1,h2,h3];simp only[sliceRange_one,pick_run,List.size_toArray] <;> rfl
def YY(K:fv):V->Option Int->Option Int->Hp->VK->Prop:=λx lo hi H Q=>∃a xs,x= .ref a/\gI K H a xs/\∀p,H p=none->Q (.ref p) (upd H p (.lst (qU xs lo hi)))
def x9:XT X (YY X.K):=by intro η s σ H x v vl vu lo hi sl Q I rx hs pl pu h;let(a,xs,rfl,hx,q):=h;cases rx;let(its,r,ht,hz):=I.list hx;let hlen:=-r;show("list",_,slot_list_getitem.lookup,ht.isList.typeIs,?_);show wpAny_getItem_list_slice ht.isList hs pl pu .none (by simp) ?_ (by rw[List.size_toArray] <;> omega);rw[uV,<-hlen];show(.ref s.heap.objs.size,_,I.laid (t':=s.toks) (o:=.lst (qU xs lo hi)) (λb ob q=>aas _ q) (aaq _) ?_,rfl,q _ (I.aU.fresh (aaq _)));show(aaH (qx xs lo hi) hz,_,0,(r.drop (HT.fW (-xs) 0 lo)).take (HT.fW (-xs) (-xs) hi - HT.fW (-xs) 0 lo),abd _ rfl)
def dY:V->Bool
 | .aZ=>true
 | .bl _=>true
 | .int _=>true
 | .str _=>true
 | _=>false
def mq:V->V->Bool
 | .aZ,.aZ=>true
 | .bl a,.bl b=>a==b
 | .bl a,.int b=>(if a then 1 else 0)==b
 | .int a,.bl b=>a==(if b then 1 else 0)
 | .int a,.int b=>a==b
 | .str a,.str b=>a==b
 | _,_=>false
def uE(ry:aB y u)(rx:aB x v)(fy:dY y=true)(fx:dY x=true):SeqAt.EqAt A s u v (mq y x):=by
 cases y with
 | aZ=>
  cases ry;cases x with
  | aZ=>cases rx;show SeqAt.EqAt.same _
  | bl b=>cases rx;show SeqAt.EqAt.none_bool b
  | int b=>let(t,rfl):=rx;show SeqAt.EqAt.none_int b t
  | str b=>let(t,rfl):=rx;show SeqAt.EqAt.none_str b t
  | _=>show aa5 (show false=true from fx) aa1
 | bl a=>
  cases ry;cases x with
  | aZ=>cases rx;show SeqAt.EqAt.bool_none a
  | bl b=>cases rx;show SeqAt.EqAt.bool_bool a b
  | int b=>let(t,rfl):=rx;show SeqAt.EqAt.bool_int a b t
  | str b=>let(t,rfl):=rx;show SeqAt.EqAt.bool_str a b t
  | _=>show aa5 (show false=true from fx) aa1
 | int a=>
  let(t',rfl):=ry;cases x with
  | aZ=>cases rx;show SeqAt.EqAt.int_none a t'
  | bl b=>cases rx;show SeqAt.EqAt.int_bool a t' b
  | int b=>let(t,rfl):=rx;show SeqAt.EqAt.int_int a t' b t
  | str b=>let(t,rfl):=rx;show SeqAt.EqAt.int_str a t' b t
  | _=>show aa5 (show false=true from fx) aa1
 | str a=>
  let(t',rfl):=ry;cases x with
  | aZ=>cases rx;show SeqAt.EqAt.str_none a t'
  | bl b=>cases rx;show SeqAt.EqAt.str_bool a t' b
  | int b=>let(t,rfl):=rx;show SeqAt.EqAt.str_int a t' b t
  | str b=>let(t,rfl):=rx;show SeqAt.EqAt.str_str a t' b t
  | _=>show aa5 (show false=true from fx) aa1
 | _=>show aa5 (show false=true from fy) aa1
def NY(x:V)(u:Value):Bool:=match u with
 | .none=>mq .aZ x
 | .bool b=>mq (.bl b) x
 | .int i _=>mq (.int i) x
 | .str z _=>mq (.str z) x
 | _=>false
def LG(r:aB y u)(f:dY y=true):NY x u=mq y x:=by
 cases y with
 | aZ=>cases r;rfl
 | bl b=>cases r;rfl
 | int i=>let(t,rfl):=r;rfl
 | str z=>let(t,rfl):=r;rfl
 | _=>show aa5 (show false=true from f) aa1
def x_:∀{xs:List V} {us:List Value},aH xs us->xs.all dY=true->us.any (NY x)=xs.any λy=>mq y x
 | _,_,.nil,_=>rfl
 | y::xs,u::us,.cons r t,f=>by rw[acf,aaA]at f;rw[ab6,ab6,LG r f.1,x_ t f.2]
def tN{s:Shared}(rx:aB x v)(fx:dY x=true):∀{xs:List V} {us:List Value},aH xs us->xs.all dY=true->∀u∈us,SeqAt.EqAt A s u v (NY x u)
 | _,_,.nil,_=>λu hu=>by cases hu
 | y::xs,u::us,.cons r t,f=>λu' hu=>by
  rw[acf,aaA]at f;rcases aaS.mp hu with rfl| hu
  .rw[LG r f.1];show uE r rx f.1 fx
  .show tN rx fx t f.2 u' hu
def S3(x:V)(xs:List V):Bool:=xs.any λy=>mq y x
def rIn(K:fv)(neg:Bool):R2:=λx y H Q=>∃p xs,y= .ref p/\(gI K H p xs\/mR K H p xs)/\dY x=true/\xs.all dY=true/\Q (.bl (if neg then ! S3 x xs else S3 x xs)) H
def Hs:i8 X (compareOp .In) (rIn X.K false):=by
 intro η s σ H x y v u Q I rx ry h;let(p,xs,rfl,hq,fx,fs,q):=h;cases ry;rcases hq with hq| hq
 .let(its,r,pl,hz):=I.list hq;show SeqAt.in_listAt (NY x) pl.isList (λw hw=>tN rx fx r fs w (by simpa using hw)) (.bl _,H,I,rfl,?_);rw[show its.toArray.any (NY x)=its.any (NY x) by simp,x_ r fs];show q
 .let(its,r,pl,hz):=I.tuple hq;show SeqAt.in_tupleAt (NY x) pl (λw hw=>tN rx fx r fs w (by simpa using hw)) (.bl _,H,I,rfl,?_);rw[show its.toArray.any (NY x)=its.any (NY x) by simp,x_ r fs];show q
def yC:e6 X (.builtin "len") (λxs H Q=>∃p ys,xs=[.ref p]/\(gI X.K H p ys\/mR X.K H p ys)/\Q (.int (-ys)) H):=by
 intro η s σ H xs us Q I r h;let(p,ys,rfl,hq,q):=h;let(u,rfl,rx):=qQ r;cases rx;let hn:=pf;rcases hq with hq| hq
 .let(its,r',pl,hz):=I.list hq;let hlen:=-r';show Calls.call_len_list pl.isList (by simp only[List.size_toArray] <;> omega) (.int (-ys),H,I.tok _,(s.toks+1,by rw[List.size_toArray,hlen]),q)
 .let(its,r',pl,hz):=I.tuple hq;let hlen:=-r';show len_tuple pl (by simp only[List.size_toArray] <;> omega) (.int (-ys),H,I.tok _,(s.toks+1,by rw[List.size_toArray,hlen]),q)
def xB:e6 X (.builtin "len") (λxs H Q=>∃z,xs=[.str z]/\-z<=sizeLine/\Q (.int (-z)) H):=by intro η s σ H xs us Q I r h;let(z,rfl,hz,q):=h;let(u,rfl,t,rfl):=qQ r;let hn:=pf;show len_str () (.int (-z),H,I.tok _,(_,rfl),q)
def e6.or(h:e6 X f r)(h':e6 X f r'):e6 X f (λxs H Q=>r xs H Q\/r' xs H Q):=by
 intro η s σ H xs us Q I rs q;rcases q with q| q
 .show h η s σ H xs us Q I rs q
 .show h' η s σ H xs us Q I rs q
def yn:e6 X (.type "list") (λxs H Q=>∃p ys,xs=[.ref p]/\(gI X.K H p ys\/mR X.K H p ys)/\∀l,H l=none->Q (.ref l) (upd H l (.lst ys))):=by
 intro η s σ H xs us Q I r h;let(p,ys,rfl,hq,q):=h;let(u,rfl,rx):=qQ r;cases rx
 let fin:∀(its:List Value),aH ys its->-ys<=sizeLine->∀(h':Heap) (c':Nat),(∀b o',s.heap.get? b=!o'->h'.get? b=!o')->
   h'.get? s.heap.objs.size=some {cls:=.type "list",dict:=none,data:=.seq its.toArray c',slots:= #[]}->EP X η σ Q (.ref s.heap.objs.size) {s with heap:=h'}:=λits r' hz h' c' kp e=>
  (.ref s.heap.objs.size,_,I.laid (t':=s.toks) kp (aaq _) (show cw X.prog X.w _ h' _ (.lst ys) from(hz,its,c',r',e)),rfl,q _ (I.aU.fresh (aaq _)))
 rcases hq with hq| hq
 .let(its,r',pl,hz):=I.list hq;let hlen:=-r';let(o,ho,hc,n,hd):=pl.isList;show call_list_seq p (.inl rfl) ho hc hd (λh' c' kp e=>fin its r' hz h' c' kp e) (by simp only[List.size_toArray] <;> omega)
 .let(its,r',pl,hz):=I.tuple hq;let hlen:=-r';let(o,ho,hc,n,hd):=pl;show call_list_seq p (.inr rfl) ho hc hd (λh' c' kp e=>fin its r' hz h' c' kp e) (by simp only[List.size_toArray] <;> omega)
def Y7(K:fv)(T:String)(x:V)(H:Hp):Prop:=match x with
 | .str _=>T="str"
 | .int _=>T="int"
 | .ref p=>(T="list"/\∃xs,gI K H p xs)\/(T="tuple"/\∃o,K.lookup p=!o/\o.cls= .type "tuple"/\o.dict=none)\/
   (T="dict"/\((∃Ζ,H p=!(.dK Ζ))\/∃Ζ,H p=!(.dT Ζ)))\/(T="set"/\∃S n,H p=!(.set S n))
 | _=>False
def J_{H:Hp}(I:Inv X η σ H s)(r:aB x v)(ty:Y7 X.K T x H):
  s.TypeIs v T/\∀a,v= .ref a->∃ob,s.heap.get? a=!ob/\ob.dict=none:=by
 cases x with
 | str z=>
  let(t,rfl):=r;cases(show T="str" from ty);show(typeIs_str s z t,λ_ e=>nomatch e)
 | int i=>
  let(t,rfl):=r;cases(show T="int" from ty);show(typeIs_int s i t,λ_ e=>nomatch e)
 | ref p=>
  cases r;rcases ty with ⟨rfl,xs,hq⟩| ⟨rfl,o,hk,hc,hd⟩| ⟨rfl,hk⟩| ⟨rfl,S,n,hk⟩
  .let(its,_,pl,_):=I.list hq;show(pl.isList.typeIs,λa e=>?_);cases e;let(o,n,e,c,hd,_):=pl;show(o,e,hd)
  .show((o,I.qR p o hk,hc),λa e=>?_);cases e;show(o,I.qR _ o hk,hd)
  .let z:∃o,s.heap.get? p=!o/\o.ExactDict:=by
    rcases hk with ⟨Ζ,hk⟩| ⟨Ζ,hk⟩
    .let(_,_,_,_,o,_,_,e,ex,_):=I.aU p _ hk;show(o,e,ex)
    .let(_,_,_,_,o,_,_,e,ex,_):=I.aU p _ hk;show(o,e,ex)
   let(o,e,ex):=z;show((o,e,ex.1),λa e2=>?_);cases e2;show(o,e,ex.2.1)
  .let(o,_,_,_,e,ex,_):=I.aU p _ hk;show((o,e,ex.1),λa e2=>?_);cases e2;show(o,e,ex.2.1)
 | _=>show False.elim ty
def Zj(K:fv)(T:String)(r:V->List V->Hp->VK->Prop)(to:TE):TE:=λσ H Q=>to σ H λx H1=>Y7 K T x H1/\r x [] H1 Q
def tBM(K:fv)(T:String)(r:V->List V->Hp->VK->Prop)(to:TE)(t:TA):TE:=λσ H Q=>to σ H λx H1=>Y7 K T x H1/\t σ H1 λxs H2=>r x xs H2 Q
variable{o e:Expr}{es:List Expr}{to:TE}{t:TA}{name:Str}{apos aO:Pos}{T id:String}{r:V->List V->Hp->VK->Prop}
def Sh(pa:PlainAttrs T)(slot:Slot T name id)(ZI:typeOf (.builtin id)=pure (.type "method_descriptor"))(hm:MtR X id r)(ho:PE X o to)
  (g8:attributeBase o name X.env (eval o X.env)=eval o X.env|>1) (h_:(apos.endLine==aO.line)=true|>1):PE X (.Call (.Attribute o name apos) [] [] aO) (Zj X.K T r to):=by
 intro η s σ H Q I h;show wpAny_Call_method0_late g8 h_ (bH (ho η s σ H _ I h) λv s1 xz=>?_);let(x,H1,I1,r1,ty,q1):=xz;let(h1,h2):=J_ I1 r1 ty;show(T,id,pa,slot,ZI,h1,h2,Calls.callWith_builtin rfl (PySem.evalArgs_none (hm η s1 σ H1 x [] v [] Q I1 r1 .nil q1)))
def Ky(pa:PlainAttrs T)(slot:Slot T name id)(ZI:typeOf (.builtin id)=pure (.type "method_descriptor"))(hm:MtR X id r)(ho:PE X o to)(ha:PA X (e::es) t)
  (g8:attributeBase o name X.env (eval o X.env)=eval o X.env|>1)
  (Dp:((backTo aO (starEach (e::es) X.env)).all (λx=> ! x.1)&&(backToKw aO (keywordEach [] X.env)).all (λx=>x.1.isSome)
   &&decide (-(e::es)+-([]:List Keyword)+(if ([]:List Keyword).isEmpty then 0 else 1) < 30))=true|>1)
  (h_:(apos.endLine==aO.line)=true|>1) (hs:starEach (e::es) X.env=(false, eval e X.env)::starEach es X.env|>1) (nG:(backTo aO (starEach es X.env)).any (·.1)=false|>1):
  PE X (.Call (.Attribute o name apos) (e::es) [] aO) (tBM X.K T r to t):=by
 intro η s σ H Q I h;show wpAny_Call_method_late g8 Dp h_ rfl (bH (ho η s σ H _ I h) λv s1 xz=>?_);let(x,H1,I1,r1,ty,q1):=xz;let(h1,h2):=J_ I1 r1 ty;show(T,id,pa,slot,ZI,h1,h2,?_);let hA:=ha aO η s1 σ H1 _ I1 q1;rw[hs]at hA⊢;show Calls.callWith_builtin (by change(false|| (backTo aO (starEach es X.env)).any (·.1))=false;rw[nG] <;> rfl) (Calls.evalArgs_plain ?_);show bH hA λus s2 (vs,H2,I2,r2,q2)=>hm η s2 σ H2 x vs v us Q I2 r1 r2 q2
end
def Xd(X:Cx)(id:String)(r:V->List V->Hp->VK->Prop):Prop:=
 ∀(η:List (Addr×Obj)) (s:Shared) (σ:St) (H:Hp) (x:V) (xs:List V) (v:Value) (us:List Value) (Q:VK),Inv X η σ H s->aB x v->aH xs us->r x xs H Q->
  wpAny (model X.prog X.w) X.A (call (.builtin id) (v::us)) (EP X η σ Q) X.xe s
def aH.one:∀{x:V} {us:List Value},aH [x] us->∃u,us=[u]/\aB x u
 | _,_,.cons r .nil=>(_,rfl,r)
def aH.two:∀{x y:V} {us:List Value},aH [x,y] us->∃u v,us=[u,v]/\aB x u/\aB y v
 | _,_,_,.cons r (.cons q .nil)=>(_,_,rfl,r,q)
def aH.zero:∀{us:List Value},aH [] us->us=[]
 | _,.nil=>rfl
def aH.rep(h:aH xs us):∀k:Nat,aH (List.replicate k xs).flatten (List.replicate k us).flatten
 | 0=>.nil
 | k+1=>by rw[abP,abP,ab1,ab1];show aH.append h (aH.rep h k)
def wW(its:List Value):∀(k:Nat) (acc:List Value),
  List.foldl (λx1 x2=>x1++x2) acc.toArray (List.replicate k its.toArray)=(acc++(List.replicate k its).flatten).toArray
 | 0,acc=>by simp
 | k+1,acc=>by
  let e:acc.toArray++its.toArray=(acc++its).toArray:=by simp
  let e2:(acc++its)++(List.replicate k its).flatten=acc++(List.replicate (k+1) its).flatten:=by rw[abP,ab1,aa8]
  rw[<-e2,<-wW its k (acc++its),<-e,abP,ab9]
section
variable{σ:St}{H:Hp}{l b:Addr}{xs ys zs:List V}
def Inv.Rh{its':List Value}{f:Array Value->Array Value}{t':Nat}(I:Inv X η σ H s)(hH:H l=!(.lst xs))
  (e:s.heap.get? l=some {cls:=.type "list",data:=.seq its.toArray n}) (hf:f its.toArray=its'.toArray) (hv:aH ys its') (hz:-ys<=sizeLine):
  Inv X η σ (upd H l (.lst ys)) {s with heap:=s.heap.update l (Obj.mapSeq f),toks:=t'}:=by
 let q:=PySem.IsL.update e f;rw[hf]at q;show I.write (x:=l) (e:=l) (by rw[hH];show trivial) (.inl rfl) (λb' u hb hu=>(Heap.get?_update_other s.heap (Obj.mapSeq f) (Ne.symm hb)).trans hu) (_,q) ?_;show(hz,its',_,hv,q)
def Inv.Sq{t':Nat}(I:Inv X η σ H s)(hv:aH ys its)(hz:-ys<=sizeLine):
  Inv X η σ (upd H s.heap.objs.size (.lst ys)) {s with heap:=s.heap.push {cls:=.type "list",data:=.seq its.toArray},toks:=t'}:=
 I.laid (λ_ _ q=>aas _ q) (aaq _) (hz,its,0,hv,abd _ rfl)
def Inv.fresh(I:Inv X η σ H s):H s.heap.objs.size=none:=I.aU.fresh (aaq _)
def Inv.FV(I:Inv X η σ H s)(hH:H l=!(.lst xs)):-xs<=sizeLine/\∃(its:List Value) (n:Nat),aH xs its/\-xs=-its/\s.heap.get? l=some {cls:=.type "list",data:=.seq its.toArray n}:=by let(z,its,n,r,e):=I.aU l _ hH;show(z,its,n,r,-r,e)
def Jn(h:n<=sizeLine):Builtin.List.listTooLong n=false:=by unfold Builtin.List.listTooLong;show aaF ()
end
section
def EW:V->List V->Hp->VK->Prop:=λx vs H Q=>∃l xs y,x= .ref l/\vs=[y]/\H l=!(.lst xs)/\-xs < sizeLine/\Q .aZ (upd H l (.lst (xs++[y])))
def wB:Xd X "list.append" EW:=by intro η s σ H x vs v us Q I rx rv h;let(l,xs,y,rfl,rfl,hH,hz,q):=h;cases rx;let(u,rfl,ru):=rv.one;let(z,its,n,r,hl,e):=I.FV hH;show call_meets F.slot_list_append (_,e,rfl) F.entry_list_append (F.args_list_append_2 _ _) (PySem.list_append l its.toArray n u (by rw[aaU];omega)) (e,?_);show(.aZ,_,I.Rh (its':=its++[u]) hH e (by simp) (r.append (.cons ru .nil)) ?_,rfl,q);rw[aan,List.length_singleton];omega
def K9:V->List V->Hp->VK->Prop:=λx vs H Q=>∃l xs,x= .ref l/\vs=[]/\H l=!(.lst xs)/\Q .aZ (upd H l (.lst []))
def J1:Xd X "list.clear" K9:=by intro η s σ H x vs v us Q I rx rv h;let(l,xs,rfl,rfl,hH,q):=h;cases rx;let hus:=rv.zero;subst hus;let(z,its,n,r,hl,e):=I.FV hH;show call_meets F.slot_list_clear (_,e,rfl) F.entry_list_clear (F.args_list_clear_1 _) (AutoSeq1.list_clear_list_0 l its.toArray n (by rw[aaU];omega)) (e,?_);show(.aZ,_,I.Rh (its':=[]) (ys:=[]) hH e rfl .nil (acn _),rfl,q)
def Sk:R2:=λx y H Q=>∃l b xs zs,x= .ref l/\y= .ref b/\H l=!(.lst xs)/\H b=!(.lst zs)/\-xs+-zs<=sizeLine/\∀p,H p=none->Q (.ref p) (upd H p (.lst (xs++zs)))
def Ll:i8 X (binaryOp .Add) Sk:=by
 intro η s σ H x y v u Q I rx ry h;let(l,b,xs,zs,rfl,rfl,hH,hB,hz,q):=h;cases rx;cases ry;let(z,its,n,r,hl,e):=I.FV hH;let(z2,IM,n2,r2,K_,e2):=I.FV hB;show PySem.P.add_list e e2 ?_ (by rw[aaU,aaU];omega);let ea:its.toArray++IM.toArray=(its++IM).toArray:=by simp
 rw[ea];show(.ref _,_,I.Sq (t':=s.toks) (r.append r2) (by rw[aan];omega),rfl,q _ I.fresh)
def R3:R2:=λx y H Q=>∃l k xs,x= .ref l/\y= .int k/\H l=!(.lst xs)/\ - (2 ^ 63)<=k/\k < 2 ^ 63/\-xs * k.toNat<=sizeLine/\
 ∀p,H p=none->Q (.ref p) (upd H p (.lst (List.replicate k.toNat xs).flatten))
def OI{α:Type}(xs:List α)(k:Nat):-(List.replicate k xs).flatten=k * -xs:=by
 induction k with
 | zero=>simp
 | succ k ih=>rw[abP,ab1,aan,ih,Nat.succ_mul,Nat.add_comm]
def Jt:i8 X (binaryOp .Mult) R3:=by
 intro η s σ H x y v u Q I rx ry h;let(l,k,xs,rfl,rfl,hH,h1,h2,hz,q):=h;cases rx;let(t,rfl):=ry;let(z,its,n,r,hl,e):=I.FV hH;let hlen:its.toArray.size * k.toNat<=sizeLine:=by rw[aaU,<-hl];show hz
 let aar:¬its.toArray.size * k.toNat > (2 ^ 63 - 1) / 8:=by
  have:(sizeLine:Nat)<=(2 ^ 63 - 1) / 8:=@_
  omega
 let MG:¬(! Builtin.List.listFitsIndex k)=true:=by rw[fitsIndex_both h1 h2];show aa1
 let US:¬Builtin.List.listTooLong (its.toArray.size * k.toNat)=true:=by rw[Jn hlen];show aa1
 let Cq:List.foldl (λx1 x2=>x1++x2) #[] (List.replicate (if its.toArray.isEmpty=true then 0 else k.toNat) its.toArray)=(List.replicate k.toNat its).flatten.toArray:=by
  let f0:∀m:Nat,List.foldl (λx1 x2=>x1++x2) #[] (List.replicate m its.toArray)=(List.replicate m its).flatten.toArray:=λm=>by have:=wW its m [];rw[aba]at this;show this
  rw[f0];cases its with
  | nil=>simp
  | cons a r'=>rw[if_neg (by simp)]
 show wpAny_binaryOp_repeat_ref (T:="list") (U:="int") @_ (_,e,rfl) (λs'=>typeIs_int s' k t) noFill_list_mul F.fills_int_mul F.slot_int_rmul repeat_list F.slot_int_index.lookup
  (call_meets F.slot_int_rmul (typeIs_int s k t) F.entry_int_rmul (F.args_int_rmul_2 _ _) (int___rmul___int_list k t l its.toArray n)
   (e,rfl,(_,e,rfl),call_meets F.slot_list_mul (_,e,rfl) F.entry_list_mul (F.args_list_mul_2 _ _) (AutoListH.list___mul___list_int_3 l its.toArray n k t MG aar US) (e,?_)))
 rw[Cq];show(.ref _,_,I.Sq (t':=s.toks) (r.rep k.toNat) (by rw[OI,Nat.mul_comm];show hz),rfl,q _ I.fresh)
end
end L2
namespace Att
open PySem PySem.W PySem.Calls PyProof.Rows
def qW:∀(ns:List Int) (vs:List Value),WellAll P h vs (ns.map WData.int)->IntsAre vs ns:=by
 intro ns
 induction ns with
 | nil=>
  intro vs w;rw[List.map_nil]at w;cases w;show .nil
 | cons n ns ih=>
  intro vs w;rw[abe]at w;cases w with
  | cons a b=>
   cases a;show .cons _ _ (ih _ b)
def Gs{l:OpenLaw}{n:Nat}(hn:l.most=!n)
  (N7:l.row.toRowW.claim.pre args=true) (YS:WellAll P h vals args):
  ∃a vs ns,vals=[Value.ref a]/\args=[WData.list (ns.map WData.int)]/\h.get? a=some {cls:=.type "list",data:=.seq vs.toArray}/\IntsAre vs ns/\-ns<=n:=by
 let hsh:WShape.hasAll [] args [.list .int]=true:=(pre_splitW N7).1;let hc:l.pre.holds [] {args:=args}=true:=(pre_splitW N7).2;let(d,r,rfl,h1,h2):=hasAllW_cons hsh;obtain rfl:=hasAllW_nil h2;let(xs,rfl,h3):=hasW_list h1;let(ns,rfl):=items_int h3;let hlen:-ns<=n:=by
  unfold OpenLaw.pre at hc;let h4:(WTm.not (.lt (.lit (.int (n:Int))) (.len (.arg 0)))).holds [] {args:=[.list (ns.map .int)]}=true:=by let h4:=(holds_andW hc).1;rw[hn]at h4;show h4
  let h5:=condW_of h4 (w_not (w_lt w_lit (w_len_list (w_arg rfl))));rw[aah]at h5;show Nat.le_of_not_lt λq=>?_;let q':(n:Int) < ((-ns:Nat):Int):=()
  first
   | (rw[aaB q']at h5;show aa5 h5 @_)
   | (simp at h5;omega)
 cases YS with
 | cons w1 w2=>
  cases w2;cases w1 with
  | list ho r9=>show(_,_,ns,rfl,rfl,ho,qW ns _ r9,hlen)
def Hw(l:OpenLaw)(args:List WData):l.row.toRowW.claim.post args (.bool true) args=true:=
 postW_of (r:=l.row.toRowW) (X:=(true==true))
  (show WShape.has [] (.bool true) .bool=true by first| rfl| decide| simp[WShape.has,WShape.arms,WShape.armsAll])
  (show(WTm.eq .res (.lit (.bool true))).value [] {args:=args,res:=!(.bool true),after:=args}=!(.bool (true==true)) from w_eq_bool (w_res rfl) w_lit) rfl
def Bc{l:OpenLaw}{n:Nat}{q:Program}{YP:World->Heap->Prop}{d:DefRec}
  (hn:l.most=!n) (T6:d.params.defaults=[])
  (call:∀(w:World) (s₀ s₁:Shared) (mg mb:Str->Option Value) (fa:Addr) (o:Obj) (pm cd doc:Value) (a:Addr) (vs:List Value) (ns:List Int),
   Ground q loose [] XP w s₀ mg mb s₁.heap->YP w s₁.heap->
   s₁.heap.get? fa=!o->o.data= .func (docDef d.name d.params d.body d.scope pm cd doc)->s₁.heap.CodeRec cd d.name->mg d.name=!(.ref fa)->
   s₁.heap.get? a=some {cls:=.type "list",data:=.seq vs.toArray}->IntsAre vs ns->-ns<=n->s₁.gens= #[]->
   codeAny (model l.prog w) callerA (.call (.ref fa) ([.ref a],[])) (λr s'=>r= .ok (.ret (.bool true))/\OldK s₁.heap s'.heap/\s'.os=s₁.os/\AllBare s'.gens) s₁):
  WalkO q loose XP YP l.row.toRowW d [] (λf vs=>PySem.call f vs):=by
 intro w s₀ s₁ mg mb G Y fa o pm cd doc dV kV ho hd JY hD Nk hg args vals as N7 aeF hrd YS hlo;obtain rfl:dV= .none:=Dflts.none hD T6;obtain rfl:kV= .none:=Dflts.noKw hD;let(a,vs,ns,rfl,rfl,Rf,hints,hlen):=Gs hn N7 YS;show enter_call (codeAny_mono (call w s₀ s₁ mg mb fa o pm cd doc a vs ns G Y ho (fd_plain hd) JY Nk Rf hints hlen hg) λr s' hq=>?_);let(rfl,h2,h3,h4):=hq;show(.inl (.bool true,.bool true,[],rfl,λ_=>rfl,.bool true,Hw l _,λ_=>(List.Pairwise.nil,λ_ hm=>(nomatch hm))),h2,h3,h4)
end Att
namespace L2
open PySem PySem.Spec PyProof.Rows
def vN:∀{vs:List Value} {ns:List Int},IntsAre vs ns->aH (ns.map V.int) vs
 | _,_,.nil=>.nil
 | _,_,.cons n t h=>.cons (t,rfl) (vN h)
def Rq(H:Hp):Prop:=∀b,H b=none\/∃o xs,H b=!(.wq o (.lst xs))
def I0{K:fv}{k:Nat}{x:Str}{s₁:Shared}{vs:List Value}
  (KX:K.In s₁.heap) (hns:s₁.heap.Ns mainGlobals mg) (hb:s₁.heap.Ns builtinsNs mb) (hbb:∀x:Str,x≠"__name__"->mb x=bootBuiltins x) (aaZ:s₁.heap.NoLimit) (hg:s₁.gens= #[])
  (ha:s₁.heap.get? a=some {cls:=.type "list",data:=.seq vs.toArray}) (hi:IntsAre vs ns) (hl:-ns<=sizeLine) (hr:ck k callerA)
  (F:∀base:Heap,K.In base->base.Ns mainGlobals mg->aC P w K mg base CX k fa fd [x] sp) (Us:∀(s:Shared) (u:Value),BindsTo s fd ([u],[]) [(x, u)])
  (OZ:∀H:Hp,Rq H->gI K H a (ns.map V.int)->sp [.ref a] H (λv _=>v= .bl true) λ_ _ _=>False)
  (ZK:∀H e s',CX [] H s₁ (λ_ _ _=>False) e s'->False):
  codeAny (model P w) callerA (.call (.ref fa) ([.ref a],[])) (λr s'=>r= .ok (.ret (.bool true))/\OldK s₁.heap s'.heap/\s'.os=s₁.os/\AllBare s'.gens) s₁:=by
 let rv:=vN hi;let ZL:=-hi
 let core:∀H:Hp,Rq H->gI K H a (ns.map V.int)->lV P w H s₁.heap->(∀b,H b≠none->b=a)->(H a≠none->K.lookup a=none)->
   codeAny (model P w) callerA (.call (.ref fa) ([.ref a],[])) (λr s'=>r= .ok (.ret (.bool true))/\OldK s₁.heap s'.heap/\s'.os=s₁.os/\AllBare s'.gens) s₁:=by
  intro H hO hS aU hA hK;let Fo:∀{b:Addr} {o:Obj},s₁.heap.get? b=!o->H b=none->(y4 s₁.heap H).get? b=!o:=λe n=>K0 e n;let Tj:∀{b:Addr} {o:Obj} {es:Array DictEntry} {ep:Nat},s₁.heap.get? b=!o->o.data= .dict es ep->H b=none:=λ{b o es ep} e d=>by
   cases q:H b with
   | none=>rfl
   | some u=>
    let e':b=a:=hA b (by rw[q];simp);subst e';rw[ha]at e;cases e;let d':Data.seq vs.toArray _=Data.dict es ep:=d;cases d'
  let W2:∀{b:Addr} {m:Str->Option Value},s₁.heap.Ns b m->(y4 s₁.heap H).Ns b m:=λ{b m} (o,es,ep,e,d,r)=>(o,es,ep,Fo e (Tj e d),d,r)
  let hKb:K.In (y4 s₁.heap H):=λb o e=>Fo (KX b o e) (by
   cases q:H b with
   | none=>rfl
   | some u=>
    let e':b=a:=hA b (by rw[q];simp);subst e'
    rw[hK (by rw[q];simp)]at e;cases e)
  let hM:Mod K mg (y4 s₁.heap H):=(hKb,W2 hns,(mb,W2 hb,hbb),let (mc,h1,h2):=aaZ;(mc,W2 h1,h2));let e0:D4 P w K mg (y4 s₁.heap H) callerA [] s₁ H:=(rfl,hM,λb o e=>NN e,Nat.le_of_eq (HQ _ _),trivial,λb hb=>absurd (show b∈([]:List Addr) from hb) (by simp),aU,.of_eq hg);show codeAny_mono ((F _ hKb (W2 hns)).run callerA [] s₁ H ([.ref a],[]) [.ref a] [.ref a] _ _ hr e0 (Us s₁ (.ref a)) (.cons rfl .nil) (OZ H hO hS)) λr s' h=>?_;cases r with
  | error e=>show(ZK H e s' h).elim
  | ok fl=>
   cases fl with
   | next=>show False.elim h
   | brk=>show False.elim h
   | cont=>show False.elim h
   | ret u=>
    let(v,H',os,bare,un,Zx,r',q):=h;let q':v= .bl true:=q;subst q';obtain rfl:u=Value.bool true:=r';show(rfl,OldK.of_keep λb o e=>?_,os,bare);cases q:H b with
    | none=>show un.keep b o e q (by intro z;show absurd (show b∈([]:List Addr) from z) (by simp)) (by simp)
    | some u=>
     rcases hO b with z| ⟨ob,xs,z⟩
     .rw[q]at z;cases z
     .let z2:=un.qv b ob _ z;let(e1,_):=aU b _ z;let(e2,_):=Zx b _ z2;rw[e]at e1;cases e1;show e2
 cases hk:K.lookup a with
 | some o=>
  let e:=KX a o hk;rw[ha]at e;cases e;show core (λ_=>none) (λ_=>.inl rfl) (.inr (_,vs.toArray,_,hk,rfl,rfl,rfl,by rw[List.size_toArray,ZL];show hl,by simpa using rv)) (λb u z=>by let z':(none:Option HO)=!u:=z;cases z') (λb z=>absurd rfl z) λz=>absurd rfl z
 | none=>
  show core (λb=>if b=a then !(.wq {cls:=.type "list",data:=.seq vs.toArray} (.lst (ns.map V.int))) else none) (λb=>?_) (.inl (.inr ({cls:=.type "list",data:=.seq vs.toArray},aaP rfl))) (λb u z=>?_) (λb z=>?_) λ_=>hk
  .by_cases hb:b=a
   .show .inr (_,_,aaP hb)
   .show .inl (aaK hb)
  .by_cases hb:b=a
   .let z':=(aaP hb).symm.trans z;cases z';subst hb;show(ha,by rw[aah];show hl,vs,_,rv,ha)
   .let z':=(aaK hb).symm.trans z;cases z'
  .by_cases hb:b=a
   .show hb
   .show aa5 (aaK hb) z
def yH{l:PySem.W.OpenLaw}{n k:Nat}{q:Program}{YP:World->Heap->Prop}{d:DefRec}{K:Params->fv}{CX:World->BP}{sp:World->Sp}{x:Str}
  (hn:l.most=!n) (Td:n<=sizeLine) (T6:d.params.defaults=[]) (hr:ck k callerA)
  (hY:∀(w:World) (h:Heap),YP w h->(K w.params).In h)
  (F:∀(w:World) (mg:Str->Option Value) (fa:Addr) (h:Heap),(K w.params).In h->h.Ns mainGlobals mg->mg d.name=!(.ref fa)->
   ∃fd:FuncData,(∀(s:Shared) (u:Value),BindsTo s fd ([u],[]) [(x, u)])/\
    ∀base:Heap,(K w.params).In base->base.Ns mainGlobals mg->aC l.prog w (K w.params) mg base (CX w) k fa fd [x] (sp w))
  (OZ:∀(w:World) (H:Hp) (a:Addr) (ns:List Int),-ns<=n->Rq H->gI (K w.params) H a (ns.map V.int)->sp w [.ref a] H (λv _=>v= .bl true) λ_ _ _=>False)
  (ZK:∀(w:World) (H:Hp) (s:Shared) (e:Value) (s':Shared),CX w [] H s (λ_ _ _=>False) e s'->False):
  PySem.W.WalkO q loose XP YP l.row.toRowW d [] (λf vs=>PySem.call f vs):=by
 show Att.Bc hn T6 λw s₀ s₁ mg mb fa o pm cd doc a vs ns G Y ho hd JY Nk Rf hints hlen hg=>?_;let KX:=hY w _ Y;let(fd,hb,hF):=F w mg fa _ KX G.T.g Nk;show I0 KX G.T.g G.T.b G.T.builtins G.T.nolimit hg Rf hints (aaH hlen Td) hr hF hb (λH hO hS=>OZ w H a ns hlen hO hS) λH e s'=>ZK w H s₁ e s'
end L2
/- THE XU N2 (shape;LID, My.* are UU):
  My.Adr:a structure of NR addresses aaQ XY T4 names (classes, HP);My.Txt K t:a structure (Prop) of NR equations rA K;
  My.Dz:{K} {implicit addresses ..} (e1:nsIn K mainGlobals "law"=!(!(.ref f))) (e2:K.lookup f=!(oc,od,.func (fnOf "law" "law" params body scope dV kV doc pm an bI ct),sl)) (e3:codeIn K bI "law"=true) .. :∃t,My.Txt K t
set_option maxRecDepth 100000 in
set_option maxHeartbeats 0 in
def PySem.Challenge.cw_LID_holds : PySem.Challenge.rw_LID.Holds := by
 w_on;o_law;k_head;(case hw=>w_witness2)
 k_fill
 show L2.yH (l:=PySem.Challenge.rw_LID) (n:=63) (k:=40) (x:="script") (CX:=fun w=>..) (sp:=fun _=>My.SE) rfl @_ rfl (rfl,@_,@_) (fun w h Y=>PySem.W.kIn_of Y) ?F ?S ?C
 case F=>
  intro w mg fa h KX G Nk;let T:∃t,My.Txt (L2.Zd KX) t:=by
   dsimp only[L2.Zd]
   refine' My.Dz ?e1 ?e2 ?e3 ..
   (case e1=>PySem.W.k_is)
   (case e2=>PySem.W.k_is)
   ..
  let(t,T):=T;let e0:=Nk.symm.trans (PySem.W.mg_of KX G T.law);cases e0;show(_,λs u=>.of_eq rfl,λbase kb nb=>My.Ct T kb nb)
 case S=>exactλw H a ns hl hO hS=>..
 case C=>show ..
(NR tactic k_is has no namespace:write k_is) -/
namespace L2
open PySem PySem.Spec PyProof.Rows
variable{P:Program}{w:World}{mg:Str->Option Value}{base:Heap}{qual:Str}{f x:Addr}{fd:FuncData}{ps N xs ys:List Str}{A:Around}{s:Shared}{env:Env}{outer:List Env}{X:Cx}{η:List (Addr×Obj)}{scope:Scope}{Ρ:List Nat}
def lN(s:Stmt):Arguments:=match s with
 | .FunctionDef _ a _ _ _ _ _ _ _ _=>a
 | _=>{posonlyargs:=[],args:=[],vararg:=none,kwonlyargs:=[],kw_defaults:=[],kwarg:=none,defaults:=[]}
def iC(s:Stmt):List Stmt:=match s with
 | .FunctionDef _ _ b _ _ _ _ _ _ _=>b
 | _=>[]
def τ(s:Stmt):Scope:=match s with
 | .FunctionDef _ _ _ _ _ _ sc _ _ _=>sc
 | _=>{kind:=.function,names:=[],isGenerator:=false,isCoroutine:=false}
abbrev WR:BP:=λ_ _ _ _ _ _=>False
abbrev E0:XK:=λ_ _ _=>False
structure de(K:fv)(x qual:Str)(st:Stmt)(f:Addr)(fd:FuncData):Prop where
 ex:∃(oc:Value) (od:Option Addr) (kV doc pm:Value) (an:Option Addr) (bI ct:Value) (Jz:Array (Option Value)),
  fd=PySem.W.fnOf x qual (lN st) (iC st) (τ st) .none kV doc pm an bI ct/\K.lookup f=!(oc,od,.func fd,Jz)/\PySem.W.codeIn K bI qual=true
 kp:PySem.W.keepIn K (.ref f)=true
section
variable{K:fv}
def de.binds{x:Str}{st:Stmt}(F:de K x qual st f fd)
  (h:∀(kV doc pm:Value) (an:Option Addr) (bI ct:Value) (us:List Value),-us=-ps->bindArgs (PySem.W.fnOf x qual (lN st) (iC st) (τ st) .none kV doc pm an bI ct) (us,[])=pure (ps.zip us)):j5 K fd ps []:=by
 let(oc,od,kV,doc,pm,an,bI,ct,Jz,rfl,lk,JY):=F.ex;show .all (h kV doc pm an bI ct)
def L9{x:Str}{st:Stmt}{oc:Value}{od:Option Addr}{Jz:Array (Option Value)}{kV:Value}(l:K.lookup f=!(oc,od,.func (PySem.W.fnOf x qual (lN st) (iC st) (τ st) .none kV doc pm an bI ct),Jz))
  (c:PySem.W.codeIn K bI qual=true) (k:PySem.W.keepIn K (.ref f)=true):de K x qual st f (PySem.W.fnOf x qual (lN st) (iC st) (τ st) .none kV doc pm an bI ct):=((oc,od,kV,doc,pm,an,bI,ct,Jz,rfl,l,c),k)
end
def FD{k:Nat}(hr:ck k A):A.units+1 < cLine:=abt (Nat.add_le_add_left (by decide:1<=64) _) hr.units
def C7{A B:Prop}(h:B):if false=true then A else B:=by rw[aaK aa1];show h
def CP{A B:Prop}(h:A):if true=true then A else B:=by rw[aaP rfl];show h
def eE(H H':Hp):Prop:=∀b o,H b=!o->H' b=!o
def eE.refl(H:Hp):eE H H:=λ_ _ h=>h
def eE.trans{H:Hp}(a:eE H H1)(b:eE H1 H2):eE H H2:=λc o h=>b c o (a c o h)
def eE.free{H:Hp}(e:eE H H')(h:H' l=Option.none):H l=Option.none:=by
 cases q:H l with
 | none=>rfl
 | some o=>
  rw[e l o q]at h;cases h
def eE.seq{K:fv}{H:Hp}{xs:List V}(e:eE H H')(h:gI K H a xs):gI K H' a xs:=by
 rcases h with (h| ⟨o,h⟩)| h
 .show .inl (.inl (e _ _ h))
 .show .inl (.inr (o,e _ _ h))
 .show .inr h
section
def N3(B:Heap)(l:List Env)(x:Addr)(o:Obj)(fl:Value)(h:Heap):Prop:=
 B.StaysIn h/\B.get? x=none/\h.FunFrames B l/\∃(vs:Array Value) (T:Addr) (oT:Obj) (ts:Array Value),h.get? x=some {o with data:=.fields vs}/\vs[2]? =some .none/\vs[1]? =!(.ref T)/\
  B.get? T=none/\T≠x/\h.get? T=!oT/\oT.data= .fields ts/\ts[3]? =!fl
section
variable{M:Model}{E:Value->Shared->Prop}{B:Heap}{l:List Env}{L:Addr}{o:Obj}{vs:Array Value}{Q:Unit->Shared->Prop}
def t_{h h':Heap}{oT:Obj}(hT:h.get? T=!oT)(hd:oT.data= .fields ts)(k:∀b,b≠T->h'.get? b=h.get? b):h.UpToSlots h':=λb ob e hn=>
 (ob.slots,(k b λz=>by rw[z,hT]at e;cases e;show hn _ hd).trans e)
def we{h:Heap}(hl:h.FunFrames B l)(u:h.UpToSlots h'):h'.FunFrames B l:=hl.of_keeps λb ob e hn=>by let(sl,q):=u b ob e hn;show(_,q,rfl)
def JL{head:Value}(X9:A.frames=!(env::outer))(hf:env.frame=!L)(hB:B.StaysIn s.heap)(hn:B.get? x=none)(hl:s.heap.FunFrames B (env::outer))(hx:s.heap.get? x=some {o with data:=.fields vs})(h1:1 < vs.size)(h2:vs[2]? =some .none)
  (h:∀h',N3 B (env::outer) x o (rawInt L) h'->s.heap.UpToSlots h'->Q Unit.unit {s with heap:=h'}):
  wpAny M A (do let  a<-frameOf env;let  pl<-entryPlaceOf L Xc;let  n<-EntryCells.newEntry head a .none (rawInt L) .none pl;setField (.ref x) 1 n) Q E s:=by
 show aao (wpAny_frameOf_fun X9 hl hf λg1 S1=>aao (wpAny_entryPlaceOf λpl fZ=>?_));let nx:x∉(env::outer).filterMap (·.frame):=λz=>by let(_,ob,e,d):=hl.mem z;rw[hx]at e;cases e;show d _ rfl
 let hx1:g1.get? x=some {o with data:=.fields vs}:=(S1.2.1 x nx).trans hx;unfold EntryCells.newEntry newFields;show aao (wpAny_newObj_type ?_ (fZ.sizeOk5 _ _ _ _ _));let hx2:=aas (h:=g1) {cls:=.type "traceback",dict:=none,data:=.fields ([head,.ref L,.none,rawInt L,.none]++(if pl.isEmpty then List.replicate 6 Value.none else pl)).toArray} hx1;show wpAny_setField hx2 rfl h1 (h _ ?_ ?_)
 .let up1:∀b ob,b≠x->g1.get? b=!ob->((g1.push {cls:=.type "traceback",dict:=none,data:=.fields ([head,.ref L,.none,rawInt L,.none]++(if pl.isEmpty then List.replicate 6 Value.none else pl)).toArray}).update x (Obj.mapFields (·.setIfInBounds 1 (Value.ref g1.objs.size)))).get? b=!ob:=λb ob nb e=>
   (Heap.get?_update_other _ _ (Ne.symm nb)).trans (aas _ e)
  let neT:g1.objs.size≠x:=acQ (aaL hx1)
  show(λb ob e=>up1 b ob (λz=>by rw[z,hn]at e;cases e) ((S1.2.1 b λz=>by rw[(hl.mem z).1]at e;cases e).trans (hB b ob e)),hn,hl.of_keeps λb ob e d=>?_,vs.setIfInBounds 1 (.ref g1.objs.size),g1.objs.size,_,_,Heap.get?_update_self _ hx2 rfl,by rw[Array.getElem?_setIfInBounds_ne @_];show h2,by simp[h1],?_,neT,
   (Heap.get?_update_other _ _ (Ne.symm neT)).trans (abd g1 rfl),rfl,?_)
  .let(sl,q):=S1.2.2 b ob e;show(_,up1 b _ (λz=>by rw[z,hx]at e;cases e;show d _ rfl) q,rfl)
  .cases q:B.get? g1.objs.size with
   | none=>rfl
   | some ob=>
    have:=aaL (hB _ _ q);rw[<-S1.1]at this;show aa5 this (ab5 _)
  .first
    | (simp;done)
    | (rcases fZ with rfl| ⟨_,_,_,_,_,_,_,rfl⟩ <;> simp)
 .intro b ob e d;let(sl,q):=S1.2.2 b ob e;show(sl,?_);rw[Heap.get?_update_other _ _ (λz:x=b=>by rw[<-z,hx]at e;cases e;show d _ rfl)];show aas _ q
def TC(X9:A.frames=!(env::outer))(hf:env.frame=!L)(R:N3 B (env::outer) x o .none s.heap)
  (h:∀h',N3 B (env::outer) x o (rawInt L) h'->s.heap.UpToSlots h'->Q Unit.unit {s with heap:=h'}):wpAny M A (noteFrame (.ref x) env) Q E s:=by
 let(hB,hn,hl,vs,T,oT,ts,hx,h2,h1,nT,Wy,hT,dT,h3):=R;unfold noteFrame;simp only[hf];show aao (wpAny_field hx rfl h1 ?_);rw[if_pos (show(Value.ref T != Value.none)=true by simp)];show aao (wpAny_field hT dT h3 ?_);rw[if_neg (show¬((Value.none==rawInt L)=true) by simp[rawInt])];show aao (wpAny_setField hT dT (acD.mp h3).1 ?_);let JO:∀b,b≠T->(s.heap.update T (Obj.mapFields (·.setIfInBounds 3 Value.none))).get? b=s.heap.get? b:=λb nb=>Heap.get?_update_other _ _ (Ne.symm nb);let u:=t_ hT dT JO;show JL X9 hf (λb ob e=>(JO b λz=>by rw[z,nT]at e;cases e).trans (hB b ob e)) hn (we hl u) ((JO x (Ne.symm Wy)).trans hx) (acD.mp h1).1 h2 λh' F' u'=>h h' F' (u.trans u')
def Nu(R:N3 B l x o fl s.heap)(h:∀h',N3 B l x o .none h'->s.heap.UpToSlots h'->Q Unit.unit {s with heap:=h'}):wpAny M A (setFlight (.ref x) none) Q E s:=by let(hB,hn,hl,vs,T,oT,ts,hx,h2,h1,nT,Wy,hT,dT,h3):=R;unfold setFlight;show aao (wpAny_field hx rfl h1 ?_);rw[if_pos (show(Value.ref T != Value.none)=true by simp)];let z3:=(acD.mp h3).1;let JO:∀b,b≠T->(s.heap.update T (Obj.mapFields (·.setIfInBounds 3 ((none:Option Addr).elim Value.none λf=>rawInt f)))).get? b=s.heap.get? b:=λb nb=>Heap.get?_update_other _ _ (Ne.symm nb);let u:=t_ hT dT JO;show wpAny_setField hT dT z3 (h _ (λb ob e=>(JO b λz=>by rw[z,nT]at e;cases e).trans (hB b ob e),hn,we hl u,vs,T,_,_,(JO x (Ne.symm Wy)).trans hx,h2,h1,nT,Wy,Heap.get?_update_self _ hT (Obj.isFreed_of_fields (Obj.data_mapFields dT _)),Obj.data_mapFields dT _,by simp[z3]) u)
def RH(R:N3 B (env::outer) x o fl h):N3 B outer x o fl h:=by let(hB,hn,(_,_,hl),r):=R;show(hB,hn,hl,r)
end
structure Wz(P:Program)(w:World)(l:List Env)(H H':Hp)(h h' B:Heap)(x:Addr)(o:Obj):Prop where
 un:Un (qZ l) [] H H' h h'
 ok:lV P w H' B
 Tu:N3 B l x o .none h'
 Xu:∀b u,h.get? b=!u->H b=none->b∉qZ l->B.get? b=!u
 VA:∀b u,h.get? b=!u->b∉qZ l->∃u',B.get? b=!u'
variable{l:List Env}{H H':Hp}{h h' Xh B:Heap}{o:Obj}
end
def cI(P:Program)(w:World):BP:=λouter H s E e s'=>
 ∃x o H' B,e= .ref x/\s'.os=s.os/\AllBare s'.gens/\Wz P w outer H H' s.heap s'.heap B x o/\E o.cls o.dict H'
section
variable{σ:St}{H H':Hp}{Xh B:Heap}{ox:Obj}
def Wz.leave(I:Inv X η σ H s)(hex:X.ex=[])(RP:∀b∈qZ X.outer,b∈qZ X.stack)(ok:lV X.prog X.w H' B)(f:N3 B X.outer x ox .none Xh)(nx0:X.s₀.heap.get? x=none)
  (Xu:∀b o,b≠x->s.heap.get? b=!o->H b=none->b∉qZ X.stack->B.get? b=!o)
  (VA:∀b o,b≠x->s.heap.get? b=!o->b∉qZ X.stack->∃o',B.get? b=!o')
  (sl:∀b o,s.heap.get? b=!o->b∈qZ X.stack->∃sl,Xh.get? b=some {o with slots:=sl})
  (free:∀b o,s.heap.get? b=!o->H b=none->H' b=none)
  (qV:∀b xs,H b=!(.tup xs)->H' b=!(.tup xs)) (qv:∀b o u,H b=!(.wq o u)->H' b=!(.wq o u))
  (rq:∀b ps,H b=!(.MD ps)->∃more,H' b=!(.MD (ps++more))):Wz X.prog X.w X.outer X.H₀ H' X.s₀.heap Xh B x ox:=by
 let nX:∀b o,X.s₀.heap.get? b=!o->b≠x:=λb o e z=>by rw[z,nx0]at e;cases e
 let k8:∀b:Addr,b∉X.ex:=λb z=>by rw[hex]at z;cases z
 let nS:∀b o,X.s₀.heap.get? b=!o->b∉qZ X.outer->b∉qZ X.stack:=λb o e hb z=>
  (aaS.mp (I.xg b z)).elim (λq=>abj (aaR (aaL e) I.ok.above) q) hb
 show((λb o e n hb _=>?_,λb o e n hb _=>?_,λb o e n _=>?_,λb o e _=>?_,λb xs e=>qV b xs (I.base.qV b xs e),λb o u e=>qv b o u (I.base.qv b o u e),λb ps e=>?_),ok,f,λb o e n hb=>?_,λb o e hb=>?_)
 .show f.1 b o (Xu b o (nX b o e) (I.base.keep b o e n hb (k8 b)) (I.base.free b o e n (k8 b)) (nS b o e hb))
 .let(s1,e1):=I.base.slot b o e n hb (k8 b);let(s2,e2):=sl b _ e1 (RP b hb);show(s2,e2)
 .let(o',e1):=I.base.there b o e (k8 b);show free b o' e1 (I.base.free b o e n (k8 b))
 .let(o',e1):=I.base.there b o e (k8 b);by_cases hb:b∈qZ X.stack
  .let(s2,e2):=sl b _ e1 hb;show(_,e2)
  .let(o2,q):=VA b o' (nX b o e) e1 hb;show(o2,f.1 _ _ q)
 .let(m1,e1):=I.base.rq b ps e;let(m2,e2):=rq b _ e1;show(m1++m2,by rw[e2,Array.append_assoc])
 .show Xu b o (nX b o e) (I.base.keep b o e n hb (k8 b)) (I.base.free b o e n (k8 b)) (nS b o e hb)
 .let(o',e1):=I.base.there b o e (k8 b);show VA b o' (nX b o e) e1 (nS b o e hb)
end
def d_(CX:BP)(X:Cx)(R:St->XK):Prop:=∀(η:List (Addr×Obj)) (σ:St) (H:Hp) (s:Shared) (e:Value) (s':Shared),Inv X η σ H s->CX X.stack H s (R σ) e s'->X.xe e s'
section
variable{K:fv}{cd:Value}{s₀:Shared}{H₀:Hp}{E:XK}
def Ob:∀b∈qZ outer,b∈qZ (env::outer):=λb hb=>by let(en,he,hf):=acO.mp hb;show acO.mpr (en,aag _ he,hf)
def ξ:d_ (cI P w) (xi (cI P w) P w K mg base N qual scope f cd A outer s₀ H₀ E) (λ_=>E):=by
 intro η σ H s e s' I hx;let(x,o,H',B,rfl,os,bare,F,hE):=hx;change wpAny _ _ (do noteFrame (.ref x) _;setFlight (.ref x) none) _ _ s';show aao (TC (B:=B) I.ok.frames rfl F.Tu λh4 f4 u4=>Nu f4 λh5 f5 u5=>?_);show(x,o,H',B,rfl,os.trans I.os,bare,Wz.leave I rfl Ob F.ok (RH f5) ?_ (λb o _=>F.Xu b o) (λb o _=>F.VA b o) (λb o q hb=>?_) (λb o q n=>F.un.free b o q n (by simp)) F.un.qV F.un.qv F.un.rq,hE)
 .change s₀.heap.get? x=none;cases q:s₀.heap.get? x with
  | none=>rfl
  | some u=>
   let(u',e1):=I.base.there x u q nofun;by_cases hb:x∈qZ (xi (cI P w) P w K mg base N qual scope f cd A outer s₀ H₀ E).stack
   .let(vs,_,_,_,hxx,_):=F.Tu.2.2.2;let(_,o',AD,hd):=F.Tu.2.2.1.mem hb;rw[hxx]at AD;cases AD;show aa5 rfl (hd _)
   .let(u2,e2):=F.VA x u' e1 hb;rw[F.Tu.2.1]at e2;cases e2
 .let(sl,e1):=F.un.slot b o q (I.xY b hb) hb (by simp);let(_,o',AD,hd):=F.Tu.2.2.1.mem hb;rw[e1]at AD;cases AD;let(WE,e2):=(u4.trans u5) b _ e1 hd;show(WE,e2)
end
def SJ(sp:Sp)(rF:List V)(R:St->XK)(t:TA):TE:=λσ H Q=>t σ H λvs H1=>sp (vs++rF) H1 Q (R σ)
section
variable{CX:BP}{k:Nat}{sp:Sp}{rF:List V}{ds:List Value}{R:St->XK}{x:Str}{p pos:Pos}{e:Expr}{es:List Expr}{t:TA}
def yr{H:Hp}(F:aC X.prog X.w X.K X.mg X.base CX k f fd ps sp)(hr:ck k X.A)(hb:j5 X.K fd ps ds)(hd:aH rF ds)(hx:d_ CX X R)
  (I:Inv X η σ H s) (r:aH vs us) (h:sp (vs++rF) H Q (R σ)):wpAny (model X.prog X.w) X.A (call (.ref f) us) (EP X η σ Q) X.xe s:=by
 let r2:aH (vs++rF) (us++ds):=r.append hd;let hl:-(us++ds)=-ps:=by rw[<--r2];show F.len _ _ _ _ h
 show wpAny_call (codeAny_mono (F.run X.A X.stack s H (us,[]) (us++ds) (vs++rF) Q (R σ) hr I.V8 (hb s us I.qR hl) r2 h) λr s' hq=>?_);cases r with
 | error e=>show hx η σ H s e s' I hq
 | ok fl=>
  cases fl with
  | ret u=>show I.after hq
  | next=>show False.elim hq
  | brk=>show False.elim hq
  | cont=>show False.elim hq
def Mj(F:aC X.prog X.w X.K X.mg X.base CX k f fd ps sp)(hr:ck k X.A)(hg:Gl X x)(hm:X.mg x=!(.ref f))(hk:PySem.W.keepIn X.K (.ref f)=true)(hb:j5 X.K fd ps ds)(hd:aH rF ds)(hx:d_ CX X R)
  (ha:PA X (e::es) t) (ub:(x==("__debug__":Str))=false|>2) (he:starEach (e::es) X.env=(false, eval e X.env)::starEach es X.env|>1) (fZ:(backTo pos (starEach es X.env)).any (·.1)=false|>1):
  PE X (.Call (.Name x p) (e::es) [] pos) (SJ sp rF R t):=by
 intro η s σ H Q I h;show wpAny_Call_Name_kw (y3 I hg hm ?_ ub);show PySem.W.callWith_K (h₀:=X.base) I.ok.mod.Wo hk (bH (ha pos η s σ H _ I h) fun us s1 (vs,H1,I1,r,q)=>(I1.qR,?_)) he fZ;show yr F hr hb hd hx I1 r q
end
def nQ(env:Env):List (Str×NameKind)->List (Str×Addr)->List (Str×Addr)
 | [],acc=>acc
 | p::r,acc=>nQ env r (if p.2== .free then (p.1, (env.cells.lookup p.1).getD 0)::acc else acc)
def sC(h:∀p∈scope.names,p.2= .free->(env.cells.lookup p.1).isSome=true):closureFor scope env=pure (nQ env scope.names []):=by
 let key:∀(l:List (Str×NameKind)) (acc:List (Str×Addr)),(∀p∈l,p.2= .free->(env.cells.lookup p.1).isSome=true)->
   (forIn l acc (λ(p:Str×NameKind) (r:List (Str×Addr))=>(if p.2== .free then (do let  c<-cellOf env p.1;pure (ForInStep.yield ((p.1, c)::r))) else pure (ForInStep.yield r):Sem (ForInStep (List (Str×Addr))))))=(pure (nQ env l acc):Sem (List (Str×Addr))):=by
  intro l
  induction l with
  | nil=>intro acc _;rfl
  | cons p r ih=>
   intro acc hp;rw[List.forIn_cons];let ih':=λa=>ih a λq hq=>hp q (aag _ hq);let(n,k):=p;by_cases hk:k= .free
   .subst hk;let hs:=hp (n, .free) aai rfl;cases hl:env.cells.lookup n with
    | none=>rw[show env.cells.lookup (n, NameKind.free).1=none from hl]at hs;cases hs
    | some c=>
     let e1:nQ env ((n, .free)::r) acc=nQ env r ((n, c)::acc):=by change nQ env r (if (NameKind.free==NameKind.free)=true then (n, (env.cells.lookup n).getD 0)::acc else acc)=_;rw[aaP @_,hl];rfl
     let e2:cellOf env n=pure c:=by unfold cellOf;rw[hl]
     rw[e1];let e3:(NameKind.free==NameKind.free)=true:=@_
     simp only[e3,if_true,e2,pure_bind];show ih' _
   .let hb:(k==NameKind.free)=false:=by simpa using hk
    let e1:nQ env ((n, k)::r) acc=nQ env r acc:=by change nQ env r (if (k==NameKind.free)=true then (n, (env.cells.lookup n).getD 0)::acc else acc)=_;rw[hb,aaK @_]
    rw[e1];simp only[hb,Bool.false_eq_true,if_false,pure_bind];show ih' _
 have:=key scope.names [] h;unfold closureFor
 first
  | show this
  | (simp only[bind_pure];show this)
  | (rw[bind_pure];show this)
def wO{env:Env}{c:Addr}:∀(l:List (Str×NameKind)) (acc:List (Str×Addr)),(∀p∈l,p.2= .free->(env.cells.lookup p.1).isSome=true)->
  (acc.lookup y=!c->env.cells.lookup y=!c)->(nQ env l acc).lookup y=!c->env.cells.lookup y=!c
 | [],acc,_,ha,h=>ha h
 | (n, k)::r,acc,hp,ha,h=>by
  show wO r _ (λq hq=>hp q (aag _ hq)) (λe=>?_) h;split at e
  .rename_i hk;rw[ace]at e;cases q:(y==n) with
   | true=>
    rw[q]at e;let e':(env.cells.lookup n).getD 0=c:=aay e;let hn:y=n:=by simpa using q
    subst hn;let hs:=hp (y, k) List.mem_cons_self (by simpa using hk);cases z:env.cells.lookup y with
    | none=>rw[show env.cells.lookup (y, k).1=none from z]at hs;cases hs
    | some d=>rw[z]at e';rw[<-e'];rfl
   | false=>rw[q]at e;show ha e
  .show ha e
def sR{env:Env}{y:Str}:∀(l:List (Str×NameKind)) (acc:List (Str×Addr)),((y, NameKind.free)∈l\/(acc.lookup y).isSome=true)->((nQ env l acc).lookup y).isSome=true
 | [],acc,h=>by
  rcases h with h| h
  .cases h
  .show h
 | (n, k)::r,acc,h=>by
  show sR r _ ?_;by_cases hy:y=n
  .subst hy;by_cases hk:k= .free
   .subst hk;right;change(List.lookup y (if (NameKind.free==NameKind.free)=true then (y, (env.cells.lookup y).getD 0)::acc else acc)).isSome=true;rw[aaP @_,ace,beq_self_eq_true];rfl
   .rcases h with h| h
    .rcases aaS.mp h with z| z
     .show aa5 (Prod.mk.inj z).2.symm hk
     .show .inl z
    .right;rw[if_neg (by simpa using hk)];show h
  .rcases h with h| h
   .rcases aaS.mp h with z| z
    .show aa5 (Prod.mk.inj z).1 hy
    .show .inl z
   .right;split
    .rw[List.lookup_cons,show(y==n)=false by simpa using hy];show h
    .show h
def Cx.comp(X:Cx)(Nc:List Str)(scope:Scope)(C:Addr)(s:Shared)(H:Hp)(fp:List Addr):Cx:={X with
 N:=Nc
 s₀:=s
 H₀:=H
 env:=compEnvC scope (nQ X.env scope.names []) C X.env
 outer:=X.stack
 ex:=fp
 fn:=λ_=>false
 pn:=[]
 xe:=λ_ _=>False}
def Γ.of{P:List Str}{sc:Scope}(h:(sc.kind, sc.isCoroutine,sc.isGenerator)=(.function, false,false))(h2:N.Nodup/\N.take (-P)=P/\(∀x∈P,sc.names.lookup x=some .local\/sc.names.lookup x=some .cell)/\(∀y∈sc.names,y.2≠ .free):=by decide+kernel):Γ N P sc:=by let(a,b,c,d):=h2;show(abm (·.1) h,abm (·.2.1) h,abm (·.2.2) h,a,b,c,d)
structure aw(X:Cx)(scope:Scope)(xs ys:List Str)(Ρ:List Nat):Prop where
 kind:scope.kind= .function
 LV:∀p∈scope.names,p.2≠ .cell
 names:∀p∈scope.names,p.2= .local->scope.names.lookup p.1=some .local
 own:∀x∈xs,scope.names.lookup x=some .local
 free:∀p∈scope.names,p.2= .free->X.env.scope.names.lookup p.1=some .cell
 nd:(xs++ys).Nodup
 cap:∀q∈ys.zip Ρ,X.N[q.2]? =!q.1/\X.env.scope.names.lookup q.1=some .cell/\scope.names.lookup q.1=some .free
 len:-ys=-Ρ
def aw.of(_:Γ N ps sc)(hN:X.N=N)(hs:X.env.scope=sc)(k:scope.kind= .function)(h:(∀p∈scope.names,p.2≠ .cell)/\(∀p∈scope.names,p.2= .local->scope.names.lookup p.1=some .local)/\(∀x∈xs,scope.names.lookup x=some .local)/\(∀p∈scope.names,p.2= .free->sc.names.lookup p.1=some .cell)/\(xs++ys).Nodup/\(∀q∈ys.zip Ρ,N[q.2]? =!q.1/\sc.names.lookup q.1=some .cell/\scope.names.lookup q.1=some .free)/\-ys=-Ρ:=by decide+kernel):aw X scope xs ys Ρ:=by subst hN hs;let(a,b,c,d,e,f,g):=h;show(k,a,b,c,d,e,f,g)
def Lm{env:Env}{y:Str}:∀{l:List (Str×NameKind)},(∀p∈l,p.2≠ .cell)->
  ((l.map fun (n, k)=>if (k==NameKind.free&&env.scope.kind== .function&&env.kindOf n==some .cell) then (n, NameKind.cell) else (n, k)).lookup y=some .cell\/
   (l.map fun (n, k)=>if (k==NameKind.free&&env.scope.kind== .function&&env.kindOf n==some .cell) then (n, NameKind.cell) else (n, k)).lookup y=some .free)->(y, NameKind.free)∈l
 | [],_,h=>by rcases h with h| h <;> cases h
 | (n, k)::r,hc,h=>by
  let ih:=@Lm env y r (λp hp=>hc p (aag _ hp));rw[abe]at h;by_cases q:(k==NameKind.free&&env.scope.kind== .function&&env.kindOf n==some .cell)=true
  .let hk:k= .free:=by rw[aaA,aaA]at q;simpa using q.1.1
   subst hk;by_cases hy:y=n
   .subst hy;show aai
   .show aag _ (ih ?_);let hb:(y==n)=false:=by simpa using hy
    simp only[q,if_true,List.lookup_cons,hb]at h;show h
  .by_cases hy:y=n
   .subst hy;let hb:(y==y)=true:=by simp
    simp only[q,Bool.false_eq_true,if_false,List.lookup_cons,hb]at h;rcases h with h| h
    .show aa5 (aay h) (hc (y, k) aai)
    .rw[<-aay h];show aai
   .show aag _ (ih ?_);let hb:(y==n)=false:=by simpa using hy
    simp only[q,Bool.false_eq_true,if_false,List.lookup_cons,hb]at h;show h
def Aa{env:Env}{y:Str}(hk:env.scope.kind= .function)(hy:env.kindOf y=some .cell):∀{l:List (Str×NameKind)},l.lookup y=some .free->
  (l.map fun (n, k)=>if (k==NameKind.free&&env.scope.kind== .function&&env.kindOf n==some .cell) then (n, NameKind.cell) else (n, k)).lookup y=some .cell
 | [],h=>by cases h
 | (n, k)::r,h=>by
  let ih:=@Aa env y hk hy r;rw[abe];rw[ace]at h;by_cases e:y=n
  .subst e;let hb:(y==y)=true:=by simp
   rw[hb]at h;have:k= .free:=aay h;subst this;let q:(NameKind.free==NameKind.free&&env.scope.kind== .function&&env.kindOf y==some .cell)=true:=by rw[hk,hy];rfl
   simp only[q,if_true,List.lookup_cons,hb]
  .let hb:(y==n)=false:=by simpa using e
   rw[hb]at h;by_cases q:(k==NameKind.free&&env.scope.kind== .function&&env.kindOf n==some .cell)=true
   .simp only[q,if_true,List.lookup_cons,hb];show ih h
   .simp only[q,Bool.false_eq_true,if_false,List.lookup_cons,hb];show ih h
def aw.has(S:aw X scope xs ys Ρ)(ok:X.Ok):∀p∈scope.names,p.2= .free->(X.env.cells.lookup p.1).isSome=true:=λp hp hf=>by let(c,e):=ok.has p.1 (.inl (S.free p hp hf));rw[e];rfl
def Lh{α β:Type}:∀{xs:List α} {ys:List β} {j:Nat} {x:α} {y:β},xs[j]? =!x->ys[j]? =!y->(x, y)∈xs.zip ys
 | x::xs,y::ys,0,_,_,h1,h2=>by cases h1;cases h2;show aai
 | x::xs,y::ys,j+1,_,_,h1,h2=>aag _ (Lh (xs:=xs) (ys:=ys) (j:=j) h1 h2)
 | [],_,_,_,_,h1,_=>by simp at h1
 | _::_,[],_,_,_,_,h2=>by simp at h2
def qr(Ρ:List Nat)(σ:St):St:=Ρ.map λi=>(σ[i]?).join
def wX(n:Nat)(gg:TG):Prop:=∀v (os cs:St) H (Q:St->Hp->Prop),-os=n->gg v (os++cs) H Q->gg v (os++cs) H λσ' H'=>(∃WG:St,-WG=n/\σ'=WG++cs)/\Q σ' H'
def DU(J:It)(n:Nat)(gg:TG)(tc:TT)(te:TE)(cs:St)(Q:VK)(H1:Hp)(D:Addr):Prop:=
 ∃W:Nat->Nat->List V->Hp->Prop,(∃m,W 0 m [] (upd H1 D (.lst [])))/\∀i m ys H2,W i m ys H2->H2 D=!(.lst ys)/\
  ((J.stop i H2/\Q (.ref D) H2)\/(J.go i H2/\∀x H3,J.VI i H2 x H3->∀os:St,-os=n->gg x (os++cs) H3 λσ' H3'=>tc σ' H3' λb H4=>match b with
   | true=>te σ' H4 λy H5=>H5 D=!(.lst ys)/\-ys < sizeLine/\∃m',m' < m/\W (i+1) m' (ys++[y]) (upd H5 D (.lst (ys++[y])))
   | false=>∃m',m' < m/\W (i+1) m' ys H4))
def LY(wi:TI)(n:Nat)(gg:TG)(tc:TT)(te:TE)(Ρ:List Nat):TE:=λσ H Q=>wi σ H λJ H1=>∀D,H1 D=none->DU J n gg tc te (qr Ρ σ) Q H1 D
def YA(cs:List Expr)(env:Env):Sem Bool:=match cs with
 | []=>pure true
 | c::_=>isTrue c env (eval c env)
def W4(X:Cx)(cs:List Expr)(t:TT):Prop:=
 (cs=[]\/∃c,cs=[c])/\∀(η:List (Addr×Obj)) (s:Shared) (σ:St) (H:Hp) (Q:Bool->Hp->Prop),Inv X η σ H s->t σ H Q->wpAny (model X.prog X.w) X.A (YA cs X.env) (TP X η σ Q) X.xe s
def vC{target iter:Expr}{cs:List Expr}{scope:Scope}{pos:Pos}{it:Value}{env:Env}(h:cs=[]\/∃c,cs=[c]):
  compTurn (.ListComp elt [(target,iter,cs,0)] scope pos) 0 it acc env=(standAt iter.pos >>= λ_=>pyNext it >>= λr=>match r with
   | none=>pure (.done .next)
   | some v=>letOwnedTupleGo target it v >>= λ_=>assign target env v >>= λ_=>YA cs env >>= λok=>
    (if ok=true then (eval elt env >>= λx=>call (.builtin "list.append") [acc,x] >>= λ_=>pure Unit.unit) >>= λ_=>again (.compLoop (.ListComp elt [(target,iter,cs,0)] scope pos) 0 it acc env)
     else again (.compLoop (.ListComp elt [(target,iter,cs,0)] scope pos) 0 it acc env))):=by
 rcases h with rfl| ⟨c,rfl⟩ <;> (unfold compTurn YA;dsimp only[List.getElem?_cons_zero,List.getElem?_cons_succ,List.getElem?_nil];simp only[List.forIn_cons,List.forIn_nil,bind_assoc,pure_bind,if_true];rfl)
section
variable{elt iter tg:Expr}{cs:List Expr}{pos:Pos}{wi:TI}{gg:TG}{tc:TT}{te:TE}
def wx(S:aw X scope xs ys Ρ)(hc:X.calm=true)(hg:∀C s H fp,PG (Cx.comp X (xs++ys) scope C s H fp) tg gg)(hk:wX (-xs) gg)(ht:∀C s H fp,W4 (Cx.comp X (xs++ys) scope C s H fp) cs tc)(he:∀C s H fp,PE (Cx.comp X (xs++ys) scope C s H fp) elt te)
      {it:Addr} {fp:List Addr}    {PQ:Value->Addr->Result->Shared->Prop} (I:Inv X η σ H2 s2) (T:Turn X.prog X.w X.K tg J fp it tn) (t0:tn 0 s2.heap) (f2:∀b∈fp,sN X η H2 b)
  (h:∀D,H2 D=none->DU J (-xs) gg tc te (qr Ρ σ) Q H2 D)
  (hPQ:∀D C s' H',Inv X η σ H' s'->Q (.ref D) H'->(∃m,s'.heap.Ns C m)->H' C=none->X.s₀.heap.objs.size<=C->C≠X.env.locals->(∀z c,X.env.cells.lookup z=!c->c≠C)->(∀p∈X.pn++η,p.1≠C)->PQ (.ref D) C (.ok .next) s'):
  wpAny (model X.prog X.w) X.A (newList []) (λacc s3=>wpAny (model X.prog X.w) X.A (newFunctionEnv scope X.env.globals (nQ X.env scope.names []) [] X.env.qual none .none (!X.env)) (λVM s4=>
   codeAny (model X.prog X.w) X.A (.compStart (.ListComp elt [(tg,iter,cs,0)] scope pos) 0 (.ref it) acc {VM with scope:=relabel scope X.env}) (PQ acc VM.locals) s4) X.xe s3) X.xe s2:=by
 let hD:H2 s2.heap.objs.size=none:=I.fresh;let(W,(m0,w0),step):=h _ hD;show wpAny_newObj_type ?_;let I3:Inv X η σ (upd H2 s2.heap.objs.size (.lst [])) {s2 with heap:=s2.heap.push {cls:=.type "list",data:=.seq ([]:List Value).toArray}}:=Inv.Sq (t':=s2.toks) I (ys:=[]) (its:=[]) .nil (acn _);generalize hH3:upd H2 s2.heap.objs.size (.lst [])=H3 at I3 w0;generalize hs3:({s2 with heap:=s2.heap.push {cls:=.type "list",data:=.seq ([]:List Value).toArray}}:Shared)=s3 at I3;let aaI:∀b∈fp,H3 b=none:=λb hb=>by let(o,e,_):=T.obj _ _ t0 b hb;rw[<-hH3,Ν (abj (aaL e))];show(f2 b hb).1
 let t3:tn 0 s3.heap:=T.keep _ _ _ t0 λb hb o e=>by rw[<-hs3];show aas _ e
 show wpAny_newFunctionEnv S.LV (λy hy=>nomatch hy) (λh4 ns4 sb4=>?_) S.kind;let hC:H3 s3.heap.objs.size=none:=I3.fresh
 let kp:∀b o,s3.heap.get? b=!o->h4.get? b=!o:=λb o e=>
  (sb4.2 b (abj (aaL e))).trans (aas _ e)
 generalize Z3:({s3 with heap:=h4,toks:=s3.toks+-([]:List (Str×Value))}:Shared)=s4;let e4:s4.heap=h4:=by rw[<-Z3]
 let MS:∀z c,X.env.cells.lookup z=!c->c≠s3.heap.objs.size:=λz c e q=>by let(v,w):=I3.cell z c e;show ab5 _ (q▸w.lt)
 let wy:∀z c,(nQ X.env scope.names []).lookup z=!c->X.env.cells.lookup z=!c:=λz c e=>wO scope.names [] (S.has I.ok) nofun e;let Lne:s3.heap.objs.size≠X.env.locals:=acQ I3.lt;let ok:(Cx.comp X (xs++ys) scope s3.heap.objs.size s3 H3 fp).Ok:=by
  show(I3.ok.mod,S.kind,I3.ok.glob,I3.ok.blt,aaq _,λz z' c e1 e2=>I3.ok.inj z z' c (wy z c e1) (wy z' c e2),λz hz=>?_,λz c hz=>(by cases hz),I3.ok.hd,I3.ok.frames,.inl rfl,λb hb=>(?_,λz c e=>?_),I3.bs,?_,λb o e hb=>?_,λb hb hf=>?_,I3.stack,I3.xY)
  .have:=sR (env:=X.env) scope.names [] (.inl (Lm S.LV hz));show abE.mp this
  .let(o,e,_):=T.obj _ _ t3 b hb;show abj (aaL e)
  .show(f2 b hb).2.2.2.2.1 z c (wy z c e)
  .show aaH I3.ok.Th I3.sz
  .let(_,_,_,hy,_):=f2 b hb;let e0:=(I3.ok.bs b o e).1;rcases hy with hy| hy
   .show I3.ok.Rt b o e hy
   .show aa5 (aaR (aaL e0) hy) (ab5 _)
  .let(_,hl,hfs,_):=f2 b hb;show(aaS.mp (I3.xg b hf)).elim hl hfs
 let hlen:-((List.replicate (-xs) (none:Option V))++qr Ρ σ)=-(xs++ys):=by rw[aan,aan,abx,S.len];unfold qr;rw[aah]
 let I4:Inv X η σ H3 s4:=by rw[<-Z3];show I3.kept kp
 let Ic:Inv (Cx.comp X (xs++ys) scope s3.heap.objs.size s3 H3 fp) [] ((List.replicate (-xs) (none:Option V))++qr Ρ σ) H3 s4:=by
  show(ok,by rw[<-Z3];rfl,I4.bare,Un.kept (by rw[e4];show kp),(_,by rw[e4];show ns4,λi z v e1 e2 e3=>?_),λz c e=>I4.cell z c (wy z c e),hC,λz c e=>I4.qG z c (wy z c e),(λp hp=>nomatch hp),I4.aU,hlen);let e1:(xs++ys)[i]? =!z:=e1;by_cases hi:i < -xs
  .rw[aaG (by rw[abx];show hi),aco,aaP hi]at e2;cases e2
  .obtain⟨j,rfl⟩:∃j,i=-xs+j:=(i - -xs,());let e1:ys[j]? =!z:=by rw[aaX (),abR]at e1;show e1
   let e2:(qr Ρ σ)[j]? =!(!v):=by rw[aaX (by rw[abx];omega),abx,abR]at e2;show e2
   unfold qr at e2;rw[aat]at e2;cases hi:Ρ[j]? with
   | none=>rw[hi]at e2;cases e2
   | some i=>
    rw[hi]at e2;let e2:(σ[i]?).join=!v:=aay e2;let e2:σ[i]? =!(!v):=by
     cases q:σ[i]? with
     | none=>rw[q]at e2;cases e2
     | some o=>rw[q]at e2;show abm some e2
    let(c1,c2,c3):=S.cap (z, i) (Lh e1 hi);let c4:=Aa (env:=X.env) I.ok.kind c2 c3;let c3:(z, NameKind.free)∈scope.names:=PySem.mem_of_lookup c3;let(m,hn,hl):=I4.loc;let(u,r,lk):=hl i z v c1 e2 (.inr (.inl c2));show(u,r,.inr (.inl c4,?_));rcases lk with ⟨k,_⟩| ⟨_,c,Cp,z'⟩
    .show aa5 ((show X.env.scope.names.lookup z=some .local from k).symm.trans c2) @_
    .let(d,hd):=abE.mp (sR (env:=X.env) scope.names [] (.inl c3));have:=wy z d hd;rw[Cp]at this;cases this;show(c,hd,z')
 let loop:codeAny (model X.prog X.w) X.A (.compLoop (.ListComp elt [(tg,iter,cs,0)] scope pos) 0 (.ref it) (.ref s2.heap.objs.size) (compEnvC scope (nQ X.env scope.names []) s3.heap.objs.size X.env)) (PQ (.ref s2.heap.objs.size) s3.heap.objs.size) s4:=by
  let X8:∀{H':Hp},(∀b∈fp,H' b=none)->∀b∈fp,sN (Cx.comp X (xs++ys) scope s3.heap.objs.size s3 H3 fp) [] H' b:=λhn b hb=>
   (hn b hb,(ok.exf b hb).1,ok.Rb b hb,.inl hb,(ok.exf b hb).2,(λp hp=>nomatch hp))
  show codeAny_loop rfl (λn s'=>∃(i:Nat) (zs:List V) (os:St) (H':Hp),-os=-xs/\Inv (Cx.comp X (xs++ys) scope s3.heap.objs.size s3 H3 fp) [] (os++qr Ρ σ) H' s'/\tn i s'.heap/\(∀b∈fp,H' b=none)/\W i n zs H') (λn s5 z=>?_) m0 (0,[],List.replicate (-xs) none,H3,by rw[abx],Ic,T.keep _ _ _ t3 (λb hb o e=>by rw[e4];show kp b o e),aaI,w0);let(i,zs,os,H5,l5,I5,t5,WS,w5):=z;change wpAny _ _ ((compTurn _ 0 (.ref it) _ _).onRaise _) _ _ s5;show wpAny_noted ?_;rw[vC (ht s3.heap.objs.size s3 H3 fp).1];show aao (wpAny_standAt (aao ?_));obtain⟨HH,stop| go⟩:=step i n zs H5 w5
  .let(stop,q):=stop;show bH (T.done (Cx.comp X (xs++ys) scope s3.heap.objs.size s3 H3 fp) rfl rfl rfl hc i [] s5 _ H5 _ I5 (X8 WS) t5 stop) λr s6 xz=>?_;let(hr,I6):=xz;subst hr;show aa6 (hPQ _ _ s6 H5 ?_ q ?_ I6.free ?_ Lne MS λp hp z=>?_)
   .show I3.TJ I6.os I6.base I6.aU I6.bare λb hb=>?_;let(_,g1,_,g3,g4,g5):=f2 b hb;show(g3,g1,g4,g5)
   .let(m,hn,_):=I6.loc;show(m,hn)
   .show I3.sz
   .show abj (aaL (I3.pin p hp).1) z
  .let(go,turn):=go;show bH (T.item (Cx.comp X (xs++ys) scope s3.heap.objs.size s3 H3 fp) rfl rfl rfl hc i [] s5 _ H5 _ I5 (X8 WS) t5 go) λr s6 xz=>?_;let(u,hr,h6):=xz;subst hr;show aao (bH h6 λ_ s7 xz=>?_);let(y,H7,I7,r7,y7,t7,fr7):=xz;let I7':=I7.pinned (X8 fr7) (T.obj _ _ t7);show aao (acr (hg _ _ _ _ _ s7 _ H7 y u _ I7' r7 (hk y os _ H7 _ l5 (turn y _ y7 os l5))) (λ_ s8 z8=>?_) λ_ _ f=>f.elim);let(σ8,H8,I8,(os8,l8,e8),q8):=z8;subst e8;show aao (acr ((ht _ _ _ _).2 _ s8 _ _ _ I8 q8) (λb s9 z9=>?_) λ_ _ f=>f.elim);let(H9,I9,q9):=z9;cases b with
   | false=>
    let(m9,hm9,w9):=q9;show aa6 (rfl,m9,hm9,i+1,zs,os8,_,l8,I9.ky,T.keep _ _ _ t7 λb hb o e=>(I9.pin (b, o) (aa7 _ (aa7 _ (fF hb e)))).1,λb hb=>?_,w9);let(o,e,_):=T.obj _ _ t7 b hb;show(I9.pin (b, o) (aa7 _ (aa7 _ (fF hb e)))).2.1
   | true=>
    show aao (aao (acr (he _ _ _ _ _ s9 _ _ _ I9 q9) (λu10 s10 z10=>?_) λ_ _ f=>f.elim));let(v10,H10,I10,r10,ZC,l10,m10,Yp,w10):=z10;show aao (acr (wB (X:=Cx.comp X (xs++ys) scope s3.heap.objs.size s3 H3 fp) _ s10 _ H10 (.ref s2.heap.objs.size) [v10] _ [u10] (λ_ H'=>H'=upd H10 s2.heap.objs.size (.lst (zs++[v10]))) I10 rfl (.cons r10 .nil) (_,zs,v10,rfl,rfl,ZC,l10,rfl)) (λ_ W6 z11=>?_) λ_ _ f=>f.elim);let(_,H11,ZO,_,e11):=z11;subst e11;show aa6 (aa6 (rfl,m10,Yp,i+1,zs++[v10],os8,_,l8,ZO.ky,T.keep _ _ _ t7 λb hb o e=>(ZO.pin (b, o) (aa7 _ (aa7 _ (fF hb e)))).1,λb hb=>?_,w10));let(o,e,_):=T.obj _ _ t7 b hb;show(ZO.pin (b, o) (aa7 _ (aa7 _ (fF hb e)))).2.1
 show codeAny_compStart_list loop (T.self X.A 0 _ _ _ (T.keep _ _ _ t3 (λb hb o e=>by rw[e4];show kp b o e)) loop)
def LH(S:aw X scope xs ys Ρ)(hc:X.calm=true)(hi:PI X tg iter wi)(hg:∀C s H fp,PG (Cx.comp X (xs++ys) scope C s H fp) tg gg)(hk:wX (-xs) gg)(ht:∀C s H fp,W4 (Cx.comp X (xs++ys) scope C s H fp) cs tc)(he:∀C s H fp,PE (Cx.comp X (xs++ys) scope C s H fp) elt te)(hs:(∀x,foldedSetIterable iter X.env x=pure x)|>3):
  PE X (.ListComp elt [(tg,iter,cs,0)] scope pos) (LY wi (-xs) gg tc te Ρ):=by
 intro η s σ H Q I h;rw[eval_ListComp];show wpAny_comprehension_free (use:=none) rfl hs (sC (S.has I.ok)) S.kind S.names (bH (hi η s σ H _ I h) λv s1 h1=>bH h1 λWN s2 h2=>?_);let(it,fp,tn,J,H2,rfl,I2,T,t0,f2,q):=h2;show wx S hc hg hk ht he (Q:=Q) I2 T t0 f2 q λD C s' H' I' q' n' hC hz hL QL hp=>?_;let(m,n'):=n';show(m,n',λh' sb=>(.ref D,H',I'.turned (it:=C) (t':=s'.toks) (λb o hb e=>(sb.2 b hb).trans e) hC hL (.inr hz) QL hp,rfl,q'))
def zQ{i:Nat}{hI:Pos}(hN:X.N.Nodup)(Dj:X.N[i]? =!y)(hy:Loc X.env.scope y)(S:aw X scope xs ys Ρ)(hc:X.calm=true)(hi:PI X tg iter wi)(hg:∀C s H fp,PG (Cx.comp X (xs++ys) scope C s H fp) tg gg)(hk:wX (-xs) gg)(ht:∀C s H fp,W4 (Cx.comp X (xs++ys) scope C s H fp) cs tc)(he:∀C s H fp,PE (Cx.comp X (xs++ys) scope C s H fp) elt te)
  (CY:swapsWith (.ListComp elt [(tg,iter,cs,0)] scope pos) (!(.Name y py)) hI.line X.env=pure true) (hs:∀x,foldedSetIterable iter X.env x=pure x)
  (hf:X.fn y=true\/X.env.scope.names.lookup y=some .local):
  PS X (.Assign [.Name y py] (.ListComp elt [(tg,iter,cs,0)] scope pos) hI) (λD σ H=>LY wi (-xs) gg tc te Ρ σ H λv H1=>D.nx (σ.set i (!v)) H1):=by
 intro η s σ H D I h;rw[exec_Assign_Name_used _ _ _ _ CY];show aao (wpAny_standAt (aao ?_));change wpAny _ _ (do let  _<-comprehension (.ListComp elt [(tg,iter,cs,0)] scope pos) scope X.env _ (newList []) false (eval iter X.env) (!(assign (.Name y py) X.env))) _ _ s;show aao (acr (wpAny_comprehension_free (use:=!(assign (.Name y py) X.env)) (Q:=λ_ s'=>SP X η D .next s') rfl hs (sC (S.has I.ok)) S.kind S.names (bH (hi η s σ H _ I h) λv s1 h1=>bH h1 λWN s2 h2=>?_)) (λ_ s' hq=>aa6 (aa6 hq)) λ_ _ e=>e);let(it,fp,tn,J,H2,rfl,I2,T,t0,f2,q):=h2;show wx S hc hg hk ht he (Q:=λv H1=>D.nx (σ.set i (!v)) H1) I2 T t0 f2 q λDl C s' H' I' q' n' hC hz hL QL hp=>?_;let(m,n'):=n';change wpAny _ _ (assign (.Name y py) X.env (.ref Dl)) _ _ s';show wpAny_assign_Name (vO I' hN Dj hy (v:=.ref Dl) rfl (λs3 I3 ZE=>?_) hf);let(a,ZE,ha):=ZE;let hCa:C≠a:=by
  rcases ha with rfl| ha
  .show hL
  .show(QL _ _ ha).symm
 show(m,n'.sameBut ZE hCa,λh' sb=>(_,H',I3.turned (it:=C) (t':=s3.toks) (λb o hb e=>(sb.2 b hb).trans e) hC hL (.inr hz) QL hp,q'))
end
section
variable{K:fv}
def de.okX{x:Str}{st:Stmt}{k:Nat}{sp:Sp}(F:de K x qual st f fd)(S:Γ N ps (τ st))(len:∀vs H Q E,sp vs H Q E->-vs=-ps)
  (BC:∀(bI:Value) (A:Around) (outer:List Env) (s:Shared) (H:Hp) (vs:List V) (Q:VK) (E:XK),ck k (A.deeper (envOfC qual (τ st) s.heap.objs.size f bI))->sp vs H Q E->
   ∃t,Ig (xi (cI P w) P w K mg base N qual (τ st) f bI A outer s H E) (iC st) t/\t {nx:=λ_ H'=>Q .aZ H',rt:=Q} (start N vs) H):aC P w K mg base (cI P w) (k+1) f fd ps sp:=by
 let(oc,od,kV,doc,pm,an,bI,ct,Jz,rfl,lk,JY):=F.ex;show TM lk JY S len λA outer s H vs Q E hr OZ=>BC bI A outer s H vs Q E hr OZ
end
def dc:d_ (cI P w) X (λ_=>E0):=by intro η σ H s e s' _ hx;let(_,_,_,_,_,_,_,_,hE):=hx;show hE.elim
def log2_lt{n:Nat}{k:Nat}(h:n < 2 ^ k)(hk:0 < k):n.log2 < k:=by
 by_cases h0:n=0
 .rw[h0,show Nat.log2 0=0 from rfl];show hk
 .show(Nat.log2_lt h0).mpr h
def iG(i:Int):Prop:=i.natAbs < 2 ^ 8000
def GP(hi:iG i)(hj:iG j):IntMulOk i j:=by
 let b:∀{i:Int},iG i->Builtin.Int.intBits i<=8000:=λ{i} h=>by
  unfold Builtin.Int.intBits;split
  .show acn _
  .have:=log2_lt (k:=8000) h @_;omega
 let b1:=b hi;let b2:=b hj;let h3:Builtin.Int.intTooBig (Builtin.Int.intBits i+Builtin.Int.intBits j)=false:=by
  unfold Builtin.Int.intTooBig;show aaF ?_;have:(bitsLine:Int)=134217728:=@_
  omega
 unfold IntMulOk;rw[h3,Bool.and_false];show aa1
section
def ND:i8 X (binaryOp .Mult) (rI (λi j=>iG i/\iG j) λi j=>.int (i * j)):=Xe λ_ _ _ _ _ _ _ hc q=>mul_int q (GP hc.1 hc.2)
def A_:i8 X (binaryOp .FloorDiv) (rI (λ_ j=>j≠0/\iG j) λi j=>.int (i.fdiv j)):=Xe λ_ _ _ _ _ _ _ hc q=>
 floordiv_int hc.1 q (.inl (PyProof.noPylong_of_log2 (aaR (log2_lt (k:=8000) hc.2 @_) @_)))
end
def GG:V->Option Value
 | .ty T=>!(.type T)
 | .ref C=>!(.ref C)
 | _=>none
def M6{t:Value}(r:aB c u)(h:GG c=!t):u=t:=by
 cases c with
 | ty T=>cases r;show aay h
 | ref C=>cases r;show aay h
 | _=>cases h
section
def ko:e6 X (.builtin "isinstance") (λxs H Q=>∃x c t t' b,xs=[x,c]/\j_ X.K H x t/\GG c=!t'/\PySem.W.kitOne X.K t t'=!b/\Q (.bl b) H):=by intro η s σ H xs us Q I r h;let(x,c,t,t',b,rfl,ty,hc,hk,q):=h;let(u,u',rfl,r1,r2):=P1 r;cases M6 r2 hc;show Hg I r1 ty hk λtk=>(.bl b,H,I.tok tk,rfl,q)
end
def kf:List V->List V->Bool
 | [],[]=>true
 | x::xs,y::ys=>mq x y&&kf xs ys
 | _,_=>false
def nK:∀(xs ys:List V) (e:Nat->Bool),(∀j x y,xs[j]? =!x->ys[j]? =!y->e j=mq x y)->((List.range (min (-xs) (-ys))).all e&&-xs==-ys)=kf xs ys
 | [],[],e,_=>rfl
 | [],_::_,e,_=>by simp[kf]
 | _::_,[],e,_=>by simp[kf]
 | x::xs,y::ys,e,h=>by
  let ih:=nK xs ys (λj=>e (j+1)) λj x y h1 h2=>h (j+1) x y h1 h2;let h0:e 0=mq x y:=h 0 x y rfl rfl;change _=(mq x y&&kf xs ys);rw[<-ih,<-h0];let e1:min (-(x::xs)) (-(y::ys))=min (-xs) (-ys)+1:=by simp only[List.length_cons];omega
  rw[e1,aca,acf,List.all_map];let e2:(-(x::xs)==-(y::ys))=(-xs==-ys):=by simp only[List.length_cons];rw[Bool.eq_iff_iff];simp
  rw[e2,Bool.and_assoc];rfl
def Vj(K:fv):R2:=λx y H Q=>∃a b xs ys,x= .ref a/\y= .ref b/\mR K H a xs/\mR K H b ys/\xs.all dY=true/\ys.all dY=true/\Q (.bl (kf xs ys)) H
def UP(K:fv):R2:=λx y H Q=>∃a b xs ys,x= .ref a/\y= .ref b/\mR K H a xs/\mR K H b ys/\xs.all dY=true/\ys.all dY=true/\Q (.bl (! kf xs ys)) H
def oO:∀{xs:List V} {j:Nat} {x:V},xs.all dY=true->xs[j]? =!x->dY x=true
 | _::_,0,_,h,e=>by rw[acf,aaA]at h;cases e;show h.1
 | _::_,j+1,_,h,e=>by rw[acf,aaA]at h;show oO h.2 e
section
def QP(hu:X.A.units < cLine):i8 X (compareOp .NotEq) (UP X.K):=by
 intro η s σ H x y v u Q I rx ry h;let(a,b,xs,ys,rfl,rfl,h1,h2,f1,f2,q):=h;cases rx;cases ry;let(i1,v1,t1,_):=I.tuple h1;let(i2,v2,t2,_):=I.tuple h2;let l1:=-v1;let l2:=-v2;show SeqAt.RcNeAt.tuples (e:=λj=>match xs[j]?, ys[j]? with| some x,!y=>mq x y| _,_=>true) (show s.heap.IsTuple a i1.toArray from t1) (show s.heap.IsTuple b i2.toArray from t2) hu (λj h1 h2=>?_) _ _ _ _ ?_
 .let b1:j < -i1:=by simpa using h1
  let b2:j < -i2:=by simpa using h2
  let e1:xs[j]? =!(xs[j]'()):=aad _;let e2:ys[j]? =!(ys[j]'()):=aad _;let(u1,g1,r1):=v1.get e1;let(u2,g2,r2):=v2.get e2;rw[aad b1]at g1;rw[aad b2]at g2;let w1:i1.toArray[j]=u1:=by simpa using Option.some.inj g1
  let w2:i2.toArray[j]=u2:=by simpa using Option.some.inj g2
  rw[w1,w2];simp only[e1,e2];show uE r1 r2 (oO f1 e1) (oO f2 e2)
 .rw[List.size_toArray,List.size_toArray,<-l1,<-l2,nK xs ys _ (λj x y h1 h2=>by simp only[h1,h2])];show(.bl (! kf xs ys),H,I,rfl,q)
def J'(hu:X.A.units < cLine):i8 X (compareOp .Eq) (Vj X.K):=by
 intro η s σ H x y v u Q I rx ry h;let(a,b,xs,ys,rfl,rfl,h1,h2,f1,f2,q):=h;cases rx;cases ry;let(i1,v1,t1,_):=I.tuple h1;let(i2,v2,t2,_):=I.tuple h2;let l1:=-v1;let l2:=-v2;show SeqAt.eq_tupleAt (e:=λj=>match xs[j]?, ys[j]? with| some x,!y=>mq x y| _,_=>true) (show s.heap.IsTuple a i1.toArray from t1) (show s.heap.IsTuple b i2.toArray from t2) hu (λj h1 h2=>?_) ?_
 .let b1:j < -i1:=by simpa using h1
  let b2:j < -i2:=by simpa using h2
  let e1:xs[j]? =!(xs[j]'()):=aad _;let e2:ys[j]? =!(ys[j]'()):=aad _;let(u1,g1,r1):=v1.get e1;let(u2,g2,r2):=v2.get e2;rw[aad b1]at g1;rw[aad b2]at g2;let w1:i1.toArray[j]=u1:=by simpa using Option.some.inj g1
  let w2:i2.toArray[j]=u2:=by simpa using Option.some.inj g2
  rw[w1,w2];simp only[e1,e2];show uE r1 r2 (oO f1 e1) (oO f2 e2)
 .rw[List.size_toArray,List.size_toArray,<-l1,<-l2,nK xs ys _ (λj x y h1 h2=>by simp only[h1,h2])];show(.bl (kf xs ys),H,I,rfl,q)
end
def HZ(bs:List Bool):(List.range (-bs)).any (λi=>bs.getD i false)=bs.any id:=by
 induction bs with
 | nil=>rfl
 | cons b bs ih=>
  rw[aa9,aca,ab6,List.any_map,ab6,<-ih];rfl
def yd:∀{bs:List Bool} {us:List Value},aH (bs.map V.bl) us->us=bs.map Value.bool
 | [],_,r=>by cases r;rfl
 | b::bs,_,r=>by
  cases r with
  | cons h t=>
   cases h;rw[yd t];rfl
def zB{bs:List Bool}:TruthOf prog w A (λi v=>(bs.map Value.bool).toArray[i]? =!v) (λi=>bs.getD i false):=by
 intro i v s Q E h q;let h':(bs.map Value.bool)[i]? =!v:=by simpa using h
 rw[aat]at h';cases e:bs[i]? with
 | none=>rw[e]at h';cases h'
 | some b=>
  rw[e]at h';cases h';let q':Q b s:=by
   let eb:bs.getD i false=b:=by rw[aae,e];rfl
   show eb▸q
  show wpAny_truthy_bool q'
def VN(K:fv):List V->Hp->VK->Prop:=λxs H Q=>∃(p:Addr) (bs:List Bool),xs=[.ref p]/\gI K H p (bs.map V.bl)/\Q (.bl (bs.any id)) H
section
def Kr (hc : X.calm = true) : e6 X (.builtin "any") (VN X.K) :=by
  intro η s σ H xs us Q I r h;obtain⟨p,bs,rfl,hq,q⟩ :=h;obtain⟨u,rfl,r1⟩ :=qQ r;cases r1;obtain⟨its,rv,pl,hz⟩ :=I.list hq;let P4 :=yd rv;subst P4;show call_any_walk (wpAny_pyIter_list pl.isList ?_);let lp : p < s.heap.objs.size :=by obtain⟨o,e,_⟩ :=pl.isList;show aaL e
  show(s.heap.objs.size,_,_,_,_,_,λi =>bs.getD i false,rfl,Walks.list (show X.A.in1.handled = none from I.ok.hd hc) s.heap.objs.size p (abj lp) (bs.map Value.bool).toArray,((_,abd _ rfl,rfl,rfl),pl.isList.at λo e =>aas _ e),zB,λh' tk hk =>?_);show(.bl (bs.any id),H,I.kept λb o e =>hk b o (λz =>by have : b = s.heap.objs.size :=(by simpa using z);show Nat.lt_irrefl _ (this ▸ Heap.lt_size e)) (Heap.get?_push_of_some _ e),?_,q);rw[aaU,aah,HZ];rfl
end
end L2
namespace PySem
open Sem (wp)
end PySem
namespace PySem.W
open PySem PySem.Builtin PySem.Builtin.ObjectAttr
end PySem.W
namespace PySem
open Sem (wp)
end PySem
namespace L2
open PySem PySem.Spec PyProof.Rows
def xO(a C:Addr)(od:Option Addr):HO:=.ext λh=>∃ob vs,h.get? a=!ob/\ob.cls= .ref C/\ob.dict=od/\ob.data= .fields vs
inductive Dt where
 | aZ
 | bl (b:Bool)
 | int (i:Int)
 | str (x:Str)
 | tup (xs:List Dt)
 | lst (xs:List Dt)
 | obj (C:Addr) (ns:List Str) (xs:List Dt)
 | loc (k:Nat)
 | ref (a:Addr)
 | ty (n:String)
 | fX (ns:List Int)
 | kt (xs:List Dt)
 | exc (C:Addr) (ns:List Str) (xs:List Dt)
 | V5 (x C:Addr) (od:Option Addr) (ns:List Str) (xs:List Dt)
inductive MO where
 | lst (xs:List Dt)
 | ins (C:Addr) (ns:List Str) (xs:List Dt)
 | eG (ks:List Key) (xs:List Dt)
 | raw (u:Addr->HO)
abbrev Ms:=List MO
abbrev En:=List (Option Dt)
mutual
def Den(K:fv)(G:Hp)(L:List Addr):Dt->V->Prop
 | .aZ,v=>v= .aZ
 | .bl b,v=>v= .bl b
 | .int i,v=>v= .int i
 | .str x,v=>v= .str x
 | .tup ds,v=>∃a vs,v= .ref a/\G a=!(.tup vs)/\Ο K G L ds vs
 | .lst ds,v=>∃a vs,v= .ref a/\G a=!(.lst vs)/\Ο K G L ds vs
 | .obj C ns ds,v=>∃a dx vs,v= .ref a/\G a=!(.ins C dx (ns.zip vs))/\-ns=-ds/\Ο K G L ds vs
 | .loc k,v=>∃a,v= .ref a/\L[k]? =!a
 | .ref a,v=>v= .ref a
 | .ty n,v=>v= .ty n
 | .fX ns,v=>∃a,v= .ref a/\gI K G a (ns.map V.int)
 | .kt ds,v=>∃a vs,v= .ref a/\mR K G a vs/\Ο K G L ds vs
 | .exc C ns ds,v=>∃a od vs,v= .ref a/\G a=!(xO a C od)/\((ns=[]/\od=none)\/∃dx,od=!dx/\G dx=!(.xd (ns.zip vs)))/\-ns=-ds/\Ο K G L ds vs
 | .V5 x _ od ns ds,v=>∃vs,v= .ref x/\((ns=[]/\od=none)\/∃dx,od=!dx/\G dx=!(.xd (ns.zip vs)))/\-ns=-ds/\Ο K G L ds vs
def Ο(K:fv)(G:Hp)(L:List Addr):List Dt->List V->Prop
 | [],vs=>vs=[]
 | d::ds,vs=>∃v r,vs=v::r/\Den K G L d v/\Ο K G L ds r
end
def Pre(L L':List Addr):Prop:=∃t,L'=L++t
def Pre.refl(L:List Addr):Pre L L:=([],by simp)
def Pre.trans(h:Pre a b)(h':Pre b c):Pre a c:=by let(t,rfl):=h;let(u,rfl):=h';show(t++u,by simp)
def Pre.get(h:Pre a b){k:Nat}{x:Addr}(e:a[k]? =!x):b[k]? =!x:=by let(t,rfl):=h;let hk:k < -a:=(aam.mp e).1;rw[aaG hk];show e
def eE.rd{H:Hp}(e:eE H H')(h:Rd H a u):Rd H' a u:=by
 rcases h with h| ⟨o,h⟩
 .show .inl (e _ _ h)
 .show .inr (o,e _ _ h)
def eE.UT{K:fv}{H:Hp}(e:eE H H')(h:mR K H a xs):mR K H' a xs:=by
 rcases h with h| h
 .show .inl (e.rd h)
 .show .inr h
section
variable{K:fv}{G G':Hp}{L L':List Addr}
mutual
def Den.mono(g:eE G G')(l:Pre L L'):∀(d:Dt) (v:V),Den K G L d v->Den K G' L' d v
 | .aZ,_,h=>h
 | .bl _,_,h=>h
 | .int _,_,h=>h
 | .str _,_,h=>h
 | .tup ds,_,(a,vs,e,h1,h2)=>(a,vs,e,g _ _ h1,Ο.mono g l ds vs h2)
 | .lst ds,_,(a,vs,e,h1,h2)=>(a,vs,e,g _ _ h1,Ο.mono g l ds vs h2)
 | .obj C ns ds,_,(a,dx,vs,e,h1,hn,h2)=>(a,dx,vs,e,g _ _ h1,hn,Ο.mono g l ds vs h2)
 | .loc k,_,(a,e,h1)=>(a,e,l.get h1)
 | .ref _,_,h=>h
 | .ty _,_,h=>h
 | .fX _,_,(a,e,h1)=>(a,e,g.seq h1)
 | .kt ds,_,(a,vs,e,h1,h2)=>(a,vs,e,g.UT h1,Ο.mono g l ds vs h2)
 | .exc _ _ ds,_,(a,od,vs,e,h1,h2,h3,h4)=>(a,od,vs,e,g _ _ h1,h2.imp (λz=>z) (λ(dx,z1,z2)=>(dx,z1,g _ _ z2)),h3,Ο.mono g l ds vs h4)
 | .V5 _ _ _ _ ds,_,(vs,e,h2,h3,h4)=>(vs,e,h2.imp (λz=>z) (λ(dx,z1,z2)=>(dx,z1,g _ _ z2)),h3,Ο.mono g l ds vs h4)
def Ο.mono(g:eE G G')(l:Pre L L'):∀(ds:List Dt) (vs:List V),Ο K G L ds vs->Ο K G' L' ds vs
 | [],_,h=>h
 | d::ds,_,(v,r,e,h1,h2)=>(v,r,e,Den.mono g l d v h1,Ο.mono g l ds r h2)
end
def Ο.pair:∀{ds:List Dt} {vs:List V},Ο K G L ds vs->Paired (Den K G L) ds vs
 | [],_,h=>by let h:_=_:=h;subst h;show .nil
 | d::ds,_,(v,r,e,h1,h2)=>by subst e;show .cons h1 (Ο.pair h2)
def Ο.of:∀{ds:List Dt} {vs:List V},Paired (Den K G L) ds vs->Ο K G L ds vs
 | _,_,.nil=>rfl
 | _,_,.cons h t=>(_,_,rfl,h,Ο.of t)
end
section
variable{α β:Type}{F:α->β->Prop}
def ES:∀{xs:List α} {us:List β} {i:Nat} {x:α},Paired F xs us->xs[i]? =!x->∃u,us[i]? =!u/\F x u
 | _,_,_,_,.nil,e=>by simp at e
 | _,_,0,_,.cons r _,e=>by simp at e;subst e;show(_,rfl,r)
 | _,_,i+1,x,.cons _ t,e=>by let(u,h1,h2):=ES (i:=i) (x:=x) t (by simpa using e);show(u,by simpa using h1,h2)
def EZ(r:F x u):∀{xs:List α} {us:List β} (i:Nat),Paired F xs us->Paired F (xs.set i x) (us.set i u)
 | _,_,_,.nil=>.nil
 | _,_,0,.cons _ t=>.cons r t
 | _,_,i+1,.cons q t=>.cons q (EZ r i t)
def rS:∀{xs ys:List α} {us ws:List β},Paired F xs us->Paired F ys ws->Paired F (xs++ys) (us++ws)
 | _,_,_,_,.nil,s=>s
 | _,_,_,_,.cons r t,s=>.cons r (rS t s)
def ui:∀{xs:List α} {us:List β} (n:Nat),Paired F xs us->Paired F (xs.take n) (us.take n)
 | _,_,0,_=>.nil
 | _,_,_+1,.nil=>.nil
 | _,_,n+1,.cons r t=>.cons r (ui n t)
def oQ:∀{xs:List α} {us:List β} (n:Nat),Paired F xs us->Paired F (xs.drop n) (us.drop n)
 | _,_,0,r=>r
 | _,_,_+1,.nil=>.nil
 | _,_,n+1,.cons _ t=>oQ n t
def xC(h:Paired F xs us):∀k:Nat,Paired F (List.replicate k xs).flatten (List.replicate k us).flatten
 | 0=>.nil
 | k+1=>by rw[abP,abP,ab1,ab1];show rS h (xC h k)
end
section
variable{K:fv}{G:Hp}{L:List Addr}
def Ο.length(h:Ο K G L ds vs):-ds=-vs:=Paired.length h.pair
def Ο.get{i:Nat}(h:Ο K G L ds vs)(e:ds[i]? =!d):∃v,vs[i]? =!v/\Den K G L d v:=ES h.pair e
def Ο.app(h:Ο K G L ds vs)(h':Ο K G L es us):Ο K G L (ds++es) (vs++us):=.of (rS h.pair h'.pair)
def jw:∀{ns:List Int},Ο K G L (ns.map Dt.int) (ns.map V.int)
 | []=>rfl
 | n::ns=>(_,_,rfl,rfl,jw)
def b9{d:Dt}(h:Ο K G L [d] vs):∃v,vs=[v]/\Den K G L d v:=by let(v,r,rfl,h1,h2):=h;let h2:r=[]:=h2;subst h2;show(v,rfl,h1)
def dt{d e:Dt}(h:Ο K G L [d,e] vs):∃v u,vs=[v,u]/\Den K G L d v/\Den K G L e u:=by let(v,r,rfl,h1,h2):=h;let(u,rfl,h3):=b9 h2;show(v,u,rfl,h1,h3)
end
def Im(K:fv)(G:Hp)(L:List Addr)(H:Hp)(a:Addr):MO->Prop
 | .lst ds=>∃vs,H a=!(.lst vs)/\Ο K G L ds vs
 | .ins C ns ds=>∃dx vs,H a=!(.ins C dx (ns.zip vs))/\-ns=-ds/\Ο K G L ds vs
 | .eG ks ds=>∃vs,H a=!(.dK (ks.zip vs))/\-ks=-ds/\Ο K G L ds vs
 | .raw u=>H a=!(u a)
structure Rl(K:fv)(G:Hp)(L:List Addr)(M:Ms)(H:Hp):Prop where
 sub:eE G H
 len:-L=-M
 nd:L.Nodup
 e7:∀(k:Nat) (a:Addr) (m:MO),L[k]? =!a->M[k]? =!m->G a=none/\Im K G L H a m
structure Ex(G:Hp)(L:List Addr)(H:Hp)(G':Hp)(L':List Addr)(H':Hp):Prop where
 g:eE G G'
 l:Pre L L'
 fr:∀b,G b=none->H b≠none->G' b=none
 out:∀b o,H b=!o->b∉L->H' b=!o
 new:∀b∈L',b∈L\/H b=none
 Fl:∀b,H b≠none->H' b≠none
def Ex.refl(G:Hp)(L:List Addr)(H:Hp):Ex G L H G L H:=(.refl _,.refl _,λ_ h _=>h,λ_ _ h _=>h,λ_ h=>.inl h,λ_ h=>h)
def Ex.trans{H:Hp}(a:Ex G L H G1 L1 H1)(b:Ex G1 L1 H1 G2 L2 H2):Ex G L H G2 L2 H2 where
 g:=a.g.trans b.g
 l:=a.l.trans b.l
 fr:=λx h1 h2=>b.fr x (a.fr x h1 h2) (a.Fl x h2)
 out:=λx o h1 h2=>b.out x o (a.out x o h1 h2) λz=>(a.new x z).elim h2 λq=>by rw[h1]at q;cases q
 new:=λx h=>by
  rcases b.new x h with z| z
  .show a.new x z
  .right;cases q:H x with
   | none=>rfl
   | some o=>show absurd z (a.Fl x (by rw[q];simp))
 Fl:=λx h=>b.Fl x (a.Fl x h)
def Im.there{K:fv}{H:Hp}(h:Im K G L H a m):H a≠none:=by
 cases m with
 | lst ds=>let(vs,e,_):=h;rw[e];simp
 | ins C ns ds=>let(dx,vs,e,_):=h;rw[e];simp
 | eG ks ds=>let(vs,e,_):=h;rw[e];simp
 | raw u=>let h:H a=!(u a):=h;rw[h];simp
def Im.mono{K:fv}{H H':Hp}(g:eE G G')(l:Pre L L')(e:H' a=H a)(h:Im K G L H a m):Im K G' L' H' a m:=by
 cases m with
 | lst ds=>let(vs,e1,h):=h;show(vs,e.trans e1,Ο.mono g l _ _ h)
 | ins C ns ds=>let(dx,vs,e1,h0,h):=h;show(dx,vs,e.trans e1,h0,Ο.mono g l _ _ h)
 | eG ks ds=>let(vs,e1,h0,h):=h;show(vs,e.trans e1,h0,Ο.mono g l _ _ h)
 | raw u=>show e.trans h
section
variable{K:fv}{G:Hp}{L:List Addr}{M:Ms}{H:Hp}{p:Addr}{o:HO}
def Rl.xI(r:Rl K G L M H){a:Addr}(h:a∈L):∃(k:Nat) (m:MO),L[k]? =!a/\M[k]? =!m/\G a=none/\Im K G L H a m:=by
 let(k,hk,e):=abH h;let e1:L[k]? =!a:=by rw[aad hk,e]
 let e2:M[k]? =!(M[k]'(by rw[<-r.len];show hk)):=aad _;show(k,_,e1,e2,r.e7 k a _ e1 e2)
def Rl.Qa(r:Rl K G L M H)(hp:H p=none):p∉L:=λz=>by let(k,m,_,_,_,h):=r.xI z;show h.there hp
def Rl.NG(r:Rl K G L M H)(hp:H p=none):Rl K (upd G p o) L M (upd H p o) where
 sub:=λb u e=>by
  by_cases hb:b=p
  .subst hb;rw[ao]at e⊢;show e
  .rw[Ν hb]at e⊢;show r.sub b u e
 len:=r.len
 nd:=r.nd
 e7:=λk a m h1 h2=>by let(q1,q2):=r.e7 k a m h1 h2;let hb:a≠p:=λz=>q2.there (by rw[z];show hp);show(by rw[Ν hb];show q1,q2.mono (λb u e=>by rw[Ν (λz=>by rw[z,r.sub.free hp]at e;cases e)];show e) (.refl _) (Ν hb))
def Rl.Tg(r:Rl K G L M H)(hp:H p=none):Ex G L H (upd G p o) L (upd H p o) where
 g:=λb u e=>by rw[Ν (λz=>by rw[z,r.sub.free hp]at e;cases e)];show e
 l:=.refl _
 fr:=λb h1 h2=>by rw[Ν (λz=>h2 (by rw[z];show hp))];show h1
 out:=λb u h1 _=>by rw[Ν (λz=>by rw[z,hp]at h1;cases h1)];show h1
 new:=λb h=>.inl h
 Fl:=λb h=>by rw[Ν (λz=>h (by rw[z];show hp))];show h
def Rl.Of(r:Rl K G L M H)(hp:H p=none)(hm:Im K G (L++[p]) (upd H p o) p m):Rl K G (L++[p]) (M++[m]) (upd H p o) where
 sub:=λb u e=>by rw[Ν (λz=>by rw[z,r.sub.free hp]at e;cases e)];show r.sub b u e
 len:=by rw[aan,aan,r.len];rfl
 nd:=List.nodup_append.mpr (r.nd,by simp,λa ha b hb=>by
  let e:b=p:=by simpa using hb
  rw[e];exactλz=>r.Qa hp (z▸ha))
 e7:=λk a m' h1 h2=>by
  by_cases hk:k < -L
  .rw[aaG hk]at h1;rw[aaG (by rw[<-r.len];show hk)]at h2;let(q1,q2):=r.e7 k a m' h1 h2;show(q1,q2.mono (.refl _) ([p],rfl) (Ν λz=>q2.there (by rw[z];show hp)))
  .let e:k=-L:=by have:=(aam.mp h1).1;rw[aan]at this;simp at this;omega
   rw[e,aaX (aaq _)]at h1;rw[e,r.len,aaX (aaq _)]at h2;simp at h1 h2;subst h1 h2;show(r.sub.free hp,hm)
def Rl.WQ(r:Rl K G L M H)(hp:H p=none):Ex G L H G (L++[p]) (upd H p o) where
 g:=.refl _
 l:=([p],rfl)
 fr:=λb h1 _=>h1
 out:=λb u h1 _=>by rw[Ν (λz=>by rw[z,hp]at h1;cases h1)];show h1
 new:=λb h=>by
  rcases abo.mp h with z| z
  .show .inl z
  .let e:b=p:=by simpa using z
   right;rw[e];show hp
 Fl:=λb h=>by rw[Ν (λz=>h (by rw[z];show hp))];show h
def Rl.setM{k:Nat}(r:Rl K G L M H)(hk:L[k]? =!a)(hm:Im K G L (upd H a o) a m):Rl K G L (M.set k m) (upd H a o) where
 sub:=λb u e=>by let(k',m',e1,e2,q1,_):=r.xI (aap hk);rw[Ν (λz=>by rw[z,q1]at e;cases e)];show r.sub b u e
 len:=by rw[abC];show r.len
 nd:=r.nd
 e7:=λk' a' m' h1 h2=>by
  by_cases e:k'=k
  .subst e;rw[hk]at h1;cases h1;let hl:k' < -M:=by rw[<-r.len];show(aam.mp hk).1
   rw[abD hl]at h2;cases h2;let(_,_,_,_,q1,_):=r.xI (aap hk);show(q1,hm)
  .rw[abv (λz=>e z.symm)]at h2;let(q1,q2):=r.e7 k' a' m' h1 h2;let ne:a'≠a:=λz=>by subst z;show e ((List.getElem?_inj (aam.mp h1).1 r.nd).mp (h1.trans hk.symm))
   show(q1,q2.mono (.refl _) (.refl _) (Ν ne))
def Rl.Eu{k:Nat}(r:Rl K G L M H)(hk:L[k]? =!a):Ex G L H G L (upd H a o) where
 g:=.refl _
 l:=.refl _
 fr:=λb h1 _=>h1
 out:=λb u h1 h2=>by rw[Ν (λz=>h2 (by rw[z];show aap hk))];show h1
 new:=λb h=>.inl h
 Fl:=λb h=>by
  by_cases e:b=a
  .rw[e,ao];simp
  .rw[Ν e];show h
end
structure lY(K:fv)(G:Hp)(L:List Addr)(ρ:En)(σ:St):Prop where
 len:-ρ=-σ
 e7:∀(i:Nat) (d:Dt),ρ[i]? =!(!d)->∃v,σ[i]? =!(!v)/\Den K G L d v
section
variable{K:fv}{G G':Hp}{L L':List Addr}{H H':Hp}{ρ:En}{σ:St}
def lY.mono(h:lY K G L ρ σ)(e:Ex G L H G' L' H'):lY K G' L' ρ σ:=(h.len,λi d q=>let (v,a,b):=h.e7 i d q;(v,a,Den.mono e.g e.l d v b))
def lY.set(h:lY K G L ρ σ)(i:Nat)(q:Den K G L d v):lY K G L (ρ.set i (!d)) (σ.set i (!v)):=by
 show(by rw[abC,abC];show h.len,λj d' e=>?_);by_cases hj:i=j
 .subst hj;let hl:i < -ρ:=by have:=(aam.mp e).1;rwa[abC]at this
  rw[abD hl]at e;cases e;show(v,abD (by rw[<-h.len];show hl),q)
 .rw[abv hj]at e;let(u,a,b):=h.e7 j d' e;show(u,by rw[abv hj];show a,b)
end
abbrev DQ:=Dt->Ms->Prop
abbrev DX:=En->Addr->List (Str×Dt)->Ms->Prop
def Vm(K:fv)(G:Hp)(L:List Addr)(H:Hp)(fs:List (Str×Dt))(od:Option Addr):Prop:=
 (fs=[]/\od=none)\/fs≠[]/\∃dx vs,od=!dx/\G dx=!(.xd ((fs.map (·.1)).zip vs))/\Ο K G L (fs.map (·.2)) vs
def uT(K:fv)(G:Hp)(L:List Addr)(H:Hp)(R:St->XK)(x:DX):Prop:=
 ∀σ ρ C fs M' G' L' H' od,x ρ C fs M'->Ex G L H G' L' H'->Rl K G' L' M' H'->lY K G' L' ρ σ->Vm K G' L' H' fs od->R σ (.ref C) od H'
def uT.on{K:fv}{H:Hp}(h:uT K G L H R x)(e:Ex G L H G1 L1 H1):uT K G1 L1 H1 R x:=
 λσ ρ C fs M' G' L' H' od q e' r n y=>h σ ρ C fs M' G' L' H' od q (e.trans e') r n y
def k8:DX:=λ_ _ _ _=>False
def Lw{K:fv}{H:Hp}:uT K G L H R k8:=λ_ _ _ _ _ _ _ _ _ q=>q.elim
abbrev DE:=En->Ms->DQ->DX->Prop
abbrev DT:=En->Ms->(Bool->Ms->Prop)->DX->Prop
abbrev DA:=En->Ms->(List Dt->Ms->Prop)->DX->Prop
structure l_ where
 nx:En->Ms->Prop
 rt:DQ
 bk:En->Ms->Prop:=λ_ _=>False
 ct:En->Ms->Prop:=λ_ _=>False
 x:DX:=k8
abbrev DS:=l_->En->Ms->Prop
inductive Fin(K:fv)(G0:Hp)(L0:List Addr)(H0:Hp)(q:DQ)(v:V)(H:Hp):Prop
 | mk (d:Dt) (G:Hp) (L:List Addr) (M:Ms) (e:Ex G0 L0 H0 G L H) (r:Rl K G L M H) (n:Den K G L d v) (h:q d M)
inductive uO(K:fv)(G0:Hp)(L0:List Addr)(H0:Hp)(q:Bool->Ms->Prop)(b:Bool)(H:Hp):Prop
 | mk (G:Hp) (L:List Addr) (M:Ms) (e:Ex G0 L0 H0 G L H) (r:Rl K G L M H) (h:q b M)
inductive OJ(K:fv)(G0:Hp)(L0:List Addr)(H0:Hp)(q:List Dt->Ms->Prop)(vs:List V)(H:Hp):Prop
 | mk (ds:List Dt) (G:Hp) (L:List Addr) (M:Ms) (e:Ex G0 L0 H0 G L H) (r:Rl K G L M H) (n:Ο K G L ds vs) (h:q ds M)
inductive e9(K:fv)(G0:Hp)(L0:List Addr)(H0:Hp)(q:En->Ms->Prop)(σ:St)(H:Hp):Prop
 | mk (ρ:En) (G:Hp) (L:List Addr) (M:Ms) (e:Ex G0 L0 H0 G L H) (r:Rl K G L M H) (n:lY K G L ρ σ) (h:q ρ M)
def va(K:fv)(G0:Hp)(L0:List Addr)(H0:Hp)(Dn:l_):zx:=(e9 K G0 L0 H0 Dn.nx,Fin K G0 L0 H0 Dn.rt,e9 K G0 L0 H0 Dn.bk,e9 K G0 L0 H0 Dn.ct)
inductive uj(K:fv)(R:St->XK)(t:DE)(σ:St)(H:Hp)(Q:VK):Prop
 | mk (G:Hp) (L:List Addr) (ρ:En) (M:Ms) (q:DQ) (x:DX) (r:Rl K G L M H) (n:lY K G L ρ σ) (h:t ρ M q x) (hx:uT K G L H R x) (hQ:∀v H1,Fin K G L H q v H1->Q v H1)
inductive HK(K:fv)(R:St->XK)(t:DT)(σ:St)(H:Hp)(Q:Bool->Hp->Prop):Prop
 | mk (G:Hp) (L:List Addr) (ρ:En) (M:Ms) (q:Bool->Ms->Prop) (x:DX) (r:Rl K G L M H) (n:lY K G L ρ σ) (h:t ρ M q x) (hx:uT K G L H R x) (hQ:∀b H1,uO K G L H q b H1->Q b H1)
inductive Uc(K:fv)(R:St->XK)(t:DA)(σ:St)(H:Hp)(Q:List V->Hp->Prop):Prop
 | mk (G:Hp) (L:List Addr) (ρ:En) (M:Ms) (q:List Dt->Ms->Prop) (x:DX) (r:Rl K G L M H) (n:lY K G L ρ σ) (h:t ρ M q x) (hx:uT K G L H R x) (hQ:∀vs H1,OJ K G L H q vs H1->Q vs H1)
structure Rx(A B:zx):Prop where
 nx:∀σ H,A.nx σ H->B.nx σ H
 rt:∀v H,A.rt v H->B.rt v H
 bk:∀σ H,A.bk σ H->B.bk σ H
 ct:∀σ H,A.ct σ H->B.ct σ H
inductive T1(K:fv)(R:St->XK)(t:DS)(De:zx)(σ:St)(H:Hp):Prop
 | mk (G:Hp) (L:List Addr) (ρ:En) (M:Ms) (Dn:l_) (r:Rl K G L M H) (n:lY K G L ρ σ) (h:t Dn ρ M) (hx:uT K G L H R Dn.x) (hQ:Rx (va K G L H Dn) De)
def JE(X:Cx)(R:St->XK)(e:Expr)(t:DE):Prop:=PE X e (uj X.K R t)
def JT(X:Cx)(R:St->XK)(e:Expr)(t:DT):Prop:=PT X e (HK X.K R t)
def JW(X:Cx)(R:St->XK)(e:Expr)(t:DT):Prop:=PW X e (HK X.K R t)
def JA(X:Cx)(R:St->XK)(es:List Expr)(t:DA):Prop:=PA X es (Uc X.K R t)
def JS(X:Cx)(R:St->XK)(st:Stmt)(t:DS):Prop:=PS X st (T1 X.K R t)
def Fe(X:Cx)(R:St->XK)(st:List Stmt)(t:DS):Prop:=Ig X st (T1 X.K R t)
section
variable{K:fv}{G0:Hp}{L0:List Addr}{H0 G1:Hp}{L1:List Addr}{H1:Hp}
def Fin.back{q:DQ}(e:Ex G0 L0 H0 G1 L1 H1){H:Hp}(h:Fin K G1 L1 H1 q v H):Fin K G0 L0 H0 q v H:=let (d,G,L,M,a,b,c,f):=h;(d,G,L,M,e.trans a,b,c,f)
def e9.back{q:En->Ms->Prop}(e:Ex G0 L0 H0 G1 L1 H1){H:Hp}(h:e9 K G1 L1 H1 q v H):e9 K G0 L0 H0 q v H:=let (d,G,L,M,a,b,c,f):=h;(d,G,L,M,e.trans a,b,c,f)
def uO.back{q:Bool->Ms->Prop}(e:Ex G0 L0 H0 G1 L1 H1){H:Hp}(h:uO K G1 L1 H1 q v H):uO K G0 L0 H0 q v H:=let (G,L,M,a,b,f):=h;(G,L,M,e.trans a,b,f)
def va.back(e:Ex G0 L0 H0 G1 L1 H1):Rx (va K G1 L1 H1 Dn) (va K G0 L0 H0 Dn):=(λ_ _ h=>e9.back e h,λ_ _ h=>Fin.back e h,λ_ _ h=>e9.back e h,λ_ _ h=>e9.back e h)
def SP.imp(e:Rx A B)(h:SP X η A f s):SP X η B f s:=by
 cases f with
 | next=>let(a,b,I,q):=h;show(a,b,I,e.nx _ _ q)
 | brk=>let(a,b,I,q):=h;show(a,b,I,e.bk _ _ q)
 | cont=>let(a,b,I,q):=h;show(a,b,I,e.ct _ _ q)
 | ret u=>let(v,a,b,I,r,q):=h;show(v,a,b,I,r,e.rt _ _ q)
end
section
variable{X:Cx}{R:St->XK}{e:Expr}
def JE.of{t:DE}(h:PE X e te)(hw:∀σ H G L ρ M q x,Rl X.K G L M H->lY X.K G L ρ σ->t ρ M q x->uT X.K G L H R x->te σ H (Fin X.K G L H q)):JE X R e t:=by intro η s σ H Q I ⟨G,L,ρ,M,q,x,r,n,ht,hx,hQ⟩;show bH (h η s σ H _ I (hw σ H G L ρ M q x r n ht hx)) λu s1 (v,H1,I1,rv,f)=>(v,H1,I1,rv,hQ v H1 f)
def JT.of{t:DT}(h:PT X e te)(hw:∀σ H G L ρ M q x,Rl X.K G L M H->lY X.K G L ρ σ->t ρ M q x->uT X.K G L H R x->te σ H (uO X.K G L H q)):JT X R e t:=by intro η s σ H Q I ⟨G,L,ρ,M,q,x,r,n,ht,hx,hQ⟩;show bH (h η s σ H _ I (hw σ H G L ρ M q x r n ht hx)) λu s1 (H1,I1,f)=>(H1,I1,hQ u H1 f)
def JW.of{t:DT}(h:PW X e te)(hw:∀σ H G L ρ M q x,Rl X.K G L M H->lY X.K G L ρ σ->t ρ M q x->uT X.K G L H R x->te σ H (uO X.K G L H q)):JW X R e t:=by intro wh η s σ H Q I ⟨G,L,ρ,M,q,x,r,n,ht,hx,hQ⟩;show bH (h wh η s σ H _ I (hw σ H G L ρ M q x r n ht hx)) λu s1 (H1,I1,f)=>(H1,I1,hQ u H1 f)
def JA.of{t:DA}(h:PA X es te)(hw:∀σ H G L ρ M q x,Rl X.K G L M H->lY X.K G L ρ σ->t ρ M q x->uT X.K G L H R x->te σ H (OJ X.K G L H q)):JA X R es t:=by intro pos η s σ H Q I ⟨G,L,ρ,M,q,x,r,n,ht,hx,hQ⟩;show bH (h pos η s σ H _ I (hw σ H G L ρ M q x r n ht hx)) λu s1 (v,H1,I1,rv,f)=>(v,H1,I1,rv,hQ v H1 f)
def JS.of{st:Stmt}{t:DS}(h:PS X st te)(hw:∀σ H G L ρ M Dn,Rl X.K G L M H->lY X.K G L ρ σ->t Dn ρ M->uT X.K G L H R Dn.x->te (va X.K G L H Dn) σ H):JS X R st t:=by intro η s σ H De I ⟨G,L,ρ,M,Dn,r,n,ht,hx,hQ⟩;show bH (h η s σ H _ I (hw σ H G L ρ M Dn r n ht hx)) λu s1 f=>SP.imp hQ f
def Fe.of{st:List Stmt}{t:DS}(h:Ig X st te)(hw:∀σ H G L ρ M Dn,Rl X.K G L M H->lY X.K G L ρ σ->t Dn ρ M->uT X.K G L H R Dn.x->te (va X.K G L H Dn) σ H):Fe X R st t:=by intro η s σ H De I ⟨G,L,ρ,M,Dn,r,n,ht,hx,hQ⟩;show bH (h η s σ H _ I (hw σ H G L ρ M Dn r n ht hx)) λu s1 f=>SP.imp hQ f
end
def yJ(i:Nat):DE:=λρ M q _=>match ρ[i]? with
 | some (!d)=>q d M
 | _=>False
def dC(d:Dt):DE:=λ_ M q _=>q d M
def kg(f:Dt->Dt->Ms->DQ->Prop)(a b:DE):DE:=λρ M q x=>a ρ M (λd1 M1=>b ρ M1 (λd2 M2=>f d1 d2 M2 q) x) x
def Xl(f:Dt->Ms->DQ->Prop)(a:DE):DE:=λρ M q x=>a ρ M (λd1 M1=>f d1 M1 q) x
def R9:DA:=λ_ M q _=>q [] M
def Kb(a:DE)(r:DA):DA:=λρ M q x=>a ρ M (λd M1=>r ρ M1 (λds M2=>q (d::ds) M2) x) x
def BN(f:List Dt->Ms->DQ->Prop)(a:DA):DE:=λρ M q x=>a ρ M (λds M1=>f ds M1 q) x
def pC(K:fv)(r:R2)(f:Dt->Dt->Ms->DQ->Prop):Prop:=
 ∀G0 L0 H0 G L M H v1 v2 d1 d2 q,Ex G0 L0 H0 G L H->Rl K G L M H->Den K G L d1 v1->Den K G L d2 v2->f d1 d2 M q->r v1 v2 H (Fin K G0 L0 H0 q)
def UnD(K:fv)(r:V->Hp->VK->Prop)(f:Dt->Ms->DQ->Prop):Prop:=
 ∀G0 L0 H0 G L M H v1 d1 q,Ex G0 L0 H0 G L H->Rl K G L M H->Den K G L d1 v1->f d1 M q->r v1 H (Fin K G0 L0 H0 q)
def Du(K:fv)(r:List V->Hp->VK->Prop)(f:List Dt->Ms->DQ->Prop):Prop:=
 ∀G0 L0 H0 G L M H vs ds q,Ex G0 L0 H0 G L H->Rl K G L M H->Ο K G L ds vs->f ds M q->r vs H (Fin K G0 L0 H0 q)
section
variable{K:fv}{R:St->XK}{ta tb:DE}{tc:DA}{σ:St}{H G:Hp}{L:List Addr}{ρ:En}{M:Ms}{q:DQ}{x:DX}
def B5(od:pC K r f)(rl:Rl K G L M H)(n:lY K G L ρ σ)(h:kg f ta tb ρ M q x)(hx:uT K G L H R x):V3 r (uj K R ta) (uj K R tb) σ H (Fin K G L H q):=by show(G,L,ρ,M,_,x,rl,n,h,hx,λv H1 xz=>?_);let(d1,G1,L1,M1,e1,r1,n1,h1):=xz;show(G1,L1,ρ,M1,_,x,r1,n.mono e1,h1,hx.on e1,λv2 H2 xz=>?_);let(d2,G2,L2,M2,e2,r2,n2,h2):=xz;show od G L H G2 L2 M2 H2 v v2 d1 d2 q (e1.trans e2) r2 (Den.mono e2.g e2.l _ _ n1) n2 h2
def Wb(od:UnD K r f)(rl:Rl K G L M H)(n:lY K G L ρ σ)(h:Xl f ta ρ M q x)(hx:uT K G L H R x):tUn r (uj K R ta) σ H (Fin K G L H q):=by show(G,L,ρ,M,_,x,rl,n,h,hx,λv H1 xz=>?_);let(d1,G1,L1,M1,e1,r1,n1,h1):=xz;show od G L H G1 L1 M1 H1 v d1 q e1 r1 n1 h1
def OP(od:Du K r f)(rl:Rl K G L M H)(n:lY K G L ρ σ)(h:BN f tc ρ M q x)(hx:uT K G L H R x):Y5 r (Uc K R tc) σ H (Fin K G L H q):=by show(G,L,ρ,M,_,x,rl,n,h,hx,λv H1 xz=>?_);let(d1,G1,L1,M1,e1,r1,n1,h1):=xz;show od G L H G1 L1 M1 H1 v d1 q e1 r1 n1 h1
end
section
variable{X:Cx}{R:St->XK}{a b c:Expr}{ta tb:DE}{pos:Pos}
def jv(i:Nat){pos:Pos}(hN:X.N[i]? =!x|>1)(hv:Vis X.env.scope x:=by first| exact Or.inl rfl| exact Or.inr (Or.inl rfl)| exact Or.inr (Or.inr rfl))(hd:(x==("__debug__":Str))=false|>2)
  (JY:(x==("__classdict__":Str))=false|>2):JE X R (.Name x pos) (yJ i):=.of (QT hN hv hd JY) λσ H G L ρ M q x r n h hx=>by
 unfold yJ at h;split at h
 .rename_i d e;let(v,e1,h1):=n.e7 i d e;show(v,e1,d,G,L,M,.refl _ _ _,r,h1,h)
 .show h.elim
def Q7(h:PE X e (tC v))(hd:∀G L,Den X.K G L d v):JE X R e (dC d):=.of h λσ H G L ρ M q x r n h hx=>(d,G,L,M,.refl _ _ _,r,hd G L,h)
def ν{i j pos}:JE X R (.Constant (.int i) j pos) (dC (.int i)):=Q7 R_ λ_ _=>rfl
def rE{b j pos}:JE X R (.Constant (.bool b) j pos) (dC (.bl b)):=Q7 V0 λ_ _=>rfl
def rh{j pos}:JE X R (.Constant .none j pos) (dC .aZ):=Q7 RC λ_ _=>rfl
def dX{x j pos}:JE X R (.Constant (.str x) j pos) (dC (.str x)):=Q7 Rp λ_ _=>rfl
def xx(ho:i8 X (binaryOp op) r)(od:pC X.K r f)(ja:JE X R a ta)(jb:JE X R b tb):JE X R (.BinOp a op b pos) (kg f ta tb):=
 .of (Wl ho ja jb) λσ H G L ρ M q x r n h hx=>B5 od r n h hx
def Z_(ho:WO X (unaryOp op) r)(od:UnD X.K r f)(ja:JE X R a ta):JE X R (.UnaryOp op a pos) (Xl f ta):=
 .of (Vf ho ja) λσ H G L ρ M q x r n h hx=>Wb od r n h hx
def s_(ho:i8 X (compareOp op) r)(od:pC X.K r f)(ja:JE X R a ta)(jb:JE X R b tb)(hm:behindInMarks op b=false):JE X R (.Compare a [op] [b] pos) (kg f ta tb):=
 .of (NQ ho ja jb hm) λσ H G L ρ M q x r n h hx=>B5 od r n h hx
def V9(hr:Mx X r)(od:pC X.K r f)(ja:JE X R a ta)(jb:JE X R b tb)(hs:xW b):JE X R (.Subscript a b pos) (kg f ta tb):=
 .of (TR hr ja jb hs) λσ H G L ρ M q x r n h hx=>B5 od r n h hx
def Χ{es:List Expr}{c j p}:starEach (.Constant c j p::es) env=(false, eval (.Constant c j p) env)::starEach es env:=rfl
def Pd{es:List Expr}{c p}:starEach (.Name c p::es) env=(false, eval (.Name c p) env)::starEach es env:=rfl
def aV{es:List Expr}{a o b p}:starEach (.BinOp a o b p::es) env=(false, eval (.BinOp a o b p) env)::starEach es env:=rfl
def aS{es:List Expr}{a b c p}:starEach (.Call a b c p::es) env=(false, eval (.Call a b c p) env)::starEach es env:=rfl
def ba{es:List Expr}{a b p}:starEach (.Subscript a b p::es) env=(false, eval (.Subscript a b p) env)::starEach es env:=rfl
def bf{es:List Expr}{a b p}:starEach (.Tuple a b p::es) env=(false, eval (.Tuple a b p) env)::starEach es env:=rfl
def OY{es:List Expr}{a b p}:starEach (.UnaryOp a b p::es) env=(false, eval (.UnaryOp a b p) env)::starEach es env:=rfl
def ε:JA X R [] R9:=.of SO λσ H G L ρ M q x r n h hx=>([],G,L,M,.refl _ _ _,r,rfl,h)
def δ(ha:JE X R e te)(hr:JA X R es t)(hs:starEach (e::es) X.env=(false, eval e X.env)::starEach es X.env:=by first| exact Χ| exact Pd| exact aV| exact aS| exact ba| exact bf| exact abz| exact OY| rfl):JA X R (e::es) (Kb te t):=
 .of (Nl ha hr hs) λσ H G L ρ M q x rl n h hx=>by show(G,L,ρ,M,_,x,rl,n,h,hx,λv H1 xz=>?_);let(d1,G1,L1,M1,e1,r1,n1,h1):=xz;show(G1,L1,ρ,M1,_,x,r1,n.mono e1,h1,hx.on e1,λv2 H2 xz=>?_);let(d2,G2,L2,M2,e2,r2,n2,h2):=xz;show(d1::d2,G2,L2,M2,e1.trans e2,r2,(_,_,rfl,Den.mono e2.g e2.l _ _ n1,n2),h2)
def Μ{c:Str}(ha:JE X R (.Name c p) te)(hr:JA X R es t):JA X R (.Name c p::es) (Kb te t):=δ ha hr Pd
def T8(t:DA):DE:=λρ M q x=>t ρ M (λds M1=>-ds<=sizeLine/\q (.tup ds) M1) x
def Uy(t:DA):DE:=λρ M q x=>t ρ M (λds M1=>-ds<=sizeLine/\q (.lst ds) M1) x
def IZ(t:DA):DE:=λρ M q x=>t ρ M (λds M1=>-ds<=sizeLine/\q (.loc (-M1)) (M1++[.lst ds])) x
def jQ{K:fv}{H:Hp}{q:DQ}(e:Ex G0 L0 H0 G L H)(r:Rl K G L M H)(hp:H p=none)(hd:Den K (upd G p o) L d (.ref p))(h:q d M):Fin K G0 L0 H0 q (.ref p) (upd H p o):=
 (d,upd G p o,L,M,e.trans (r.Tg hp),r.NG hp,hd,h)
def ou{K:fv}{H:Hp}(r:Rl K G L M H)(hp:H p=none)(h:Ο K G L ds vs):Den K (upd G p (.tup vs)) L (.tup ds) (.ref p):=
 (p,vs,rfl,ao,Ο.mono (r.Tg hp).g (.refl _) _ _ h)
def rO{K:fv}{H:Hp}(r:Rl K G L M H)(hp:H p=none)(h:Ο K G L ds vs):Den K (upd G p (.lst vs)) L (.lst ds) (.ref p):=
 (p,vs,rfl,ao,Ο.mono (r.Tg hp).g (.refl _) _ _ h)
def ig{K:fv}{H:Hp}{q:DQ}(e:Ex G0 L0 H0 G L H)(r:Rl K G L M H)(hp:H p=none)(hd:Ο K G L ds vs)(h:q (.loc (-M)) (M++[.lst ds])):Fin K G0 L0 H0 q (.ref p) (upd H p (.lst vs)):=
 (.loc (-M),G,L++[p],M++[.lst ds],e.trans (r.WQ hp),r.Of (m:=.lst ds) hp (vs,ao,Ο.mono (.refl _) ([p],rfl) _ _ hd),(p,rfl,by rw[<-r.len,List.getElem?_append_right (Nat.le_refl _)];simp),h)
variable{es:List Expr}{t:DA}
def av{x1}(h:JA X R es t):JE X R (.Tuple es x1 pos) (T8 t):=.of (QF h) λσ H G L ρ M q x rl n h hx=>by show(G,L,ρ,M,_,x,rl,n,h,hx,fun v H1 (d1,G1,L1,M1,e1,r1,n1,h1)=>(by rw[<--n1];show h1.1,λp hp=>?_));show jQ e1 r1 hp (ou r1 hp n1) h1.2
def fc(h:JA X R es t):JE X R (.List es pos) (Uy t):=.of (IT h) λσ H G L ρ M q x rl n h hx=>by show(G,L,ρ,M,_,x,rl,n,h,hx,fun v H1 (d1,G1,L1,M1,e1,r1,n1,h1)=>(by rw[<--n1];show h1.1,λp hp=>?_));show jQ e1 r1 hp (rO r1 hp n1) h1.2
def jU(h:JA X R es t):JE X R (.List es pos) (IZ t):=.of (IT h) λσ H G L ρ M q x rl n h hx=>by show(G,L,ρ,M,_,x,rl,n,h,hx,fun v H1 (d1,G1,L1,M1,e1,r1,n1,h1)=>(by rw[<--n1];show h1.1,λp hp=>?_));show ig e1 r1 hp n1 h1.2
def nI(t:DE):DT:=λρ M q x=>t ρ M (λd M1=>match d with
 | .bl b=>q b M1
 | _=>False) x
def VE(t u:DT):DT:=λρ M q x=>t ρ M (λc M1=>(c=true->u ρ M1 q x)/\(c=false->q false M1)) x
def orT(t u:DT):DT:=λρ M q x=>t ρ M (λc M1=>(c=true->q true M1)/\(c=false->u ρ M1 q x)) x
def Ts(t:DT):DT:=λρ M q x=>t ρ M (λc M1=>q (! c) M1) x
def Qy{K:fv}{t:DE}{H:Hp}{q:Bool->Ms->Prop}(rl:Rl K G L M H)(n:lY K G L ρ σ)(h:nI t ρ M q x)(hx:uT K G L H R x):tB (uj K R t) σ H (uO K G L H q):=by
 show(G,L,ρ,M,_,x,rl,n,h,hx,λv H1 xz=>?_);let(d1,G1,L1,M1,e1,r1,n1,h1):=xz
 (try dsimp only at h1)
 split at h1
 .rename_i b;show(b,n1,G1,L1,M1,e1,r1,h1)
 .show h1.elim
def bV{t:DE}(h:JE X R e t)(he:(∀whole,isTrue e X.env whole=(do let  v<-whole;standAt e.pos;holding [v] (truthy v)))|>3):JT X R e (nI t):=
 .of (RZ h he) λσ H G L ρ M q x rl n h hx=>Qy rl n h hx
def iQ(ho:i8 X (compareOp op) r)(od:pC X.K r f)(ja:JE X R a ta)(jb:JE X R b tb)(hm:behindInMarks op b=false):JT X R (.Compare a [op] [b] pos) (nI (kg f ta tb)):=
 .of (MN ho ja jb hm) λσ H G L ρ M q x rl n h hx=>by
  let h:kg f ta tb ρ M (λd M1=>match d with| .bl b=>q b M1| _=>False) x:=h;show(G,L,ρ,M,_,x,rl,n,h,hx,λv H1 xz=>?_);let(d1,G1,L1,M1,e1,r1,n1,h1):=xz;show(G1,L1,ρ,M1,_,x,r1,n.mono e1,h1,hx.on e1,λv2 H2 xz=>?_);let(d2,G2,L2,M2,e2,r2,n2,h2):=xz;have:=od G L H G2 L2 M2 H2 v v2 d1 d2 _ (e1.trans e2) r2 (Den.mono e2.g e2.l _ _ n1) n2 h2;let e:(λx H'=>∃k,x=V.bl k/\uO X.K G L H q k H')=Fin X.K G L H (λd M1=>match d with| .bl b=>q b M1| _=>False):=by
   funext y H'
   apply propext;constructor
   .rintro⟨k,rfl,G3,L3,M3,e3,r3,h3⟩;show(.bl k,G3,L3,M3,e3,r3,rfl,h3)
   .rintro⟨d,G3,L3,M3,e3,r3,n3,h3⟩;split at h3
    .rename_i k;show(k,n3,G3,L3,M3,e3,r3,h3)
    .show h3.elim
  rw[e];show this
def JW.jt{t:DT}(h:JW X R e t):JT X R e t:=h _
variable{t1 t2:DT}{rest:List Expr}
def oh(ha:JT X R a t1):JW X R (.BoolOp .And [a] pos) t1:=pw_and1 ha
def iY(ha:JT X R a t1):JW X R (.BoolOp .Or [a] pos) t1:=pw_or1 ha
def tD(ha:JT X R a t1)(hb:JW X R (.BoolOp .And (b::rest) pos) t2):JW X R (.BoolOp .And (a::b::rest) pos) (VE t1 t2):=.of (pw_and ha hb) λσ H G L ρ M q x rl n h hx=>by
 show(G,L,ρ,M,_,x,rl,n,h,hx,λc H1 xz=>?_);let(G1,L1,M1,e1,r1,h1):=xz;cases c with
 | true=>show CP (G1,L1,ρ,M1,_,x,r1,n.mono e1,h1.1 rfl,hx.on e1,λb H2 f=>uO.back e1 f)
 | false=>show C7 (G1,L1,M1,e1,r1,h1.2 rfl)
def jZ(ha:JT X R a t1)(hb:JW X R (.BoolOp .Or (b::rest) pos) t2):JW X R (.BoolOp .Or (a::b::rest) pos) (orT t1 t2):=.of (pw_or ha hb) λσ H G L ρ M q x rl n h hx=>by
 show(G,L,ρ,M,_,x,rl,n,h,hx,λc H1 xz=>?_);let(G1,L1,M1,e1,r1,h1):=xz;cases c with
 | true=>show CP (G1,L1,M1,e1,r1,h1.1 rfl)
 | false=>show C7 (G1,L1,ρ,M1,_,x,r1,n.mono e1,h1.2 rfl,hx.on e1,λb H2 f=>uO.back e1 f)
def dQ(ha:JT X R a t1):JT X R (.UnaryOp .Not a pos) (Ts t1):=.of (Qk ha) λσ H G L ρ M q x rl n h hx=>
 (G,L,ρ,M,_,x,rl,n,h,hx,λ_ _ (G,L,M,e,r,h)=>(G,L,M,e,r,h))
def Vv(t u:DE):DE:=λρ M q x=>t ρ M (λd M1=>match d with
 | .bl c=>(c=true->u ρ M1 q x)/\(c=false->q (.bl false) M1)
 | _=>False) x
def dOr(t u:DE):DE:=λρ M q x=>t ρ M (λd M1=>match d with
 | .bl c=>(c=true->q (.bl true) M1)/\(c=false->u ρ M1 q x)
 | _=>False) x
def Vu(t:DE):DE:=λρ M q x=>t ρ M (λd M1=>match d with
 | .bl c=>q (.bl (! c)) M1
 | _=>False) x
def dIf(t:DT)(u v:DE):DE:=λρ M q x=>t ρ M (λc M1=>(c=true->u ρ M1 q x)/\(c=false->v ρ M1 q x)) x
def iK{op}{t:DE}(h:JE X R a t):JE X R (.BoolOp op [a] pos) t:=Si h
def gf(ha:JE X R a ta)(hb:JE X R (.BoolOp .And (b::rest) pos) tb):JE X R (.BoolOp .And (a::b::rest) pos) (Vv ta tb):=.of (Q8 ha hb) λσ H G L ρ M q x rl n h hx=>by
 show(G,L,ρ,M,_,x,rl,n,h,hx,λv H1 xz=>?_);let(d1,G1,L1,M1,e1,r1,n1,h1):=xz
 (try dsimp only at h1)
 split at h1
 .rename_i c;show(c,n1,?_);cases c with
  | true=>show CP (G1,L1,ρ,M1,_,x,r1,n.mono e1,h1.1 rfl,hx.on e1,λb H2 f=>Fin.back e1 f)
  | false=>show C7 (.bl false,G1,L1,M1,e1,r1,rfl,h1.2 rfl)
 .show h1.elim
def V7(ha:JE X R a ta)(hb:JE X R (.BoolOp .Or (b::rest) pos) tb):JE X R (.BoolOp .Or (a::b::rest) pos) (dOr ta tb):=.of (Wa ha hb) λσ H G L ρ M q x rl n h hx=>by
 show(G,L,ρ,M,_,x,rl,n,h,hx,λv H1 xz=>?_);let(d1,G1,L1,M1,e1,r1,n1,h1):=xz
 (try dsimp only at h1)
 split at h1
 .rename_i c;show(c,n1,?_);cases c with
  | true=>show CP (.bl true,G1,L1,M1,e1,r1,rfl,h1.1 rfl)
  | false=>show C7 (G1,L1,ρ,M1,_,x,r1,n.mono e1,h1.2 rfl,hx.on e1,λb H2 f=>Fin.back e1 f)
 .show h1.elim
def Sm(ha:JE X R a ta):JE X R (.UnaryOp .Not a pos) (Vu ta):=.of (QQ ha) λσ H G L ρ M q x rl n h hx=>by
 show(G,L,ρ,M,_,x,rl,n,h,hx,λv H1 xz=>?_);let(d1,G1,L1,M1,e1,r1,n1,h1):=xz
 (try dsimp only at h1)
 split at h1
 .rename_i c;show(c,n1,.bl (! c),G1,L1,M1,e1,r1,rfl,h1)
 .show h1.elim
def zF{c:Expr}(hc:JT X R c t1)(ha:JE X R a ta)(hb:JE X R b tb):JE X R (.IfExp c a b pos) (dIf t1 ta tb):=.of (IS hc ha hb) λσ H G L ρ M q x rl n h hx=>by
 show(G,L,ρ,M,_,x,rl,n,h,hx,λc H1 xz=>?_);let(G1,L1,M1,e1,r1,h1):=xz;cases c with
 | true=>show CP (G1,L1,ρ,M1,_,x,r1,n.mono e1,h1.1 rfl,hx.on e1,λb H2 f=>Fin.back e1 f)
 | false=>show C7 (G1,L1,ρ,M1,_,x,r1,n.mono e1,h1.2 rfl,hx.on e1,λb H2 f=>Fin.back e1 f)
end
def OW:DS:=λDn ρ M=>Dn.nx ρ M
def Sd(t u:DS):DS:=λDn ρ M=>t {Dn with nx:=u Dn} ρ M
def sIf(c:DT)(t u:DS):DS:=λDn ρ M=>c ρ M (λb M1=>(b=true->t Dn ρ M1)/\(b=false->u Dn ρ M1)) Dn.x
def Vt(t:DE):DS:=λDn ρ M=>t ρ M Dn.rt Dn.x
def vg(i:Nat)(t:DE):DS:=λDn ρ M=>t ρ M (λd M1=>Dn.nx (ρ.set i (!d)) M1) Dn.x
def BD(t:DE):DS:=λDn ρ M=>t ρ M (λ_ M1=>Dn.nx ρ M1) Dn.x
def Y_(t:DS):DS:=λDn ρ M=>∃J:En->Ms->Prop,t {Dn with nx:=J} ρ M/\∀ρ' M',J ρ' M'->Dn.nx ρ' M'
section
variable{X:Cx}{R:St->XK}{st:Stmt}{rest:List Stmt}{t u:DS}{e:Expr}{te:DE}{pos:Pos}
def Ε:Fe X R [] OW:=.of Oh λσ H G L ρ M Dn rl n h hx=>(ρ,G,L,M,.refl _ _ _,rl,n,h)
def ι(h1:JS X R st t):Fe X R [st] t:=OF h1
def ζ(h1:JS X R st t)(h2:Fe X R rest u):Fe X R (st::rest) (Sd t u):=.of (Kj h1 h2) λσ H G L ρ M Dn rl n h hx=>by show(G,L,ρ,M,_,rl,n,h,hx,(λσ1 H1 xz=>?_,λ_ _ f=>f,λ_ _ f=>f,λ_ _ f=>f));let(ρ1,G1,L1,M1,e1,r1,n1,h1):=xz;show(G1,L1,ρ1,M1,Dn,r1,n1,h1,hx.on e1,va.back e1)
def AQ:JS X R (.Continue pos) (λDn ρ M=>Dn.ct ρ M):=.of zK λσ H G L ρ M Dn rl n h hx=>(ρ,G,L,M,.refl _ _ _,rl,n,h)
def Α(he:JE X R e te):JS X R (.Return (!e) pos) (Vt te):=.of (Qp he) λσ H G L ρ M Dn rl n h hx=>(G,L,ρ,M,_,_,rl,n,h,hx,λ_ _ f=>f)
def cB(he:JE X R e te)(hs:swapsWith e none pos.line X.env=pure false|>1):JS X R (.Expr e pos) (BD te):=.of (Nt he hs) λσ H G L ρ M Dn rl n h hx=>by show(G,L,ρ,M,_,_,rl,n,h,hx,λv H1 (d1,G1,L1,M1,e1,r1,n1,h1)=>(ρ,G1,L1,M1,e1,r1,n.mono e1,h1))
def ah(hc:JT X R c tc)(ha:Fe X R a t)(hb:Fe X R b u):JS X R (.If c a b pos) (sIf tc t u):=.of (VU hc ha hb) λσ H G L ρ M Dn rl n h hx=>by
 show(G,L,ρ,M,_,_,rl,n,h,hx,λc H1 xz=>?_);let(G1,L1,M1,e1,r1,h1):=xz;cases c with
 | true=>show CP (G1,L1,ρ,M1,Dn,r1,n.mono e1,h1.1 rfl,hx.on e1,va.back e1)
 | false=>show C7 (G1,L1,ρ,M1,Dn,r1,n.mono e1,h1.2 rfl,hx.on e1,va.back e1)
def ω(i:Nat)(hN:X.N.Nodup)(he:JE X R e te)(hi:X.N[i]? =!x|>1)(hx:Loc X.env.scope x:=by first| exact .inl rfl| exact .inr rfl)(hs:swapsWith e (!(.Name x pos')) pos.line X.env=pure false|>1)(hf:X.fn x=true\/X.env.scope.names.lookup x=some .local:=by first| exact .inl rfl| exact .inr rfl| assumption):
  JS X R (.Assign [.Name x pos'] e pos) (vg i te):=.of (P9 hN hi hx he hs hf) λσ H G L ρ M Dn rl n h hx=>by
 show(G,L,ρ,M,_,_,rl,n,h,hx,λv H1 (d1,G1,L1,M1,e1,r1,n1,h1)=>(_,G1,L1,M1,e1,r1,(n.mono e1).set i n1,h1))
def gQ(h:JS X R st t):JS X R st (Y_ t):=.of h λσ H G L ρ M Dn rl n h hx=>by let(J,h1,h2):=h;show(G,L,ρ,M,_,rl,n,h1,hx,(λσ1 H1 (ρ1,G1,L1,M1,e1,r1,n1,h1)=>(ρ1,G1,L1,M1,e1,r1,n1,h2 _ _ h1),λ_ _ f=>f,λ_ _ f=>f,λ_ _ f=>f))
end
abbrev DXF:=Addr->List (Str×Dt)->Ms->Prop
abbrev DF:=List Dt->Ms->DQ->DXF->Prop
inductive da(K:fv)(T:DF)(vs:List V)(H:Hp)(Q:VK)(E:XK):Prop
 | mk (G:Hp) (L:List Addr) (ds:List Dt) (M:Ms) (q:DQ) (x:DXF) (r:Rl K G L M H) (n:Ο K G L ds vs) (h:T ds M q x) (hQ:∀v H1,Fin K G L H q v H1->Q v H1) (hE:∀C fs M1 G1 L1 H1 od,x C fs M1->Ex G L H G1 L1 H1->Rl K G1 L1 M1 H1->Vm K G1 L1 H1 fs od->E (.ref C) od H1)
def qb(N:List Str)(ds:List Dt):En:=ds.map some++List.replicate (-N - -ds) none
def LI{K:fv}(h:Ο K G L ds vs):lY K G L (qb N ds) (start N vs):=by
 let hl:=-h;show(by unfold qb start;simp[hl],λi d e=>?_);unfold qb at e;unfold start;by_cases hi:i < -ds
 .rw[List.getElem?_append_left (by simpa using hi),List.getElem?_map]at e;rw[List.getElem?_append_left (by simpa [<-hl] using hi),List.getElem?_map];cases q:ds[i]? with
  | none=>rw[q]at e;cases e
  | some d'=>
   rw[q]at e;cases e;let(v,e1,h1):=h.get q;show(v,by rw[e1];rfl,h1)
 .rw[List.getElem?_append_right (by simpa using Nat.le_of_not_lt hi),List.getElem?_replicate]at e;split at e <;> cases e
section
variable{P:Program}{w:World}{K:fv}{mg:Str->Option Value}{base:Heap}
def de.d9{st:Stmt}{k:Nat}{T:DF}(F:de K x qual st f fd)(S:Γ N ps (τ st))(len:∀ds M q x,T ds M q x->-ds=-ps)
  (BC:∀(bI:Value) (A:Around) (outer:List Env) (s:Shared) (H:Hp) (E:XK),ck k (A.deeper (envOfC qual (τ st) s.heap.objs.size f bI))->
   ∃t,Fe (xi (cI P w) P w K mg base N qual (τ st) f bI A outer s H E) (λ_=>E) (iC st) t/\∀ds M q x,T ds M q x->t {nx:=λ_ M'=>q .aZ M',rt:=q,x:=λ_=>x} (qb N ds) M):
  aC P w K mg base (cI P w) (k+1) f fd ps (da K T):=by
 show F.okX S (λvs H Q E h=>?_) (λbI A outer s H vs Q E hr h=>?_)
 .let(G,L,ds,M,q,x,rl,n,hT,_):=h;rw[<--n];show len _ _ _ _ hT
 .let(t,j,ht):=BC bI A outer s H E hr;let(G,L,ds,M,q,x,rl,n,hT,hQ,hE):=h;show(_,j,G,L,qb N ds,M,_,rl,LI n,ht ds M q x hT,λσ ρ C fs M' G' L' H' od hx e r _ y=>hE C fs M' G' L' H' od hx e r y,(λσ' H' (ρ',G',L',M',e,r,_,h)=>hQ _ _ (.aZ,G',L',M',e,r,rfl,h),λv H' f=>hQ v H' f,λ_ _ (_,_,_,_,_,_,_,h)=>h.elim,λ_ _ (_,_,_,_,_,_,_,h)=>h.elim))
structure aD(P:Program)(w:World)(K:fv)(mg:Str->Option Value)(base:Heap)(k:Nat)(x:Str)(ps:List Str)(T:DF)(f:Addr)(fd:FuncData):Prop where
 ok:aC P w K mg base (cI P w) k f fd ps (da K T)
 b:j5 K fd ps []
 m:mg x=!(.ref f)
 kp:PySem.W.keepIn K (.ref f)=true
end
def Ph(T:DF)(t:DA):DE:=λρ M q x=>t ρ M (λds M1=>T ds M1 q (λC fs M'=>x ρ C fs M')) x
section
variable{X:Cx}{R:St->XK}{T:DF}{k k':Nat}{f:Addr}{fd:FuncData}{ps:List Str}{x:Str}{p pos:Pos}{e:Expr}{es:List Expr}{t:DA}
def Ω(C:aD X.prog X.w X.K X.mg X.base k x ps T f fd)(hr:ck k' X.A)(hx:d_ (cI X.prog X.w) X R)(ha:JA X R (e::es) t)(hk:k<=k'|>2)(hg:Gl X x|>1)(ub:(x==("__debug__":Str))=false|>2)
  (he:starEach (e::es) X.env=(false, eval e X.env)::starEach es X.env|>1) (fZ:(backTo pos (starEach es X.env)).any (·.1)=false|>1):JE X R (.Call (.Name x p) (e::es) [] pos) (Ph T t):=
 .of (Mj C.ok (hr.mono hk) hg C.m C.kp C.b .nil hx ha ub he fZ) λσ H G L ρ M q x rl n h hx=>by show(G,L,ρ,M,_,x,rl,n,h,hx,λvs H1 xz=>?_);let(ds,G1,L1,M1,e1,r1,n1,h1):=xz;change da X.K T (vs++[]) H1 _ _;rw[abw];show(G1,L1,ds,M1,q,_,r1,n1,h1,λv H' f=>Fin.back e1 f,λC fs M' G' L' H' od hq e' r' y=>hx σ ρ C fs M' G' L' H' od hq (e1.trans e') r' (n.mono (e1.trans e')) y)
end
structure Yl(K:fv)(J:It)(xs:List Dt)(G0:Hp)(L0:List Addr):Prop where
 go:∀(i:Nat) G L M H (d:Dt),eE G0 G->Pre L0 L->Rl K G L M H->xs[i]? =!d->J.go i H/\∀v H',J.VI i H v H'->∃G',Ex G L H G' L H'/\Rl K G' L M H'/\Den K G' L d v
 stop:∀(i:Nat) G L M H,eE G0 G->Pre L0 L->Rl K G L M H->-xs<=i->J.stop i H
inductive VW(K:fv)(G0:Hp)(L0:List Addr)(H0:Hp)(q:List Dt->Ms->Prop)(J:It)(H:Hp):Prop
 | mk (xs:List Dt) (G:Hp) (L:List Addr) (M:Ms) (e:Ex G0 L0 H0 G L H) (r:Rl K G L M H) (y:Yl K J xs G L) (h:q xs M)
inductive aab(K:fv)(R:St->XK)(t:DA)(σ:St)(H:Hp)(Q:It->Hp->Prop):Prop
 | mk (G:Hp) (L:List Addr) (ρ:En) (M:Ms) (q:List Dt->Ms->Prop) (x:DX) (r:Rl K G L M H) (n:lY K G L ρ σ) (h:t ρ M q x) (hx:uT K G L H R x) (hQ:∀J H1,VW K G L H q J H1->Q J H1)
def JI(X:Cx)(R:St->XK)(tg iter:Expr)(t:DA):Prop:=PI X tg iter (aab X.K R t)
def Mw.imp{R R':It->Hp->Prop}(hR:∀J H,R J H->R' J H)(h:Mw X η σ tg R v s):Mw X η σ tg R' v s:=by let(it,fp,tn,J,H',a,b,c,d,e,f):=h;show(it,fp,tn,J,H',a,b,c,d,e,hR J H' f)
def EI{K:fv}(h:∀G':Hp,eE G G'->gI K G' a vs)(n:Ο K G L ds vs):Yl K (WC K a) ds G L where
 go:=λi G1 L1 M1 H1 d g l r e=>by
  let(v,e1,n1):=n.get e;let hs:=h H1 (g.trans r.sub)
  show((vs,v,hs,e1),fun v' H' (eH,y)=>by
   subst eH;let e2:=y vs hs;rw[e1]at e2;cases e2
   show(G1,.refl _ _ _,r,Den.mono g l _ _ n1))
 stop:=λi G1 L1 M1 H1 g l r e=>(vs,h H1 (g.trans r.sub),by rw[<--n];show e)
def LN{K:fv}(h:∀G':Hp,eE G G'->mR K G' a vs)(n:Ο K G L ds vs):Yl K (Itt K a) ds G L where
 go:=λi G1 L1 M1 H1 d g l r e=>by
  let(v,e1,n1):=n.get e;let hs:=h H1 (g.trans r.sub)
  show((vs,v,hs,e1),fun v' H' (eH,y)=>by
   subst eH;let e2:=y vs hs;rw[e1]at e2;cases e2
   show(G1,.refl _ _ _,r,Den.mono g l _ _ n1))
 stop:=λi G1 L1 M1 H1 g l r e=>(vs,h H1 (g.trans r.sub),by rw[<--n];show e)
def df(lo:Int)(n:Nat):List Dt:=(List.range n).map λk:Nat=>Dt.int (lo+(k:Int))
def LP{K:fv}{lo:Int}:Yl K (Wc lo n) (df lo n) G L where
 go :=λi G1 L1 M1 H1 d g l r e=>by
  unfold df at e;rw[aat]at e;let hi:i < n:=by
   cases q:(List.range n)[i]? with
   | none=>rw[q]at e;cases e
   | some j=>
    have:=(aam.mp q).1;rwa[abu]at this
  rw[abg hi]at e;cases e;show(hi,λv' H' (eH,y)=>by subst eH y;show(G1,.refl _ _ _,r,rfl))
 stop:=λi G1 L1 M1 H1 g l r e=>by change n<=i;unfold df at e;simpa using e
section
variable{X:Cx}{R:St->XK}{tg iter:Expr}
def JI.of{t:DA}(h:PI X tg iter wi)(hw:∀σ H G L ρ M q x,Rl X.K G L M H->lY X.K G L ρ σ->t ρ M q x->uT X.K G L H R x->wi σ H (VW X.K G L H q)):JI X R tg iter t:=by intro η s σ H Q I ⟨G,L,ρ,M,q,x,r,n,ht,hx,hQ⟩;show bH (h η s σ H _ I (hw σ H G L ρ M q x r n ht hx)) λu s1 f=>bH f λu2 s2 f2=>Mw.imp hQ f2
def Vz(t:DA):DA:=λρ M q x=>t ρ M (λds M1=>match ds with
 | [.int j]=>(- (2 ^ 62)<=j/\j < 2 ^ 62)/\q (df 0 j.toNat) M1
 | _=>False) x
def bT{a:Expr}{pos:Pos}(hm:X.mg "range"=none)(ha:JA X R [a] t)(hg:Gl X "range"|>1)(hs:starEach [a] X.env=[(false, eval a X.env)]|>1):JI X R tg (.Call (.Name "range" p) [a] [] pos) (Vz t):=
 .of (Gf hg hm ha hs) λσ H G L ρ M q x rl n h hx=>by
  show(G,L,ρ,M,_,x,rl,n,h,hx,λvs H1 xz=>?_);let(ds,G1,L1,M1,e1,r1,n1,h1):=xz
  (try dsimp only at h1)
  split at h1
  .rename_i j;let(v,rfl,n2):=b9 n1;let n2:v= .int j:=n2;subst n2;show(j,rfl,h1.1.1,h1.1.2,_,G1,L1,M1,e1,r1,LP,h1.2)
  .show h1.elim
def DC(t:DA):DA:=λρ M q x=>t ρ M (λds M1=>match ds with
 | [.int i,.int j]=>(- (2 ^ 62)<=i/\i < 2 ^ 62/\ - (2 ^ 62)<=j/\j < 2 ^ 62)/\q (df i (j - i).toNat) M1
 | _=>False) x
def pG{a b:Expr}{pos:Pos}(hm:X.mg "range"=none)(ha:JA X R [a,b] t)(hg:Gl X "range"|>1)(hs:starEach [a,b] X.env=[(false, eval a X.env),(false, eval b X.env)]|>1)(Ql:starEach [b] X.env=[(false, eval b X.env)]|>1):
  JI X R tg (.Call (.Name "range" p) [a,b] [] pos) (DC t):=
 .of (Gz hg hm ha hs Ql) λσ H G L ρ M q x rl n h hx=>by
  show(G,L,ρ,M,_,x,rl,n,h,hx,λvs H1 xz=>?_);let(ds,G1,L1,M1,e1,r1,n1,h1):=xz
  (try dsimp only at h1)
  split at h1
  .rename_i i j;let(v,u,rfl,n3,n2):=dt n1;let n3:v= .int i:=n3;let n2:u= .int j:=n2;subst n3 n2;show(i,j,rfl,h1.1,_,G1,L1,M1,e1,r1,LP,h1.2)
  .show h1.elim
end
def GD(K:fv)(gg:TG)(g:Dt->En->(En->Prop)->Prop):Prop:=
 ∀G L M H d v ρ σ (k:En->Prop) (Q:St->Hp->Prop),Rl K G L M H->Den K G L d v->lY K G L ρ σ->g d ρ k->(∀ρ' σ',lY K G L ρ' σ'->k ρ'->Q σ' H)->gg v σ H Q
def gN(i:Nat):Dt->En->(En->Prop)->Prop:=λd ρ k=>k (ρ.set i (!d))
def aL{K:fv}:GD K (fU i) (gN i):=λG L M H d v ρ σ k Q rl n en h hQ=>hQ _ _ (en.set i n) h
def g2(i j:Nat):Dt->En->(En->Prop)->Prop:=λd ρ k=>match d with
 | .tup [a,b]=>k ((ρ.set i (!a)).set j (!b))
 | _=>False
def mV{K:fv}:GD K (Ge K 2 (js (fU i) (js (fU j) Ho))) (g2 i j):=λG L M H d v ρ σ k Q rl n en h hQ=>by
 unfold g2 at h;split at h
 .rename_i a b;let(p,vs,rfl,e,n):=n;let(v1,v2,rfl,n1,n2):=dt n;show(p,_,rfl,.inl (.inl (rl.sub _ _ e)),rfl,v1,_,rfl,v2,_,rfl,rfl,hQ _ _ ((en.set i n1).set j n2) h)
 .show h.elim
def xh(g:Dt->En->(En->Prop)->Prop)(tb:DS)(Dn:l_):List Dt->En->Ms->Prop
 | [],ρ,M=>Dn.nx ρ M
 | x::xs,ρ,M=>g x ρ λρ'=>tb {Dn with nx:=xh g tb Dn xs,ct:=xh g tb Dn xs,bk:=Dn.nx} ρ' M
def U4(ti:DA)(g:Dt->En->(En->Prop)->Prop)(tb:DS):DS:=λDn ρ M=>ti ρ M (λxs M1=>xh g tb Dn xs ρ M1) Dn.x
section
variable{X:Cx}{R:St->XK}{tg iter:Expr}{body:List Stmt}{ti:DA}{gg:TG}{g:Dt->En->(En->Prop)->Prop}{tb:DS}{pos:Pos}
def lj(hi:JI X R tg iter ti)(hg:PG X tg gg)(gd:GD X.K gg g)(hb:Fe X R body tb)(hp:PassesOwn (model X.prog X.w) X.A X.env X.xe:=by first| exact PassesOwn.never| exact PassesOwn.leaving)(hc:X.calm=true|>1)(hs:(∀x,foldedSetIterable iter X.env x=pure x)|>3):
  JS X R (.For tg iter body [] pos) (U4 ti g tb):=.of (CG hp hc hi hg hb hs) λσ H G L ρ M Dn rl n h hx=>by
 show(G,L,ρ,M,_,_,rl,n,h,hx,λJ H1 xz=>?_);let(xs,G1,L1,M1,e1,r1,y,h1):=xz;show(λi m σ' H'=>m+i=-xs/\e9 X.K G1 L1 H1 (λρ' M'=>xh g tb Dn (xs.drop i) ρ' M') σ' H',(-xs,rfl,ρ,G1,L1,M1,.refl _ _ _,r1,n.mono e1,by rw[acs];show h1),?_);rintro i m σ' H' ⟨hm,ρ',G',L',M',e',r',n',h'⟩;by_cases hi:i < -xs
 .right;let hd:xs[i]? =!xs[i]:=aad hi;let(go,yl):=y.go i G' L' M' H' _ e'.g e'.l r' hd;rw[abU hi]at h';show(go,e9 X.K G1 L1 H1 (λρ' M'=>xh g tb Dn (xs.drop (i+1)) ρ' M'),λσ2 H2 f=>(m - 1,(),(),f),λv H2 hy=>?_);let(G2,e2,r2,n2):=yl v H2 hy;show gd G2 L' M' H2 _ v ρ' σ' _ _ r2 n2 (n'.mono e2) h' λρ3 σ3 n3 h3=>?_;show(G2,L',ρ3,M',_,r2,n3,h3,hx.on (e1.trans (e'.trans e2)),(λ_ _ f=>e9.back (e'.trans e2) f,λ_ _ f=>Fin.back (e1.trans (e'.trans e2)) f,λ_ _ f=>e9.back (e1.trans (e'.trans e2)) f,λ_ _ f=>e9.back (e'.trans e2) f))
 .left;show(y.stop i G' L' M' H' e'.g e'.l r' (),ρ',G',L',M',e1.trans e',r',n',?_);rw[acu ()]at h';show h'
end
abbrev DK:=En->Ms->(List Dt->(Ms->Prop)->Ms->Prop)->DX->Prop
structure Q5(K:fv)(J:It)(xs:List Dt)(ok:Ms->Prop)(G0:Hp)(L0:List Addr):Prop where
 go:∀(i:Nat) G L M H (d:Dt),eE G0 G->Pre L0 L->Rl K G L M H->ok M->xs[i]? =!d->J.go i H/\∀v H',J.VI i H v H'->∃G',Ex G L H G' L H'/\Rl K G' L M H'/\Den K G' L d v
 stop:∀(i:Nat) G L M H,eE G0 G->Pre L0 L->Rl K G L M H->ok M->-xs<=i->J.stop i H
inductive Xz(K:fv)(G0:Hp)(L0:List Addr)(H0:Hp)(q:List Dt->(Ms->Prop)->Ms->Prop)(J:It)(H:Hp):Prop
 | mk (xs:List Dt) (ok:Ms->Prop) (G:Hp) (L:List Addr) (M:Ms) (e:Ex G0 L0 H0 G L H) (r:Rl K G L M H) (y:Q5 K J xs ok G L) (h:q xs ok M)
inductive Ys(K:fv)(R:St->XK)(t:DK)(σ:St)(H:Hp)(Q:It->Hp->Prop):Prop
 | mk (G:Hp) (L:List Addr) (ρ:En) (M:Ms) (q:List Dt->(Ms->Prop)->Ms->Prop) (x:DX) (r:Rl K G L M H) (n:lY K G L ρ σ) (h:t ρ M q x) (hx:uT K G L H R x) (hQ:∀J H1,Xz K G L H q J H1->Q J H1)
def JK(X:Cx)(R:St->XK)(tg iter:Expr)(t:DK):Prop:=PI X tg iter (Ys X.K R t)
def YI(t:DA):DK:=λρ M q x=>t ρ M (λxs M1=>q xs (λ_=>True) M1) x
def wG(h:JI X R tg iter t):JK X R tg iter (YI t):=by intro η s σ H Q I ⟨G,L,ρ,M,q,x,r,n,ht,hx,hQ⟩;show h η s σ H Q I (G,L,ρ,M,_,x,r,n,ht,hx,λJ H1 (xs,G1,L1,M1,e1,r1,y,hq)=>hQ J H1 (xs,_,G1,L1,M1,e1,r1,(λi G L M H d g l r _ e=>y.go i G L M H d g l r e,λi G L M H g l r _ e=>y.stop i G L M H g l r e),hq))
def n_(Ρ:List Nat)(ρ:En):En:=Ρ.map λi=>(ρ[i]?).join
def ij(g:Dt->En->(En->Prop)->Prop)(tc:DT)(te:DE)(ρ0:En)(ok:Ms->Prop):List Dt->List Dt->Ms->(List Dt->Ms->Prop)->Prop
 | [],acc,M,k=>ok M/\k acc M
 | x::xs,acc,M,k=>ok M/\g x ρ0 λρ'=>tc ρ' M (λb M1=>match b with
  | true=>te ρ' M1 (λd M2=>ij g tc te ρ0 ok xs (acc++[d]) M2 k) k8
  | false=>ij g tc te ρ0 ok xs acc M1 k) k8
def yM(n:Nat)(ti:DK)(g:Dt->En->(En->Prop)->Prop)(tc:DT)(te:DE)(Ρ:List Nat):DE:=λρ M q x=>ti ρ M (λxs ok M1=>-xs<=sizeLine/\ij g tc te (List.replicate n none++n_ Ρ ρ) ok xs [] M1 (λys M2=>q (.lst ys) M2)) x
def Nj(n:Nat)(ti:DK)(g:Dt->En->(En->Prop)->Prop)(tc:DT)(te:DE)(Ρ:List Nat):DE:=λρ M q x=>ti ρ M (λxs ok M1=>-xs<=sizeLine/\ij g tc te (List.replicate n none++n_ Ρ ρ) ok xs [] M1 (λys M2=>q (.loc (-M2)) (M2++[.lst ys]))) x
def N6{K:fv}{os:St}{n:Nat}(h:lY K G L ρ σ)(Ρ:List Nat)(hl:-os=n):lY K G L (List.replicate n none++n_ Ρ ρ) (os++qr Ρ σ):=by
 let lc:-(n_ Ρ ρ)=-(qr Ρ σ):=by unfold n_ qr;simp
 show(by rw[aan,aan,abx,hl,lc],λi d' e=>?_);by_cases hi:i < n
 .rw[aaG (by rw[abx];show hi),aco,aaP hi]at e;cases e
 .rw[aaX (by rw[abx];omega),abx]at e;rw[aaX (),hl];unfold n_ at e;unfold qr;rw[aat]at e⊢;cases q:Ρ[i - n]? with
  | none=>rw[q]at e;cases e
  | some j=>
   rw[q]at e;let e:(ρ[j]?).join=!d':=aay e;let e:ρ[j]? =!(!d'):=by
    cases z:ρ[j]? with
    | none=>rw[z]at e;cases e
    | some o=>rw[z]at e;show abm some e
   let(v,hv,dn):=h.e7 j d' e;show(v,by change (!((σ[j]?).join))=_;rw[hv];rfl,dn)
def Bi{K:fv}{g:Dt->En->(En->Prop)->Prop}{M1:Ms}{ok:Ms->Prop}{Q:VK}{k:List Dt->Ms->Prop}(gd:GD K gg g)(r1:Rl K G1 L1 M1 H1)(n:lY K G1 L1 ρ σ)(y:Q5 K J xs ok G1 L1)(hD:H1 Dl=none)(hz:-xs<=sizeLine)
  (h:ij g tc te (List.replicate nn none++n_ Ρ ρ) ok xs [] M1 k)
  (fin:∀G2 L2 M2 H2 ds vs,Ex G1 L1 H1 G2 L2 H2->Rl K G2 L2 M2 H2->G2 Dl=none->Dl∉L2->H2 Dl=!(.lst vs)->Ο K G2 L2 ds vs->k ds M2->Q (.ref Dl) H2):
  DU J nn gg (HK K (λ_=>E0) tc) (uj K (λ_=>E0) te) (qr Ρ σ) Q H1 Dl:=by
 show⟨λi m ys H2=>m+i=-xs/\H2 Dl=!(.lst ys)/\∃acc G2 L2 M2,Ex G1 L1 H1 G2 L2 H2/\Rl K G2 L2 M2 H2/\G2 Dl=none/\Dl∉L2/\Ο K G2 L2 acc ys/\-acc<=i/\ij g tc te (List.replicate nn none++n_ Ρ ρ) ok (xs.drop i) acc M2 k,(-xs,rfl,ao,[],G1,L1,M1,?_),?_⟩
 .let gn:G1 Dl=none:=r1.sub.free hD;show((.refl _,.refl _,λ_ h _=>h,λb u h1 _=>by rw[Ν (λz=>by rw[z,hD]at h1;cases h1)];show h1,λ_ h=>.inl h,λb h=>by rw[Ν (λz=>h (by rw[z];show hD))];show h),(λb u e=>by rw[Ν (λz=>by rw[z,gn]at e;cases e)];show r1.sub b u e,r1.len,r1.nd,λi a m h1 h2=>?_),gn,r1.Qa hD,rfl,aaq _,by rw[acs];show h);let(q1,q2):=r1.e7 i a m h1 h2;show(q1,q2.mono (.refl _) (.refl _) (Ν λz=>q2.there (by rw[z];show hD)))
 .rintro i m ys H2 ⟨hm,HH,acc,G2,L2,M2,e2,r2,g2,l2,n2,la,h2⟩;show(HH,?_);let ne1:∀{b:Addr} {u:HO},H1 b=!u->b≠Dl:=λe z=>by rw[z,hD]at e;cases e
  by_cases hi:i < -xs
  .right;let hd:xs[i]? =!xs[i]:=aad hi;rw[abU hi]at h2;let(aU,h2):=h2;let(go,yl):=y.go i G2 L2 M2 H2 _ e2.g e2.l r2 aU hd;show(go,λv H3 hy os Ro=>?_);let(G3,e3,r3,n3):=yl v H3 hy;let h3:H3 Dl=!(.lst ys):=e3.out _ _ HH l2;let g3:G3 Dl=none:=e3.fr _ g2 (by rw[HH];simp);show gd G3 L2 M2 H3 _ v _ _ _ _ r3 n3 (N6 ((n.mono e2).mono e3) Ρ Ro) h2 λρ' σ' n' h'=>?_;show(G3,L2,ρ',M2,_,k8,r3,n',h',Lw,λb H4 xz=>?_);let(G4,L4,M4,e4,r4,h4):=xz;let Xo:H4 Dl=!(.lst ys):=e4.out _ _ h3 l2;let g4:G4 Dl=none:=e4.fr _ g3 (by rw[h3];simp);let l4:Dl∉L4:=λz=>(e4.new _ z).elim l2 λq=>by rw[h3]at q;cases q
   let RY:=e3.trans e4;cases b with
   | false=>
    show(m - 1,(),(),Xo,acc,G4,L4,M4,e2.trans RY,r4,g4,l4,Ο.mono RY.g RY.l _ _ n2,(),h4)
   | true=>
    show(G4,L4,ρ',M4,_,k8,r4,n'.mono e4,h4,Lw,λv5 H5 xz=>?_);let(d5,G5,L5,M5,e5,r5,n5,h5):=xz;let h5':H5 Dl=!(.lst ys):=e5.out _ _ Xo l4;let g5:G5 Dl=none:=e5.fr _ g4 (by rw[Xo];simp);let l5:Dl∉L5:=λz=>(e5.new _ z).elim l4 λq=>by rw[Xo]at q;cases q
    let X3:=RY.trans e5;let abJ:-ys=-acc:=by rw[<--n2]
    show(h5',(),m - 1,(),(),ao,acc++[d5],G5,L5,M5,?_,?_,g5,l5,(Ο.mono X3.g X3.l _ _ n2).app (_,_,rfl,n5,rfl),by rw[aan];change -acc+1<=i+1;omega,h5)
    .let S_:=e2.trans X3
     show(S_.g,S_.l,S_.fr,λb u h1 h2=>by rw[Ν (ne1 h1)];show S_.out b u h1 h2,S_.new,λb h=>by
      by_cases hb:b=Dl
      .rw[hb,ao];simp
      .rw[Ν hb];show S_.Fl b h)
    .show(λb u e=>by rw[Ν (λz=>by rw[z,g5]at e;cases e)];show r5.sub b u e,r5.len,r5.nd,λi a m h1 h2=>?_);let(q1,q2):=r5.e7 i a m h1 h2;show(q1,q2.mono (.refl _) (.refl _) (Ν λz=>l5 (by rw[<-z];show aap h1)))
  .left;rw[acu ()]at h2;show(y.stop i G2 L2 M2 H2 e2.g e2.l r2 h2.1 (),fin G2 L2 M2 H2 acc ys e2 r2 g2 l2 HH n2 h2.2)
section
variable{K:fv}{G1:Hp}{L1:List Addr}{H1 G:Hp}{L:List Addr}{M:Ms}{H:Hp}{p:Addr}{ds:List Dt}{vs:List V}{q:DQ}
def M_(e:Ex G1 L1 H1 G L H)(r:Rl K G L M H)(PN:H1 p=none)(hg:G p=none)(hl:p∉L)(h:H p=!(.lst vs))(n:Ο K G L ds vs)(k:q (.lst ds) M):Fin K G1 L1 H1 q (.ref p) H:=by
 let g1:eE G (upd G p (.lst vs)):=λb u e=>by rw[Ν (λz=>by rw[z,hg]at e;cases e)];show e
 show(.lst ds,upd G p (.lst vs),L,M,(e.g.trans g1,e.l,λb h1 h2=>?_,e.out,e.new,e.Fl),(λb u e=>?_,r.len,r.nd,λk a m h1 h2=>?_),(p,vs,rfl,ao,Ο.mono g1 (.refl _) _ _ n),k)
 .rw[Ν (λz=>h2 (by rw[z];show PN))];show e.fr b h1 h2
 .by_cases hb:b=p
  .rw[hb,ao]at e;rw[hb];cases e;show h
  .rw[Ν hb]at e;show r.sub b u e
 .let(q1,q2):=r.e7 k a m h1 h2;let hb:a≠p:=λz=>hl (by rw[<-z];show aap h1);show(by rw[Ν hb];show q1,q2.mono g1 (.refl _) rfl)
def MU(e:Ex G1 L1 H1 G L H)(r:Rl K G L M H)(PN:H1 p=none)(hg:G p=none)(hl:p∉L)(h:H p=!(.lst vs))(n:Ο K G L ds vs)(k:q (.loc (-M)) (M++[.lst ds])):Fin K G1 L1 H1 q (.ref p) H:=by
 show(.loc (-M),G,L++[p],M++[.lst ds],(e.g,e.l.trans ([p],rfl),e.fr,e.out,λb hb=>?_,e.Fl),(r.sub,by rw[List.length_append,List.length_append,r.len];rfl,List.nodup_append.mpr (r.nd,by simp,λa ha b hb=>?_),λk a m h1 h2=>?_),(p,rfl,by rw[<-r.len,List.getElem?_append_right (Nat.le_refl _)];simp),k)
 .rcases abo.mp hb with z| z
  .show e.new b z
  .let e:b=p:=by simpa using z
   right;rw[e];show PN
 .let e:b=p:=by simpa using hb
  rw[e];exactλz=>hl (z▸ha)
 .by_cases hk:k < -L
  .rw[aaG hk]at h1;rw[aaG (by rw[<-r.len];show hk)]at h2;let(q1,q2):=r.e7 k a m h1 h2;show(q1,q2.mono (.refl _) ([p],rfl) rfl)
  .let e:k=-L:=by have:=(aam.mp h1).1;rw[aan]at this;simp at this;omega
   rw[e,aaX (aaq _)]at h1;rw[e,r.len,aaX (aaq _)]at h2;simp at h1 h2;subst h1 h2;show(hg,vs,h,Ο.mono (.refl _) ([p],rfl) _ _ n)
def Wx(b:Bool)(q:DQ)(ys:List Dt)(M:Ms):Prop:=match b with
 | false=>q (.lst ys) M
 | true=>q (.loc (-M)) (M++[.lst ys])
def Ei(e:Ex G1 L1 H1 G L H)(r:Rl K G L M H)(PN:H1 p=none)(hg:G p=none)(hl:p∉L)(h:H p=!(.lst vs))(n:Ο K G L ds vs)(k:Wx b q ds M):Fin K G1 L1 H1 q (.ref p) H:=by
 cases b
 .show M_ e r PN hg hl h n k
 .show MU e r PN hg hl h n k
end
def dq{n i:Nat}(h:i < n):wX n (fU i):=λv os cs H Q hl hq=>((os.set i (!v),by rw[abC];show hl,ach _ _ ()),hq)
def pI{K:fv}{n i j:Nat}(h:i < n)(h':j < n):wX n (Ge K 2 (js (fU i) (js (fU j) Ho))):=
 fun v os cs H Q hl (a,xs,e,s,l,v1,r,e1,v2,r2,e2,e3,q)=>(a,xs,e,s,l,v1,r,e1,v2,r2,e2,e3,((os.set i (!v1)).set j (!v2),by simp[hl],by
  rw[ach _ _ (),ach _ _ (by rw[abC];omega)]),q)
section
variable{X:Cx}{elt iter tg:Expr}{xs:List Str}{scope:Scope}{pos:Pos}{ys:List Str}{Ρ:List Nat}
def d8{i:Nat}(S:aw X scope xs ys Ρ)(h:xs[i]? =!x)(C:Addr)(s:Shared)(H:Hp)(fp:List Addr):PG (Cx.comp X (xs++ys) scope C s H fp) (.Name x px) (fU i):=by
 let hm:x∈xs:=aap h;let hi:(xs++ys)[i]? =!x:=by rw[aaG (aam.mp h).1];show h
 show ai S.nd hi (.inl (lookup_relabel_local (S.own x hm))) (.inr (lookup_relabel_local (S.own x hm)))
def ze{x y:Str}{k:Nat}(hc:X.calm=true)(S:aw X scope [x,y] ys Ρ)(C:Addr)(s:Shared)(H:Hp)(fp:List Addr):PG (Cx.comp X ([x,y]++ys) scope C s H fp) (.Tuple [.Name x px,.Name y py] k pos) (Ge X.K 2 (js (fU 0) (js (fU 1) Ho))):=
 km (X:=Cx.comp X ([x,y]++ys) scope C s H fp) hc (bt (d8 S (i:=0) rfl C s H fp) (bt (d8 S (i:=1) rfl C s H fp) iu))
end
def tX:DT:=λ_ M q _=>q true M
def JTs(X:Cx)(cs:List Expr)(t:DT):Prop:=W4 X cs (HK X.K (λ_=>E0) t)
def iw:JTs X [] tX:=(.inl rfl,λη s σ H Q I (G,L,ρ,M,q,x,r,n,h,hx,hQ)=>aa6 (H,I,hQ true H (G,L,M,.refl _ _ _,r,h)))
def xN(h:JT X (λ_=>E0) c t):JTs X [c] t:=(.inr (c,rfl),h)
def PR(b:Bool)(g:Dt->En->(En->Prop)->Prop)(tc:DT)(te:DE)(cs:En)(q:DQ):List Dt->(Ms->Prop)->Ms->Prop:=λzs ok M1=>-zs<=sizeLine/\ij g tc te cs ok zs [] M1 (Wx b q)
section
variable{X:Cx}{R:St->XK}{elt iter tg:Expr}{cs:List Expr}{xs:List Str}{scope:Scope}{pos:Pos}{gg:TG}{g:Dt->En->(En->Prop)->Prop}{ti:DK}{tc:DT}{te:DE}{ys:List Str}{Ρ:List Nat}(b:Bool)(S:aw X scope xs ys Ρ)(hi:JK X R tg iter ti)(hg:∀C s H fp,PG (Cx.comp X (xs++ys) scope C s H fp) tg gg)(gd:GD X.K gg g)(hk:wX (-xs) gg)(ht:∀C s H fp,JTs (Cx.comp X (xs++ys) scope C s H fp) cs tc)(he:∀C s H fp,JE (Cx.comp X (xs++ys) scope C s H fp) (λ_=>E0) elt te)(hc:X.calm=true)(hs:∀x,foldedSetIterable iter X.env x=pure x)
include S hi hg gd hk ht he hc hs
def Tv{t:DE}(e:∀ρ M q x,t ρ M q x->ti ρ M (PR b g tc te (List.replicate (-xs) none++n_ Ρ ρ) q) x):JE X R (.ListComp elt [(tg,iter,cs,0)] scope pos) t:=
 .of (LH (tc:=HK X.K (λ_=>E0) tc) (te:=uj X.K (λ_=>E0) te) S hc hi hg hk ht he hs) λσ H G L ρ M q x rl n h hx=>(G,L,ρ,M,_,x,rl,n,e _ _ _ _ h,hx,λJ H1 (xs,ok,G1,L1,M1,e1,r1,y,hz,h1) D hD=>Bi gd r1 (n.mono e1) y hD hz h1 λG2 L2 M2 H2 ds vs e2 r2 g2 l2 h2 n2 k=>Fin.back e1 (Ei e2 r2 hD g2 l2 h2 n2 k))
def Te{i:Nat}{hI:Pos}(hN:X.N.Nodup)(Dj:X.N[i]? =!y)(hy:Loc X.env.scope y)(CY:swapsWith (.ListComp elt [(tg,iter,cs,0)] scope pos) (!(.Name y py)) hI.line X.env=pure true)(hf:X.fn y=true\/X.env.scope.names.lookup y=some .local){t:DE}(e:∀ρ M q x,t ρ M q x->ti ρ M (PR b g tc te (List.replicate (-xs) none++n_ Ρ ρ) q) x):
  JS X R (.Assign [.Name y py] (.ListComp elt [(tg,iter,cs,0)] scope pos) hI) (vg i t):=.of (zQ (tc:=HK X.K (λ_=>E0) tc) (te:=uj X.K (λ_=>E0) te) hN Dj hy S hc hi hg hk ht he CY hs hf) λσ H G L ρ M Dn rl n h hx=>by
 show(G,L,ρ,M,_,_,rl,n,e _ _ _ _ h,hx,fun J H1 (xs,ok,G1,L1,M1,e1,r1,y,hz,h1) D hD=>Bi gd r1 (n.mono e1) y hD hz h1 λG2 L2 M2 H2 ds vs e2 r2 g2 l2 h2 n2 k=>?_);let(d,G3,L3,M3,e3,r3,n3,h3):=Ei (q:=λd M=>Dn.nx (ρ.set i (!d)) M) e2 r2 hD g2 l2 h2 n2 k;show(_,G3,L3,M3,e1.trans e3,r3,((n.mono e1).mono e3).set i n3,h3)
end
def vT(te:DE)(cs:En):List Dt->List Dt->Ms->(List Dt->Ms->Prop)->Prop
 | [],acc,M,k=>k acc M
 | x::xs,acc,M,k=>te ((!x)::cs) M (λd M1=>vT te cs xs (acc++[d]) M1 k) k8
def uh(ti:DA)(te:DE)(Ρ:List Nat):DE:=λρ M q x=>ti ρ M (λxs M1=>-xs<=sizeLine/\vT te (n_ Ρ ρ) xs [] M1 (λys M2=>q (.lst ys) M2)) x
def xR:∀xs,vT te cs xs=ij (gN 0) tX te (none::cs) (λ_=>True) xs
 | []=>funext λacc=>funext λM=>funext λk=>(true_and _).symm
 | x::xs=>funext λacc=>funext λM=>funext λk=>by change te ((!x)::cs) M (λd M1=>vT te cs xs (acc++[d]) M1 k) k8=(True/\te ((!x)::cs) M (λd M1=>ij (gN 0) tX te (none::cs) (λ_=>True) xs (acc++[d]) M1 k) k8);rw[xR xs,true_and]
section
variable{X:Cx}{R:St->XK}{elt iter:Expr}{x:Str}{px:Pos}{scope:Scope}{pos:Pos}{ti:DA}{te:DE}{ys:List Str}{Ρ:List Nat}
def CK(S:aw X scope [x] ys Ρ)(hi:JI X R (.Name x px) iter ti)(he:∀C s H fp,JE (Cx.comp X (x::ys) scope C s H fp) (λ_=>E0) elt te)(hc:X.calm=true|>1)(hs:(∀x,foldedSetIterable iter X.env x=pure x)|>3):JE X R (.ListComp elt [(.Name x px,iter,[],0)] scope pos) (uh ti te Ρ):=Tv false S (wG hi) (d8 S (i:=0) rfl) aL (dq (Nat.zero_lt_succ 0)) (λ_ _ _ _=>iw) he hc hs λρ M q x h=>by unfold uh at h;simp only[xR]at h;show h
def mX{i:Nat}{hI:Pos}(hN:X.N.Nodup)(Dj:X.N[i]? =!y)(hy:Loc X.env.scope y)(S:aw X scope [x] ys Ρ)(hi:JI X R (.Name x px) iter ti)(he:∀C s H fp,JE (Cx.comp X (x::ys) scope C s H fp) (λ_=>E0) elt te)(hc:X.calm=true|>1)(CY:swapsWith (.ListComp elt [(.Name x px,iter,[],0)] scope pos) (!(.Name y py)) hI.line X.env=pure true|>1)(hs:(∀x,foldedSetIterable iter X.env x=pure x)|>3)(hf:X.fn y=true\/X.env.scope.names.lookup y=some .local:=by first| exact .inl rfl| exact .inr rfl| assumption):JS X R (.Assign [.Name y py] (.ListComp elt [(.Name x px,iter,[],0)] scope pos) hI) (vg i (uh ti te Ρ)):=Te false S (wG hi) (d8 S (i:=0) rfl) aL (dq (Nat.zero_lt_succ 0)) (λ_ _ _ _=>iw) he hc hs hN Dj hy CY hf λρ M q x h=>by unfold uh at h;simp only[xR]at h;show h
end
def fin_same{K:fv}{H:Hp}{q:DQ}(e:Ex G0 L0 H0 G L H)(r:Rl K G L M H)(n:Den K G L d v)(h:q d M):Fin K G0 L0 H0 q v H:=(d,G,L,M,e,r,n,h)
def cq{K:fv}{H:Hp}{q:DQ}(e:Ex G0 L0 H0 G L H)(r:Rl K G L M H)(h:q d M)(n:Den K G L d v|>1):Fin K G0 L0 H0 q v H:=(d,G,L,M,e,r,n,h)
def z7:Dt->Dt->Ms->DQ->Prop
 | .int i,.int j,M,q=>q (.int (i+j)) M
 | .str a,.str b,M,q=>-a+-b<=sizeLine/\q (.str (a++b)) M
 | .lst a,.lst b,M,q=>-a+-b<=sizeLine/\q (.lst (a++b)) M
 | .tup a,.tup b,M,q=>(a≠[]/\-a+-b<=sizeLine)/\q (.tup (a++b)) M
 | _,_,_,_=>False
def Ga:Dt->Dt->Ms->DQ->Prop
 | .int i,.int j,M,q=>q (.int (i - j)) M
 | _,_,_,_=>False
def KQ:Dt->Dt->Ms->DQ->Prop
 | .int i,.int j,M,q=>(iG i/\iG j)/\q (.int (i * j)) M
 | .lst a,.int k,M,q=>(- (2 ^ 63)<=k/\k < 2 ^ 63/\-a * k.toNat<=sizeLine)/\q (.lst (List.replicate k.toNat a).flatten) M
 | _,_,_,_=>False
def Rr:Dt->Dt->Ms->DQ->Prop
 | .int i,.int j,M,q=>(0 < j/\iG j)/\q (.int (i / j)) M
 | _,_,_,_=>False
def FE:Dt->Dt->Ms->DQ->Prop
 | .int i,.int j,M,q=>(j≠0/\iG j)/\q (.int (i.fdiv j)) M
 | _,_,_,_=>False
def Qi:Dt->Dt->Ms->DQ->Prop
 | .int i,.int j,M,q=>0 < j/\q (.int (i % j)) M
 | _,_,_,_=>False
def RW:Dt->Dt->Ms->DQ->Prop
 | .int i,.int j,M,q=>xX i j/\q (.int (i ^ j.toNat)) M
 | _,_,_,_=>False
def SN:Dt->Ms->DQ->Prop
 | .int i,M,q=>q (.int (- i)) M
 | _,_,_=>False
section
variable{K:fv}
def aaC:pC K (λx y H Q=>(∃i j,x=V.int i/\y= .int j/\Q (.int (i+j)) H)\/(∃i j,x=V.str i/\y= .str j/\-i+-j<=sizeLine/\Q (.str (i++j)) H)\/Sk x y H Q\/Pw K x y H Q) z7:=by
 intro G0 L0 H0 G L M H v1 v2 d1 d2 q e r n1 n2 h;unfold z7 at h;split at h
 .rename_i i j;show .inl (i,j,n1,n2,cq e r h)
 .rename_i a b;show .inr (.inl (a,b,n1,n2,h.1,cq e r h.2))
 .rename_i a b;let(p1,w1,rfl,e1,m1):=n1;let(p2,w2,rfl,e2,m2):=n2;show .inr (.inr (.inl (p1,p2,w1,w2,rfl,rfl,r.sub _ _ e1,r.sub _ _ e2,by rw[<--m1,<--m2];show h.1,λp hp=>?_)));show jQ e r hp (rO r hp (m1.app m2)) h.2
 .rename_i a b;let(p1,w1,rfl,e1,m1):=n1;let(p2,w2,rfl,e2,m2):=n2;let ne:w1≠[]:=λz=>h.1.1 (by have:=-m1;rw[z]at this;show List.eq_nil_of_length_eq_zero this);show .inr (.inr (.inr (p1,p2,w1,w2,rfl,rfl,.inl (.inl (r.sub _ _ e1)),.inl (.inl (r.sub _ _ e2)),ne,by rw[<--m1,<--m2];show h.1.2,λz=>?_,λ_ p hp=>?_)))
  .let hb:b=[]:=by have:=-m2;rw[z]at this;show List.eq_nil_of_length_eq_zero this
   subst hb;rw[abw]at h;show fin_same (d:=.tup a) e r (p1,w1,rfl,e1,m1) h.2
  .show jQ e r hp (ou r hp (m1.app m2)) h.2
 .show h.elim
def Zt:pC K (Al λi j=>.int (i - j)) Ga:=by
 intro G0 L0 H0 G L M H v1 v2 d1 d2 q e r n1 n2 h;unfold Ga at h;split at h
 .show(_,_,n1,n2,cq e r h)
 .show h.elim
def Zr:pC K (λx y H Q=>(rI (λi j=>iG i/\iG j) λi j=>.int (i * j)) x y H Q\/R3 x y H Q) KQ:=by
 intro G0 L0 H0 G L M H v1 v2 d1 d2 q e r n1 n2 h;unfold KQ at h;split at h
 .show .inl (_,_,n1,n2,h.1,cq e r h.2)
 .rename_i a k;let(p1,w1,rfl,e1,m1):=n1;show .inr (p1,k,w1,rfl,n2,r.sub _ _ e1,h.1.1,h.1.2.1,by rw[<--m1];show h.1.2.2,λp hp=>?_);show jQ e r hp (rO r hp (.of (xC m1.pair k.toNat))) h.2
 .show h.elim
def aak:pC K (rI (λ_ j=>j≠0/\iG j) λi j=>.int (i.fdiv j)) Rr:=by
 intro G0 L0 H0 G L M H v1 v2 d1 d2 q e r n1 n2 h;unfold Rr at h;split at h
 .rename_i i j;let h0:=h.1.1;show(_,_,n1,n2,((),h.1.2),fin_same (d:=.int (i.fdiv j)) e r rfl ?_);rw[acE i (aaT h0)];show h.2
 .show h.elim
def Vb:pC K (rI (λ_ j=>j≠0/\iG j) λi j=>.int (i.fdiv j)) FE:=by
 intro G0 L0 H0 G L M H v1 v2 d1 d2 q e r n1 n2 h;unfold FE at h;split at h
 .show(_,_,n1,n2,h.1,cq e r h.2)
 .show h.elim
def Z5:pC K (rI (λ_ j=>0 < j) λi j=>.int (i % j)) Qi:=by
 intro G0 L0 H0 G L M H v1 v2 d1 d2 q e r n1 n2 h;unfold Qi at h;split at h
 .show(_,_,n1,n2,h.1,cq e r h.2)
 .show h.elim
def XD:pC K (rI xX λi j=>.int (i ^ j.toNat)) RW:=by
 intro G0 L0 H0 G L M H v1 v2 d1 d2 q e r n1 n2 h;unfold RW at h;split at h
 .show(_,_,n1,n2,h.1,cq e r h.2)
 .show h.elim
def Zo:UnD K (rU λi=>.int (- i)) SN:=by
 intro G0 L0 H0 G L M H v1 d1 q e r n1 h;unfold SN at h;split at h
 .show(_,n1,cq e r h)
 .show h.elim
end
section
variable{X:Cx}{R:St->XK}{a b c:Expr}{ta tb:DE}{pos:Pos}
def a_(ja:JE X R a ta)(jb:JE X R b tb):JE X R (.BinOp a .Add b pos) (kg z7 ta tb):=xx (Qb.or (C3.or (Ll.or MW))) aaC ja jb
def l7(ja:JE X R a ta)(jb:JE X R b tb):JE X R (.BinOp a .Sub b pos) (kg Ga ta tb):=xx Sa Zt ja jb
def dN(ja:JE X R a ta)(jb:JE X R b tb):JE X R (.BinOp a .Mult b pos) (kg KQ ta tb):=xx (ND.or Jt) Zr ja jb
def cL(ja:JE X R a ta)(jb:JE X R b tb):JE X R (.BinOp a .FloorDiv b pos) (kg Rr ta tb):=xx A_ aak ja jb
def C2(ja:JE X R a ta)(jb:JE X R b tb):JE X R (.BinOp a .FloorDiv b pos) (kg FE ta tb):=xx A_ Vb ja jb
def bj(ja:JE X R a ta)(jb:JE X R b tb):JE X R (.BinOp a .Mod b pos) (kg Qi ta tb):=xx RL Z5 ja jb
def nZ(ja:JE X R a ta)(jb:JE X R b tb):JE X R (.BinOp a .Pow b pos) (kg RW ta tb):=xx Q4 XD ja jb
def KZ(ja:JE X R a ta):JE X R (.UnaryOp .USub a pos) (Xl SN ta):=Z_ Sj Zo ja
end
def W7:Dt->Dt->Ms->DQ->Prop
 | .int i,.int j,M,q=>q (.bl (decide (i < j))) M
 | _,_,_,_=>False
def Xn:Dt->Dt->Ms->DQ->Prop
 | .int i,.int j,M,q=>q (.bl (decide (i<=j))) M
 | _,_,_,_=>False
def fGt:Dt->Dt->Ms->DQ->Prop
 | .int i,.int j,M,q=>q (.bl (decide (j < i))) M
 | _,_,_,_=>False
def W3:Dt->Dt->Ms->DQ->Prop
 | .int i,.int j,M,q=>q (.bl (decide (j<=i))) M
 | _,_,_,_=>False
def oV:Dt->Option V
 | .aZ=>some .aZ
 | .bl b=>!(.bl b)
 | .int i=>!(.int i)
 | .str x=>!(.str x)
 | _=>none
def iN:List Dt->Option (List V)
 | []=>![]
 | d::ds=>match oV d,iN ds with
  | some v,!vs=>!(v::vs)
  | _,_=>none
section
variable{K:fv}{G:Hp}{L:List Addr}
def jg{u:V}(h:oV d=!u)(n:Den K G L d v):v=u/\dY u=true:=by cases d <;> first| (cases h;show(n,rfl))| cases h
def gO:∀{ds:List Dt} {vs us:List V},iN ds=!us->Ο K G L ds vs->vs=us/\us.all dY=true
 | [],vs,us,h,n=>by cases h;show(n,rfl)
 | d::ds,_,us,h,(v,r,e,n1,n2)=>by
  subst e;unfold iN at h;split at h
  .rename_i u1 u2 h1 h2;cases h;let(a1,a2):=jg h1 n1;let(b1,b2):=gO h2 n2;subst a1 b1;show(rfl,by rw[acf,a2,b2];rfl)
  .cases h
end
def OB:Dt->Dt->Ms->DQ->Prop
 | .int i,.int j,M,q=>q (.bl (decide (i=j))) M
 | .str i,.str j,M,q=>q (.bl (decide (i=j))) M
 | .bl i,.bl j,M,q=>q (.bl (decide (i=j))) M
 | .tup a,.tup b,M,q=>match iN a,iN b with
  | some us,!vs=>q (.bl (kf us vs)) M
  | _,_=>False
 | _,_,_,_=>False
def Ov:Dt->Dt->Ms->DQ->Prop
 | .int i,.int j,M,q=>q (.bl (! decide (i=j))) M
 | .str i,.str j,M,q=>q (.bl (! decide (i=j))) M
 | .bl i,.bl j,M,q=>q (.bl (! decide (i=j))) M
 | .tup a,.tup b,M,q=>match iN a,iN b with
  | some us,!vs=>q (.bl (! kf us vs)) M
  | _,_=>False
 | _,_,_,_=>False
def MA:Dt->Dt->Ms->DQ->Prop
 | .aZ,.aZ,M,q=>q (.bl true) M
 | .bl _,.aZ,M,q=>q (.bl false) M
 | .int _,.aZ,M,q=>q (.bl false) M
 | .str _,.aZ,M,q=>q (.bl false) M
 | .tup _,.aZ,M,q=>q (.bl false) M
 | .lst _,.aZ,M,q=>q (.bl false) M
 | _,_,_,_=>False
def vV:Dt->Dt->Ms->DQ->Prop
 | .aZ,.aZ,M,q=>q (.bl false) M
 | .bl _,.aZ,M,q=>q (.bl true) M
 | .int _,.aZ,M,q=>q (.bl true) M
 | .str _,.aZ,M,q=>q (.bl true) M
 | .tup _,.aZ,M,q=>q (.bl true) M
 | .lst _,.aZ,M,q=>q (.bl true) M
 | _,_,_,_=>False
section
variable{K:fv}
def ltD:pC K (Al λi j=>.bl (decide (i < j))) W7:=by
 intro G0 L0 H0 G L M H v1 v2 d1 d2 q e r n1 n2 h;unfold W7 at h;split at h
 .show(_,_,n1,n2,cq e r h)
 .show h.elim
def leD:pC K (Al λi j=>.bl (decide (i<=j))) Xn:=by
 intro G0 L0 H0 G L M H v1 v2 d1 d2 q e r n1 n2 h;unfold Xn at h;split at h
 .show(_,_,n1,n2,cq e r h)
 .show h.elim
def gtD:pC K (Al λi j=>.bl (decide (j < i))) fGt:=by
 intro G0 L0 H0 G L M H v1 v2 d1 d2 q e r n1 n2 h;unfold fGt at h;split at h
 .show(_,_,n1,n2,cq e r h)
 .show h.elim
def geD:pC K (Al λi j=>.bl (decide (j<=i))) W3:=by
 intro G0 L0 H0 G L M H v1 v2 d1 d2 q e r n1 n2 h;unfold W3 at h;split at h
 .show(_,_,n1,n2,cq e r h)
 .show h.elim
def lK{p q:Prop} [Decidable p] [Decidable q](h:p↔q):decide p=decide q:=decide_eq_decide.mpr h
def Vy:pC K (λx y H Q=>rEq x y H Q\/Vj K x y H Q) OB:=by
 intro G0 L0 H0 G L M H v1 v2 d1 d2 q e r n1 n2 h;unfold OB at h;split at h
 .rename_i i j;cases n1;cases n2;show .inl (rfl,fin_same (d:=.bl _) e r (by change V.bl _=V.bl _;rw[lK (p:=V.int i=V.int j) (q:=i=j) (λz=>V.int.inj z,λz=>by rw[z])]) h)
 .rename_i i j;cases n1;cases n2;show .inl (rfl,fin_same (d:=.bl _) e r (by change V.bl _=V.bl _;rw[lK (p:=V.str i=V.str j) (q:=i=j) (λz=>V.str.inj z,λz=>by rw[z])]) h)
 .rename_i i j;cases n1;cases n2;show .inl (rfl,fin_same (d:=.bl _) e r (by change V.bl _=V.bl _;rw[lK (p:=V.bl i=V.bl j) (q:=i=j) (λz=>V.bl.inj z,λz=>by rw[z])]) h)
 .rename_i a b;let(p1,w1,rfl,e1,m1):=n1;let(p2,w2,rfl,e2,m2):=n2;split at h
  .rename_i us vs h1 h2;let(rfl,a2):=gO h1 m1;let(rfl,b2):=gO h2 m2;show .inr (p1,p2,_,_,rfl,rfl,.inl (.inl (r.sub _ _ e1)),.inl (.inl (r.sub _ _ e2)),a2,b2,cq e r h)
  .show h.elim
 .show h.elim
def aal:pC K (λx y H Q=>rNe x y H Q\/UP K x y H Q) Ov:=by
 intro G0 L0 H0 G L M H v1 v2 d1 d2 q e r n1 n2 h;unfold Ov at h;split at h
 .rename_i i j;cases n1;cases n2;show .inl (rfl,fin_same (d:=.bl _) e r (by change V.bl _=V.bl _;rw[lK (p:=V.int i=V.int j) (q:=i=j) (λz=>V.int.inj z,λz=>by rw[z])]) h)
 .rename_i i j;cases n1;cases n2;show .inl (rfl,fin_same (d:=.bl _) e r (by change V.bl _=V.bl _;rw[lK (p:=V.str i=V.str j) (q:=i=j) (λz=>V.str.inj z,λz=>by rw[z])]) h)
 .rename_i i j;cases n1;cases n2;show .inl (rfl,fin_same (d:=.bl _) e r (by change V.bl _=V.bl _;rw[lK (p:=V.bl i=V.bl j) (q:=i=j) (λz=>V.bl.inj z,λz=>by rw[z])]) h)
 .rename_i a b;let(p1,w1,rfl,e1,m1):=n1;let(p2,w2,rfl,e2,m2):=n2;split at h
  .rename_i us vs h1 h2;let(rfl,a2):=gO h1 m1;let(rfl,b2):=gO h2 m2;show .inr (p1,p2,_,_,rfl,rfl,.inl (.inl (r.sub _ _ e1)),.inl (.inl (r.sub _ _ e2)),a2,b2,cq e r h)
  .show h.elim
 .show h.elim
def aau:pC K (λx y H Q=>y= .aZ/\Q (.bl (decide (x= .aZ))) H) MA:=by
 intro G0 L0 H0 G L M H v1 v2 d1 d2 q e r n1 n2 h;unfold MA at h;split at h
 .cases n1;show(n2,fin_same (d:=.bl true) e r (by change V.bl _=V.bl _;rw[aaB rfl]) h)
 .cases n1;show(n2,fin_same (d:=.bl false) e r (by change V.bl _=V.bl _;rw[aaF nofun]) h)
 .cases n1;show(n2,fin_same (d:=.bl false) e r (by change V.bl _=V.bl _;rw[aaF nofun]) h)
 .cases n1;show(n2,fin_same (d:=.bl false) e r (by change V.bl _=V.bl _;rw[aaF nofun]) h)
 .let(p1,w1,rfl,_):=n1;show(n2,fin_same (d:=.bl false) e r (by change V.bl _=V.bl _;rw[aaF nofun]) h)
 .let(p1,w1,rfl,_):=n1;show(n2,fin_same (d:=.bl false) e r (by change V.bl _=V.bl _;rw[aaF nofun]) h)
 .show h.elim
def Pe:pC K (λx y H Q=>y= .aZ/\Q (.bl (! decide (x= .aZ))) H) vV:=by
 intro G0 L0 H0 G L M H v1 v2 d1 d2 q e r n1 n2 h;unfold vV at h;split at h
 .cases n1;show(n2,fin_same (d:=.bl false) e r (by change V.bl _=V.bl _;rw[aaB rfl];rfl) h)
 .cases n1;show(n2,fin_same (d:=.bl true) e r (by change V.bl _=V.bl _;rw[aaF nofun];rfl) h)
 .cases n1;show(n2,fin_same (d:=.bl true) e r (by change V.bl _=V.bl _;rw[aaF nofun];rfl) h)
 .cases n1;show(n2,fin_same (d:=.bl true) e r (by change V.bl _=V.bl _;rw[aaF nofun];rfl) h)
 .let(p1,w1,rfl,_):=n1;show(n2,fin_same (d:=.bl true) e r (by change V.bl _=V.bl _;rw[aaF nofun];rfl) h)
 .let(p1,w1,rfl,_):=n1;show(n2,fin_same (d:=.bl true) e r (by change V.bl _=V.bl _;rw[aaF nofun];rfl) h)
 .show h.elim
end
section
variable{X:Cx}{R:St->XK}{a b c:Expr}{ta tb:DE}{pos:Pos}
def HV(ja:JE X R a ta)(jb:JE X R b tb):JE X R (.Compare a [.Lt] [b] pos) (kg W7 ta tb):=s_ Pm ltD ja jb (fo _)
def DB(ja:JE X R a ta)(jb:JE X R b tb):JE X R (.Compare a [.LtE] [b] pos) (kg Xn ta tb):=s_ EX leD ja jb (fo _)
def aav(ja:JE X R a ta)(jb:JE X R b tb):JE X R (.Compare a [.GtE] [b] pos) (kg W3 ta tb):=s_ Pu geD ja jb (fo _)
def Z1{k:Nat}(hr:ck k X.A)(ja:JE X R a ta)(jb:JE X R b tb):JE X R (.Compare a [.Eq] [b] pos) (kg OB ta tb):=s_ (O2.or (J' hr.CB)) Vy ja jb (fo _)
def Kx(ja:JE X R a ta)(jb:JE X R b tb):JE X R (.Compare a [.IsNot] [b] pos) (kg vV ta tb):=s_ FC Pe ja jb (fo _)
def uL(ja:JE X R a ta)(jb:JE X R b tb):JT X R (.Compare a [.Lt] [b] pos) (nI (kg W7 ta tb)):=iQ Pm ltD ja jb (fo _)
def KD(ja:JE X R a ta)(jb:JE X R b tb):JT X R (.Compare a [.LtE] [b] pos) (nI (kg Xn ta tb)):=iQ EX leD ja jb (fo _)
def wM(ja:JE X R a ta)(jb:JE X R b tb):JT X R (.Compare a [.Gt] [b] pos) (nI (kg fGt ta tb)):=iQ T5 gtD ja jb (fo _)
def Pk(ja:JE X R a ta)(jb:JE X R b tb):JT X R (.Compare a [.GtE] [b] pos) (nI (kg W3 ta tb)):=iQ Pu geD ja jb (fo _)
def cX{k:Nat}(hr:ck k X.A)(ja:JE X R a ta)(jb:JE X R b tb):JT X R (.Compare a [.Eq] [b] pos) (nI (kg OB ta tb)):=iQ (O2.or (J' hr.CB)) Vy ja jb (fo _)
def iz{k:Nat}(hr:ck k X.A)(ja:JE X R a ta)(jb:JE X R b tb):JT X R (.Compare a [.NotEq] [b] pos) (nI (kg Ov ta tb)):=iQ (UE.or (QP hr.CB)) aal ja jb (fo _)
def Ce(ja:JE X R a ta)(jb:JE X R b tb):JT X R (.Compare a [.Is] [b] pos) (nI (kg MA ta tb)):=iQ Sn aau ja jb (fo _)
def rV(ja:JE X R a ta)(jb:JE X R b tb):JT X R (.Compare a [.IsNot] [b] pos) (nI (kg vV ta tb)):=iQ FC Pe ja jb (fo _)
end
def iX(M:Ms):Dt->Option (List Dt)
 | .lst xs=>!xs
 | .tup xs=>!xs
 | .fX ns=>!(ns.map .int)
 | .kt xs=>!xs
 | .loc k=>match M[k]? with
  | some (.lst xs)=>!xs
  | _=>none
 | _=>none
def rQ{K:fv}{H:Hp}(r:Rl K G L M H)(n:Den K G L d v)(h:iX M d=!xs):∃a vs,v= .ref a/\(gI K H a vs\/mR K H a vs)/\Ο K G L xs vs:=by
 cases d with
 | lst ds=>cases h;let(a,vs,rfl,e,m):=n;show(a,vs,rfl,.inl (.of (r.sub _ _ e)),m)
 | tup ds=>cases h;let(a,vs,rfl,e,m):=n;show(a,vs,rfl,.inr (.of (r.sub _ _ e)),m)
 | kt ds=>cases h;let(a,vs,rfl,e,m):=n;show(a,vs,rfl,.inr (r.sub.UT e),m)
 | fX ns=>cases h;let(a,rfl,e):=n;show(a,_,rfl,.inl (r.sub.seq e),jw)
 | loc k=>
  let(a,rfl,e):=n;let h:(match M[k]? with| some (.lst xs)=>!xs| _=>none)=!xs:=h;split at h
  .rename_i ys hm;cases h;let(_,vs,e1,m1):=r.e7 k a _ e hm;show(a,vs,rfl,.inl (.of e1),m1)
  .cases h
 | _=>cases h
def MQ{K:fv}(n:Ο K G L ds vs)(h:ic ds i=!d):∃v,ic vs i=!v/\Den K G L d v:=by
 unfold ic at h⊢;rw[<--n];cases q:JZ (-ds) i with
 | none=>rw[q]at h;cases h
 | some j=>
  rw[q]at h;let(v,e,m):=n.get h;show(v,e,m)
def cG:Dt->Dt->Ms->DQ->Prop
 | .str z,.int i,M,q=>-z<=sizeLine/\match ic z.cps.toList i with
  | some c=>q (.str ⟨#[c]⟩) M
  | none=>False
 | d,.int i,M,q=>match iX M d with
  | some xs=>(match ic xs i with
   | some y=>q y M
   | none=>False)
  | none=>False
 | _,_,_,_=>False
def fi:List Dt->Ms->DQ->Prop
 | [.str z],M,q=>-z<=sizeLine/\q (.int (-z)) M
 | [d],M,q=>match iX M d with
  | some xs=>q (.int (-xs)) M
  | none=>False
 | _,_,_=>False
section
variable{K:fv}
def ixD:pC K (rIx K) cG:=by
 intro G0 L0 H0 G L M H v1 v2 d1 d2 q e r n1 n2 h;unfold cG at h;split at h
 .rename_i z i;split at h
  .rename_i c hc;show .inr (.inr (z,i,c,n1,n2,h.1,hc,cq e r h.2))
  .show h.2.elim
 .rename_i d i _;split at h
  .rename_i xs hx;split at h
   .rename_i y hy;let(a,vs,rfl,hs,m):=rQ r n1 hx;let(v,e1,m1):=MQ m hy;rcases hs with hs| hs
    .show .inl (a,vs,i,v,rfl,n2,hs,e1,fin_same e r m1 h)
    .show .inr (.inl (a,vs,i,v,rfl,n2,hs,e1,fin_same e r m1 h))
   .show h.elim
  .show h.elim
 .show h.elim
def YF:Du K (λxs H Q=>(∃z,xs=[V.str z]/\-z<=sizeLine/\Q (.int (-z)) H)\/(∃p ys,xs=[V.ref p]/\(gI K H p ys\/mR K H p ys)/\Q (.int (-ys)) H)) fi:=by
 intro G0 L0 H0 G L M H vs ds q e r n h;unfold fi at h;split at h
 .rename_i z;let(v,rfl,n1):=b9 n;cases n1;show .inl (z,rfl,h.1,cq e r h.2)
 .rename_i d _;let(v,rfl,n1):=b9 n;split at h
  .rename_i xs hx;let(a,ws,rfl,hs,m):=rQ r n1 hx;show .inr (a,ws,rfl,hs,fin_same (d:=.int (-xs)) e r (by change V.int _=V.int _;rw[-m]) h)
  .show h.elim
 .show h.elim
end
section
variable{X:Cx}{R:St->XK}{a b c:Expr}{ta tb:DE}{pos:Pos}
def Η(ja:JE X R a ta)(jb:JE X R b tb)(hs:xW b:=by exactλ_ _=>rfl):JE X R (.Subscript a b pos) (kg cG ta tb):=V9 R1 ixD ja jb hs
variable{x:Str}{p:Pos}{e:Expr}{es:List Expr}{t:DA}{id T:String}{r:List V->Hp->VK->Prop}{f:List Dt->Ms->DQ->Prop}
def fP(hc:e6 X (.builtin id) r)(cd:Du X.K r f)(hm:X.mg x=none)(hv:bootBuiltins x=!(.builtin id))(ha:JA X R (e::es) t)(hg:Gl X x|>1)(hn:x≠"__name__"|>2)(ub:(x==("__debug__":Str))=false|>2)
  (he:starEach (e::es) X.env=(false, eval e X.env)::starEach es X.env|>1) (fZ:(backTo pos (starEach es X.env)).any (·.1)=false|>1):JE X R (.Call (.Name x p) (e::es) [] pos) (BN f t):=
 .of (Md hc hg hm hv ha hn ub he fZ) λσ H G L ρ M q x r n h hx=>OP cd r n h hx
def zG(hc:e6 X (.type T) r)(cd:Du X.K r f)(hm:X.mg x=none)(hv:bootBuiltins x=!(.type T))(ha:JA X R (e::es) t)(hg:Gl X x|>1)(hn:x≠"__name__"|>2)(ub:(x==("__debug__":Str))=false|>2)
  (he:starEach (e::es) X.env=(false, eval e X.env)::starEach es X.env|>1) (fZ:(backTo pos (starEach es X.env)).any (·.1)=false|>1):JE X R (.Call (.Name x p) (e::es) [] pos) (BN f t):=
 .of (HR hc hg hm hv ha hn ub he fZ) λσ H G L ρ M q x r n h hx=>OP cd r n h hx
def cE(hm:X.mg "len"=none)(ha:JA X R [e] t)(he:starEach [e] X.env=(false, eval e X.env)::starEach [] X.env|>1)(fZ:(backTo pos (starEach [] X.env)).any (·.1)=false|>1)(hg:Gl X "len"|>1):JE X R (.Call (.Name "len" p) [e] [] pos) (BN fi t):=
 fP (xB.or yC) YF hm PySem.boot_len ha hg @_ @_ he fZ
end
def RV:List Dt->Ms->DQ->Prop
 | [.int i],M,q=>q (.int (if i < 0 then - i else i)) M
 | _,_,_=>False
def IC:List Dt->Ms->DQ->Prop
 | [.int i,.int j],M,q=>q (.int (if j < i then j else i)) M
 | _,_,_=>False
def QI:List Dt->Ms->DQ->Prop
 | [d],M,q=>∃bs:List Bool,iX M d=!(bs.map Dt.bl)/\(∀k,d≠ .kt k)/\(∀k,d≠ .tup k)/\q (.bl (bs.any id)) M
 | _,_,_=>False
def AW:Dt->Option Value
 | .aZ=>!(.type "NoneType")
 | .bl _=>!(.type "bool")
 | .int _=>!(.type "int")
 | .str _=>!(.type "str")
 | .lst _=>!(.type "list")
 | .tup _=>!(.type "tuple")
 | _=>none
def Gu:Dt->Option Value
 | .ty T=>!(.type T)
 | .ref C=>!(.ref C)
 | _=>none
def G6(K:fv):List Dt->Ms->DQ->Prop
 | [d,c],M,q=>match AW d,Gu c with
  | some t,!t'=>(match PySem.W.kitOne K t t' with
   | some b=>q (.bl b) M
   | none=>False)
  | _,_=>False
 | _,_,_=>False
section
variable{K:fv}
def wN:∀{l:List Str},Ο K G L (l.map Dt.str) (l.map V.str)
 | []=>rfl
 | _::_=>(_,_,rfl,rfl,wN)
def oG{G:Hp}{L:List Addr}:∀{bs:List Bool} {vs:List V},Ο K G L (bs.map Dt.bl) vs->vs=bs.map V.bl
 | [],_,h=>h
 | b::bs,_,(v,r,e,h1,h2)=>by subst e;rw[oG h2,show v=V.bl b from h1];rfl
def XO:Du K (λxs H Q=>∃i,xs=[V.int i]/\Q (.int (if i < 0 then - i else i)) H) RV:=by
 intro G0 L0 H0 G L M H vs ds q e r n h;unfold RV at h;split at h
 .rename_i i;let(v,rfl,n1):=b9 n;cases n1;show(i,rfl,cq e r h)
 .show h.elim
def aa4:Du K (λxs H Q=>∃i j,xs=[V.int i,.int j]/\Q (.int (if j < i then j else i)) H) IC:=by
 intro G0 L0 H0 G L M H vs ds q e r n h;unfold IC at h;split at h
 .rename_i i j;let(v,u,rfl,n1,n2):=dt n;cases n1;cases n2;show(i,j,rfl,cq e r h)
 .show h.elim
def ZJ:Du K (VN K) QI:=by
 intro G0 L0 H0 G L M H vs ds q e r n h;unfold QI at h;split at h
 .rename_i d;let(bs,hs,nk,nt,h):=h;let(v,rfl,n1):=b9 n;cases d with
  | lst xs=>
   cases hs;let(a,ws,rfl,e1,m):=n1;show(a,bs,rfl,by rw[<-oG m];show .of (r.sub _ _ e1),cq e r h)
  | loc k=>
   let(a,rfl,e1):=n1;let hs:(match M[k]? with| some (.lst xs)=>!xs| _=>none)=!(bs.map Dt.bl):=hs;split at hs
   .rename_i ys hm;cases hs;let(_,ws,e2,m):=r.e7 k a _ e1 hm;show(a,bs,rfl,by rw[<-oG m];show .of e2,cq e r h)
   .cases hs
  | tup xs=>show aa5 rfl (nt xs)
  | kt xs=>show aa5 rfl (nk xs)
  | fX ns=>
   let e0:ns.map Dt.int=bs.map Dt.bl:=aay hs;cases ns with
   | nil=>
    cases bs with
    | nil=>let(a,rfl,e1):=n1;show(a,[],rfl,r.sub.seq e1,cq e r h)
    | cons _ _=>cases e0
   | cons _ _=>
    cases bs with
    | nil=>cases e0
    | cons _ _=>cases e0
  | _=>cases hs
 .show h.elim
def vE{H:Hp}(r:Rl K G L M H)(n:Den K G L d v)(h:AW d=!t):j_ K H v t:=by
 cases d with
 | aZ=>cases h;cases n;show .aZ
 | bl b=>cases h;cases n;show .bl _
 | int i=>cases h;cases n;show .int _
 | str x=>cases h;cases n;show .str _
 | lst xs=>cases h;let(a,ws,rfl,e,_):=n;show .lst (r.sub _ _ e)
 | tup xs=>cases h;let(a,ws,rfl,e,_):=n;show .tup (r.sub _ _ e)
 | _=>cases h
def yG{t:Value}(n:Den K G L d v)(h:Gu d=!t):GG v=!t:=by
 cases d with
 | ty T=>cases n;show h
 | ref C=>cases n;show h
 | _=>cases h
def Zs:Du K (λxs H Q=>∃x c t t' b,xs=[x,c]/\j_ K H x t/\GG c=!t'/\PySem.W.kitOne K t t'=!b/\Q (.bl b) H) (G6 K):=by
 intro G0 L0 H0 G L M H vs ds q e r n h;unfold G6 at h;split at h
 .rename_i d c;let(v,u,rfl,n1,n2):=dt n;split at h
  .rename_i t t' h1 h2;split at h
   .rename_i b hb;show(v,u,t,t',b,rfl,vE r n1 h1,yG n2 h2,hb,cq e r h)
   .show h.elim
  .show h.elim
 .show h.elim
end
section
variable{X:Cx}{R:St->XK}{o a e e1 e2:Expr}{es:List Expr}{to ta te:DE}{t:DA}{name:Str}{apos aO pos p p2:Pos}{T id:String}
def HC:bootBuiltins "int"=!(.type "int"):=by decide+kernel
def GJ:bootBuiltins "abs"=!(.builtin "abs"):=by decide+kernel
def GQ:bootBuiltins "any"=!(.builtin "any"):=by decide+kernel
def GF:bootBuiltins "min"=!(.builtin "min"):=by decide+kernel
def fE:bootBuiltins "isinstance"=!(.builtin "isinstance"):=by decide+kernel
def CF:bootBuiltins "bool"=!(.type "bool"):=by decide+kernel
def zz:bootBuiltins "tuple"=!(.type "tuple"):=by decide+kernel
def nh:bootBuiltins "list"=!(.type "list"):=by decide+kernel
def Hy{T:String}(hm:X.mg x=none)(hv:bootBuiltins x=!(.type T))(hg:Gl X x|>1)(hn:x≠"__name__"|>2)(hd:(x==("__debug__":Str))=false|>2):JE X R (.Name x p) (dC (.ty T)):=Q7 (NI (v:=.ty T) hg hm hv rfl hn hd) λ_ _=>rfl
def sI(hm:∃tk,X.mg x=!(.int z tk))(hg:Gl X x|>1)(hd:(x==("__debug__":Str))=false|>2):JE X R (.Name x p) (dC (.int z)):=let (tk,hm):=hm;Q7 (ER (v:=.int z) hg hm (tk,rfl) hd) λ_ _=>rfl
end
def Xq(x:Str):It:=(λi _=>i < x.cps.size,λi H v H'=>H'=H/\∃c,x.cps[i]? =!c/\v= .str ⟨#[c]⟩,λi _=>x.cps.size<=i)
def Gv{K:fv}(x:Str)(t:Tok)(it:Addr):Turn P w K tg (Xq x) [it] it (λi h=>h.IsStrIter it "str_ascii_iterator" x t i) where
 mem:=by simp
 obj:=λi h st b hb=>by
  let e:b=it:=by simpa using hb
  subst e;let(o,e,c,d):=st;show(o,e,λv z=>by rw[d]at z;cases z)
 keep:=λi h h' st k=>let (o,ho,r):=st;(o,k it (by simp) o ho,r)
 item:=by intro X hP hw hK hc i η s σ H E I hf st hg;subst hP hw hK;let(f0,f1,f2,f3,f4,f5):=hf it (by simp);let hg:i < x.cps.size:=hg;show wpAny_pyNext_ascii_item st (c:=x.cps[i]) (by simp[hg]) λh' yv sb=>?_;let I1:Inv X η σ H {s with heap:=h',toks:=s.toks+1}:=I.turned (λb o hb e=>(sb.2 b hb).trans e) f0 f1 f3 f4 f5;let(o,e,c,d):=id yv;show(_,rfl,v7 (s:={s with heap:=h',toks:=s.toks+1}) e c d @_ (.str ⟨#[x.cps[i]]⟩,H,I1,(_,rfl),(rfl,_,by simp[hg],rfl),yv,λb hb=>(hf b hb).1))
 done:=by intro X hP hw hK hc i η s σ H E I hf st hg;subst hP hw hK;let(f0,f1,f2,f3,f4,f5):=hf it (by simp);let hg:x.cps.size<=i:=hg;show wpAny_pyNext_ascii_end (I.ok.hd hc) st (by simp;omega) λh' eb=>(rfl,I.turned (t':=s.toks) (λb o hb e=>eb b o hb e) f0 f1 f3 f4 f5)
 self:=λ_ _ _ _ _ st h=>wpAny_pyIter_striter_ascii st h
def Ha{K:fv}(x:Str)(t:Tok)(it:Addr):Turn P w K tg (Xq x) [it] it (λi h=>h.IsStrIter it "str_iterator" x t i) where
 mem:=by simp
 obj:=λi h st b hb=>by
  let e:b=it:=by simpa using hb
  subst e;let(o,e,c,d):=st;show(o,e,λv z=>by rw[d]at z;cases z)
 keep:=λi h h' st k=>let (o,ho,r):=st;(o,k it (by simp) o ho,r)
 item:=by intro X hP hw hK hc i η s σ H E I hf st hg;subst hP hw hK;let(f0,f1,f2,f3,f4,f5):=hf it (by simp);let hg:i < x.cps.size:=hg;show wpAny_pyNext_wide_item st (c:=x.cps[i]) (by simp[hg]) λh' yv sb=>?_;let I1:Inv X η σ H {s with heap:=h',toks:=s.toks+1}:=I.turned (λb o hb e=>(sb.2 b hb).trans e) f0 f1 f3 f4 f5;let(o,e,c,d):=id yv;show(_,rfl,v7 (s:={s with heap:=h',toks:=s.toks+1}) e c d @_ (.str ⟨#[x.cps[i]]⟩,H,I1,(_,rfl),(rfl,_,by simp[hg],rfl),yv,λb hb=>(hf b hb).1))
 done:=by intro X hP hw hK hc i η s σ H E I hf st hg;subst hP hw hK;let(f0,f1,f2,f3,f4,f5):=hf it (by simp);let hg:x.cps.size<=i:=hg;show wpAny_pyNext_wide_end (I.ok.hd hc) st (by simp;omega) λh' eb=>(rfl,I.turned (t':=s.toks) (λb o hb e=>eb b o hb e) f0 f1 f3 f4 f5)
 self:=λ_ _ _ _ _ st h=>wpAny_pyIter_striter_wide st h
def zq(z:Str):List Dt:=z.cps.toList.map λc=>Dt.str ⟨#[c]⟩
def R6{K:fv}:Yl K (Xq z) (zq z) G L where
 go :=λi G1 L1 M1 H1 d g l r e=>by
  unfold zq at e;rw[aat]at e;cases q:z.cps.toList[i]? with
  | none=>rw[q]at e;cases e
  | some c=>
   rw[q]at e;cases e;let hi:i < z.cps.size:=by have:=(aam.mp q).1;simpa using this
   show(hi,λv' H' xz=>?_);let(eH,c',e',y):=xz;subst eH y;have:c'=c:=by rw[<-Array.getElem?_toList,q]at e';show(aay e').symm
   subst this;show(G1,.refl _ _ _,r,rfl)
 stop:=λi G1 L1 M1 H1 g l r e=>by unfold zq at e;change z.cps.size<=i;simpa using e
def UX(M:Ms):Dt->Option (List Dt)
 | .lst xs=>!xs
 | .tup xs=>!xs
 | .fX ns=>!(ns.map .int)
 | .kt xs=>!xs
 | .str z=>!(zq z)
 | _=>none
section
variable{X:Cx}{R:St->XK}{tg e:Expr}{te:DE}
def zc{H:Hp}{Q:It->Hp->Prop}(I:Inv X η σ H s)(hq:gI X.K H a vs)(q:Q (WC X.K a) H):wpAny (model X.prog X.w) X.A (pyIter (.ref a)) (Mw X η σ tg Q) E s:=by
 let(its,rv,p,hz):=I.list hq;show wpAny_pyIter_list p.isList ?_;show(s.heap.objs.size,[s.heap.objs.size],_,_,H,rfl,I.kept (t':=s.toks) λb o e=>aas _ e,Hx a _,(_,abd _ rfl,rfl,rfl),λb hb=>?_,q);let e:b=s.heap.objs.size:=by simpa using hb
 subst e;show I.D9 (aaq _) (I.aU.fresh (aaq _))
def LQ{H:Hp}{Q:It->Hp->Prop}(I:Inv X η σ H s)(hq:mR X.K H a vs)(q:Q (Itt X.K a) H):wpAny (model X.prog X.w) X.A (pyIter (.ref a)) (Mw X η σ tg Q) E s:=by
 let(its,rv,p,hz):=I.tuple hq;show wpAny_pyIter_tuple (show s.heap.IsTuple a its.toArray from p) ?_;show(s.heap.objs.size,[s.heap.objs.size],_,_,H,rfl,I.kept (t':=s.toks) λb o e=>aas _ e,Df a _,(_,abd _ rfl,rfl,rfl),λb hb=>?_,q);let e:b=s.heap.objs.size:=by simpa using hb
 subst e;show I.D9 (aaq _) (I.aU.fresh (aaq _))
def QR{H:Hp}{Q:It->Hp->Prop}(I:Inv X η σ H s)(q:Q (Xq z) H):wpAny (model X.prog X.w) X.A (pyIter (.str z t)) (Mw X η σ tg Q) E s:=by
 let fp:∀b∈[s.heap.objs.size],sN X η H b:=λb hb=>by
  let e:b=s.heap.objs.size:=by simpa using hb
  subst e;show I.D9 (aaq _) (I.aU.fresh (aaq _))
 cases ha:z.cps.all (· < 128)
 .show wpAny_pyIter_wide ha (s.heap.objs.size,[s.heap.objs.size],_,_,H,rfl,I.kept (t':=s.toks) λb o e=>aas _ e,Ha z t _,(_,abd _ rfl,rfl,rfl),fp,q)
 .show wpAny_pyIter_ascii ha (s.heap.objs.size,[s.heap.objs.size],_,_,H,rfl,I.kept (t':=s.toks) λb o e=>aas _ e,Gv z t _,(_,abd _ rfl,rfl,rfl),fp,q)
end
def QX:DF:=λds _ q _=>∃ns:List Int,ds=[.fX ns]/\-ns<=63/\∀M',q (.bl true) M'
def A'(K:fv):Sp:=λvs H Q _=>∃(a:Addr) (ns:List Int),vs=[.ref a]/\gI K H a (ns.map V.int)/\-ns<=63/\∀H',Q (.bl true) H'
def Qn{K:fv}{k:Nat}{x:Str}(F:aC P w K mg base (cI P w) k f fd [x] (da K QX)):aC P w K mg base WR k f fd [x] (A' K):=by
 let sp:∀vs H Q E,A' K vs H Q E->da K QX vs H Q E0:=by rintro vs H Q E ⟨a,ns,rfl,hS,hl,hQ⟩;show(H,[],[.fX ns],[],λd _=>d= .bl true,λ_ _ _=>False,(.refl _,rfl,List.nodup_nil,λk a m h=>by simp at h),(_,_,rfl,(a,rfl,hS),rfl),(ns,rfl,hl,λ_=>rfl),fun v H' (d,G',L',M',_,_,n,e)=>?_,λ_ _ _ _ _ _ _ h=>h.elim);subst e;rw[show v=V.bl true from n];show hQ H'
 show(λvs H Q E h=>F.len vs H Q E0 (sp vs H Q E h),λA outer s H args us vs Q E hr he hb hv h=>codeAny_mono (F.run A outer s H args us vs Q E0 hr he hb hv (sp vs H Q E h)) λr s' hq=>?_);cases r with
 | error e=>
  let(_,_,_,_,_,_,_,_,hE):=hq;show hE.elim
 | ok fl=>cases fl <;> show hq
def Qr(c:DT)(tb:DS):DS:=λDn ρ M=>∃W:Nat->En->Ms->Prop,(∃m,W m ρ M)/\∀m ρ M,W m ρ M->
 c ρ M (λb M1=>(b=true->∃N:En->Ms->Prop,(∀ρ' M',N ρ' M'->∃m',m' < m/\W m' ρ' M')/\tb {Dn with nx:=N,ct:=N,bk:=Dn.nx} ρ M1)/\(b=false->Dn.nx ρ M1)) Dn.x
def Zf(i j:Nat)(t:DA):DS:=λDn ρ M=>t ρ M (λds M1=>match ds with
 | [a,b]=>Dn.nx ((ρ.set i (!a)).set j (!b)) M1
 | _=>False) Dn.x
section
variable{X:Cx}{R:St->XK}{c a b:Expr}{body:List Stmt}{tc:DT}{tb:DS}{pos:Pos}
def kR(hc:JT X R c tc)(hb:Fe X R body tb)(hp:PassesOwn (model X.prog X.w) X.A X.env X.xe:=by first| exact PassesOwn.never| exact PassesOwn.leaving):JS X R (.While c body [] pos) (Qr tc tb):=.of (Kq hp hc hb) λσ H G L ρ M Dn rl n h hx=>by
 let(W,(m0,w0),turn):=h;show(λm σ' H'=>e9 X.K G L H (W m) σ' H',(m0,ρ,G,L,M,.refl _ _ _,rl,n,w0),λm σ' H' xz=>?_);let(ρ',G',L',M',e',r',n',w'):=xz;show(G',L',ρ',M',_,_,r',n',turn m ρ' M' w',hx.on e',λv H1 xz=>?_);let(G1,L1,M1,e1,r1,h1):=xz;cases v with
 | true=>
  let(N,hN,hb):=h1.1 rfl;show CP (e9 X.K G L H N,fun σ2 H2 (ρ2,G2,L2,M2,e2,r2,n2,h2)=>?_,?_)
  .let(m',hm,w2):=hN ρ2 M2 h2;show(m',hm,ρ2,G2,L2,M2,e2,r2,n2,w2)
  .let Vc:=e'.trans e1;show(G1,L1,ρ',M1,_,r1,n'.mono e1,hb,hx.on Vc,(λ_ _ f=>e9.back Vc f,λ_ _ f=>Fin.back Vc f,λ_ _ f=>e9.back Vc f,λ_ _ f=>e9.back Vc f))
 | false=>show C7 (ρ',G1,L1,M1,e'.trans e1,r1,n'.mono e1,h1.2 rfl)
def Rn{i j:Nat}{kt k2 SD}(hN:X.N.Nodup)(hi:X.N[i]? =!x)(hj:X.N[j]? =!y)(ha:JA X R [a,b] t)(XN:i≠j|>2)
  (hx:X.env.scope.names.lookup x=some .local|>1) (hy:X.env.scope.names.lookup y=some .local|>1)
  (hw:swappedStores [.Tuple [.Name x px,.Name y py] kt pt] (.Tuple [a,b] k2 SD) X.env=pure (![x,y])|>1) (hc:X.calm=true|>1)
  (hs:swapsWithSole [.Tuple [.Name x px,.Name y py] kt pt] (.Tuple [a,b] k2 SD) pos.line X.env=pure false|>1):
  JS X R (.Assign [.Tuple [.Name x px,.Name y py] kt pt] (.Tuple [a,b] k2 SD) pos) (Zf i j t):=.of (QE hc hN hi hj XN hx hy ha hw hs) λσ H G L ρ M Dn rl n h hx=>by
 show(G,L,ρ,M,_,_,rl,n,h,hx,λvs H1 xz=>?_);let(ds,G1,L1,M1,e1,r1,n1,h1):=xz
 (try dsimp only at h1)
 split at h1
 .let(v,u,rfl,m1,m2):=dt n1;show(v,u,rfl,_,G1,L1,M1,e1,r1,((n.mono e1).set i m1).set j m2,h1)
 .show h1.elim
end
section
variable{X:Cx}{R:St->XK}{e e2 o:Expr}{es:List Expr}{t:DA}{to ta tb:DE}{a b:Expr}{p pos apos aO:Pos}
def Fm(hm:X.mg "abs"=none)(ha:JA X R [e] t)(he:starEach [e] X.env=(false, eval e X.env)::starEach [] X.env|>1)(fZ:(backTo pos (starEach [] X.env)).any (·.1)=false|>1)(hg:Gl X "abs"|>1):JE X R (.Call (.Name "abs" p) [e] [] pos) (BN RV t):=
 fP Ip XO hm GJ ha hg @_ @_ he fZ
def U9(hm:X.mg "min"=none)(ha:JA X R [e,e2] t)(hc:X.calm=true|>1)(he:starEach [e,e2] X.env=(false, eval e X.env)::starEach [e2] X.env|>1)(fZ:(backTo pos (starEach [e2] X.env)).any (·.1)=false|>1)(hg:Gl X "min"|>1):JE X R (.Call (.Name "min" p) [e,e2] [] pos) (BN IC t):=
 fP (HD hc) aa4 hm GF ha hg @_ @_ he fZ
def K4(hm:X.mg "any"=none)(ha:JA X R [e] t)(hc:X.calm=true|>1)(he:starEach [e] X.env=(false, eval e X.env)::starEach [] X.env|>1)(fZ:(backTo pos (starEach [] X.env)).any (·.1)=false|>1)(hg:Gl X "any"|>1):JE X R (.Call (.Name "any" p) [e] [] pos) (BN QI t):=
 fP (Kr hc) ZJ hm GQ ha hg @_ @_ he fZ
def O7(K:fv)(hm:X.mg "isinstance"=none)(ha:JA X R [e,e2] t)(he:starEach [e,e2] X.env=(false, eval e X.env)::starEach [e2] X.env|>1)(fZ:(backTo pos (starEach [e2] X.env)).any (·.1)=false|>1)(hg:Gl X "isinstance"|>1)(hK:X.K=K|>1):JE X R (.Call (.Name "isinstance" p) [e,e2] [] pos) (BN (G6 K) t):=by subst hK;show fP ko Zs hm fE ha hg @_ @_ he fZ
end
def wA{te:DE}{cs:En}{f:Dt->Dt}{k:List Dt->Ms->Prop}:∀(xs acc:List Dt),(∀x∈xs,∀q:DQ,q (f x) M->te ((!x)::cs) M q k8)->k (acc++xs.map f) M->vT te cs xs acc M k
 | [],acc,_,h=>by rw[List.map_nil,abw]at h;show h
 | x::xs,acc,ht,h=>ht x List.mem_cons_self _ (wA xs (acc++[f x]) (λy hy=>ht y (List.mem_cons_of_mem _ hy)) (by simpa using h))
def χ{q:DQ}(hs:iX M d=!xs)(h:ic xs i=!y)(k:q y M):cG d (.int i) M q:=by
 cases d with
 | str z=>cases hs
 | _=>
  unfold cG;simp only[hs,h];show k
def az{xs:List Dt}{q:DQ}(hs:iX M d=!xs)(k:q (.int (-xs)) M):fi [d] M q:=by
 cases d with
 | str z=>cases hs
 | _=>
  unfold fi;simp only[hs];show k
def Fh{K:fv}{q:DQ}(h1:AW d=!t)(h2:Gu c=!t')(h3:PySem.W.kitOne K t t'=!b)(k:q (.bl b) M):G6 K [d,c] M q:=by change(match AW d, Gu c with| some t,!t'=>(match PySem.W.kitOne K t t' with| some b=>q (.bl b) M| none=>False)| _,_=>False);rw[h1,h2];change(match PySem.W.kitOne K t t' with| some b=>q (.bl b) M| none=>False);rw[h3];show k
def bc{α:Type}{x:α}{xs:List α}:ic (x::xs) 0=!x:=Λ (j:=0) rfl
def H_(bs:List Bool):(List.range (-bs)).all (λi=>bs.getD i false)=bs.all id:=by
 induction bs with
 | nil=>rfl
 | cons b bs ih=>
  rw[aa9,aca,acf,List.all_map,acf,<-ih];rfl
def V'(K:fv):List V->Hp->VK->Prop:=λxs H Q=>∃(p:Addr) (bs:List Bool),xs=[.ref p]/\gI K H p (bs.map V.bl)/\Q (.bl (bs.all id)) H
section
variable{X:Cx}
def K8 (hc : X.calm = true) : e6 X (.builtin "all") (V' X.K) :=by
  intro η s σ H xs us Q I r h;obtain⟨p,bs,rfl,hq,q⟩ :=h;obtain⟨u,rfl,r1⟩ :=qQ r;cases r1;obtain⟨its,rv,pl,hz⟩ :=I.list hq;let P4 :=yd rv;subst P4;show call_all_walk (wpAny_pyIter_list pl.isList ?_);let lp : p < s.heap.objs.size :=by obtain⟨o,e,_⟩ :=pl.isList;show aaL e
  show(s.heap.objs.size,_,_,_,_,_,λi =>bs.getD i false,rfl,Walks.list (show X.A.in1.handled = none from I.ok.hd hc) s.heap.objs.size p (abj lp) (bs.map Value.bool).toArray,((_,abd _ rfl,rfl,rfl),pl.isList.at λo e =>aas _ e),zB,λh' tk hk =>?_);show(.bl (bs.all id),H,I.kept λb o e =>hk b o (λz =>by have : b = s.heap.objs.size :=(by simpa using z);show Nat.lt_irrefl _ (this ▸ Heap.lt_size e)) (Heap.get?_push_of_some _ e),?_,q);rw[aaU,aah,H_];rfl
end
def QY:List Dt->Ms->DQ->Prop
 | [.lst xs],M,q=>∃bs:List Bool,xs=bs.map Dt.bl/\q (.bl (bs.all id)) M
 | _,_,_=>False
def aaa{K:fv}:Du K (V' K) QY:=by
 intro G0 L0 H0 G L M H vs ds q e r n h;unfold QY at h;split at h
 .rename_i xs;let(bs,rfl,h):=h;let(v,rfl,n1):=b9 n;let(a,ws,rfl,e1,m):=n1;show(a,bs,rfl,by rw[<-oG m];show .of (r.sub _ _ e1),cq e r h)
 .show h.elim
def KR(i j:Nat)(t:DE):DS:=λDn ρ M=>t ρ M (λd M1=>match d with
 | .tup [a,b]=>Dn.nx ((ρ.set i (!a)).set j (!b)) M1
 | _=>False) Dn.x
section
variable{X:Cx}{R:St->XK}{e o:Expr}{es:List Expr}{t:DA}{to te:DE}{p pos apos aO:Pos}
def GV:bootBuiltins "all"=!(.builtin "all"):=by decide+kernel
def JV(hm:X.mg "all"=none)(ha:JA X R [e] t)(hc:X.calm=true|>1)(he:starEach [e] X.env=(false, eval e X.env)::starEach [] X.env|>1)(fZ:(backTo pos (starEach [] X.env)).any (·.1)=false|>1)(hg:Gl X "all"|>1):JE X R (.Call (.Name "all" p) [e] [] pos) (BN QY t):=
 fP (K8 hc) aaa hm GV ha hg @_ @_ he fZ
variable{i j k:Nat}{tg:Expr}
def ED(he:JE X R e te)(hg:PG X tg (Ge X.K 2 (js (fU i) (js (fU j) Ho))))(hs:swapsWithSole [tg] e pos.line X.env=pure false|>1)(hw:swappedStores [tg] e X.env=pure none|>1)
  (h1:(assignEach [tg] X.env).map (·.2)=[assign tg X.env]|>1):JS X R (.Assign [tg] e pos) (KR i j te):=.of (D6 he hg hs hw h1) λσ H G L ρ M Dn rl n h hx=>by
 show(G,L,ρ,M,_,_,rl,n,h,hx,λv H1 xz=>?_);let(d1,G1,L1,M1,e1,r1,n1,h1):=xz
 (try dsimp only at h1)
 split at h1
 .rename_i a b;let(p,vs,rfl,e,m):=n1;let(v1,v2,rfl,m1,m2):=dt m;show(p,_,rfl,.inl (.inl (r1.sub _ _ e)),rfl,v1,_,rfl,v2,_,rfl,rfl,_,G1,L1,M1,e1,r1,((n.mono e1).set i m1).set j m2,h1)
 .show h1.elim
end
mutual
def Dt.under(n:Nat):Dt->Prop
 | .aZ=>True
 | .bl _=>True
 | .int _=>True
 | .str _=>True
 | .tup ds=>Dt.bD n ds
 | .lst ds=>Dt.bD n ds
 | .obj _ _ ds=>Dt.bD n ds
 | .loc k=>k < n
 | .ref _=>True
 | .ty _=>True
 | .fX _=>True
 | .kt ds=>Dt.bD n ds
 | .exc _ _ ds=>Dt.bD n ds
 | .V5 _ _ _ _ ds=>Dt.bD n ds
def Dt.bD(n:Nat):List Dt->Prop
 | []=>True
 | d::ds=>Dt.under n d/\Dt.bD n ds
end
def MO.under(n:Nat):MO->Prop
 | .lst ds=>Dt.bD n ds
 | .ins _ _ ds=>Dt.bD n ds
 | .eG _ ds=>Dt.bD n ds
 | .raw _=>True
mutual
inductive Ik(n:Nat)(E:Ms):Dt->Dt->Prop
 | old {d:Dt} (h:d.under n):Ik n E d d
 | tup {ds es:List Dt} (h:gm n E ds es):Ik n E (.tup ds) (.tup es)
 | lst {ds es:List Dt} (h:gm n E ds es):Ik n E (.lst ds) (.lst es)
 | obj {C:Addr} {ns:List Str} {ds es:List Dt} (h:gm n E ds es):Ik n E (.obj C ns ds) (.obj C ns es)
 | u6 {k:Nat} {ds es:List Dt} (hk:n<=k) (e:E[k - n]? =!(.lst ds)) (h:gm n E ds es):Ik n E (.loc k) (.lst es)
 | Tt {k:Nat} {C:Addr} {ns:List Str} {ds es:List Dt} (hk:n<=k) (e:E[k - n]? =!(.ins C ns ds)) (h:gm n E ds es):Ik n E (.loc k) (.obj C ns es)
inductive gm(n:Nat)(E:Ms):List Dt->List Dt->Prop
 | nil:gm n E [] []
 | cons {d e:Dt} {ds es:List Dt} (h:Ik n E d e) (t:gm n E ds es):gm n E (d::ds) (e::es)
end
def gm.length:∀{ds es:List Dt},gm n E ds es->-ds=-es
 | [],es,h=>by cases h;rfl
 | d::ds,es,h=>by
  cases h with
  | cons h t=>rw[aa9,aa9,gm.length t]
def gm.old:∀{ds:List Dt},Dt.bD n ds->gm n E ds ds
 | [],_=>.nil
 | _::_,h=>.cons (.old h.1) (gm.old h.2)
section
variable{K:fv}{G G':Hp}{L0 t:List Addr}{n:Nat}
mutual
def vS(hn:-L0=n)(g:eE G G'):∀(d:Dt) (v:V),d.under n->Den K G (L0++t) d v->Den K G' L0 d v
 | .aZ,_,_,h=>h
 | .bl _,_,_,h=>h
 | .int _,_,_,h=>h
 | .str _,_,_,h=>h
 | .tup ds,_,u,(a,vs,e,h1,h2)=>(a,vs,e,g _ _ h1,cf hn g ds vs u h2)
 | .lst ds,_,u,(a,vs,e,h1,h2)=>(a,vs,e,g _ _ h1,cf hn g ds vs u h2)
 | .obj C ns ds,_,u,(a,dx,vs,e,h1,hl,h2)=>(a,dx,vs,e,g _ _ h1,hl,cf hn g ds vs u h2)
 | .loc k,_,u,(a,e,h1)=>(a,e,by
   let u:k < n:=u
   rwa[aaG (by rw[hn];show u)]at h1)
 | .ref _,_,_,h=>h
 | .ty _,_,_,h=>h
 | .fX _,_,_,(a,e,h1)=>(a,e,g.seq h1)
 | .kt ds,_,u,(a,vs,e,h1,h2)=>(a,vs,e,g.UT h1,cf hn g ds vs u h2)
 | .exc _ _ ds,_,u,(a,od,vs,e,h1,h2,h3,h4)=>(a,od,vs,e,g _ _ h1,h2.imp (λz=>z) (λ(dx,z1,z2)=>(dx,z1,g _ _ z2)),h3,cf hn g ds vs u h4)
 | .V5 _ _ _ _ ds,_,u,(vs,e,h2,h3,h4)=>(vs,e,h2.imp (λz=>z) (λ(dx,z1,z2)=>(dx,z1,g _ _ z2)),h3,cf hn g ds vs u h4)
def cf(hn:-L0=n)(g:eE G G'):∀(ds:List Dt) (vs:List V),Dt.bD n ds->Ο K G (L0++t) ds vs->Ο K G' L0 ds vs
 | [],_,_,h=>h
 | d::ds,_,u,(v,r,e,h1,h2)=>(v,r,e,vS hn g d v u.1 h1,cf hn g ds r u.2 h2)
end
def HN{H:Hp}(hn:-L0=n)(g:eE G G'){m:MO}(u:m.under n)(h:Im K G (L0++t) H a m):Im K G' L0 H a m:=by
 cases m with
 | lst ds=>let(vs,e,h):=h;show(vs,e,cf hn g _ _ u h)
 | ins C ns ds=>let(dx,vs,e,hl,h):=h;show(dx,vs,e,hl,cf hn g _ _ u h)
 | eG ks ds=>let(vs,e,hl,h):=h;show(vs,e,hl,cf hn g _ _ u h)
 | raw u=>show h
end
open Classical in
noncomputable def rA(G H:Hp)(t:List Addr):Hp:=λb=>if b∈t then H b else G b
def FA{H:Hp}{t:List Addr}{b:Addr}(h:b∈t):rA G H t b=H b:=by unfold rA;rw[if_pos h]
def oq{H:Hp}{t:List Addr}{b:Addr}(h:b∉t):rA G H t b=G b:=by unfold rA;rw[if_neg h]
section
variable{K:fv}{G:Hp}{L0 t:List Addr}{M0 E:Ms}{H:Hp}
def ju(r:Rl K G (L0++t) (M0++E) H):eE G (rA G H t):=λb u e=>by
 by_cases hb:b∈t
 .let(_,_,_,_,g,_):=r.xI (a:=b) (aa7 _ hb);rw[g]at e;cases e
 .rw[oq hb];show e
def JG(r:Rl K G (L0++t) (M0++E) H)(hn:-L0=-M0){k:Nat}(hk:-M0<=k)(e:(L0++t)[k]? =!a)(em:E[k - -M0]? =!m):rA G H t a=H a/\Im K G (L0++t) H a m:=by
 let e2:(M0++E)[k]? =!m:=by rw[aaX hk];show em
 let(_,q):=r.e7 k a m e e2;rw[aaX (by rw[hn];show hk)]at e;show(FA (aap e),q)
def MK(r:Rl K G (L0++t) (M0++E) H)(hn:-L0=-M0)(f:Ik (-M0) E d d'):∀v,Den K G (L0++t) d v->Den K (rA G H t) L0 d' v:=by
 show Ik.rec (motive_1:=λd d' _=>∀v,Den K G (L0++t) d v->Den K (rA G H t) L0 d' v) (motive_2:=λds es _=>∀vs,Ο K G (L0++t) ds vs->Ο K (rA G H t) L0 es vs) ?_ ?_ ?_ ?_ ?_ ?_ ?_ ?_ f
 .exactλ{d} u v h=>vS hn (ju r) d v u h
 .exactλ{ds es} f ih v (a,vs,e,h1,h2)=>(a,vs,e,ju r _ _ h1,ih vs h2)
 .exactλ{ds es} f ih v (a,vs,e,h1,h2)=>(a,vs,e,ju r _ _ h1,ih vs h2)
 .exactλ{C ns ds es} f ih v (a,dx,vs,e,h1,hl,h2)=>(a,dx,vs,e,ju r _ _ h1,hl.trans (-f),ih vs h2)
 .intro k ds es hk em f ih v ⟨a,e,h1⟩;let(o,vs,e1,h2):=JG r hn hk h1 em;show(a,vs,e,o.trans e1,ih vs h2)
 .intro k C ns ds es hk em f ih v ⟨a,e,h1⟩;let(o,dx,vs,e1,hl,h2):=JG r hn hk h1 em;show(a,dx,vs,e,o.trans e1,hl.trans (-f),ih vs h2)
 .exactλvs h=>h
 .exactλ{d e ds es} f t ih1 ih2 vs (v,r,e,h1,h2)=>(v,r,e,ih1 v h1,ih2 r h2)
end
def YD(n:Nat)(q:DQ):DQ:=λd M=>∃M' E d',M=M'++E/\-M'=n/\(∀m∈M',MO.under n m)/\Ik n E d d'/\q d' M'
def Fin.wq{K:fv}{q:DQ}{H:Hp}(r0:Rl K G0 L0 M0 H0)(f:Fin K G0 L0 H0 (YD (-M0) q) v H):Fin K G0 L0 H0 q v H:=by
 let(d,G,L,M,ex,r,dn,M',E,d',rfl,hl,hu,fz,hq):=f;let(t,rfl):=ex.l;let hn:-L0=-M':=by rw[hl];show r0.len
 let dis:∀b,b∈L0->b∉t:=λb h1 h2=>(acB.mp r.nd).2.2 b h1 b h2 rfl;let sm:=ju r;show(d',rA G H t,L0,M',(ex.g.trans sm,.refl _,λb h1 h2=>?_,ex.out,λb h=>.inl h,ex.Fl),(λb u e=>?_,hn,(acB.mp r.nd).1,λk a m h1 h2=>?_),MK r hn (hl▸fz) v dn,hq)
 .let hb:b∉t:=λz=>(ex.new b (aa7 _ z)).elim (λy=>dis b y z) h2;rw[oq hb];show ex.fr b h1 h2
 .by_cases hb:b∈t
  .rw[FA hb]at e;show e
  .rw[oq hb]at e;show r.sub b u e
 .let k1:k < -L0:=(aam.mp h1).1;let e1:(L0++t)[k]? =!a:=by rw[aaG k1];show h1
  let e2:(M'++E)[k]? =!m:=by rw[aaG (by rw[<-hn];show k1)];show h2
  let(g,q):=r.e7 k a m e1 e2;show(by rw[oq (dis a (aap h1))];show g,HN (n:=-M') hn sm (by rw[hl];show hu m (aap h2)) q)
section
variable{X:Cx}{R:St->XK}{e:Expr}{t:DE}
def h7{st:Stmt}:JS X R st (λ_ _ _=>False):=λ_ _ _ _ _ _ (_,_,_,_,_,_,_,h,_,_)=>h.elim
end
def Iz(C:Addr)(m:Str)(sp:Sp)(rF:List V)(R:St->XK)(ta:TE)(t:TA):TE:=λσ H Q=>ta σ H λx H1=>∃a dx fs,x= .ref a/\H1 a=!(.ins C dx fs)/\fs.lookup m=none/\
 t σ H1 λvs H2=>sp (x::(vs++rF)) H2 Q (R σ)
def QK(C:Addr)(sp:Sp)(rF:List V)(R:St->XK)(t:TA):TE:=λσ H Q=>t σ H λvs H1=>∀x dx,H1 x=none->H1 dx=none->dx≠x->
 sp (.ref x::(vs++rF)) (upd (upd H1 dx (.own x)) x (.ins C dx [])) (λv H2=>v= .aZ/\Q (.ref x) H2) (R σ)
section
variable{X:Cx}{CX:BP}{k:Nat}{f C:Addr}{fd:FuncData}{ps:List Str}{sp:Sp}{rF:List V}{ds:List Value}{R:St->XK}{x m:Str}{p pos apos:Pos}{e o:Expr}{es:List Expr}{ta:TE}{t:TA}
def Iv(he:PE X o ta)(c:Eh X.K C)(hm:OH X.K C m f)(F:aC X.prog X.w X.K X.mg X.base CX k f fd ps sp)(hr:ck k X.A)(hb:j5 X.K fd ps ds)(hd:aH rF ds)(hx:d_ CX X R)(ha:PA X (e::es) t)
  (RP:starEach (e::es) X.env=(false, eval e X.env)::starEach es X.env|>1) (fZ:(backTo pos (starEach es X.env)).any (·.1)=false|>1)
  (ht:eval (.Call (.Attribute o m apos) (e::es) [] pos) X.env=(do
   let  ov<-eval o X.env
   standAt apos.atName
   let (f, first)<-holding [ov] (getMethod ov m pl)
   callWith pos f first (backTo pos (starEach (e::es) X.env)) (backToKw pos (keywordEach [] X.env)))|>1):
  PE X (.Call (.Attribute o m apos) (e::es) [] pos) (Iz C m sp rF R ta t):=by
 intro η s σ H Q I h;show PySem.W.methodCall_KW (pl:=pl) (bH (he η s σ H _ I h) λu s1 xz=>?_) ht;let(x,H1,I1,rx,a,dx,fs,ex,ea,l,q):=xz;subst ex;obtain rfl:u=Value.ref a:=rx;show uK I1 ea c hm l ?_;show PySem.W.callWith_K (first:=[.ref a]) (h₀:=X.base) I.ok.mod.Wo hm.kp (bH (ha pos η s1 σ H1 _ I1 q) fun us s2 (vs,H2,I2,r,q2)=>(I2.qR,?_)) RP fZ;show yr (us:=.ref a::us) (vs:=.ref a::vs) F hr hb hd hx I2 (.cons rfl r) q2
def HY(he:PE X o ta)(c:Eh X.K C)(hm:OH X.K C m f)(F:aC X.prog X.w X.K X.mg X.base CX k f fd ps sp)(hr:ck k X.A)(hb:j5 X.K fd ps ds)(hd:aH rF ds)(hx:d_ CX X R)
  (ht:eval (.Call (.Attribute o m apos) [] [] pos) X.env=(do
   let  ov<-eval o X.env
   standAt apos.atName
   let (f, first)<-holding [ov] (getMethod ov m pl)
   callWith pos f first (backTo pos (starEach [] X.env)) (backToKw pos (keywordEach [] X.env)))|>1):
  PE X (.Call (.Attribute o m apos) [] [] pos) (Iz C m sp rF R ta TK):=by
 intro η s σ H Q I h;show PySem.W.methodCall_KW (pl:=pl) (bH (he η s σ H _ I h) λu s1 xz=>?_) ht;let(x,H1,I1,rx,a,dx,fs,ex,ea,l,q):=xz;subst ex;obtain rfl:u=Value.ref a:=rx;show uK I1 ea c hm l ?_;show PySem.W.callWith_K0 (first:=[.ref a]) I1.qR hm.kp (yr (us:=[.ref a]) (vs:=[.ref a]) F hr hb hd hx I1 (.cons rfl .nil) q)
def He{H:Hp}{Q:VK}(M:Mk X.K C f)(F:aC X.prog X.w X.K X.mg X.base CX k f fd ps sp)(hr:ck (k+1) X.A)(hb:j5 X.K fd ps ds)(hd:aH rF ds)
  (hx:d_ CX X R) (I:Inv X η σ H s) (r:aH vs us)
  (h:∀x dx,H x=none->H dx=none->dx≠x->sp (.ref x::(vs++rF)) (upd (upd H dx (.own x)) x (.ins C dx [])) (λv H2=>v= .aZ/\Q (.ref x) H2) (R σ)):
  wpAny (model X.prog X.w) X.A (call (.ref C) us) (EP X η σ Q) X.xe s:=by
 let hq:=h (s.heap.objs.size+1) s.heap.objs.size (I.aU.fresh (Nat.le_succ _)) (I.aU.fresh (aaq _)) (abj (abY _));let I2:=Inv.made (C:=C) I;let r2:aH (V.ref (s.heap.objs.size+1)::(vs++rF)) (Value.ref (s.heap.objs.size+1)::(us++ds)):=.cons rfl (r.append hd);let hl:-(Value.ref (s.heap.objs.size+1)::us++ds)=-ps:=by let e:=-r2;rw[F.len _ _ _ _ hq]at e;show e.symm
 show wpAny_call (LM (f:=f) I.qR M.makes M.init (acK.mp M.fn) (codeAny_mono (F.run _ X.stack _ _ (Value.ref (s.heap.objs.size+1)::us,[]) (Value.ref (s.heap.objs.size+1)::(us++ds)) _ _ (R σ) (hr.make C us [])
  (I2.V8.make C us []) (hb _ (Value.ref (s.heap.objs.size+1)::us) I2.qR hl) r2 hq) λr s' oX=>?_))
 cases r with
 | error e=>show hx η σ _ _ e s' I2 oX
 | ok fl=>
  cases fl with
  | ret u=>
   let(v,H',I3,rv,ev,q3):=I2.after oX;subst ev;show(rv,(V.ref (s.heap.objs.size+1),H',I3,rfl,q3))
  | next=>show False.elim oX
  | brk=>show False.elim oX
  | cont=>show False.elim oX
def Ki(M:Mk X.K C f)(F:aC X.prog X.w X.K X.mg X.base CX k f fd ps sp)(hr:ck (k+1) X.A)(hg:Gl X x)(hm:X.mg x=!(.ref C))(hb:j5 X.K fd ps ds)(hd:aH rF ds)(hx:d_ CX X R)
  (ha:PA X (e::es) t) (ub:(x==("__debug__":Str))=false|>2) (he:starEach (e::es) X.env=(false, eval e X.env)::starEach es X.env|>1) (fZ:(backTo pos (starEach es X.env)).any (·.1)=false|>1):
  PE X (.Call (.Name x p) (e::es) [] pos) (QK C sp rF R t):=by
 intro η s σ H Q I h;show wpAny_Call_Name_kw (y3 I hg hm ?_ ub);show PySem.W.callWith_K (h₀:=X.base) I.ok.mod.Wo M.kp (bH (ha pos η s σ H _ I h) fun us s1 (vs,H1,I1,r,q)=>(I1.qR,?_)) he fZ;show He M F hr hb hd hx I1 r q
end
def NH(C:Addr)(M:Ms)(d:Dt)(ns:List Str)(ds:List Dt):Prop:=d= .obj C ns ds\/∃k,d= .loc k/\M[k]? =!(.ins C ns ds)
section
variable{K:fv}{G:Hp}{L:List Addr}{M:Ms}{H:Hp}{C:Addr}{d:Dt}{v:V}{ns:List Str}{ds:List Dt}
def LD(r:Rl K G L M H)(n:Den K G L d v)(o:NH C M d ns ds):∃a dx vs,v= .ref a/\H a=!(.ins C dx (ns.zip vs))/\-ns=-ds/\Ο K G L ds vs:=by
 rcases o with rfl| ⟨k,rfl,hm⟩
 .let(a,dx,vs,e,h1,hl,h2):=n;show(a,dx,vs,e,r.sub _ _ h1,hl,h2)
 .let(a,e,h1):=n;let(_,dx,vs,h2,hl,h3):=r.e7 k a _ h1 hm;show(a,dx,vs,e,h2,hl,h3)
def AM:∀{ns:List Str} {ds:List Dt} {vs:List V} {d:Dt},Ο K G L ds vs->(ns.zip ds).lookup f=!d->∃v,(ns.zip vs).lookup f=!v/\Den K G L d v
 | [],_,_,_,_,h=>by simp at h
 | _::_,[],_,_,_,h=>by simp at h
 | g::ns,d::ds,_,d',(v,r,rfl,h1,h2),h=>by
  rw[abF,ace]at h;rw[abF,ace];cases q:f==g with
  | true=>rw[q]at h;cases h;show(v,rfl,h1)
  | false=>rw[q]at h;show AM h2 h
def uv:∀{ns:List Str} {ds:List Dt} {vs:List V},Ο K G L ds vs->(ns.zip ds).lookup f=none->(ns.zip vs).lookup f=none
 | [],_,_,_,_=>by simp
 | _::_,[],_,h,_=>by let h:_=_:=h;subst h;simp
 | g::ns,d::ds,_,(v,r,rfl,h1,h2),h=>by
  rw[abF,ace]at h;rw[abF,ace];cases q:f==g with
  | true=>rw[q]at h;cases h
  | false=>rw[q]at h;show uv h2 h
def A3{f:Str}{v:V}:∀{ns:List Str} {vs:List V},-ns=-vs->f∉ns->j6 f v (ns.zip vs)=(ns++[f]).zip (vs++[v])
 | [],[],_,_=>rfl
 | g::ns,x::vs,hl,h=>by let hg:¬g=f:=λz=>h (by rw[z];show aai);change(if g=f then (g, v)::ns.zip vs else (g, x)::j6 f v (ns.zip vs))=(g, x)::(ns++[f]).zip (vs++[v]);rw[if_neg hg,A3 (by simpa using hl) λz=>h (List.mem_cons_of_mem _ z)]
 | [],_::_,hl,_=>by simp at hl
 | _::_,[],hl,_=>by simp at hl
end
def SR(C:Addr)(f:Str)(t:DE):DE:=λρ M q x=>t ρ M (λd M1=>∃ns ds v,NH C M1 d ns ds/\(ns.zip ds).lookup f=!v/\q v M1) x
def O_(C:Addr)(m:Str)(T:DF)(to:DE)(ta:DA):DE:=λρ M q x=>to ρ M (λd M1=>(∃ns ds,NH C M1 d ns ds/\(ns.zip ds).lookup m=none)/\ta ρ M1 (λds M2=>T (d::ds) M2 q (λC fs M'=>x ρ C fs M')) x) x
def To(C:Addr)(T:DF)(ta:DA):DE:=λρ M q x=>ta ρ M (λds M1=>T (.loc (-M1)::ds) (M1++[.ins C [] []]) (λd M2=>d= .aZ/\q (.loc (-M1)) M2) (λC fs M'=>x ρ C fs M')) x
def O9(C:Addr)(f:Str)(to tv:DE):DS:=λDn ρ M=>tv ρ M (λy M1=>to ρ M1 (λd M2=>∃k ns ds,d= .loc k/\M2[k]? =!(.ins C ns ds)/\f∉ns/\-ns < 1000/\Dn.nx ρ (M2.set k (.ins C (ns++[f]) (ds++[y])))) Dn.x) Dn.x
structure gh(P:Program)(w:World)(K:fv)(mg:Str->Option Value)(base:Heap)(k:Nat)(C:Addr)(m:Str)(ps:List Str)(T:DF)(f:Addr)(fd:FuncData):Prop where
 ok:aC P w K mg base (cI P w) k f fd ps (da K T)
 b:j5 K fd ps []
 c:Eh K C
 m:OH K C m f
structure Oe(P:Program)(w:World)(K:fv)(mg:Str->Option Value)(base:Heap)(k:Nat)(x:Str)(C:Addr)(ps:List Str)(T:DF)(f:Addr)(fd:FuncData):Prop where
 ok:aC P w K mg base (cI P w) k f fd ps (da K T)
 b:j5 K fd ps []
 k:Mk K C f
 m:mg x=!(.ref C)
section
variable{X:Cx}{R:St->XK}{C:Addr}{f m x:Str}{T:DF}{k k':Nat}{a:Addr}{fd:FuncData}{ps:List Str}{e o value:Expr}{es:List Expr}{pos pos' apos p:Pos}{to te tv:DE}{ta:DA}
def zM(c:Eh X.K C)(n:iL X.K C f)(he:JE X R e te)(hb:attributeBase e f X.env (eval e X.env)=eval e X.env|>1):JE X R (.Attribute e f pos) (SR C f te):=
 .of (Rk he hb) λσ H G L ρ M q x rl en h hx=>by show(G,L,ρ,M,_,x,rl,en,h,hx,λv H1 xz=>?_);let(d1,G1,L1,M1,e1,r1,n1,ns,ds,y,ob,hl,h1):=xz;let(p,dx,vs,rfl,hp,_,dn):=LD r1 n1 ob;let(u,hu,du):=AM dn hl;show(p,C,dx,_,u,rfl,hp,c,n,hu,y,G1,L1,M1,e1,r1,du,h1)
def gX(D:gh X.prog X.w X.K X.mg X.base k C m ps T a fd)(hr:ck k' X.A)(hx:d_ (cI X.prog X.w) X R)(ho:JE X R o to)(ha:JA X R (e::es) ta)(hk:k<=k'|>2)
  (RP:starEach (e::es) X.env=(false, eval e X.env)::starEach es X.env|>1) (fZ:(backTo pos (starEach es X.env)).any (·.1)=false|>1)
  (ht:eval (.Call (.Attribute o m apos) (e::es) [] pos) X.env=(do
   let  ov<-eval o X.env
   standAt apos.atName
   let (f, first)<-holding [ov] (getMethod ov m pl)
   callWith pos f first (backTo pos (starEach (e::es) X.env)) (backToKw pos (keywordEach [] X.env)))|>1):
  JE X R (.Call (.Attribute o m apos) (e::es) [] pos) (O_ C m T to ta):=
 .of (Iv (pl:=pl) ho D.c D.m D.ok (hr.mono hk) D.b .nil hx ha RP fZ ht) λσ H G L ρ M q x rl en h hx=>by show(G,L,ρ,M,_,x,rl,en,h,hx,λv H1 xz=>?_);let(d1,G1,L1,M1,e1,r1,n1,(ns,ds,ob,hl),h1):=xz;let(p,dx,vs,rfl,hp,_,dn):=LD r1 n1 ob;show(p,dx,_,rfl,hp,uv dn hl,G1,L1,ρ,M1,_,x,r1,en.mono e1,h1,hx.on e1,λus H2 xz=>?_);let(qS,G2,L2,M2,e2,r2,n2,h2):=xz;change da X.K T (V.ref p::(us++[])) H2 _ _;rw[abw];let LC:=e1.trans e2;show(G2,L2,d1::qS,M2,q,_,r2,(_,_,rfl,Den.mono e2.g e2.l _ _ n1,n2),h2,λv H' f=>Fin.back LC f,λC fs M' G' L' H' od hq e' r' y=>hx σ ρ C fs M' G' L' H' od hq (LC.trans e') r' (en.mono (LC.trans e')) y)
def iB(D:gh X.prog X.w X.K X.mg X.base k C m ps T a fd)(hr:ck k' X.A)(hx:d_ (cI X.prog X.w) X R)(ho:JE X R o to)(hk:k<=k'|>2)
  (ht:eval (.Call (.Attribute o m apos) [] [] pos) X.env=(do
   let  ov<-eval o X.env
   standAt apos.atName
   let (f, first)<-holding [ov] (getMethod ov m pl)
   callWith pos f first (backTo pos (starEach [] X.env)) (backToKw pos (keywordEach [] X.env)))|>1):
  JE X R (.Call (.Attribute o m apos) [] [] pos) (O_ C m T to R9):=
 .of (HY (pl:=pl) ho D.c D.m D.ok (hr.mono hk) D.b .nil hx ht) λσ H G L ρ M q x rl en h hx=>by show(G,L,ρ,M,_,x,rl,en,h,hx,λv H1 xz=>?_);let(d1,G1,L1,M1,e1,r1,n1,(ns,ds,ob,hl),h1):=xz;let(p,dx,vs,rfl,hp,_,dn):=LD r1 n1 ob;show(p,dx,_,rfl,hp,uv dn hl,?_);change da X.K T (V.ref p::([]++[])) H1 _ _;show(G1,L1,[d1],M1,q,_,r1,(_,_,rfl,n1,rfl),h1,λv H' f=>Fin.back e1 f,λC fs M' G' L' H' od hq e' r' y=>hx σ ρ C fs M' G' L' H' od hq (e1.trans e') r' (en.mono (e1.trans e')) y)
def Lv(D:Oe X.prog X.w X.K X.mg X.base k x C ps T a fd)(hr:ck k' X.A)(hx:d_ (cI X.prog X.w) X R)(ha:JA X R (e::es) ta)(hk:k+1<=k'|>2)(hg:Gl X x|>1)(ub:(x==("__debug__":Str))=false|>2)
  (he:starEach (e::es) X.env=(false, eval e X.env)::starEach es X.env|>1) (fZ:(backTo pos (starEach es X.env)).any (·.1)=false|>1):JE X R (.Call (.Name x p) (e::es) [] pos) (To C T ta):=
 .of (Ki D.k D.ok (hr.mono hk) hg D.m D.b .nil hx ha ub he fZ) λσ H G L ρ M q x rl en h hx=>by
  show(G,L,ρ,M,_,x,rl,en,h,hx,λvs H1 xz y dx hy hdx l9=>?_);let(ds,G1,L1,M1,e1,r1,n1,h1):=xz;change da X.K T (V.ref y::(vs++[])) _ _ _;rw[abw];let ra:=r1.NG (o:=.own y) hdx;let ea:=r1.Tg (o:=.own y) hdx;let Xb:upd H1 dx (HO.own y) y=none:=by rw[Ν (Ne.symm l9)];show hy
  let rb:=ra.Of (p:=y) (o:=.ins C dx []) (m:=.ins C [] []) Xb (dx,[],ao,rfl,rfl);let eb:=ra.WQ (p:=y) (o:=.ins C dx []) Xb;let e2:=ea.trans eb;let LC:=e1.trans e2;show(_,_,.loc (-M1)::ds,_,_,_,rb,(_,_,rfl,(y,rfl,?_),Ο.mono e2.g e2.l _ _ n1),h1,fun v H' (d,G',L',M',e',r',dn,hd,hq)=>?_,λC fs M' G' L' H' od hq e' r' z=>hx σ ρ C fs M' G' L' H' od hq (LC.trans e') r' (en.mono (LC.trans e')) z)
  .rw[<-r1.len,List.getElem?_append_right (Nat.le_refl _)];simp
  .subst hd;show(dn,.loc (-M1),G',L',M',LC.trans e',r',(y,rfl,e'.l.get ?_),hq);rw[<-r1.len,List.getElem?_append_right (Nat.le_refl _)];simp
def EH(c:Eh X.K C)(n:iL X.K C f)(ho:JE X R o to)(hv:JE X R value tv)(hs:swapsWith value (!(.Attribute o f pos')) pos.line X.env=pure false|>1):JS X R (.Assign [.Attribute o f pos'] value pos) (O9 C f to tv):=
 .of (R8 ho hv hs) λσ H G L ρ M Dn rl en h hx=>by show(G,L,ρ,M,_,_,rl,en,h,hx,λy H1 xz=>?_);let(dy,G1,L1,M1,e1,r1,n1,h1):=xz;show(G1,L1,ρ,M1,_,_,r1,en.mono e1,h1,hx.on e1,λu H2 xz=>?_);let(du,G2,L2,M2,e2,r2,n2,k,ns,ds,ed,hm,hf,hz,h2):=xz;subst ed;let(p,rfl,hp):=n2;let(_,dx,vs,hH,hl,dn):=r2.e7 k p _ hp hm;let hlv:-ns=-vs:=hl.trans (-dn);show(p,C,dx,_,rfl,hH,c,n,by rw[abV,<-hlv,acM];show hz,?_);rw[A3 hlv hf];show(ρ,G2,L2,_,(e1.trans e2).trans (r2.Eu hp),r2.setM (m:=.ins C (ns++[f]) (ds++[dy])) hp (dx,_,ao,by rw[aan,aan,hl];rfl,dn.app (_,_,rfl,Den.mono e2.g e2.l _ _ n1,rfl)),(en.mono (e1.trans e2)).mono (r2.Eu (o:=.own p) hp),h2)
end
def zP:List Dt->Ms->DQ->Prop
 | [d],M,q=>match iX M d with
  | some xs=>q (.loc (-M)) (M++[.lst xs])
  | none=>False
 | _,_,_=>False
section
variable{K:fv}
def VH:Du K (λxs H Q=>∃p ys,xs=[V.ref p]/\(gI K H p ys\/mR K H p ys)/\∀l,H l=none->Q (.ref l) (upd H l (.lst ys))) zP:=by
 intro G0 L0 H0 G L M H vs ds q e r n h;unfold zP at h;split at h
 .rename_i d;let(v,rfl,n1):=b9 n;split at h
  .rename_i xs hs;let(a,us,rfl,hq,dn):=rQ r n1 hs;show(a,us,rfl,hq,λl hl=>ig e r hl dn h)
  .show h.elim
 .show h.elim
end
section
variable{X:Cx}{R:St->XK}{e o i value:Expr}{t:DA}{to ti tv:DE}{p pos apos aO uD:Pos}
def mz(hm:X.mg "list"=none)(ha:JA X R [e] t)(hg:Gl X "list"|>1)(he:starEach [e] X.env=(false, eval e X.env)::starEach [] X.env|>1)(fZ:(backTo pos (starEach [] X.env)).any (·.1)=false|>1):JE X R (.Call (.Name "list" p) [e] [] pos) (BN zP t):=
 zG yn VH hm nh ha hg @_ @_ he fZ
def P8(to:DE)(t:DA):DE:=λρ M q x=>to ρ M (λd M1=>(∃k xs,d= .loc k/\M1[k]? =!(.lst xs))/\t ρ M1 (λds M2=>∃k xs y,d= .loc k/\ds=[y]/\M2[k]? =!(.lst xs)/\-xs < sizeLine/\q .aZ (M2.set k (.lst (xs++[y])))) x) x
def f_(ho:JE X R o to)(ha:JA X R [e] t)(g8:attributeBase o "append" X.env (eval o X.env)=eval o X.env|>1)
  (Dp:((backTo aO (starEach [e] X.env)).all (λx=> ! x.1)&&(backToKw aO (keywordEach [] X.env)).all (λx=>x.1.isSome)
   &&decide (-([e]:List Expr)+-([]:List Keyword)+(if ([]:List Keyword).isEmpty then 0 else 1) < 30))=true|>1)
  (h_:(apos.endLine==aO.line)=true|>1) (hs:starEach [e] X.env=(false, eval e X.env)::starEach [] X.env|>1) (nG:(backTo aO (starEach [] X.env)).any (·.1)=false|>1):
  JE X R (.Call (.Attribute o "append" apos) [e] [] aO) (P8 to t):=
 .of (Ky acp PySem.F.slot_list_append PySem.F.type_list_append (r:=EW) wB ho ha g8 Dp h_ hs nG) λσ H G L ρ M q x rl n h hx=>by show(G,L,ρ,M,_,x,rl,n,h,hx,λv H1 xz=>?_);let(d1,G1,L1,M1,e1,r1,n1,(k,xs,ed,hm),h1):=xz;subst ed;let(a,rfl,hk):=n1;let(_,vs,hH,_):=r1.e7 k a _ hk hm;show(.inl (rfl,vs,.of hH),G1,L1,ρ,M1,_,x,r1,n.mono e1,h1,hx.on e1,λus H2 xz=>?_);let(ds,G2,L2,M2,e2,r2,n2,k',xs',y,ek,ed,QU,hz,h2):=xz;cases ek;subst ed;let(u,rfl,n3):=b9 n2;let BK:=e2.l.get hk;let(_,uU,Mr,Ar):=r2.e7 k a _ BK QU;show(a,uU,u,rfl,rfl,Mr,by rw[<--Ar];show hz,.aZ,G2,L2,_,(e1.trans e2).trans (r2.Eu BK),r2.setM (m:=.lst (xs'++[y])) BK (_,ao,Ar.app (_,_,rfl,n3,rfl)),rfl,h2)
def yq(to ti tv:DE):DS:=λDn ρ M=>tv ρ M (λy M1=>to ρ M1 (λd M2=>ti ρ M2 (λdi M3=>∃k i xs j,d= .loc k/\di= .int i/\M3[k]? =!(.lst xs)/\JZ (-xs) i=!j/\Dn.nx ρ (M3.set k (.lst (xs.set j y)))) Dn.x) Dn.x) Dn.x
def kK(ho:JE X R o to)(hi:JE X R i ti)(hv:JE X R value tv)(hs:swapsWithSole [.Subscript o i uD] value pos.line X.env=pure false|>1)(hw:swappedStores [.Subscript o i uD] value X.env=pure none|>1)
  (h1:(assignEach [.Subscript o i uD] X.env).map (·.2)=[assign (.Subscript o i uD) X.env]|>1)
  (ha:(∀v,assign (.Subscript o i uD) X.env v=(do
   let  ov<-holding [v] (eval o X.env)
   let  iv<-holding [v,ov] (eval i X.env)
   standAt uD
   holding [v,ov,iv] (setItem ov iv v)
   release [v,ov,iv] []))|>3):JS X R (.Assign [.Subscript o i uD] value pos) (yq to ti tv):=
 .of (D6 hv (RQ (t:=PB) ho hi Mm ha) hs hw h1) λσ H G L ρ M Dn rl n h hx=>by show(G,L,ρ,M,_,_,rl,n,h,hx,λv H1 xz=>?_);let(dv,G1,L1,M1,e1,r1,n1,h1):=xz;show(G1,L1,ρ,M1,_,_,r1,n.mono e1,h1,hx.on e1,λov H2 xz=>?_);let(d,G2,L2,M2,e2,r2,n2,h2):=xz;show(G2,L2,ρ,M2,_,_,r2,(n.mono e1).mono e2,h2,(hx.on e1).on e2,λiv H3 xz=>?_);let(di,G3,L3,M3,e3,r3,n3,k,i,xs,j,ed,ei,hm,hj,h3):=xz;subst ed ei;let(a,rfl,hk):=n2;let n3:iv= .int i:=n3;subst n3;let x4:=e3.l.get hk;let(_,vs,hH,dn):=r3.e7 k a _ x4 hm;let Hn:=e2.trans e3;let Xs:=Den.mono Hn.g Hn.l _ _ n1;show(a,vs,i,j,rfl,rfl,hH,by rw[<--dn];show hj,ρ,G3,L3,_,((e1.trans e2).trans e3).trans (r3.Eu x4),r3.setM (m:=.lst (xs.set j dv)) x4 (_,ao,.of (EZ Xs j dn.pair)),(((n.mono e1).mono e2).mono e3).mono (r3.Eu (o:=.own a) x4),h3)
end
structure Src(K:fv)(a:Addr)(xs:List Dt)(ok:Ms->Prop)(G0:Hp)(L0:List Addr):Prop where
 at_:∀G L M H,eE G0 G->Pre L0 L->Rl K G L M H->ok M->∃vs,gI K H a vs/\Ο K G L xs vs
def i6(M:Ms):Dt->Option (List Dt×(Ms->Prop))
 | .lst xs=>!(xs, λ_=>True)
 | .fX ns=>!(ns.map .int, λ_=>True)
 | .loc k=>match M[k]? with
  | some (.lst xs)=>!(xs, λM'=>M'[k]? =!(.lst xs))
  | _=>none
 | _=>none
def uJ{K:fv}{H:Hp}{xs:List Dt}{ok:Ms->Prop}(r:Rl K G L M H)(n:Den K G L d v)(h:i6 M d=!(xs, ok)):∃a vs,v= .ref a/\gI K H a vs/\Src K a xs ok G L/\ok M:=by
 cases d with
 | lst ds=>
  cases h;let(a,vs,rfl,e,m):=n;show(a,vs,rfl,.of (r.sub _ _ e),⟨λG' L' M' H' g l r' _=>(vs,.of (r'.sub _ _ (g _ _ e)),Ο.mono g l _ _ m)⟩,trivial)
 | fX ns=>
  cases h;let(a,rfl,e):=n;show(a,_,rfl,r.sub.seq e,⟨λG' L' M' H' g l r' _=>(_,r'.sub.seq (g.seq e),jw)⟩,trivial)
 | loc k=>
  let(a,rfl,e):=n;let h:(match M[k]? with| some (.lst xs)=>!(xs, λM':Ms=>M'[k]? =!(.lst xs))| _=>none)=!(xs, ok):=h;split at h
  .rename_i ys hm;cases h;let(_,vs,e1,m1):=r.e7 k a _ e hm;show(a,vs,rfl,.of e1,⟨λG' L' M' H' g l r' hk=>?_⟩,hm);let(_,uU,e2,m2):=r'.e7 k a _ (l.get e) hk;show(uU,.of e2,m2)
  .cases h
 | _=>cases h
def Kv{K:fv}{ok:Ms->Prop}(s:Src K a xs ok G L):Q5 K (WC K a) xs ok G L where
 go:=λi G1 L1 M1 H1 d g l r k e=>by
  let(vs,hs,n):=s.at_ G1 L1 M1 H1 g l r k;let(v,e1,n1):=n.get e
  show((vs,v,hs,e1),fun v' H' (eH,y)=>by
   subst eH;let e2:=y vs hs;rw[e1]at e2;cases e2
   show(G1,.refl _ _ _,r,n1))
 stop:=λi G1 L1 M1 H1 g l r k e=>by let(vs,hs,n):=s.at_ G1 L1 M1 H1 g l r k;show(vs,hs,by rw[<--n];show e)
def kO(M:Ms):Dt->Option (List Dt×(Ms->Prop))
 | .loc k=>i6 M (.loc k)
 | d=>(UX M d).map λxs=>(xs, λ_=>True)
def gu(t:DE):DK:=λρ M q x=>t ρ M (λd M1=>match kO M1 d with
 | some (xs, ok)=>q xs ok M1
 | none=>False) x
def bC(h:JE X R e te):JK X R tg e (gu te):=by
 intro η s σ H Q I ⟨G,L,ρ,M,q,x,rl,n,ht,hx,hQ⟩;show bH (h η s σ H (Fin X.K G L H _) I (G,L,ρ,M,_,x,rl,n,ht,hx,λ_ _ f=>f)) λu s1 xz=>?_;let(v,H1,I1,rv,d,G1,L1,M1,e1,r1,n1,h1):=xz
 (try dsimp only at h1)
 cases hi:kO M1 d with
 | none=>rw[hi]at h1;show h1.elim
 | some p=>
  let(xs,ok):=p;rw[hi]at h1;let fin:∀J,Q5 X.K J xs ok G1 L1->Q J H1:=λJ y=>hQ J H1 (xs,ok,G1,L1,M1,e1,r1,y,h1);let up:∀{J},ok=(λ_=>True)->Yl X.K J xs G1 L1->Q5 X.K J xs ok G1 L1:=λeo y=>by subst eo;show(λi G L M H d g l r _ e=>y.go i G L M H d g l r e,λi G L M H g l r _ e=>y.stop i G L M H g l r e)
  cases d with
  | loc k=>
   let(a,vs,rfl,hs,sr,_):=uJ r1 n1 hi;cases rv;show zc I1 hs (fin _ (Kv sr))
  | lst ds=>
   cases hi;let(a,vs,rfl,e,m):=n1;cases rv;show zc I1 (vs:=vs) (.of (r1.sub _ _ e)) (fin _ (up rfl (EI (λG' g=>.of (g _ _ e)) m)))
  | fX ns=>
   cases hi;let(a,rfl,e):=n1;cases rv;show zc I1 (r1.sub.seq e) (fin _ (up rfl (EI (λG' g=>g.seq e) jw)))
  | tup ds=>
   cases hi;let(a,vs,rfl,e,m):=n1;cases rv;show LQ I1 (vs:=vs) (.of (r1.sub _ _ e)) (fin _ (up rfl (LN (λG' g=>.of (g _ _ e)) m)))
  | kt ds=>
   cases hi;let(a,vs,rfl,e,m):=n1;cases rv;show LQ I1 (r1.sub.UT e) (fin _ (up rfl (LN (λG' g=>g.UT e) m)))
  | str z=>
   cases hi;cases n1;let(t,rfl):=rv;show QR I1 (fin _ (up rfl R6))
  | _=>cases hi
def yE(g:Dt->En->(En->Prop)->Prop)(tb:DS)(Dn:l_)(ok:Ms->Prop):List Dt->En->Ms->Prop
 | [],ρ,M=>ok M/\Dn.nx ρ M
 | x::xs,ρ,M=>ok M/\g x ρ λρ'=>tb {Dn with nx:=yE g tb Dn ok xs,ct:=yE g tb Dn ok xs,bk:=Dn.nx} ρ' M
def qI(ti:DK)(g:Dt->En->(En->Prop)->Prop)(tb:DS):DS:=λDn ρ M=>ti ρ M (λxs ok M1=>yE g tb Dn ok xs ρ M1) Dn.x
section
variable{X:Cx}{R:St->XK}{tg iter:Expr}{body:List Stmt}{ti:DK}{gg:TG}{g:Dt->En->(En->Prop)->Prop}{tb:DS}{pos:Pos}
def cP(hi:JK X R tg iter ti)(hg:PG X tg gg)(gd:GD X.K gg g)(hb:Fe X R body tb)(hp:PassesOwn (model X.prog X.w) X.A X.env X.xe:=by first| exact PassesOwn.never| exact PassesOwn.leaving)(hc:X.calm=true|>1)(hs:(∀x,foldedSetIterable iter X.env x=pure x)|>3):
  JS X R (.For tg iter body [] pos) (qI ti g tb):=.of (CG hp hc hi hg hb hs) λσ H G L ρ M Dn rl n h hx=>by
 show(G,L,ρ,M,_,_,rl,n,h,hx,λJ H1 xz=>?_);let(xs,ok,G1,L1,M1,e1,r1,y,h1):=xz;show(λi m σ' H'=>m+i=-xs/\e9 X.K G1 L1 H1 (λρ' M'=>yE g tb Dn ok (xs.drop i) ρ' M') σ' H',(-xs,rfl,ρ,G1,L1,M1,.refl _ _ _,r1,n.mono e1,by rw[acs];show h1),?_);rintro i m σ' H' ⟨hm,ρ',G',L',M',e',r',n',h'⟩;by_cases hi:i < -xs
 .right;let hd:xs[i]? =!xs[i]:=aad hi;rw[abU hi]at h';let(aU,h'):=h';let(go,yl):=y.go i G' L' M' H' _ e'.g e'.l r' aU hd;show(go,e9 X.K G1 L1 H1 (λρ' M'=>yE g tb Dn ok (xs.drop (i+1)) ρ' M'),λσ2 H2 f=>(m - 1,(),(),f),λv H2 hy=>?_);let(G2,e2,r2,n2):=yl v H2 hy;show gd G2 L' M' H2 _ v ρ' σ' _ _ r2 n2 (n'.mono e2) h' λρ3 σ3 n3 h3=>?_;show(G2,L',ρ3,M',_,r2,n3,h3,hx.on (e1.trans (e'.trans e2)),(λ_ _ f=>e9.back (e'.trans e2) f,λ_ _ f=>Fin.back (e1.trans (e'.trans e2)) f,λ_ _ f=>e9.back (e1.trans (e'.trans e2)) f,λ_ _ f=>e9.back (e'.trans e2) f))
 .left;rw[acu ()]at h';show(y.stop i G' L' M' H' e'.g e'.l r' h'.1 (),ρ',G',L',M',e1.trans e',r',n',h'.2)
end
def qz(te:DE)(cs:En)(ok:Ms->Prop):List Dt->List Dt->Ms->(List Dt->Ms->Prop)->Prop
 | [],acc,M,k=>ok M/\k acc M
 | x::xs,acc,M,k=>ok M/\te ((!x)::cs) M (λd M1=>qz te cs ok xs (acc++[d]) M1 k) k8
def mF(ti:DK)(te:DE)(Ρ:List Nat):DE:=λρ M q x=>ti ρ M (λxs ok M1=>-xs<=sizeLine/\qz te (n_ Ρ ρ) ok xs [] M1 (λys M2=>q (.lst ys) M2)) x
def rX(ti:DK)(te:DE)(Ρ:List Nat):DE:=λρ M q x=>ti ρ M (λxs ok M1=>-xs<=sizeLine/\qz te (n_ Ρ ρ) ok xs [] M1 (λys M2=>q (.loc (-M2)) (M2++[.lst ys]))) x
def n9{ok:Ms->Prop}:∀xs,qz te cs ok xs=ij (gN 0) tX te (none::cs) ok xs
 | []=>rfl
 | x::xs=>funext λacc=>funext λM=>funext λk=>by change(ok M/\te ((!x)::cs) M (λd M1=>qz te cs ok xs (acc++[d]) M1 k) k8)=(ok M/\te ((!x)::cs) M (λd M1=>ij (gN 0) tX te (none::cs) ok xs (acc++[d]) M1 k) k8);rw[n9 xs]
section
variable{X:Cx}{R:St->XK}{elt iter:Expr}{x:Str}{px:Pos}{scope:Scope}{pos:Pos}{ti:DK}{te:DE}{ys:List Str}{Ρ:List Nat}
def lS(S:aw X scope [x] ys Ρ)(hi:JK X R (.Name x px) iter ti)(he:∀C s H fp,JE (Cx.comp X (x::ys) scope C s H fp) (λ_=>E0) elt te)(hc:X.calm=true|>1)(hs:(∀x,foldedSetIterable iter X.env x=pure x)|>3):JE X R (.ListComp elt [(.Name x px,iter,[],0)] scope pos) (mF ti te Ρ):=Tv false S hi (d8 S (i:=0) rfl) aL (dq (Nat.zero_lt_succ 0)) (λ_ _ _ _=>iw) he hc hs λρ M q x h=>by unfold mF at h;simp only[n9]at h;show h
def Mg(S:aw X scope [x] ys Ρ)(hi:JK X R (.Name x px) iter ti)(he:∀C s H fp,JE (Cx.comp X (x::ys) scope C s H fp) (λ_=>E0) elt te)(hc:X.calm=true|>1)(hs:(∀x,foldedSetIterable iter X.env x=pure x)|>3):JE X R (.ListComp elt [(.Name x px,iter,[],0)] scope pos) (rX ti te Ρ):=Tv true S hi (d8 S (i:=0) rfl) aL (dq (Nat.zero_lt_succ 0)) (λ_ _ _ _=>iw) he hc hs λρ M q x h=>by unfold rX at h;simp only[n9]at h;show h
def cK{i:Nat}{hI:Pos}(hN:X.N.Nodup)(Dj:X.N[i]? =!y)(hy:Loc X.env.scope y)(S:aw X scope [x] ys Ρ)(hi:JK X R (.Name x px) iter ti)(he:∀C s H fp,JE (Cx.comp X (x::ys) scope C s H fp) (λ_=>E0) elt te)(hc:X.calm=true|>1)(CY:swapsWith (.ListComp elt [(.Name x px,iter,[],0)] scope pos) (!(.Name y py)) hI.line X.env=pure true|>1)(hs:(∀x,foldedSetIterable iter X.env x=pure x)|>3)(hf:X.fn y=true\/X.env.scope.names.lookup y=some .local:=by first| exact .inl rfl| exact .inr rfl| assumption):JS X R (.Assign [.Name y py] (.ListComp elt [(.Name x px,iter,[],0)] scope pos) hI) (vg i (mF ti te Ρ)):=Te false S hi (d8 S (i:=0) rfl) aL (dq (Nat.zero_lt_succ 0)) (λ_ _ _ _=>iw) he hc hs hN Dj hy CY hf λρ M q x h=>by unfold mF at h;simp only[n9]at h;show h
def ym{i:Nat}{hI:Pos}(hN:X.N.Nodup)(Dj:X.N[i]? =!y)(hy:Loc X.env.scope y)(S:aw X scope [x] ys Ρ)(hi:JK X R (.Name x px) iter ti)(he:∀C s H fp,JE (Cx.comp X (x::ys) scope C s H fp) (λ_=>E0) elt te)(hc:X.calm=true|>1)(CY:swapsWith (.ListComp elt [(.Name x px,iter,[],0)] scope pos) (!(.Name y py)) hI.line X.env=pure true|>1)(hs:(∀x,foldedSetIterable iter X.env x=pure x)|>3)(hf:X.fn y=true\/X.env.scope.names.lookup y=some .local:=by first| exact .inl rfl| exact .inr rfl| assumption):JS X R (.Assign [.Name y py] (.ListComp elt [(.Name x px,iter,[],0)] scope pos) hI) (vg i (rX ti te Ρ)):=Te true S hi (d8 S (i:=0) rfl) aL (dq (Nat.zero_lt_succ 0)) (λ_ _ _ _=>iw) he hc hs hN Dj hy CY hf λρ M q x h=>by unfold rX at h;simp only[n9]at h;show h
end
def vG:∀{ns:List Int} {us:List Value},aH (ns.map V.int) us->∃ts:List (Int×Tok),us=ts.map (λp=>Value.int p.1 p.2)/\ts.map (·.1)=ns
 | [],_,h=>by cases h;show([],rfl,rfl)
 | n::ns,_,h=>by
  cases h with
  | cons r t=>
   let(tk,rfl):=r;let(ts,rfl,rfl):=vG t;show((n, tk)::ts,rfl,rfl)
def Vk(K:fv):List V->Hp->VK->Prop:=λxs H Q=>∃(p:Addr) (ns:List Int),xs=[.ref p]/\gI K H p (ns.map V.int)/\Q (.int ns.sum) H
def Ke{X:Cx}(hc:X.calm=true):e6 X (.builtin "sum") (Vk X.K):=by
 intro η s σ H xs us Q I r h;let(p,ns,rfl,hq,q):=h;let(u,rfl,r1):=qQ r;cases r1;let(its,rv,pl,hz):=I.list hq;let(ts,rfl,rfl):=vG rv;let e:(ts.map λp=>Value.int p.1 p.2).toArray=intItems ts.toArray:=by simp[intItems]
 let hl:=pl.isList;rw[e]at hl;show sum_intListG (I.ok.hd hc) hl λh' tk t' hk=>?_;show(.int (ts.map (·.1)).sum,H,I.kept hk,(t',?_),q);rw[preSum_eq,List.take_of_length_le (by simp)]
def SF:List Dt->Ms->DQ->Prop
 | [d],M,q=>∃ns:List Int,iX M d=!(ns.map .int)/\(∃xs ok,i6 M d=!(xs, ok))/\q (.int ns.sum) M
 | _,_,_=>False
def tI{K:fv}:∀{ns:List Int} {vs:List V},Ο K G L (ns.map Dt.int) vs->vs=ns.map V.int
 | [],_,h=>h
 | _::_,_,(v,r,e,h1,h2)=>by let h1:v=_:=h1;rw[e,h1,tI h2];rfl
def kr{xs:List Dt}{ok:Ms->Prop}(h:i6 M d=!(xs, ok)):iX M d=!xs:=by
 cases d with
 | lst ds=>cases h;rfl
 | fX ns=>cases h;rfl
 | loc k=>
  let h:(match M[k]? with| some (.lst xs)=>!(xs, λM':Ms=>M'[k]? =!(.lst xs))| _=>none)=!(xs, ok):=h;change(match M[k]? with| some (.lst xs)=>!xs| _=>none)=!xs;split at h
  .rename_i ys hm;cases h;rfl
  .cases h
 | _=>cases h
def XX{K:fv}:Du K (Vk K) SF:=by
 intro G0 L0 H0 G L M H vs ds q e r n h;unfold SF at h;split at h
 .rename_i d;let(v,rfl,n1):=b9 n;let(ns,hs,(xs,ok,hl),hq):=h;let(a,us,rfl,sq,sr,aU):=uJ r n1 hl;rw[kr hl]at hs;cases hs;let(ws,WY,dn):=sr.at_ G L M H (.refl _) (.refl _) r aU;rw[tI dn]at WY;show(a,ns,rfl,WY,.int ns.sum,G,L,M,e,r,rfl,hq)
 .show h.elim
def Gg:bootBuiltins "sum"=!(.builtin "sum"):=by decide+kernel
def B4:bootBuiltins "enumerate"=!(.type "enumerate"):=by decide+kernel
section
variable{X:Cx}{R:St->XK}{e a b:Expr}{t:DA}{ta tb:DE}{p pos:Pos}
def zS(hm:X.mg "sum"=none)(ha:JA X R [e] t)(hc:X.calm=true|>1)(hg:Gl X "sum"|>1)(he:starEach [e] X.env=(false, eval e X.env)::starEach [] X.env|>1)(fZ:(backTo pos (starEach [] X.env)).any (·.1)=false|>1):JE X R (.Call (.Name "sum" p) [e] [] pos) (BN SF t):=
 fP (Ke hc) XX hm Gg ha hg @_ @_ he fZ
def Uk:Dt->Dt->Ms->DQ->Prop:=λd e M q=>∃u xs us,oV d=!u/\iX M e=!xs/\iN xs=!us/\q (.bl (S3 u us)) M
def aa0{K:fv}:pC K (rIn K false) Uk:=by intro G0 L0 H0 G L M H v1 v2 d1 d2 q e r n1 n2 ⟨u,xs,us,h1,h2,h3,hq⟩;let(rfl,fu):=jg h1 n1;let(a,vs,rfl,sq,dn):=rQ r n2 h2;let(rfl,fs):=gO h3 dn;show(a,vs,rfl,sq,fu,fs,.bl _,G,L,M,e,r,rfl,hq)
def xk(ja:JE X R a ta)(jb:JE X R b tb)(hm:behindInMarks .In b=false|>1):JT X R (.Compare a [.In] [b] pos) (nI (kg Uk ta tb)):=iQ Hs aa0 ja jb hm
end
def Inv.wu{H:Hp}{h':Heap}{its:List Addr}{T:Addr}{t':Nat}(I:Inv X η σ H s)(k:∀b u,b∉its->s.heap.get? b=!u->h'.get? b=!u)(f:∀b∈its,sN X η H b)(hT:s.heap.objs.size<=T)(new:cw X.prog X.w (upd H T o) h' T o):
  Inv X η σ (upd H T o) {s with heap:=h',toks:=t'}:=by
 let hn:=I.aU.fresh hT;let UG:∀b u,H b=!u->b∉its:=λb u e z=>by rw[(f b z).1]at e;cases e
 show I.call (ch:=its) (g':=s.gens) (d':=s.drawn) (t':=t') (λb u q _ _ hb=>k b u hb q,λb u q _ _ hb=>(u.slots,k b u hb q),λb u q n _=>?_,λb u q hb=>(u,k b u hb q),λb xs q=>?_,λb u xs q=>?_,λb ps q=>(#[],?_)) (λb u e=>?_) I.bare λb hb=>?_
 .rw[Ν (abj (aaR (aaL q) hT))];show n
 .rw[Ν (cb q hn)];show q
 .rw[Ν (cb q hn)];show q
 .rw[Ν (cb q hn),q];simp
 .by_cases hb:b=T
  .subst hb;rw[ao]at e;cases e;show new
  .rw[Ν hb]at e;show(I.aU b u e).CJ (λc v hc q=>k c v ?_ q) (λc q=>by rw[Ν (cb q hn)];show q) λc xs q=>by rw[Ν (cb q hn)];show q
   rcases hc with z| z
   .rw[z];show UG b u e
   .show UG c _ z
 .let(f0,f1,f2,f3,f4,f5):=f b hb;show(f3,f1,f4,f5)
def Ite(K:fv)(l:Addr):It:=
 ⟨λi H=>∃xs x,gI K H l xs/\xs[i]? =!x,λi H v H'=>∃p x,H p=none/\v= .ref p/\H'=upd H p (.tup [.int i,x])/\∀xs,gI K H l xs->xs[i]? =!x,λi H=>∃xs,gI K H l xs/\-xs<=i⟩
def Gw{K:fv}(l it e:Addr)(l9:e≠it):Turn P w K (.Tuple elts x1 tp) (Ite K l) [e,it] e (λi h=>(∃old,IsEnum h e it i old)/\h.IsListIter it l i) where
 mem:=by simp
 obj:=λi h st b hb=>by
  let((old,he),hi):=st;rcases aaS.mp hb with rfl| hb
  .show(_,he,λv z=>by
    let z':Data.fields _=Data.cell v:=z
    cases z')
  .let e:b=it:=by simpa using hb
   subst e;let(o,e,c,d):=hi;show(o,e,λv z=>by rw[d]at z;cases z)
 keep:=λi h h' st k=>by let((old,he),hi):=st;show((old,k e (by simp) _ he),hi.at λo q=>k it (by simp) o q)
 item:=by
  intro X hP hw hK hc i η s σ H E I hf st hg;subst hP hw hK;let((old,he),hi):=st;let(xs,x,hq,hx):=hg;let(its,rv,p,hz):=I.list hq;let(u,hu,ru):=rv.get hx;show wpAny_pyNext_enum_item he hi p.isList (x:=u) (by simpa using hu) l9 λh' ho Ly hT hsz hk=>?_;show(_,rfl,wpAny_letOwnedTupleGo_enum (s:={s with heap:=h',toks:=s.toks+1}) ho λh2 he2 sb=>?_);let sb:Heap.SameBut e h' h2:=sb;let elt:e < s.heap.objs.size:=aaL he;let ilt:it < s.heap.objs.size:=by let(o,q,_):=hi;show aaL q
  let neT:s.heap.objs.size≠e:=acQ elt;let hT2:h2.get? s.heap.objs.size=some {cls:=.type "tuple",data:=.seq #[.int i s.toks,u]}:=(sb.2 _ neT).trans hT;let I2:Inv X η σ (upd H s.heap.objs.size (.tup [.int i,x])) {s with heap:=h2,toks:=s.toks+1}:=by
   show I.wu (its:=[e,it]) (λb o hb q=>?_) hf (aaq _) ?_
   .let h1:b≠e:=λz=>hb (by simp[z]);let h3:b≠it:=λz=>hb (by simp[z]);show(sb.2 b h1).trans (hk b o h1 h3 q)
   .show(by simp[sizeLine_eq],[.int i s.toks,u],.cons (_,rfl) (.cons ru .nil),?_);show(_,hT2,rfl,0,rfl)
  let iter:h2.IsListIter it l (i+1):=Ly.at λo q=>(sb.2 it (Ne.symm l9)).trans q;show(.ref s.heap.objs.size,_,I2,rfl,(s.heap.objs.size,x,I.aU.fresh (Nat.le_refl _),rfl,rfl,λys hy=>by rw[I.cC hy hq];show hx),((u,by simpa using he2),iter),λb hb=>?_);let nb:b≠s.heap.objs.size:=by
   rcases aaS.mp hb with rfl| hb
   .show abj elt
   .have:b=it:=by simpa using hb
    subst this;show abj ilt
  rw[Ν nb];show(hf b hb).1
 done:=by intro X hP hw hK hc i η s σ H E I hf st hg;subst hP hw hK;let((old,he),hi):=st;let(xs,hq,hx):=hg;let(its,rv,p,hz):=I.list hq;let hl:=-rv;let(f0,f1,f2,f3,f4,f5):=hf it (by simp);show wpAny_pyNext_enum_end (I.ok.hd hc) he hi p.isList (by simp;omega) λh' ext=>⟨rfl,I.turned (t':=s.toks) (λb o hb q=>ext b o hb q) f0 f1 f3 f4 f5⟩
 self:=λ_ _ _ _ _ st h=>by let((old,he),_):=st;show wpAny_pyIter_enum he h
def iq:Nat->List Dt->List Dt
 | _,[]=>[]
 | n,x::xs=>.tup [.int n,x]::iq (n+1) xs
def gB:∀(n:Nat) (xs:List Dt),-(iq n xs)=-xs
 | _,[]=>rfl
 | n,_::xs=>by unfold iq;rw[List.length_cons,List.length_cons,gB]
def qu:∀{n i:Nat} {xs:List Dt} {d:Dt},(iq n xs)[i]? =!d->∃x,xs[i]? =!x/\d= .tup [.int ((n+i:Nat):Int),x]
 | n,i,[],d,h=>by simp[iq]at h
 | n,0,x::xs,d,h=>by unfold iq at h;simp at h;show(x,rfl,by rw[<-h];simp)
 | n,i+1,x::xs,d,h=>by unfold iq at h;let(y,h1,h2):=qu (n:=n+1) (i:=i) (xs:=xs) (d:=d) (by simpa using h);show(y,by simpa using h1,by rw[h2,show n+1+i=n+(i+1) by omega])
def LX{K:fv}{ok:Ms->Prop}(s:Src K a xs ok G L):Q5 K (Ite K a) (iq 0 xs) ok G L where
 go:=λi G1 L1 M1 H1 d g l r k e=>by let(vs,hs,n):=s.at_ G1 L1 M1 H1 g l r k;let(y,ey,rfl):=qu e;let(v,e1,n1):=n.get ey;show((vs,v,hs,e1),λv' H' xz=>?_);let(p,x,hp,ev,eH,hx):=xz;subst ev eH;let e2:=hx vs hs;rw[e1]at e2;cases e2;show(_,r.Tg hp,r.NG hp,ou (ds:=[.int ((0+i:Nat):Int),y]) r hp (_,_,rfl,?_,_,_,rfl,n1,rfl));change V.int i=V.int _;rw[acj]
 stop:=λi G1 L1 M1 H1 g l r k e=>by let(vs,hs,n):=s.at_ G1 L1 M1 H1 g l r k;show(vs,hs,by rw[<--n,<-gB 0];show e)
def Tw(t:DA):DK:=λρ M q x=>t ρ M (λds M1=>∃d xs ok,ds=[d]/\i6 M1 d=!(xs, ok)/\q (iq 0 xs) ok M1) x
def oW{X:Cx}{a:Expr}{pos:Pos}(hm:X.mg "enumerate"=none)(ha:JA X R [a] t)(hg:Gl X "enumerate"|>1)(hs:starEach [a] X.env=[(false, eval a X.env)]|>1):JK X R (.Tuple elts x1 tp) (.Call (.Name "enumerate" p) [a] [] pos) (Tw t):=by
 intro η s σ H Q I ⟨G,L,ρ,M,q,x,rl,n,ht,hx,hQ⟩;show Call_ (mY I hg hm B4 (PyProof.Rows.callWith_type1 (bH (ha pos η s σ H (OJ X.K G L H _) I (G,L,ρ,M,_,x,rl,n,ht,hx,λ_ _ f=>f)) λus s1 xz=>?_) hs rfl));let(vs,H1,I1,rv,ds,G1,L1,M1,e1,r1,n1,d,xs,ok,ed,hl,h1):=xz;subst ed;let(v,rfl,n2):=b9 n1;let(b,ws,rfl,sq,sr,_):=uJ r1 n2 hl;let(u,rfl,ru):=aH.one rv;cases ru;let(its,_,pl,_):=I1.list sq;show call_enumerate_list pl.isList λh' he hi hz hk=>?_;let I2:Inv X η σ H1 {s1 with heap:=h'}:=I1.kept (t':=s1.toks) hk;show wpAny_pyIter_enum (s:={s1 with heap:=h'}) he (s1.heap.objs.size+1,[s1.heap.objs.size+1,s1.heap.objs.size],_,_,H1,rfl,I2,Gw b s1.heap.objs.size (s1.heap.objs.size+1) (acQ (abY _)),((_,he),hi),λc hc=>?_,hQ _ _ (_,ok,G1,L1,M1,e1,r1,LX sr,h1));let hc:s1.heap.objs.size<=c:=by
  rcases aaS.mp hc with rfl| hc
  .show Nat.le_succ _
  .have:c=s1.heap.objs.size:=by simpa using hc
   rw[this];show aaq _
 let f:=I1.D9 (H':=H1) hc (I1.aU.fresh hc);show f
def Je(M:Ms):Dt->Option Value
 | .loc k=>match M[k]? with
  | some (.lst _)=>!(.type "list")
  | _=>none
 | d=>AW d
def O8(K:fv):List Dt->Ms->DQ->Prop:=λds M q=>∃d c t t' b,ds=[d,c]/\Je M d=!t/\Gu c=!t'/\PySem.W.kitOne K t t'=!b/\q (.bl b) M
section
variable{K:fv}
def Ds{H:Hp}(r:Rl K G L M H)(n:Den K G L d v)(h:Je M d=!t):j_ K H v t:=by
 by_cases hd:∃k,d= .loc k
 .let(k,rfl):=hd;let(a,rfl,e):=n;let h:(match M[k]? with| some (.lst _)=>!(Value.type "list")| _=>none)=!t:=h;split at h
  .rename_i xs hm;cases h;let(_,vs,e1,_):=r.e7 k a _ e hm;show .lst e1
  .cases h
 .show vE r n ?_;cases d with
  | loc k=>show aa5 (k,rfl) hd
  | _=>show h
def U8:Du K (λxs H Q=>∃x c t t' b,xs=[x,c]/\j_ K H x t/\GG c=!t'/\PySem.W.kitOne K t t'=!b/\Q (.bl b) H) (O8 K):=by intro G0 L0 H0 G L M H vs ds q e r n ⟨d,c,t,t',b,ed,h1,h2,hb,h⟩;subst ed;let(v,u,rfl,n1,n2):=dt n;show(v,u,t,t',b,rfl,Ds r n1 h1,yG n2 h2,hb,cq e r h)
end
section
variable{X:Cx}{R:St->XK}{e e2:Expr}{t:DA}{p pos:Pos}
def Ca(K:fv)(hm:X.mg "isinstance"=none)(ha:JA X R [e,e2] t)(he:starEach [e,e2] X.env=(false, eval e X.env)::starEach [e2] X.env|>1)(fZ:(backTo pos (starEach [e2] X.env)).any (·.1)=false|>1)(hg:Gl X "isinstance"|>1)(hK:X.K=K|>1):JE X R (.Call (.Name "isinstance" p) [e,e2] [] pos) (BN (O8 K) t):=by subst hK;show fP ko U8 hm fE ha hg @_ @_ he fZ
def wL:∀{zs:List Str} {us:List Value},Paired (λ(z:Str) (u:Value)=>∃tk,u= .str z tk) zs us->aH (zs.map V.str) us
 | _,_,.nil=>.nil
 | _,_,.cons h t=>.cons h (wL t)
def Po(hm:∃a o its n,X.mg x=!(.ref a)/\X.K.lookup a=!o/\o.cls= .type "tuple"/\o.data= .seq its n/\its.size<=sizeLine/\Paired (λ(z:Str) (u:Value)=>∃tk,u= .str z tk) zs its.toList)(hg:Gl X x|>1)(hd:(x==("__debug__":Str))=false|>2):JE X R (.Name x pos) (dC (.kt (zs.map .str))):=by let(a,o,its,n,h1,h2,h3,h4,h5,h6):=hm;show Q7 (v:=.ref a) (ER hg h1 rfl hd) λG L=>(a,zs.map V.str,rfl,.inr (o,its,n,h2,h3,h4,h5,wL h6),wN)
end
def eJ{te:DE}{cs:En}{ok:Ms->Prop}{f:Dt->Dt}:∀{xs acc:List Dt} {M:Ms} {k:List Dt->Ms->Prop},ok M->(∀x∈xs,∀q:DQ,q (f x) M->te ((!x)::cs) M q k8)->k (acc++xs.map f) M->qz te cs ok xs acc M k
 | [],acc,M,k,ho,_,h=>(ho,by simpa using h)
 | x::xs,acc,M,k,ho,hf,h=>(ho,hf x List.mem_cons_self _ (eJ ho (λy hy=>hf y (List.mem_cons_of_mem _ hy)) (by simpa using h)))
def bJ{g:Dt->En->(En->Prop)->Prop}{ok:Ms->Prop}(J:List Dt->En->Ms->Prop)(aU:∀xs ρ M,J xs ρ M->ok M)
  (step:∀x xs ρ M,J (x::xs) ρ M->(∀ρ M,J xs ρ M->yE g tb Dn ok xs ρ M)->g x ρ λρ'=>tb {Dn with nx:=yE g tb Dn ok xs,ct:=yE g tb Dn ok xs,bk:=Dn.nx} ρ' M)
  (fin:∀ρ M,J [] ρ M->Dn.nx ρ M):∀(xs:List Dt) (ρ:En) (M:Ms),J xs ρ M->yE g tb Dn ok xs ρ M
 | [],ρ,M,h=>(aU _ _ _ h,fin _ _ h)
 | x::xs,ρ,M,h=>(aU _ _ _ h,step x xs ρ M h λρ' M' h'=>bJ J aU step fin xs ρ' M' h')
section
variable{K:fv}{G:Hp}{L:List Addr}
mutual
def Qv:∀(d:Dt) (v:V),Den K G L d v->d.under (-L)
 | .aZ,_,_=>trivial
 | .bl _,_,_=>trivial
 | .int _,_,_=>trivial
 | .str _,_,_=>trivial
 | .tup ds,_,(a,vs,e,h1,h2)=>fM ds vs h2
 | .lst ds,_,(a,vs,e,h1,h2)=>fM ds vs h2
 | .obj C ns ds,_,(a,dx,vs,e,h1,hl,h2)=>fM ds vs h2
 | .loc k,_,(a,e,h1)=>(aam.mp h1).1
 | .ref _,_,_=>trivial
 | .ty _,_,_=>trivial
 | .fX _,_,_=>trivial
 | .kt ds,_,(a,vs,e,h1,h2)=>fM ds vs h2
 | .exc _ _ ds,_,(a,od,vs,e,h1,h2,h3,h4)=>fM ds vs h4
 | .V5 _ _ _ _ ds,_,(vs,e,h2,h3,h4)=>fM ds vs h4
def fM:∀(ds:List Dt) (vs:List V),Ο K G L ds vs->Dt.bD (-L) ds
 | [],_,_=>trivial
 | d::ds,_,(v,r,e,h1,h2)=>(Qv d v h1,fM ds r h2)
end
def Rl.un{H:Hp}(r:Rl K G L M H):∀m∈M,MO.under (-M) m:=λm hm=>by
 let(k,hk,e):=abH hm;let em:M[k]? =!m:=by rw[aad hk,e]
 let el:L[k]? =!(L[k]'(by rw[r.len];show hk)):=aad _;let(_,q):=r.e7 k _ m el em;rw[<-r.len];cases m with
 | lst ds=>let(vs,_,h):=q;show fM _ _ h
 | ins C ns ds=>let(dx,vs,_,_,h):=q;show fM _ _ h
 | eG ks ds=>let(vs,_,_,h):=q;show fM _ _ h
 | raw u=>trivial
end
def p9(M0:Ms)(q:DQ):DQ:=λd M=>∃E d',M=M0++E/\Ik (-M0) E d d'/\q d' M0
def Fin.p9{K:fv}{q:DQ}{H:Hp}(r0:Rl K G0 L0 M0 H0)(f:Fin K G0 L0 H0 (p9 M0 q) v H):Fin K G0 L0 H0 q v H:=by let(d,G,L,M,ex,r,dn,E,d',e,fz,hq):=f;show Fin.wq r0 (d,G,L,M,ex,r,dn,M0,E,d',e,rfl,r0.un,fz,hq)
def U'(t:DE):DE:=λρ M q x=>t ρ M (p9 M q) x
def bZ(h:JE X R e t):JE X R e (U' t):=.of h λσ H G L ρ M q x rl n ht hx=>(G,L,ρ,M,_,x,rl,n,ht,hx,λv H1 f=>Fin.p9 rl f)
def Ou{M0:Ms}{q:DQ}{d:Dt}(hu:d.under (-M0))(h:q d M0):p9 M0 q d M0:=([],d,by simp,.old hu,h)
def gT{M0:Ms}{q:DQ}(f:Ik (-M0) E d d')(h:q d' M0):p9 M0 q d (M0++E):=(E,d',rfl,f,h)
def gz(f:Expr->Option Dt):List Expr->Option (List Dt)
 | []=>![]
 | e::es=>match f e,gz f es with
  | some d,!ds=>!(d::ds)
  | _,_=>none
def hJ:Nat->Expr->Option Dt
 | 0,e=>match e with
  | .Constant (.int i) _ _=>!(.int i)
  | .Constant (.str x) _ _=>!(.str x)
  | _=>none
 | n+1,e=>match e with
  | .Constant (.int i) _ _=>!(.int i)
  | .Constant (.str x) _ _=>!(.str x)
  | .Tuple es _ _=>if -es<=100 then (gz (hJ n) es).map .tup else none
  | .List es _=>if -es<=100 then (gz (hJ n) es).map .lst else none
  | _=>none
def B7{d:Dt}{es:List Expr}(h:hJ n e=!d):starEach (e::es) env=(false, eval e env)::starEach es env:=by cases n <;> (unfold hJ at h;split at h <;> first| rfl| cases h)
def kT:∀{es:List Expr} {ds:List Dt},gz f es=!ds->-ds=-es
 | [],ds,h=>by cases h;rfl
 | e::es,ds,h=>by
  unfold gz at h;split at h
  .rename_i d Kn h1 h2;cases h;rw[aa9,aa9,kT h2]
  .cases h
section
variable{X:Cx}{R:St->XK}
def sL(ih:∀(e:Expr) (d:Dt),hJ n e=!d->JE X R e (dC d)):∀(es:List Expr) (ds:List Dt),gz (hJ n) es=!ds->JA X R es (λ_ M q _=>q ds M)
 | [],ds,h=>by cases h;show ε
 | e::es,ds,h=>by
  unfold gz at h;split at h
  .rename_i d Kn h1 h2;cases h;show δ (ih e d h1) (sL ih es Kn h2) (hs:=B7 h1)
  .cases h
def Ew{n:Nat}(h:n<=100):n<=sizeLine:=aaH h @_
def JE.imp{t':DE}(h:JE X R e t)(hi:∀ρ M q x,t' ρ M q x->t ρ M q x):JE X R e t':=.of h λσ H G L ρ M q x rl n ht hx=>(G,L,ρ,M,q,x,rl,n,hi _ _ _ _ ht,hx,λ_ _ f=>f)
def b_:∀(n:Nat) {e:Expr} {d:Dt},hJ n e=!d->JE X R e (dC d)
 | 0,e,d,h=>by
  unfold hJ at h;split at h
  .cases h;show ν
  .cases h;show dX
  .cases h
 | n +1,e,d,h=>by
  unfold hJ at h;split at h
  .cases h;show ν
  .cases h;show dX
  .split at h
   .rename_i es _ _ hl;cases hc:gz (hJ n) es with
    | none=>rw[hc]at h;cases h
    | some ds=>
     rw[hc]at h;cases h;show(av (sL (λe d=>b_ n) es ds hc)).imp λρ M q x hq=>(Ew (by rw[kT hc];show hl),hq)
   .cases h
  .split at h
   .rename_i es _ hl;cases hc:gz (hJ n) es with
    | none=>rw[hc]at h;cases h
    | some ds=>
     rw[hc]at h;cases h;show(fc (sL (λe d=>b_ n) es ds hc)).imp λρ M q x hq=>(Ew (by rw[kT hc];show hl),hq)
   .cases h
  .cases h
end
def HG:bootBuiltins "zip"=!(.type "zip"):=by decide+kernel
def Inv.Ot{H:Hp}{h':Heap}{its:List Addr}{t':Nat}(I:Inv X η σ H s)(k:∀b u,b∉its->s.heap.get? b=!u->h'.get? b=!u)(f:∀b∈its,sN X η H b):
  Inv X η σ H {s with heap:=h',toks:=t'}:=by
 let UG:∀b u,H b=!u->b∉its:=λb u e z=>by rw[(f b z).1]at e;cases e
 show I.call (ch:=its) (g':=s.gens) (d':=s.drawn) (t':=t') (λb u q _ _ hb=>k b u hb q,λb u q _ _ hb=>(u.slots,k b u hb q),λb u q n _=>n,λb u q hb=>(u,k b u hb q),λb xs q=>q,λb u xs q=>q,λb ps q=>(#[],by rw[q];simp)) (λb u e=>?_) I.bare λb hb=>?_
 .show(I.aU b u e).CJ (λc v hc q=>k c v ?_ q) (λc q=>q) λc xs q=>q;rcases hc with z| z
  .rw[z];show UG b u e
  .show UG c _ z
 .let(f0,f1,f2,f3,f4,f5):=f b hb;show(f3,f1,f4,f5)
def Itz(K:fv)(l1 l2:Addr):It:=
 ⟨λi H=>∃xs ys x y,gI K H l1 xs/\gI K H l2 ys/\xs[i]? =!x/\ys[i]? =!y,
  λi H v H'=>∃p x y,H p=none/\v= .ref p/\H'=upd H p (.tup [x,y])/\(∀xs,gI K H l1 xs->xs[i]? =!x)/\∀ys,gI K H l2 ys->ys[i]? =!y,
  λi H=>∃xs ys,gI K H l1 xs/\gI K H l2 ys/\(-xs<=i\/-ys<=i)⟩
def JJ{K:fv}{TI TO:Addr}(D:ZipApart z TI TO i1 i2 l1 l2):Turn P w K (.Tuple elts x1 tp) (Itz K l1 l2) [z,TI,TO,i1,i2] z (λi h=>(∃a b,IsZip h z TI TO .none/\IsPair h TI (.ref i1) (.ref i2)/\IsPair h TO a b)/\h.IsListIter i1 l1 i/\h.IsListIter i2 l2 i) where
 mem:=by simp
 obj:=λi h st b hb=>by
  let((a,c,hz,LL,Mv),h1,h2):=st;simp only[List.mem_cons,List.not_mem_nil,or_false]at hb;rcases hb with rfl| rfl| rfl| rfl| rfl
  .show(_,hz,λv z=>by
    let z':Data.fields _=Data.cell v:=z
    cases z')
  .show(_,LL,λv z=>by
    let z':Data.seq _=Data.cell v:=z
    cases z')
  .show(_,Mv,λv z=>by
    let z':Data.seq _=Data.cell v:=z
    cases z')
  .let(o,e,c,d):=h1;show(o,e,λv z=>by rw[d]at z;cases z)
  .let(o,e,c,d):=h2;show(o,e,λv z=>by rw[d]at z;cases z)
 keep:=λi h h' st k=>by let((a,c,hz,LL,Mv),h1,h2):=st;show((a,c,k z (by simp) _ hz,k TI (by simp) _ LL,k TO (by simp) _ Mv),h1.at λo q=>k i1 (by simp) o q,h2.at λo q=>k i2 (by simp) o q)
 item:=by
  intro X hP hw hK hc i η s σ H E I hf st hg;subst hP hw hK;let((a,c,hz,LL,Mv),h1,h2):=st;let(xs,ys,x,y,Ub,Tf,hx,hy):=hg;let(X4,XW,p1,_):=I.list Ub;let(u1,hu1,YK):=XW.get hx;let(IM,rv2,p2,_):=I.list Tf;let(u2,hu2,ru2):=rv2.get hy;show wpAny_pyNext_zip_item D hz LL Mv h1 h2 p1.isList p2.isList (x:=u1) (y:=u2) (by simpa using hu1) (by simpa using hu2) λh' WM aaN oj NM hT hsz hk=>?_;show(_,rfl,wpAny_letOwnedTupleGo_zip (s:={s with heap:=h'}) WM λh3 hz3 sb=>?_);let sb:Heap.SameBut z h' h3:=sb;let zlt:z < s.heap.objs.size:=aaL hz;let neT:s.heap.objs.size≠z:=acQ zlt;let hT3:h3.get? s.heap.objs.size=some {cls:=.type "tuple",data:=.seq #[u1,u2]}:=(sb.2 _ neT).trans hT;let lt:∀b∈[z,TI,TO,i1,i2],b < s.heap.objs.size:=λb hb=>by
   simp only[List.mem_cons,List.not_mem_nil,or_false]at hb;rcases hb with rfl| rfl| rfl| rfl| rfl
   .show zlt
   .show aaL LL
   .show aaL Mv
   .let(o,q,_):=h1;show aaL q
   .let(o,q,_):=h2;show aaL q
  let I2:Inv X η σ (upd H s.heap.objs.size (.tup [x,y])) {s with heap:=h3,toks:=s.toks}:=by
   show I.wu (its:=[z,TI,TO,i1,i2]) (λb o hb q=>?_) hf (aaq _) ?_
   .simp only[List.mem_cons,List.not_mem_nil,or_false,not_or]at hb;let(b1,b2,b3,b4,b5):=hb;show(sb.2 b b1).trans (hk b o b1 b3 b4 b5 q)
   .show(by simp[sizeLine_eq],[u1,u2],.cons YK (.cons ru2 .nil),?_);show(_,hT3,rfl,0,rfl)
  show(.ref s.heap.objs.size,_,I2,rfl,(s.heap.objs.size,x,y,I.aU.fresh (aaq _),rfl,rfl,λzs ZN=>by rw[I.cC ZN Ub];show hx,λzs ZN=>by rw[I.cC ZN Tf];show hy),((u1,u2,hz3,(sb.2 _ D.TIz).trans (hk _ _ D.TIz D.TITO D.TIi1 D.TIi2 LL),(sb.2 _ D.TOz).trans aaN),oj.at λo q=>(sb.2 i1 D.i1z).trans q,NM.at λo q=>(sb.2 i2 D.i2z).trans q),λb hb=>?_);rw[Ν (abj (lt b hb))];show(hf b hb).1
 done:=by intro X hP hw hK hc i η s σ H E I hf st hg;subst hP hw hK;let((a,c,hz,LL,Mv),h1,h2):=st;let(xs,ys,Ub,Tf,hx):=hg;let(X4,XW,p1,_):=I.list Ub;let(IM,rv2,p2,_):=I.list Tf;let XI:=-XW;let K_:=-rv2;show wpAny_pyNext_zip_end (I.ok.hd hc) D hz LL Mv h1 h2 p1.isList p2.isList (by rcases hx with hx| hx;(left;simp;omega);(right;simp;omega)) λh' ext=>⟨rfl,I.Ot (t':=s.toks) (its:=[z,TI,TO,i1,i2]) (λb o hb q=>?_) hf⟩;simp only[List.mem_cons,List.not_mem_nil,or_false,not_or]at hb;let(b1,b2,b3,b4,b5):=hb;show ext b o b1 b3 b4 b5 q
 self:=λ_ _ _ _ _ st h=>by let((a,c,hz,_,_),_):=st;show wpAny_pyIter_zip hz h
def vv(xs ys:List Dt):List Dt:=(xs.zip ys).map λp=>.tup [p.1,p.2]
def IK{i:Nat}{d:Dt}(h:(vv xs ys)[i]? =!d):∃x y,xs[i]? =!x/\ys[i]? =!y/\d= .tup [x,y]:=by
 unfold vv at h;rw[aat]at h;cases e:(xs.zip ys)[i]? with
 | none=>rw[e]at h;cases h
 | some p=>
  rw[e]at h;cases h;let(h1,h2):=acg.mp e;show(p.1,p.2,h1,h2,rfl)
def Bg(xs ys:List Dt):-(vv xs ys)=min (-xs) (-ys):=by unfold vv;rw[List.length_map,List.length_zip]
def OE{K:fv}{ok:Ms->Prop}(s:Src K a xs ok G L)(s':Src K b ys SV G L):Q5 K (Itz K a b) (vv xs ys) (λM=>ok M/\SV M) G L where
 go:=λi G1 L1 M1 H1 d g l r k e=>by let(vs,hs,n):=s.at_ G1 L1 M1 H1 g l r k.1;let(WL,Xi,n'):=s'.at_ G1 L1 M1 H1 g l r k.2;let(x,y,ex,ey,rfl):=IK e;let(v,e1,n1):=n.get ex;let(v',e1',n1'):=n'.get ey;show((vs,WL,v,v',hs,Xi,e1,e1'),λw H' xz=>?_);let(p,x2,y2,hp,ev,eH,hx,hy):=xz;subst ev eH;let e2:=hx vs hs;rw[e1]at e2;cases e2;let e3:=hy WL Xi;rw[e1']at e3;cases e3;show(_,r.Tg hp,r.NG hp,ou (ds:=[x,y]) r hp (_,_,rfl,n1,_,_,rfl,n1',rfl))
 stop:=λi G1 L1 M1 H1 g l r k e=>by let(vs,hs,n):=s.at_ G1 L1 M1 H1 g l r k.1;let(WL,Xi,n'):=s'.at_ G1 L1 M1 H1 g l r k.2;show(vs,WL,hs,Xi,?_);rw[<--n,<--n'];rw[Bg]at e;omega
def XJ(t:DA):DK:=λρ M q x=>t ρ M (λds M1=>∃d d' xs ys ok SV,ds=[d,d']/\i6 M1 d=!(xs, ok)/\i6 M1 d'=!(ys, SV)/\q (vv xs ys) (λM=>ok M/\SV M) M1) x
def Lk{X:Cx}{a a':Expr}{pos:Pos}(hm:X.mg "zip"=none)(ha:JA X R [a,a'] t)(hg:Gl X "zip"|>1)(hs:starEach [a,a'] X.env=(false, eval a X.env)::starEach [a'] X.env|>1)(fZ:(backTo pos (starEach [a'] X.env)).any (·.1)=false|>1):JK X R (.Tuple elts x1 tp) (.Call (.Name "zip" p) [a,a'] [] pos) (XJ t):=by
 intro η s σ H Q I ⟨G,L,ρ,M,q,x,rl,n,ht,hx,hQ⟩;show Call_ (mY I hg hm HG (PyProof.Rows.callWith_type1 (bH (ha pos η s σ H (OJ X.K G L H _) I (G,L,ρ,M,_,x,rl,n,ht,hx,λ_ _ f=>f)) λus s1 xz=>?_) hs fZ));let(vs,H1,I1,rv,ds,G1,L1,M1,e1,r1,n1,d,d',xs,ys,ok,SV,ed,hl,PV,h1):=xz;subst ed;let(v,v',rfl,n2,n2'):=dt n1;let(b,ws,rfl,sq,sr,_):=uJ r1 n2 hl;let(b',ws',rfl,sq',sr',_):=uJ r1 n2' PV;cases rv with
 | cons ru rv=>
  cases rv with
  | cons ru' rv=>
   cases rv;cases ru;cases ru';let(its,_,pl,_):=I1.list sq;let(its',_,pl',_):=I1.list sq';let lt1:b < s1.heap.objs.size:=by let(o,q,_):=pl.isList;show aaL q
   let lt2:b' < s1.heap.objs.size:=by let(o,q,_):=pl'.isList;show aaL q
   show call_zip_2 pl.isList pl'.isList λh' hz LL Mv hi Ly hsz hk=>?_;let I2:Inv X η σ H1 {s1 with heap:=h'}:=I1.kept (t':=s1.toks) hk;let D:ZipApart (s1.heap.objs.size+4) (s1.heap.objs.size+2) (s1.heap.objs.size+3) s1.heap.objs.size (s1.heap.objs.size+1) b b':=by let ne:∀i j:Nat,i≠j->s1.heap.objs.size+i≠s1.heap.objs.size+j:=λi j h z=>h (Nat.add_left_cancel z);let n1:∀i:Nat,b≠s1.heap.objs.size+i:=λi=>abj (aaR lt1 (abZ _ _));let n2:∀i:Nat,b'≠s1.heap.objs.size+i:=λi=>abj (aaR lt2 (abZ _ _));show(ne 2 4 @_,ne 3 4 @_,ne 0 4 @_,ne 1 4 @_,ne 2 3 @_,ne 2 0 @_,ne 2 1 @_,ne 3 0 @_,ne 3 1 @_,ne 0 1 @_,n1 4,n1 3,n1 0,n1 1,n2 4,n2 3,n2 0,n2 1)
   show wpAny_pyIter_zip (s:={s1 with heap:=h'}) hz (s1.heap.objs.size+4,[s1.heap.objs.size+4,s1.heap.objs.size+2,s1.heap.objs.size+3,s1.heap.objs.size,s1.heap.objs.size+1],_,_,H1,rfl,I2,JJ D,((_,_,hz,LL,Mv),hi,Ly),λc hc=>?_,hQ _ _ (_,_,G1,L1,M1,e1,r1,OE sr sr',h1));let hc:s1.heap.objs.size<=c:=by
    simp only[List.mem_cons,List.not_mem_nil,or_false]at hc;rcases hc with rfl| rfl| rfl| rfl| rfl
    .show abZ _ _
    .show abZ _ _
    .show abZ _ _
    .show aaq _
    .show abZ _ _
   let f:=I1.D9 (H':=H1) hc (I1.aU.fresh hc);show f
section
variable{X:Cx}{R:St->XK}{elt iter c:Expr}{x y:Str}{px py tp:Pos}{scope:Scope}{pos:Pos}{ti:DK}{tc:DT}{te:DE}{ys:List Str}{Ρ:List Nat}{kk:Nat}
def BG(S:aw X scope [x] ys Ρ)(hi:JK X R (.Name x px) iter ti)(ht:∀C s H fp,JT (Cx.comp X (x::ys) scope C s H fp) (λ_=>E0) c tc)(he:∀C s H fp,JE (Cx.comp X (x::ys) scope C s H fp) (λ_=>E0) elt te)(hc:X.calm=true|>1)(hs:(∀x,foldedSetIterable iter X.env x=pure x)|>3):JE X R (.ListComp elt [(.Name x px,iter,[c],0)] scope pos) (yM 1 ti (gN 0) tc te Ρ):=Tv false S hi (d8 S (i:=0) rfl) aL (dq (Nat.zero_lt_succ 0)) (λC s H fp=>xN (ht C s H fp)) he hc hs λ_ _ _ _ h=>h
end
def dJ{g:Dt->En->(En->Prop)->Prop}{tc:DT}{te:DE}{ok:Ms->Prop}{k:List Dt->Ms->Prop}(ho:ok M)(b:Dt->Bool)(f:Dt->Dt):∀(xs acc:List Dt),(∀x∈xs,∀(q:DQ) (p:Ms->Prop),(b x=true->q (f x) M)->(b x=false->p M)->g x ρ0 λρ'=>tc ρ' M (λb' M1=>match b' with| true=>te ρ' M1 q k8| false=>p M1) k8)->
  k (acc++(xs.filter b).map f) M->ij g tc te ρ0 ok xs acc M k
 | [],acc,_,h=>(ho,by simpa using h)
 | x::xs,acc,ht,h=>(ho,ht x List.mem_cons_self _ _ (λhb=>dJ ho b f xs _ (λy hy=>ht y (List.mem_cons_of_mem _ hy)) (by simpa [hb] using h)) λhb=>dJ ho b f xs _ (λy hy=>ht y (List.mem_cons_of_mem _ hy)) (by simpa [hb] using h))
def wt(xs:List V)(k:Nat):qU xs (!(k:Int)) none=xs.drop k:=by
 unfold qU;rw[HT.oI,HT.Br];by_cases h:k<=-xs
 .rw[acw h,abS (by rw[abQ];omega)]
 .rw[Nat.min_eq_right (),List.drop_eq_nil_of_le (Nat.le_refl _),List.drop_eq_nil_of_le ()];simp
def UJ(te tl:DE):DE:=λρ M q x=>te ρ M (λd M1=>tl ρ M1 (λdi M2=>∃ds n,d= .tup ds/\di= .int (n:Nat)/\1<=n/\1<=-ds/\q (.tup (ds.drop n)) M2) x) x
def GN{pos p2:Pos}(he:JE X R e te)(hl:JE X R l tl):JE X R (.Subscript e (.Slice (!l) none none p2) pos) (UJ te tl):=
 .of (ow Qc he (lJ hl) yB) λσ H G L ρ M q x rl n h hx=>by
  show(G,L,ρ,M,_,x,rl,n,h,hx,λv H1 xz=>?_);let(d1,G1,L1,M1,e1,r1,n1,h1):=xz;show(G1,L1,ρ,M1,_,x,r1,n.mono e1,h1,hx.on e1,λv2 H2 xz=>?_);let(d2,G2,L2,M2,e2,r2,n2,ds,k,ed,ei,k1,l1,h2):=xz;subst ed ei;let(a,vs,rfl,ea,m):=Den.mono e2.g e2.l _ _ n1;let n2:v2= .int k:=n2;subst n2;let lv:=-m;show(k,rfl,a,vs,rfl,.of (r2.sub _ _ ea),λz=>?_,λp hp=>?_)
  .rw[HT.oI]at z;omega
  .rw[wt];show jQ (e1.trans e2) r2 hp (ou r2 hp (Ο.of (oQ k m.pair))) h2
section
variable{κ:Type} [DecidableEq κ]
def fG(Ζ:List (κ×V))(k:κ):Option V:=(Ζ.find? λkv=>decide (kv.1=k)).map (·.2)
def i7(Ζ:List (κ×V))(k:κ)(v:V):List (κ×V):=
 if (Ζ.any λkv=>decide (kv.1=k))=true then Ζ.map (λkv=>if kv.1=k then (kv.1, v) else kv) else Ζ++[(k, v)]
def dz{p:κ×V}{r:List (κ×V)}{k:κ}(e:p.1=k):fG (p::r) k=!p.2:=by simp[fG,List.find?_cons,e]
def c8{p:κ×V}{r:List (κ×V)}{k:κ}(e:¬p.1=k):fG (p::r) k=fG r k:=by simp[fG,List.find?_cons,e]
def oN(k:κ):∀Ζ:List (κ×V),(Ζ.any λkv=>decide (kv.1=k))=(fG Ζ k).isSome
 | []=>rfl
 | p::r=>by
  rw[ab6];by_cases e:p.1=k
  .simp only[dz e,decide_eq_true e,Bool.true_or,Option.isSome_some]
  .rw[c8 e,aaF e,Bool.false_or];show oN k r
def v8(k j:κ)(y:V):∀Ζ:List (κ×V),fG Ζ k=none->fG (Ζ++[(k, y)]) j=if j=k then !y else fG Ζ j
 | [],_=>by
  by_cases e:k=j
  .rw[aaP e.symm];show dz (p:=(k, y)) e
  .rw[aaK (λz=>e z.symm)];show c8 (p:=(k, y)) e
 | p::r,hn=>by
  rw[List.cons_append];let hk:¬p.1=k:=λz=>by rw[dz z]at hn;cases hn
  rw[c8 hk]at hn;let ih:=v8 k j y r hn;by_cases e:p.1=j
  .rw[dz e,dz e,aaK (λz=>hk (e.trans z))]
  .rw[c8 e,c8 e,ih]
def kX(Ζ:List (κ×V))(k:κ)(v:V):-(i7 Ζ k v)<=-Ζ+1:=by
 unfold i7;split
 .rw[aah];omega
 .rw[aan,aa9,List.length_nil];omega
def KP{k:κ}(v:V)(h:fG Ζ k=none):i7 Ζ k v=Ζ++[(k, v)]:=by unfold i7;rw[oN,h];show aaK @_
def jL.pF(r:jL o u):o.isSome=u.isSome:=by
 cases o with
 | none=>cases u with
  | none=>rfl
  | some _=>show(show False from r).elim
 | some _=>cases u with
  | none=>show(show False from r).elim
  | some _=>rfl
def jL.getD(r:jL o u)(rd:aB d d'):aB (o.getD d) (u.getD d'):=by
 cases o with
 | none=>cases u with
  | none=>show rd
  | some _=>show(show False from r).elim
 | some _=>cases u with
  | none=>show(show False from r).elim
  | some _=>show r
def KV.val(r:KV Ζ vs)(k:κ):jL (fG Ζ k) (valueAt vs k):=by
 unfold KV at r
 induction r with
 | nil=>show True.intro
 | @cons p q ps qs h t ih=>
  let(h1,h2):=h;by_cases e:p.1=k
  .let e':q.1=k:=h1.symm.trans e;let b:valueAt (q::qs) k=!q.2:=by simp[valueAt,List.find?_cons,e']
   rw[dz e,b];show h2
  .let e':¬q.1=k:=λz=>e (h1.trans z);let b:valueAt (q::qs) k=valueAt qs k:=by simp[valueAt,List.find?_cons,e']
   rw[c8 e,b];show ih
def KV.any(r:KV Ζ vs)(k:κ):(Ζ.any λkv=>decide (kv.1=k))=vs.any λkv=>decide (kv.1=k):=by
 unfold KV at r
 induction r with
 | nil=>rfl
 | cons h t ih=>rw[ab6,ab6,ih,h.1]
def KV.RM(r:KV Ζ vs)(k:κ)(ry:aB y u):
  KV (Ζ.map λkv=>if kv.1=k then (kv.1, y) else kv) (vs.map λkv=>if kv.1=k then (kv.1, u) else kv):=by
 unfold KV at r⊢
 induction r with
 | nil=>show .nil
 | @cons p q ps qs h t ih=>
  rw[abe,abe];show .cons ?_ ih;let(h1,h2):=h;by_cases e:p.1=k
  .rw[aaP e,aaP (h1.symm.trans e)];show(h1,ry)
  .rw[aaK e,aaK (λz=>e (h1.trans z))];show(h1,h2)
def KV.put(r:KV Ζ vs)(k:κ)(ry:aB y u):KV (i7 Ζ k y) (stored vs k u):=by
 unfold i7 stored;rw[r.any k];by_cases e:(vs.any λkv=>decide (kv.1=k))=true
 .rw[aaP e,aaP e];show r.RM k ry
 .rw[aaK e,aaK e];show Paired.snoc r (rfl,ry)
def KV.keys{Ζ:List (κ×V)}{vs:List (κ×Value)}(r:KV Ζ vs):Ζ.map (·.1)=vs.map (·.1):=by
 unfold KV at r
 induction r with
 | nil=>rfl
 | cons h t ih=>rw[abe,abe,ih,h.1]
def KV.length(r:KV Ζ vs):-Ζ=-vs:=Paired.length r
end
def ue{k:Key}(r:aB (kV k) u):(bA P w).is k u=true:=by
 cases k with
 | inl i=>let(t,e):=(show∃t,u=Value.int i t from r);subst e;show zC P w i t
 | inr x=>let(t,e):=(show∃t,u=Value.str x t from r);subst e;show As P w x t
def wV:∀{ks:List Key} {us:List Value},aH (ks.map kV) us->ItemsAre (bA P w) ks us
 | [],_,r=>by rw[List.map_nil]at r;cases r;show .nil
 | k::ks,_,r=>by
  rw[abe]at r;cases r with
  | cons h t=>show .cons (ue h) (wV t)
abbrev KT(H:Hp):List (List Key×V)->List (List Key×Addr×Value)->Prop:=Paired λp q=>p.1=q.1/\H q.2.1=!(.tup (p.1.map kV))/\aB p.2 q.2.2
def KT.val{H:Hp}(r:KT H Ζ xs)(k:List Key):jL (fG Ζ k) ((atKey xs k).map (·.2)):=by
 induction r with
 | nil=>show True.intro
 | @cons p q ps qs h t ih=>
  let(h1,_,h2):=h;by_cases e:p.1=k
  .let e':q.1=k:=h1.symm.trans e;let b:atKey (q::qs) k=!q.2:=by simp[atKey,List.find?_cons,e']
   rw[dz e,b];show h2
  .let e':¬q.1=k:=λz=>e (h1.trans z);let b:atKey (q::qs) k=atKey qs k:=by simp[atKey,List.find?_cons,e']
   rw[c8 e,b];show ih
def KT.RM{H:Hp}(r:KT H Ζ xs)(k:List Key)(ry:aB y u):
  KT H (Ζ.map λkv=>if kv.1=k then (kv.1, y) else kv) (xs.map (putAt k u)):=by
 induction r with
 | nil=>show .nil
 | @cons p q ps qs h t ih=>
  rw[abe,abe];show .cons ?_ ih;let(h1,h2,h3):=h;unfold putAt;by_cases e:p.1=k
  .rw[aaP e,aaP (h1.symm.trans e)];show(h1,h2,ry)
  .rw[aaK e,aaK (λz=>e (h1.trans z))];show(h1,h2,h3)
def KT.put{H:Hp}(r:KT H Ζ xs)(k:List Key)(hb:H b=!(.tup (k.map kV)))(ry:aB y u):
  KT H (i7 Ζ k y) (storedH xs k b u):=by
 let e:(Ζ.any λkv=>decide (kv.1=k))=(atKey xs k).isSome:=by rw[oN,(r.val k).pF,Option.isSome_map]
 unfold i7 storedH;rw[e];by_cases q:(atKey xs k).isSome=true
 .rw[aaP q,aaP q];show r.RM k ry
 .rw[aaK q,aaK q];show Paired.snoc r (rfl,hb,ry)
def KT.keeps{H H':Hp}(r:KT H Ζ xs)(ht:∀b ys,H b=!(.tup ys)->H' b=!(.tup ys)):KT H' Ζ xs:=
 Paired.Qg r λ_ _ z=>(z.1,ht _ _ z.2.1,z.2.2)
section
variable{P:Program}{w:World}{H:Hp}{h:Heap}{a:Addr}
def O0(ok:lV P w H h)(e:Rd H a u):cw P w H h a u:=e.ok ok
def fg(ok:lV P w H h)(e:Rd H a (.dK Ζ)):-Ζ<=sizeLine/\(a==sysModules)=false/\∃vs,KV Ζ vs/\h.DictOf (bA P w) a vs:=
 show cw P w H h a (.dK Ζ) from O0 ok e
def Ap(ok:lV P w H h)(e:H a=!(.dK Ζ)):-Ζ<=sizeLine/\(a==sysModules)=false/\∃vs,KV Ζ vs/\h.DictOf (bA P w) a vs:=fg ok (.inl e)
def tK{ks:List Key}(ok:lV P w H h)(e:H a=!(.tup (ks.map kV))):(tupleKind (bA P w)).is h ks a:=by let(_,its,r,o,h1,h2,n,h3):=(show cw P w H h a (.tup (ks.map kV)) from ok a _ e);show(o,its.toArray,n,h1,h2,h3,by simpa using wV r)
def wz(ok:lV P w H h)(e:Rd H a (.dT Ζ)):-Ζ<=sizeLine/\(a==sysModules)=false/\
  ∃xs,KT H Ζ xs/\h.DictOfH (tupleKind (bA P w)) a xs:=by
 let(z,y,xs,r,o,es,ep,h1,h2,h3,h4,h5):=(show cw P w H h a (.dT Ζ) from O0 ok e);show(z,y,xs,r,o,es,ep,h1,h2,h3,h4,λx hx=>?_,h5);let all:∀{l:List (List Key×V)} {m:List (List Key×Addr×Value)},KT H l m->∀x∈m,(tupleKind (bA P w)).is h x.1 x.2.1:=by
  intro l m q
  induction q with
  | nil=>intro x hx;show nomatch hx
  | @cons p q ps qs hq t ih=>
   intro x hx;rcases aaS.mp hx with e| hx
   .subst e;show tK ok (by rw[<-hq.1];show hq.2.1)
   .show ih x hx
 show all r x hx
def Tr(ok:lV P w H h)(e:H a=!(.dT Ζ)):-Ζ<=sizeLine/\(a==sysModules)=false/\
  ∃xs,KT H Ζ xs/\h.DictOfH (tupleKind (bA P w)) a xs:=wz ok (.inl e)
end
def BH(H:Hp)(a:Addr)(y:V)(r:Option V):Prop:=
 (∃Ζ k,Rd H a (.dK Ζ)/\y=kV k/\r=fG Ζ k)\/∃Ζ k b,Rd H a (.dT Ζ)/\y= .ref b/\H b=!(.tup (k.map kV))/\r=fG Ζ k
def Lb(H:Hp)(a:Addr)(y v:V)(H':Hp):Prop:=
 (∃Ζ k,H a=!(.dK Ζ)/\y=kV k/\-Ζ < sizeLine/\H'=upd H a (.dK (i7 Ζ k v)))\/
 ∃Ζ k b,H a=!(.dT Ζ)/\y= .ref b/\H b=!(.tup (k.map kV))/\-Ζ < sizeLine/\H'=upd H a (.dT (i7 Ζ k v))
def Lb.k{H:Hp}{k:Key}(e:H a=!(.dK Ζ))(hl:-Ζ < sizeLine):Lb H a (kV k) v (upd H a (.dK (i7 Ζ k v))):=.inl (Ζ,k,e,rfl,hl,rfl)
section
variable{X:Cx}{η:List (Addr×Obj)}{σ:St}{H:Hp}{s:Shared}{a:Addr}{y v:V}{u r:Value}{o:Option V}{A:Around}{E:Value->Shared->Prop}
def Inv.big(I:Inv X η σ H s):sysModules < s.heap.objs.size:=by let h:mainGlobals < s.heap.objs.size:=(I.mod.glob.keeps I.bk).lt;show Nat.lt_trans @_ h
def HW{Q:Value->Shared->Prop}(hu:A.units+1 < cLine)(I:Inv X η σ H s)(g:BH H a y (!v))(ry:aB y u)(h:∀w' s',Inv X η σ H s'->aB v w'->Q w' s'):
  wpAny (model X.prog X.w) A (getItem (.ref a) u) Q E s:=by
 rcases g with ⟨Ζ,k,e,ey,l⟩| ⟨Ζ,k,b,e,ey,eb,l⟩
 .subst ey;let(z,hd,vs,rel,dd):=fg I.aU e;let(w',hw,Cz):=jL.some_of (v:=v) (o:=valueAt vs k) (by rw[l];show rel.val k);show wpAny_getItem_of (ue ry) dd.mapOf hw (h w' _ (I.tok _) Cz)
 .subst ey;cases(show u=Value.ref b from ry);let(z,hd,xs,rel,dd):=wz I.aU e;let(w',hw,Cz):=jL.some_of (v:=v) (o:=(atKey xs k).map (·.2)) (by rw[l];show rel.val k);let(p,hp,hp2):=abN.mp hw;show wpAny_getItem_heap (tupleKind_room_in1 hu) (tK I.aU eb) dd hp ?_;rw[hp2];show h w' _ (I.tok _) Cz
def Ym{Q:Value->Shared->Prop}(hu:A.units+1 < cLine)(I:Inv X η σ H s)(g:BH H a y o)(ry:aB y u)(h:∀s',Inv X η σ H s'->Q (.bool o.isSome) s'):
  wpAny (model X.prog X.w) A (compareOp .In u (.ref a)) Q E s:=by
 rcases g with ⟨Ζ,k,e,ey,l⟩| ⟨Ζ,k,b,e,ey,eb,l⟩
 .subst ey;let(z,hd,vs,rel,dd):=fg I.aU e;show wpAny_in_of (ue ry) hd dd.mapOf ?_;rw[<-(rel.val k).pF,<-l];show h _ (I.tok _)
 .subst ey;cases(show u=Value.ref b from ry);let(z,hd,xs,rel,dd):=wz I.aU e;show wpAny_in_heap (tupleKind_room_in1 hu) (tK I.aU eb) hd dd ?_;let q:=(rel.val k).pF;rw[Option.isSome_map]at q;rw[<-q,<-l];show h _ (I.tok _)
def nY{t':Nat}(I:Inv X η σ H s)(mu:Tc (H a))(hs:Heap.SameBut a s.heap h')(he:∃q,h'.get? a=!q)(new:cw X.prog X.w (upd H a ob) h' a ob):
  Inv X η σ (upd H a ob) {s with heap:=h',toks:=t'}:=
 I.write (x:=a) (e:=a) mu (.inl rfl) (λb q hb z=>(hs.2 b hb).trans z) he new
def qg{h':Heap}{Ζ:List (Key×V)}(z:-Ζ<=sizeLine)(hd:(a==sysModules)=false)(rel:KV Ζ vs)(dd:h'.DictOf (bA P w) a vs):
  cw P w H' h' a (.dK Ζ):=(z,hd,vs,rel,dd)
def HE{Q:Unit->Shared->Prop}(hu:A.units+1 < cLine)(I:Inv X η σ H s)(g:Lb H a y v H')(ry:aB y u)(rv:aB v r)(h:∀s',Inv X η σ H' s'->Q Unit.unit s'):
  wpAny (model X.prog X.w) A (setItem (.ref a) u r) Q E s:=by
 rcases g with ⟨Ζ,k,e,ey,l,eH⟩| ⟨Ζ,k,b,e,ey,eb,l,eH⟩
 .subst ey eH;let(z,hd,vs,rel,dd):=Ap I.aU e;let hz:-vs<=sizeLine:=by rw[<--rel];show z
  let hl:-(i7 Ζ k v)<=sizeLine:=by have:=kX Ζ k v;omega
  show wpAny_setItem_pairs (hsz:=hz) (ue ry) dd λh' Il hs=>h _ ?_;let he:∃q,h'.get? a=!q:=let (q,_,_,hq,_):=Il;(q,hq)
  show nY I (by rw[e];show True.intro) hs he (qg hl hd (rel.put k rv) Il)
 .subst ey eH;cases(show u=Value.ref b from ry);let(z,hd,xs,rel,dd):=Tr I.aU e;let hz:-xs<=sizeLine:=by rw[<-Paired.length rel];show z
  let hl:-(i7 Ζ k v)<=sizeLine:=by have:=kX Ζ k v;omega
  show wpAny_setItem_heap (hsz:=hz) (tupleKind_room_in1 hu) (tK I.aU eb) dd λh' Il hs=>h _ ?_;let(q,es,ep,hq,h2,h3,h4,_,h5):=Il;show nY I (by rw[e];show True.intro) hs (q,hq) (hl,hd,_,(rel.put k eb rv).keeps λc ys ec=>?_,q,es,ep,hq,h2,h3,h4,h5);rw[Ν (UB ec e nofun)];show ec
end
section
variable{X:Cx}{η:List (Addr×Obj)}{σ:St}{H:Hp}{s:Shared}{a:Addr}{Ζ:List (Key×V)}{k:Key}{u:Value}{A:Around}{E:Value->Shared->Prop}
def Ng{Q:Value->Shared->Prop}(I:Inv X η σ H s)(e:H a=!(.dK Ζ))(h:∀s',Inv X η σ (upd H a (.dK [])) s'->Q .none s'):wpAny (model X.prog X.w) A (call (.builtin "dict.clear") [.ref a]) Q E s:=by
 let(z,hd,vs,rel,dd):=Ap I.aU e;show call_meetsIn PySem.F.slot_dict_clear dd.typeIs PySem.F.entry_dict_clear (PySem.F.args_dict_clear_1 _) (meets_dict_clear (bA X.prog X.w) a) (vs,dd,by rw[<--rel];show z,λh' Il hs=>h _ ?_);let he:∃q,h'.get? a=!q:=let (q,_,_,hq,_):=Il;(q,hq)
 show nY (t':=s.toks) I (by rw[e];show True.intro) hs he (qg (acn _) hd .nil Il)
def Tz{Q:Value->Shared->Prop}(I:Inv X η σ H s)(e:Rd H a (.dK Ζ))(h:∀t s',Inv X η σ H s'->Q (.int (-Ζ) t) s'):wpAny (model X.prog X.w) A (call (.builtin "len") [.ref a]) Q E s:=by let(z,hd,vs,rel,dd):=fg I.aU e;show call_len_dict hd dd (by rw[<--rel];rw[sizeLine_eq]at z;omega) ?_;rw[<--rel];show h _ _ (I.tok _)
end
def Kg(i:Expr):Prop:=∀ov iv,subscripted i false ov iv=operate [ov,iv] (getItem ov iv)
def EO{pos:Pos}{id:String}
  (hl:typeLookup (.type T) "__getitem__"=pure (!(.builtin id))) (hs:Kg slice)
  (h:wpAny (model prog w) A (eval value env) (λo s₁=>wpAny (model prog w) A (eval slice env) (λi s₂=>s₂.TypeIs o T/\wpAny (model prog w) A (getItem o i) Q E s₂) E s₁) E s):
  wpAny (model prog w) A (eval (.Subscript value slice pos) env) Q E s:=by
 show Subscript_ (acr h (λo s₁ h₁=>acr h₁ (λi s₂ h₂=>?_) λ_ _ x=>x) λ_ _ x=>x);let(hT,h₂):=h₂;unfold subscriptTail;show aao ?_;rw[getitemInPython_of_ne hT.not_modules];show aao (wpAny_specialOf hT hl ?_);let fin:wpAny (model prog w) A (subscripted slice false o i) (λr s₃=>wpAny (model prog w) A (letTemporaryGo value o r >>= λ_=>pure r) Q E s₃) E s₂:=by rw[hs o i];show wpAny_operating (acr h₂ (λr s₃ h₃=>aao (wpAny_letTemporaryGo (aa6 h₃))) λ_ _ x=>x)
 first
  | show aa6 (aao fin)
  | show aao (aa6 (aao fin))
  | show aao fin
def Ay{H:Hp}(I:Inv X η σ H s)(g:BH H a y o):s.TypeIs (.ref a) "dict":=by
 rcases g with ⟨Ζ,k,e,_,_⟩| ⟨Ζ,k,b,e,_,_,_⟩
 .let(_,_,vs,_,dd):=fg I.aU e;show dd.typeIs
 .let(_,_,xs,_,dd):=wz I.aU e;show dd.typeIs
def UZ(td ty:TE):TE:=λσ H Q=>td σ H λx H1=>ty σ H1 λy H2=>∃a v,x= .ref a/\BH H2 a y (!v)/\Q v H2
def Vx(td ty tv:TE):TS:=λD σ H=>tv σ H λv H1=>td σ H1 λx H2=>ty σ H2 λy H3=>∃a H4,x= .ref a/\Lb H3 a y v H4/\D.nx σ H4
section
variable{X:Cx}{o i e value:Expr}{pos pos' uD:Pos}{td ty tv:TE}
def MZ(hu:X.A.units+1 < cLine)(ho:PE X o td)(hi:PE X i ty)(hs:Kg i):PE X (.Subscript o i pos) (UZ td ty):=by intro η s σ H Q I h;show EO PySem.F.slot_dict_getitem.lookup hs (bH (ho η s σ H _ I h) fun u s1 (x,H1,I1,rx,q1)=>bH (hi η s1 σ H1 _ I1 q1) λiv s2 xz=>?_);let(y,H2,I2,ry,a,v,ex,g,q2):=xz;subst ex;obtain rfl:u=Value.ref a:=rx;show(Ay I2 g,HW hu I2 g ry λw' s3 I3 Cz=>(v,H2,I3,Cz,q2))
def NU(hu:X.A.units+1 < cLine)(ho:PE X o td)(hi:PE X i ty)(hv:PE X value tv)(hs:swapsWith value (!(.Subscript o i pos')) pos.line X.env=pure false):
  PS X (.Assign [.Subscript o i pos'] value pos) (Vx td ty tv):=by
 intro η s σ H D I h;show wpAny_Assign_Subscript (bH (hv η s σ H _ I h) fun r s1 (v,H1,I1,rv,q1)=>bH (ho η s1 σ H1 _ I1 q1) fun u s2 (x,H2,I2,rx,q2)=>bH (hi η s2 σ H2 _ I2 q2) λiv s3 xz=>?_) hs;let(y,H3,I3,ry,a,H4,ex,g,q3):=xz;subst ex;obtain rfl:u=Value.ref a:=rx;show HE hu I3 g ry rv λs4 I4=>(σ,H4,I4,q3)
end
def z5{H:Hp}(h:Heap)(hb:sysModules < h.objs.size):cw P w H (h.push {cls:=.type "dict",data:=.dict #[]}) h.objs.size (.dK []):=
 (acn _,beq_eq_false_iff_ne.mpr (Ne.symm (abj hb)),[],.nil,Heap.DictOf.new h)
def RG:TE:=λ_ H Q=>∀p,H p=none->Q (.ref p) (upd H p (.dK []))
section
variable{X:Cx}{pos:Pos}
def K1:PE X (.Dict [] [] pos) RG:=λη s σ H Q I h=>
 wpAny_Dict_empty (.ref s.heap.objs.size,_,I.laid (a:=s.heap.objs.size) (o:=.dK []) (t':=s.toks) (λ_ _ q=>aas _ q) (aaq _) (z5 s.heap I.big),rfl,h _ (I.aU.fresh (aaq _)))
end
def C5:List (TE×TE)->St->Hp->(List (V×V)->Hp->Prop)->Prop
 | [],_,H,Q=>Q [] H
 | (tk, tv)::r,σ,H,Q=>tk σ H λx H1=>tv σ H1 λy H2=>C5 r σ H2 λps H3=>Q ((x, y)::ps) H3
abbrev VV:List (V×V)->List (Value×Value)->Prop:=Paired λp q=>aB p.1 q.1/\aB p.2 q.2
def WD(X:Cx)(pos:Pos)(keys:List (Option Expr))(values:List Expr)(Np:List (TE×TE)):Prop:=
 ∀(η:List (Addr×Obj)) (s:Shared) (σ:St) (H:Hp) (Q:List (V×V)->Hp->Prop),Inv X η σ H s->C5 Np σ H Q->
  wpAny (model X.prog X.w) X.A (evalPairs (pairTrees keys values X.env pos)) (λvs s'=>∃ps H',Inv X η σ H' s'/\VV ps vs/\Q ps H') X.xe s
def Na{pos:Pos}:WD X pos [] [] []:=λη s σ H Q I h=>pairTrees_nil_walk ([],H,I,.nil,h)
def AF{pos:Pos}{k:Expr}{tk:TE}(hk:PE X k tk)(hv:PE X v tv)(hr:WD X pos ks vs Np):
  WD X pos ((!k)::ks) (v::vs) ((tk, tv)::Np):=λη s σ H Q I h=>
 pairTrees_cons_walk (bH (hk η s σ H _ I h) fun u s1 (x,H1,I1,rx,q1)=>bH (hv η s1 σ H1 _ I1 q1) fun w2 s2 (y,H2,I2,ry,q2)=>
  bH (hr η s2 σ H2 _ I2 q2) λws s3 (ps,H3,I3,rel,q3)=>((x, y)::ps,H3,I3,.cons (rx,ry) rel,q3))
def iW(Ζ more:List (Key×V)):List (Key×V):=more.foldl (λacc kv=>i7 acc kv.1 kv.2) Ζ
def KV.merge:∀{more:List (Key×V)} {rs:List (Key×Value)} {Ζ:List (Key×V)} {vs:List (Key×Value)},KV more rs->KV Ζ vs->KV (iW Ζ more) (merged vs rs):=by
 intro more rs Ζ vs r;unfold KV at r
 induction r generalizing Ζ vs with
 | nil=>intro q;show q
 | @cons p q ps qs h t ih=>
  intro r0;let e:KV (i7 Ζ p.1 p.2) (stored vs q.1 q.2):=by have:=r0.put p.1 h.2;rw[<-h.1];show this
  show ih e
def iZ:∀(more Ζ:List (Key×V)),-(iW Ζ more)<=-Ζ+-more
 | [],Ζ=>by change -Ζ<=-Ζ+0;omega
 | p::r,Ζ=>by let h1:=iZ r (i7 Ζ p.1 p.2);let h2:=kX Ζ p.1 p.2;change(iW (i7 Ζ p.1 p.2) r).length<=_;rw[aa9];omega
def tR:∀{Ζ:List (Key×V)} {ws:List (Value×Value)},VV (Ζ.map λkv=>(kV kv.1, kv.2)) ws->∃rs,Carries (bA P w) ws rs/\KV Ζ rs
 | [],_,r=>by rw[List.map_nil]at r;cases r;show([],True.intro,.nil)
 | p::Ζ,_,r=>by
  rw[abe]at r;cases r with
  | @cons a b as bs h t=>
   let(rs,c,q):=tR (P:=P) (w:=w) t;let(b1,b2):=b;show((p.1, b2)::rs,(ue h.1,rfl,c),.cons (rfl,h.2) q)
def U7(Np:List (TE×TE)):TE:=λσ H Q=>∀p,H p=none->C5 Np σ (upd H p (.dK [])) λps H2=>H2 p=!(.dK [])/\∃Ζ:List (Key×V),ps=Ζ.map (λkv=>(kV kv.1, kv.2))/\-Ζ<=15/\Q (.ref p) (upd H2 p (.dK (iW [] Ζ)))
def MB{pos:Pos}{keys:List (Option Expr)}(h:WD X pos keys values Np)(r9:keys.all (·.isSome)=true)(hl:-keys=-values)(h0:keys≠[])
  (h15:-keys<=15):PE X (.Dict keys values pos) (U7 Np):=by
 intro η s σ H Q I q;let hn:=I.aU.fresh (aaq s.heap.objs.size);let I1:=I.laid (a:=s.heap.objs.size) (o:=.dK []) (h':=s.heap.push {cls:=.type "dict",data:=.dict #[]}) (t':=s.toks) (λ_ _ q=>aas _ q) (aaq _) (z5 s.heap I.big);show wpAny_Dict_walk (knd:=bA X.prog X.w) r9 hl h0 h15 (bH (h η _ σ _ _ I1 (q _ hn)) λws s2 xz=>?_);let(ps,H2,I2,rel,e,Ζ,ep,lk,q2):=xz;subst ep;let(rs,c,rk):=tR (P:=X.prog) (w:=X.w) rel;let(z,hd,vs0,r0,dd):=Ap I2.aU e;cases r0;show(rs,c,dd,λh' Il hs=>(.ref s.heap.objs.size,_,?_,rfl,q2));let hz:-(iW [] Ζ)<=sizeLine:=by let h1:=iZ Ζ [];rw[List.length_nil]at h1;rw[sizeLine_eq];omega
 let he:∃q,h'.get? s.heap.objs.size=!q:=let (q,_,_,hq,_):=Il;(q,hq)
 show nY I2 (by rw[e];show True.intro) hs he (qg hz hd (rk.merge .nil) Il)
structure M1(X:Cx)(o:Expr)(m:Str)(apos:Pos)(e:Expr)(aO:Pos):Prop where
 base:attributeBase o m X.env (eval o X.env)=eval o X.env
 Z6:((backTo aO (starEach [e] X.env)).all (λx=> ! x.1)&&(backToKw aO (keywordEach [] X.env)).all (λx=>x.1.isSome)
  &&decide (-([e]:List Expr)+-([]:List Keyword)+(if ([]:List Keyword).isEmpty then 0 else 1) < 30))=true
 line:(apos.endLine==aO.line)=true
 trees:backTo aO (starEach [e] X.env)=[(false, eval e X.env)]
structure M2(X:Cx)(o:Expr)(m:Str)(apos:Pos)(e f:Expr)(aO:Pos):Prop where
 base:attributeBase o m X.env (eval o X.env)=eval o X.env
 Z6:((backTo aO (starEach [e,f] X.env)).all (λx=> ! x.1)&&(backToKw aO (keywordEach [] X.env)).all (λx=>x.1.isSome)
  &&decide (-([e,f]:List Expr)+-([]:List Keyword)+(if ([]:List Keyword).isEmpty then 0 else 1) < 30))=true
 line:(apos.endLine==aO.line)=true
 trees:backTo aO (starEach [e,f] X.env)=[(false, eval e X.env),(false, eval f X.env)]
def XH(H:Hp)(a:Addr):Prop:=(∃Ζ,Rd H a (.dK Ζ))\/∃Ζ,Rd H a (.dT Ζ)
def D_{H:Hp}(I:Inv X η σ H s)(d:XH H a):
  s.TypeIs (.ref a) "dict"/\(∀b,Value.ref a= .ref b->∃ob,s.heap.get? b=!ob/\ob.dict=none)/\(a==sysModules)=false:=by
 rcases d with ⟨Ζ,e⟩| ⟨Ζ,e⟩
 .let(_,hd,vs,_,dd):=fg I.aU e;show(dd.typeIs,λb q=>?_,hd);cases q;let(ob,_,_,h1,h2,_):=dd;show(ob,h1,h2.2.1)
 .let(_,hd,xs,_,dd):=wz I.aU e;show(dd.typeIs,λb q=>?_,hd);cases q;let(ob,_,_,h1,h2,_):=dd;show(ob,h1,h2.2.1)
section
variable{X:Cx}{η:List (Addr×Obj)}{σ:St}{H:Hp}{s:Shared}{a:Addr}{y d:V}{u r:Value}{o:Option V}{A:Around}{E:Value->Shared->Prop}
def QS{Q:Value->Shared->Prop}(hu:A.units+1 < cLine)(I:Inv X η σ H s)(g:BH H a y o)(ry:aB y u)(rd:aB d r)(h:∀w' s',Inv X η σ H s'->aB (o.getD d) w'->Q w' s'):
  wpAny (model X.prog X.w) A (call (.builtin "dict.get") [.ref a,u,r]) Q E s:=by
 rcases g with ⟨Ζ,k,e,ey,l⟩| ⟨Ζ,k,b,e,ey,eb,l⟩
 .subst ey;let(z,hd,vs,rel,dd):=fg I.aU e;show call_meetsIn PySem.F.slot_dict_get dd.typeIs PySem.F.entry_dict_get (PySem.F.args_dict_get_3 _ _ _) (meets_dict_get_default (bA X.prog X.w) a (ue ry) hd r) (_,dd.mapOf,h _ _ (I.tok _) ?_);rw[l];show(rel.val k).getD rd
 .subst ey;cases(show u=Value.ref b from ry);let(z,hd,xs,rel,dd):=wz I.aU e;show call_meetsIn PySem.F.slot_dict_get dd.typeIs PySem.F.entry_dict_get (PySem.F.args_dict_get_3 _ _ _) (meetsH_dict_get_default (tupleKind (bA X.prog X.w)) a b hd r) (tupleKind_room_in1 hu,k,xs,tK I.aU eb,dd,h _ _ (I.tok _) ?_);rw[l];show(rel.val k).getD rd
end
def Qf(td ty tx:TE):TE:=λσ H Q=>td σ H λx H1=>∃a,x= .ref a/\XH H1 a/\ty σ H1 λy H2=>tx σ H2 λz H3=>∃o,BH H3 a y o/\Q (o.getD z) H3
section
variable{X:Cx}{o e f:Expr}{apos aO:Pos}{td ty tx:TE}
def Kl(hu:X.A.units+1 < cLine)(ho:PE X o td)(he:PE X e ty)(hf:PE X f tx)(m:M2 X o "get" apos e f aO):PE X (.Call (.Attribute o "get" apos) [e,f] [] aO) (Qf td ty tx):=by
 intro η s σ H Q I h;show wpAny_Call_method m.base m.Z6 m.line PySem.F.plainAttrs_dict PySem.F.slot_dict_get PySem.F.type_dict_get (bH (ho η s σ H _ I h) λu s1 xz=>?_);let(x,H1,I1,rx,a,ex,d,q1):=xz;subst ex;obtain rfl:u=Value.ref a:=rx;let(t1,t2,_):=D_ I1 d;show(t1,t2,?_);rw[m.trees]
 show Calls.callWith_builtin rfl (Calls.evalArgs_plain (Calls.spliced_cons (bH (he η s1 σ H1 _ I1 q1) fun iv s2 (y,H2,I2,ry,q2)=>
  Calls.spliced_cons (bH (hf η s2 σ H2 _ I2 q2) fun fv s3 (z,H3,I3,rz,ov,g,q3)=>Calls.spliced_nil ?_))))
 show QS hu I3 g ry rz λw' s4 I4 Cz=>(_,H3,I4,Cz,q3)
end
section
variable{X:Cx}{η:List (Addr×Obj)}{σ:St}{H:Hp}{s:Shared}{a:Addr}{Ζ:List (Key×V)}{A:Around}{E:Value->Shared->Prop}
def Ka{Q:Value->Shared->Prop}(I:Inv X η σ H s)(e:Rd H a (.dK Ζ))(h:∀p s',H p=none->Inv X η σ (upd H p (.dK Ζ)) s'->Q (.ref p) s'):wpAny (model X.prog X.w) A (call (.type "dict") [.ref a]) Q E s:=by let(z,hd,vs,rel,dd):=fg I.aU e;show kt_call_dict hd dd (by rw[<--rel];show z) λh' Il hs=>?_;show h _ _ (I.aU.fresh (aaq _)) (I.laid (a:=s.heap.objs.size) (o:=.dK Ζ) (t':=s.toks) (λb q hq=>?_) (aaq _) (qg z (beq_eq_false_iff_ne.mpr (Ne.symm (abj I.big))) rel Il));show(hs.2 b (abj (aaL hq))).trans (aas _ hq)
end
end L2
namespace Att
open PySem PySem.W PySem.Calls PyProof.Rows
end Att
namespace L2
open PySem PySem.Spec PyProof.Rows
end L2
/- THE XU N2 (shape;LID, My.* are UU):
  My.Adr:a structure of NR addresses aaQ XY T4 names (classes, HP);My.Txt K t:a structure (Prop) of NR equations rA K;
  My.Dz:{K} {implicit addresses ..} (e1:nsIn K mainGlobals "law"=!(!(.ref f))) (e2:K.lookup f=!(oc,od,.func (fnOf "law" "law" params body scope dV kV doc pm an bI ct),sl)) (e3:codeIn K bI "law"=true) .. :∃t,My.Txt K t
set_option maxRecDepth 100000 in
set_option maxHeartbeats 0 in
def PySem.Challenge.cw_LID_holds : PySem.Challenge.rw_LID.Holds := by
 w_on;o_law;k_head;(case hw=>w_witness2)
 k_fill
 show L2.yH (l:=PySem.Challenge.rw_LID) (n:=63) (k:=40) (x:="script") (CX:=fun w=>..) (sp:=fun _=>My.SE) rfl @_ rfl (rfl,@_,@_) (fun w h Y=>PySem.W.kIn_of Y) ?F ?S ?C
 case F=>
  intro w mg fa h KX G Nk;let T:∃t,My.Txt (L2.Zd KX) t:=by
   dsimp only[L2.Zd]
   refine' My.Dz ?e1 ?e2 ?e3 ..
   (case e1=>PySem.W.k_is)
   (case e2=>PySem.W.k_is)
   ..
  let(t,T):=T;let e0:=Nk.symm.trans (PySem.W.mg_of KX G T.law);cases e0;show(_,λs u=>.of_eq rfl,λbase kb nb=>My.Ct T kb nb)
 case S=>exactλw H a ns hl hO hS=>..
 case C=>show ..
(NR tactic k_is has no namespace:write k_is) -/
namespace L2
open PySem PySem.Spec PyProof.Rows
section
variable{X:Cx}
def HI:e6 X (.builtin "len") (λxs H Q=>∃a Ζ,xs=[V.ref a]/\H a=!(.dK Ζ)/\Q (.int (-Ζ)) H):=by intro η s σ H xs us Q I r h;let(a,Ζ,rfl,ha,q):=h;let(u,rfl,ru):=qQ r;cases ru;show Tz I (.inl ha) λt s' I'=>(.int (-Ζ),H,I',(t,rfl),q)
end
variable{X:Cx}{G:Hp}{L:List Addr}{d:Dt}{v:V}{R:St->XK}{o e l iter tg:Expr}{to te ta tb:DE}{p a:Addr}{k' n i kk:Nat}{η:List (Addr×Obj)}{σ:St}{s:Shared}{b c:Bool}{M:Ms}{ds:List Dt}{vs:List V}{t:DA}{A:Around}{prog P:Program}{w:World}{E Q:Value->Shared->Prop}{Ζ:List (Key×V)}{apos aO:Pos}{scope:Scope}{ti:DK}{ys:List Str}{Ρ:List Nat}{y:Str}{ks:List Key}
def By:Dt->Option Key
 | .int i=>!(.inl i)
 | .str z=>!(.inr z)
 | _=>none
def aY(ks:List Key)(ds:List Dt)(k:Key):Option Dt:=((ks.zip ds).find? λp=>decide (p.1=k)).map (·.2)
def jP{K:fv}{k:Key}(h:By d=!k)(n:Den K G L d v):v=kV k:=by
 cases d with
 | int i=>cases h;show n
 | str z=>cases h;show n
 | _=>cases h
def lG{K:fv}{G:Hp}{L:List Addr}{k:Key}:∀{ks:List Key} {ds:List Dt} {vs:List V} {d:Dt},Ο K G L ds vs->aY ks ds k=!d->∃v,fG (ks.zip vs) k=!v/\Den K G L d v
 | [],_,_,_,_,h=>by cases h
 | _::_,[],_,_,_,h=>by cases h
 | c::ks,d0::ds,_,d,(v0,vs,e,n0,n),h=>by
  subst e;rw[abF];by_cases hc:c=k
  .let h':aY (c::ks) (d0::ds) k=!d0:=by unfold aY;rw[List.zip_cons_cons,List.find?_cons_of_pos (by simpa using hc)];rfl
   rw[h']at h;cases h;show(v0,dz hc,n0)
  .let h':aY (c::ks) (d0::ds) k=aY ks ds k:=by unfold aY;rw[List.zip_cons_cons,List.find?_cons_of_neg (by simpa using hc)]
   rw[h']at h;let(v,h1,h2):=lG n h;show(v,by rw[c8 hc];show h1,h2)
def TY(to ti:DE):DE:=λρ M q x=>to ρ M (λd M1=>ti ρ M1 (λdi M2=>∃k ks ds key v,d= .loc k/\M2[k]? =!(.eG ks ds)/\By di=!key/\aY ks ds key=!v/\q v M2) x) x
def wb:∀(more acc:List (Key×V)),(∀p∈more,fG acc p.1=none)->(more.map (·.1)).Nodup->iW acc more=acc++more
 | [],acc,_,_=>by change acc=acc++[];rw[abw]
 | p::more,acc,h,nd=>by
  change iW (i7 acc p.1 p.2) more=_;rw[KP p.2 (h p aai),wb more _ (λq hq=>?_) (abT.mp nd).2]
  .simp
  .let e:=v8 p.1 q.1 p.2 acc (h p aai);rw[show(acc++[(p.1, p.2)])=acc++[(p.1, p.2)] from rfl,e,aaK]
   .show h q (aag _ hq)
   .intro z;show(abT.mp nd).1 (aaz.mpr (q,hq,z))
section
variable{i:Expr}{ti:DE}{pos p:Pos}
def uM(hr:ck k' X.A)(ho:JE X R o to)(hi:JE X R i ti)(hs:Kg i:=by intro _ _;rfl):JE X R (.Subscript o i pos) (TY to ti):=
 .of (MZ (FD hr) ho hi hs) λσ H G L ρ M q x rl n h hx=>by show(G,L,ρ,M,_,x,rl,n,h,hx,λv H1 xz=>?_);let(d1,G1,L1,M1,e1,r1,n1,h1):=xz;show(G1,L1,ρ,M1,_,x,r1,n.mono e1,h1,hx.on e1,λv2 H2 xz=>?_);let(d2,G2,L2,M2,e2,r2,n2,k,ks,ds,key,y,ed,hm,hk,hg,h2):=xz;subst ed;let(a,rfl,Ir):=n1;let BK:=e2.l.get Ir;let(_,vs,hH,hl,dn):=r2.e7 k a _ BK hm;let(u,hu,du):=lG dn hg;show(a,u,rfl,.inl (_,key,.inl hH,jP hk n2,hu.symm),fin_same (e1.trans e2) r2 du h2)
end
inductive GR(K:fv)(H:Hp):Nat->V->V->Bool->Prop
 | flat {n:Nat} {x y:V} (h1:dY x=true) (h2:dY y=true):GR K H n x y (mq x y)
 | tup {n:Nat} {a b:Addr} {xs ys:List V} {f:Nat->Bool} (h1:mR K H a xs) (h2:mR K H b ys) (h:∀j x y,xs[j]? =!x->ys[j]? =!y->GR K H n x y (f j)):GR K H (n+1) (.ref a) (.ref b) ((List.range (min (-xs) (-ys))).all f&&-xs==-ys)
 | lst {n:Nat} {a b:Addr} {xs ys:List V} {f:Nat->Bool} (h1:gI K H a xs) (h2:gI K H b ys) (hl:-xs=-ys) (h:∀j x y,xs[j]? =!x->ys[j]? =!y->GR K H n x y (f j)):GR K H (n+1) (.ref a) (.ref b) ((List.range (-xs)).all f)
 | len {n:Nat} {a b:Addr} {xs ys:List V} (h1:gI K H a xs) (h2:gI K H b ys) (hl:-xs≠-ys):GR K H (n+1) (.ref a) (.ref b) false
def Am(h:dY x=true):mq x x=true:=by cases x <;> first| rfl| (show(_==_)=true;simp)| cases h
section
variable{H:Hp}
def Bh(I:Inv X η σ H s){y:V}(h:GR X.K H n x y b):x=y->b=true:=by
 induction h with
 | flat h1 h2=>intro e;subst e;show Am h1
 | @tup n a b xs ys f h1 h2 h ih=>
  intro e;cases e;cases I.lP h1 h2;rw[acM,beq_self_eq_true,Bool.and_true];show abc.mpr λj hj=>?_;let hj:=abr.mp hj;show ih j _ _ (aad hj) (aad hj) rfl
 | @lst n a b xs ys f h1 h2 hl h ih=>
  intro e;cases e;cases I.cC h1 h2;show abc.mpr λj hj=>?_;let hj:=abr.mp hj;show ih j _ _ (aad hj) (aad hj) rfl
 | len h1 h2 hl=>
  intro e;cases e;cases I.cC h1 h2;show aa5 rfl hl
def dU(r:aH xs its){j:Nat}(h:j < its.toArray.size):∃x,xs[j]? =!x/\aB x its.toArray[j]:=by
 let hj:j < -its:=by simpa using h
 let hx:j < -xs:=by rw[-r];show hj
 let(u,g,ru):=r.get (aad hx);rw[aad hj]at g;cases g;show(_,List.getElem?_eq_getElem hx,by simpa using ru)
def Cf(I:Inv X η σ H s){y:V}(h:GR X.K H n x y b):∀{A:Around} {u v:Value},aB x u->aB y v->A.units+n < cLine->SeqAt.EqAt A s u v b:=by
 induction h with
 | flat h1 h2=>exactλru rv _=>uE ru rv h1 h2
 | @tup n a b xs ys f h1 h2 h ih=>
  intro A u v ru rv hu;cases ru;cases rv;by_cases e:a=b
  .have:=Bh I (.tup h1 h2 h) (abm V.ref e);rw[this,e];show SeqAt.EqAt.same _
  .let(i1,v1,t1,_):=I.tuple h1;let(i2,v2,t2,_):=I.tuple h2
   have:=SeqAt.RcAt.tuples (A:=A) (e:=f) (show s.heap.IsTuple a i1.toArray from t1) (show s.heap.IsTuple b i2.toArray from t2) () (λj g1 g2=>by
    let(x,hx,rx):=dU v1 g1;let(y,hy,ry):=dU v2 g2
    show ih j x y hx hy rx ry (by change A.units+1+n < cLine;omega))
   rw[aaU,aaU,<--v1,<--v2]at this;show SeqAt.EqAt.of_refs e this
 | @lst n a b xs ys f h1 h2 hl h ih=>
  intro A u v ru rv hu;cases ru;cases rv;by_cases e:a=b
  .have:=Bh I (.lst h1 h2 hl h) (abm V.ref e);rw[this,e];show SeqAt.EqAt.same _
  .let(i1,v1,t1,_):=I.list h1;let(i2,v2,t2,_):=I.list h2
   have:=SeqAt.RcAt.lists (A:=A) (e:=f) t1.isList t2.isList (by rw[aaU,aaU,<--v1,<--v2];show hl) () (λj g1 g2=>by
    let(x,hx,rx):=dU v1 g1;let(y,hy,ry):=dU v2 g2
    show ih j x y hx hy rx ry (by change A.units+1+n < cLine;omega))
   rw[aaU,<--v1]at this;show SeqAt.EqAt.of_refs e this
 | @len n a b xs ys h1 h2 hl=>
  intro A u v ru rv hu;cases ru;cases rv;let e:a≠b:=λe=>by subst e;cases I.cC h1 h2;show hl rfl
  let(i1,v1,t1,_):=I.list h1;let(i2,v2,t2,_):=I.list h2;show SeqAt.EqAt.of_refs e (SeqAt.RcAt.lists_lengths t1.isList t2.isList (by rw[List.size_toArray,List.size_toArray,<--v1,<--v2];simpa using hl) ())
end
def TV(K:fv)(n:Nat):R2:=λx y H Q=>∃a b c,x= .ref a/\y= .ref b/\GR K H n x y c/\Q (.bl c) H
section
def QC(hu:X.A.units+n < cLine):i8 X (compareOp .Eq) (TV X.K n):=by
 intro η s σ H x y v u Q I rx ry h;let(a,b,c,rfl,rfl,h,q):=h;cases rx;cases ry;cases h with
 | flat h1 h2=>cases h1
 | @tup n _ _ xs ys f h1 h2 h=>
  let(i1,v1,t1,_):=I.tuple h1;let(i2,v2,t2,_):=I.tuple h2;show SeqAt.eq_tupleAt (e:=f) (show s.heap.IsTuple a i1.toArray from t1) (show s.heap.IsTuple b i2.toArray from t2) () (λj g1 g2=>?_) ?_
  .let(x,hx,rx):=dU v1 g1;let(y,hy,ry):=dU v2 g2;show Cf I (h j x y hx hy) rx ry (by change X.A.units+1+n < cLine;omega)
  .rw[aaU,aaU,<--v1,<--v2];show(.bl _,H,I,rfl,q)
 | @lst n _ _ xs ys f h1 h2 hl h=>
  let(i1,v1,t1,_):=I.list h1;let(i2,v2,t2,_):=I.list h2;show SeqAt.eq_listAt (e:=f) t1.isList t2.isList (by rw[aaU,aaU,<--v1,<--v2];show hl) () (λj g1 g2=>?_) ?_
  .let(x,hx,rx):=dU v1 g1;let(y,hy,ry):=dU v2 g2;show Cf I (h j x y hx hy) rx ry (by change X.A.units+1+n < cLine;omega)
  .rw[aaU,<--v1];show(.bl _,H,I,rfl,q)
 | @len n _ _ xs ys h1 h2 hl=>
  let(i1,v1,t1,_):=I.list h1;let(i2,v2,t2,_):=I.list h2;show SeqAt.eq_list_lengthsAt t1.isList t2.isList (by rw[List.size_toArray,List.size_toArray,<--v1,<--v2];simpa using hl) () (.bl _,H,I,rfl,q)
end
def j8(M:Ms):Dt->Option (List Dt)
 | .lst xs=>!xs
 | .fX ns=>!(ns.map .int)
 | .loc k=>match M[k]? with
  | some (.lst xs)=>!xs
  | _=>none
 | _=>none
inductive tj(M:Ms):Nat->Dt->Dt->Bool->Prop
 | flat {n:Nat} {d e:Dt} {x y:V} (h1:oV d=!x) (h2:oV e=!y):tj M n d e (mq x y)
 | tup {n:Nat} {ds es:List Dt} {f:Nat->Bool} (h:∀j d e,ds[j]? =!d->es[j]? =!e->tj M n d e (f j)):tj M (n+1) (.tup ds) (.tup es) ((List.range (min (-ds) (-es))).all f&&-ds==-es)
 | lst {n:Nat} {d e:Dt} {ds es:List Dt} {f:Nat->Bool} (h1:j8 M d=!ds) (h2:j8 M e=!es) (hl:-ds=-es) (h:∀j d e,ds[j]? =!d->es[j]? =!e->tj M n d e (f j)):tj M (n+1) d e ((List.range (-ds)).all f)
 | len {n:Nat} {d e:Dt} {ds es:List Dt} (h1:j8 M d=!ds) (h2:j8 M e=!es) (hl:-ds≠-es):tj M (n+1) d e false
def eU{K:fv}{H:Hp}(r:Rl K G L M H)(n:Den K G L d v)(h:j8 M d=!xs):∃a vs,v= .ref a/\gI K H a vs/\Ο K G L xs vs:=by
 cases d with
 | lst ds=>cases h;let(a,vs,rfl,e,m):=n;show(a,vs,rfl,.of (r.sub _ _ e),m)
 | fX ns=>cases h;let(a,rfl,e):=n;show(a,_,rfl,r.sub.seq e,jw)
 | loc k=>
  let(a,rfl,e):=n;let h:(match M[k]? with| some (.lst xs)=>!xs| _=>none)=!xs:=h;split at h
  .rename_i ys hm;cases h;let(_,vs,e1,m1):=r.e7 k a _ e hm;show(a,vs,rfl,.of e1,m1)
  .cases h
 | _=>cases h
def Ο.back{K:fv}(h:Ο K G L ds vs)(e:vs[i]? =!v):∃d,ds[i]? =!d/\Den K G L d v:=by
 let hi:i < -ds:=by rw[-h];show(aam.mp e).1
 let(v',e',n):=h.get (aad hi);rw[e]at e';cases e';show(_,aad hi,n)
def PK{K:fv}{H:Hp}(r:Rl K G L M H){e:Dt}(h:tj M n d e b):∀{v u:V},Den K G L d v->Den K G L e u->GR K H n v u b:=by
 induction h with
 | flat h1 h2=>
  intro v u n1 n2;let(rfl,f1):=jg h1 n1;let(rfl,f2):=jg h2 n2;show .flat f1 f2
 | @tup n ds es f h ih=>
  intro v u n1 n2;let(a,vs,rfl,e1,m1):=n1;let(b,us,rfl,e2,m2):=n2;rw[-m1,-m2];show .tup (.of (r.sub _ _ e1)) (.of (r.sub _ _ e2)) λj x y hx hy=>?_;let(d,hd,dn):=m1.back hx;let(e,he,en):=m2.back hy;show ih j d e hd he dn en
 | @lst n d e ds es f h1 h2 hl h ih=>
  intro v u n1 n2;let(a,vs,rfl,s1,m1):=eU r n1 h1;let(b,us,rfl,s2,m2):=eU r n2 h2;rw[-m1];show .lst s1 s2 (by rw[<--m1,<--m2];show hl) λj x y hx hy=>?_;let(d,hd,dn):=m1.back hx;let(e,he,en):=m2.back hy;show ih j d e hd he dn en
 | @len n d e ds es h1 h2 hl=>
  intro v u n1 n2;let(a,vs,rfl,s1,m1):=eU r n1 h1;let(b,us,rfl,s2,m2):=eU r n2 h2;show .len s1 s2 (by rw[<--m1,<--m2];show hl)
def P2(M:Ms)(d:Dt):Prop:=(∃ds,d= .tup ds)\/∃xs,j8 M d=!xs
def Ff{K:fv}{H:Hp}(r:Rl K G L M H)(n:Den K G L d v)(h:P2 M d):∃a,v= .ref a:=by
 rcases h with ⟨ds,rfl⟩| ⟨xs,h⟩
 .let(a,vs,rfl,_):=n;show(a,rfl)
 .let(a,vs,rfl,_):=eU r n h;show(a,rfl)
def Ue(n:Nat):Dt->Dt->Ms->DQ->Prop:=λd e M q=>∃b,P2 M d/\P2 M e/\tj M n d e b/\q (.bl b) M
def Zv{K:fv}:pC K (TV K n) (Ue n):=by intro G0 L0 H0 G L M H v1 v2 d1 d2 q e r n1 n2 ⟨b,h1,h2,h,hq⟩;let(a,rfl):=Ff r n1 h1;let(a',rfl):=Ff r n2 h2;show(a,a',b,rfl,rfl,PK r h n1 n2,cq e r hq)
section
variable{a b u:Expr}{tl tu:DE}{pos p p2:Pos}
def Q6{k:Nat}(hr:ck k A)(hn:n<=64):A.units+n < cLine:=abt (Nat.add_le_add_left hn _) hr.units
def Wm(n:Nat)(hr:ck k' X.A)(ja:JE X R a ta)(jb:JE X R b tb)(hn:n<=64|>2)(hm:behindInMarks .Eq b=false|>1):JE X R (.Compare a [.Eq] [b] pos) (kg (Ue n) ta tb):=s_ (QC (Q6 hr hn)) Zv ja jb hm
def HF(xs:List V)(k:Nat):qU xs none (!(k:Int))=xs.take k:=by
 unfold qU;rw[HT.oI,HT.Br,acs,Nat.sub_zero];by_cases h:k<=-xs
 .rw[acw h]
 .rw[Nat.min_eq_right (),abS (aaq _),abS ()]
def N8(te tl:DE):DE:=λρ M q x=>te ρ M (λd M1=>tl ρ M1 (λdi M2=>∃ds n,j8 M2 d=!ds/\di= .int (n:Nat)/\q (.loc (-M2)) (M2++[.lst (ds.drop n)])) x) x
def gM(he:JE X R e te)(hl:JE X R l tl):JE X R (.Subscript e (.Slice (!l) none none p2) pos) (N8 te tl):=
 .of (ow x9 he (lJ hl) yB) λσ H G L ρ M q x rl n h hx=>by show(G,L,ρ,M,_,x,rl,n,h,hx,λv H1 xz=>?_);let(d1,G1,L1,M1,e1,r1,n1,h1):=xz;show(G1,L1,ρ,M1,_,x,r1,n.mono e1,h1,hx.on e1,λv2 H2 xz=>?_);let(d2,G2,L2,M2,e2,r2,n2,ds,k,ed,ei,h2):=xz;subst ei;let(a,vs,rfl,sq,m):=eU r2 (Den.mono e2.g e2.l _ _ n1) ed;let n2:v2= .int k:=n2;subst n2;show(k,rfl,a,vs,rfl,sq,λp hp=>?_);rw[wt];show ig (e1.trans e2) r2 hp (Ο.of (oQ k m.pair)) h2
end
open PySem PySem.SeqAt
def vq(prog:Program)(w:World)(A:Around)(s:Shared)(y x:Value)(b:Bool):Prop:=
 ∀(E:Value->Shared->Prop) (Q:Bool->Shared->Prop),Q b s->wpAny (model prog w) A (eqBool y x) Q E s
def G7{K:Type} [DecidableEq K]{knd:KeyKind prog w K}{es:List DictEntry}{Ζ:List (K×Value)}(p:Pairs knd es Ζ):∀{i:Nat} {e:DictEntry},es[i]? =!e->∃k,Ζ[i]? =!(k, e.val)/\knd.is k e.key=true:=by
 induction p with
 | nil=>intro i e h;simp at h
 | @cons e0 kv es Ζ h1 h2 _ ih=>
  intro i e h;cases i with
  | zero=>
   have:e0=e:=by simpa using h
   subst this;show(kv.1,by rw[h2];rfl,h1)
  | succ i=>show ih (by simpa using h)
def Fj{K:Type} [DecidableEq K]{knd:KeyKind prog w K}{es:Array DictEntry}{Ζ:List (K×Value)}(p:Pairs knd es.toList Ζ)(k:K):
  (valueAt Ζ k=none/\(es.findIdx? λe=>knd.is k e.key)=none)\/∃i e,valueAt Ζ k=!e.val/\(es.findIdx? λe=>knd.is k e.key)=!i/\es[i]? =!e:=by
 let hf:(es.find? λe=>knd.is k e.key).map (·.val)=valueAt Ζ k:=by rw[<-Array.find?_toList];show p.find k
 cases hi:es.findIdx? λe=>knd.is k e.key with
 | none=>
  left;show(?_,rfl);rw[<-hf];have:(es.find? λe=>knd.is k e.key)=none:=by rw[Array.find?_eq_none];rw[Array.findIdx?_eq_none_iff]at hi;intro x hx;simpa using hi x hx
  rw[this];rfl
 | some i=>
  right;rw[Array.findIdx?_eq_some_iff_getElem]at hi;let(wI,h1,h2):=hi;show(i,es[i],?_,rfl,acF wI);rw[<-hf];have:(es.find? λe=>knd.is k e.key)=!es[i]:=by rw[Array.find?_eq_some_iff_getElem];show(h1,i,wI,rfl,λj hj=>by simpa using h2 j hj)
  rw[this];rfl
def zp{K:Type} [DecidableEq K]{knd:KeyKind prog w K}{id:String}{b:Addr}{Ζ eF:List (K×Value)}(ha:s.heap.DictOf knd a Ζ)(hb:s.heap.DictOf knd b eF)(Qz:(a==sysModules)=false)(ub:(b==sysModules)=false)(hl:-Ζ=-eF)
  {e:Nat->Bool} (he:∀j k v,Ζ[j]? =!(k, v)->(valueAt eF k=none/\e j=false)\/∃v',valueAt eF k=!v'/\vq prog w A s v v' (e j)) {Q:Bool->Shared->Prop} (h:Q ((List.range (-Ζ)).all e) s):
  wpAny (model prog w) A (Builtin.Dict.samePairs id a b) Q E s:=by
 let(o1,E8,ep1,g1,x1,d1,k1,p1,n1):=ha;let(o2,X2,ep2,g2,x2,d2,k2,p2,n2):=hb;let sa:∀{c:Addr} {Q:Unit->Shared->Prop},(c==sysModules)=false->Q Unit.unit s->wpAny (model prog w) A (Builtin.Dict.showsAll c) Q E s:=λhc hq=>by unfold Builtin.Dict.showsAll;rw[aaK (by rw[hc];decide)];show aa6 hq
 unfold Builtin.Dict.samePairs;show aao (sa Qz (aao (sa ub (aao (wpAny_dictEntries g1 d1 (aao (wpAny_dictEntries g2 d2 ?_)))))));let z1:E8.size=-Ζ:=by rw[<--p1];simp
 let z2:X2.size=-eF:=by rw[<--p2];simp
 rw[if_neg (by rw[z1,z2,hl];simp)];show aao (wpAny_dictEpoch g1 d1 ?_);show aao ?_;rw[Std.Legacy.Range.forIn_eq_forIn_range'];let sz:[:E8.size].size=E8.size:=by simp[Std.Legacy.Range.size]
 rw[sz];show wpAny_forIn_list _ (λrest b s'=>s'=s/\b.1=none/\∃i,rest=List.range' i (E8.size - i)/\i<=E8.size/\((List.range i).all e=true)) _ ?_ ?_ _ _ (rfl,rfl,0,by simp,Nat.zero_le _,rfl)
 .rintro x rest b s' ⟨rfl,hb,i,hr,hi,r9⟩;let wI:i < E8.size:=by
   rcases Nat.lt_or_ge i E8.size with h'| h'
   .show h'
   .rw[Nat.sub_eq_zero_of_le h']at hr;cases hr
  rw[show E8.size - i=(E8.size - (i+1))+1 by omega,List.range'_succ]at hr;injection hr with hx Vh
  subst hx;show aao (wpAny_dictEntries g1 d1 ?_);rw[acF wI];dsimp only;let(k,Ir,BK):=G7 p1 (i:=x) (e:=E8[x]) (by rw[Array.getElem?_toList,acF wI]);let(k',x4,hk4):=k1 E8[x] (Array.getElem_mem wI);obtain rfl:k=k':=knd.inj _ _ _ BK x4;rw[hk4];show aao (acr (Q:=λr Tb=>Tb=s'/\r=e x) (E:=E) ?_ (fun r Tb (es,er)=>?_) λ_ _ h'=>h')
  .show wpAny_holding (aao (wpAny_dictFind_of BK g2 d2 k2 ?_));rcases he x k _ Ir with ⟨h1,h2⟩| ⟨v',h1,h2⟩
   .rcases Fj p2 k with ⟨_,q⟩| ⟨j,f,q,_⟩
    .rw[q];show aa6 (rfl,h2.symm)
    .rw[h1]at q;cases q
   .rcases Fj p2 k with ⟨q,_⟩| ⟨j,f,q,q1,q2⟩
    .rw[h1]at q;cases q
    .rw[q1];dsimp only;show aao (wpAny_dictEntries g2 d2 ?_);rw[q2];dsimp only;rw[h1]at q;obtain rfl:v'=f.val:=aay q;show wpAny_holding (h2 _ _ (rfl,rfl))
  .subst es er;cases hex:e x with
   | false=>
    rw[aaP (by rfl)];show aa6 (aa6 ?_);have:(List.range (-Ζ)).all e=false:=by rw[List.all_eq_false];show(x,abr.mpr (),by rw[hex];decide)
    rw[this]at h;show h
   | true=>
    rw[aaK @_];show aao (wpAny_dictEpoch g1 d1 ?_);rw[if_neg (by simp)];show aa6 (rfl,rfl,x+1,Vh,(),?_);rw[List.range_succ,List.all_append,r9];simp[hex]
 .rintro⟨b1,b2⟩ s' ⟨rfl,hb,i,hr,hi,r9⟩;let hb:b1=none:=hb;subst hb;have:i=E8.size:=by have:=abm List.length hr;rw[List.length_range']at this;simp at this;omega
  subst this;rw[z1]at r9;rw[r9]at h;show aa6 h
def u_{K:Type} [DecidableEq K]{knd:KeyKind prog w K}{id:String}{b:Addr}{Ζ eF:List (K×Value)}(ha:s.heap.DictOf knd a Ζ)(hb:s.heap.DictOf knd b eF)(Qz:(a==sysModules)=false)(ub:(b==sysModules)=false)(hl:-Ζ≠-eF)
  {Q:Bool->Shared->Prop} (h:Q false s):wpAny (model prog w) A (Builtin.Dict.samePairs id a b) Q E s:=by
 let(o1,E8,ep1,g1,x1,d1,k1,p1,n1):=ha;let(o2,X2,ep2,g2,x2,d2,k2,p2,n2):=hb;let sa:∀{c:Addr} {Q:Unit->Shared->Prop},(c==sysModules)=false->Q Unit.unit s->wpAny (model prog w) A (Builtin.Dict.showsAll c) Q E s:=λhc hq=>by unfold Builtin.Dict.showsAll;rw[aaK (by rw[hc];decide)];show aa6 hq
 unfold Builtin.Dict.samePairs;show aao (sa Qz (aao (sa ub (aao (wpAny_dictEntries g1 d1 (aao (wpAny_dictEntries g2 d2 ?_)))))));let z1:E8.size=-Ζ:=by rw[<--p1];simp
 let z2:X2.size=-eF:=by rw[<--p2];simp
 rw[if_pos (by rw[z1,z2];simpa using hl)];show aao (wpAny_rule (aa6 h))
section
variable{K:Type} [DecidableEq K]{knd:KeyKind prog w K}{b:Addr}{Ζ eF:List (K×Value)}
def tV(ha:s.heap.DictOf knd a Ζ)(hb:s.heap.DictOf knd b eF)(hu:A.units < cLine)(h:∀{E:Value->Shared->Prop} {Q:Bool->Shared->Prop},Q c s->wpAny (model prog w) A.in1 (Builtin.Dict.samePairs (toString "dict."++toString "__eq__") a b) Q E s)(q:Q (.bool c) s):wpAny (model prog w) A (richCompare .Eq (.ref a) (.ref b)) Q E s:=by
 show wpAny_richCompare_same_room ha.typeIs hb.typeIs F.slot_dict_eq (wpAny_call_entry F.slot_dict_eq ha.typeIs F.entry_dict_eq ?_ (F.args_dict_eq_2 _ _)) hu;change wpAny _ _ (Builtin.Dict.dictSlotArgs "__eq__" ([.ref a,.ref b],[]) >>= _) _ _ s;show aao ?_;unfold Builtin.Dict.dictSlotArgs;show aao (wpAny_notOrdered_dict ha.typeIs ?_);show aao (m:=slotArgs "__eq__" 1 _) (aa6 ?_);show aa6 ?_;show aao (wpAny_isInstance hb.typeIs isSubtype_dict_dict ?_);rw[aaK @_];show aao (aa6 (aao (aa6 (aao (h ?_)))));let e:(c==true)=c:=by cases c <;> rfl
 show aa6 (Value.bool (c==true),rfl,(nofun,?_));rw[e];show q
def vU(ha:s.heap.DictOf knd a Ζ)(hb:s.heap.DictOf knd b eF)(Qz:(a==sysModules)=false)(ub:(b==sysModules)=false)(hu:A.units < cLine)(hl:-Ζ=-eF){e:Nat->Bool}(he:∀j k v,Ζ[j]? =!(k, v)->(valueAt eF k=none/\e j=false)\/∃v',valueAt eF k=!v'/\vq prog w A.in1 s v v' (e j))
   (q:Q (.bool ((List.range (-Ζ)).all e)) s):wpAny (model prog w) A (richCompare .Eq (.ref a) (.ref b)) Q E s:=tV ha hb hu (λh=>zp ha hb Qz ub hl he h) q
def ma(ha:s.heap.DictOf knd a Ζ)(hb:s.heap.DictOf knd b eF)(Qz:(a==sysModules)=false)(ub:(b==sysModules)=false)(hu:A.units < cLine)(hl:-Ζ≠-eF)
   (q:Q (.bool false) s):wpAny (model prog w) A (richCompare .Eq (.ref a) (.ref b)) Q E s:=tV ha hb hu (λh=>u_ ha hb Qz ub hl h) q
def vq.same(v:Value):vq prog w A s v v true:=λE Q h=>SeqAt.EqAt.same v prog w E Q h
def vq.of_refs{k:Bool}(l9:a≠b)(h:∀(E:Value->Shared->Prop) (Q:Value->Shared->Prop),Q (.bool k) s->wpAny (model prog w) A (richCompare .Eq (.ref a) (.ref b)) Q E s):vq prog w A s (.ref a) (.ref b) k:=λE Q hq=>by unfold eqBool;show wpAny_holding ?_;show wpAny_ite_split (λUH=>aa5 (by have:=eq_of_beq UH;injection this) l9) (λ_=>?_);show aao (h E _ (wpAny_truthy_bool hq))
end
inductive xE(H:Hp):Nat->V->V->Bool->Prop
 | flat {n:Nat} {x y:V} (h1:dY x=true) (h2:dY y=true):xE H n x y (mq x y)
 | eG {n:Nat} {a b:Addr} {Ζ eF:List (Key×V)} {e:Nat->Bool} (h1:Rd H a (.dK Ζ)) (h2:Rd H b (.dK eF)) (hl:-Ζ=-eF) (hn:∀j k v,Ζ[j]? =!(k, v)->fG eF k=none->e j=false)
   (h:∀j k v v',Ζ[j]? =!(k, v)->fG eF k=!v'->xE H n v v' (e j)):xE H (n+1) (.ref a) (.ref b) ((List.range (-Ζ)).all e)
 | len {n:Nat} {a b:Addr} {Ζ eF:List (Key×V)} (h1:Rd H a (.dK Ζ)) (h2:Rd H b (.dK eF)) (hl:-Ζ≠-eF):xE H (n+1) (.ref a) (.ref b) false
def zU{κ:Type} [DecidableEq κ]:∀{Ζ:List (κ×V)} {j:Nat} {k:κ} {v:V},(Ζ.map (·.1)).Nodup->Ζ[j]? =!(k, v)->fG Ζ k=!v
 | [],j,k,v,_,h=>by simp at h
 | p::r,0,k,v,_,h=>by
  have:p=(k, v):=by simpa using h
  subst this;show dz rfl
 | p::r,j+1,k,v,hn,h=>by
  let h:r[j]? =!(k, v):=by simpa using h
  rw[abe,abT]at hn;have:¬p.1=k:=λe=>hn.1 (by rw[e];show aaz.mpr (_,aap h,rfl));rw[c8 this];show zU hn.2 h
def CC{H:Hp}{v:HO}(h1:Rd H a u)(h2:Rd H a v)(hu:∀o w,u≠ .wq o w)(hv:∀o w,v≠ .wq o w):u=v:=by
 rcases h1 with h1| ⟨o,h1⟩ <;> rcases h2 with h2| ⟨o',h2⟩ <;> rw[h1]at h2
 .show aay h2
 .show aa5 (aay h2) (hu _ _)
 .show aa5 (aay h2).symm (hv _ _)
 .have:=aay h2;injection this
def BV{κ:Type}:∀{Ζ:List (κ×V)} {vs:List (κ×Value)},KV Ζ vs->∀{j:Nat} {k:κ} {u:Value},vs[j]? =!(k, u)->∃v,Ζ[j]? =!(k, v)/\aB v u
 | _,_,.nil,j,k,u,h=>by simp at h
 | _,_,.cons (a:=p) (b:=q) r t,0,k,u,h=>by
  have:q=(k, u):=by simpa using h
  subst this;let e:p.1=k:=r.1;show(p.2,by change (!p)=_;rw[<-e],r.2)
 | _,_,.cons r t,j+1,k,u,h=>by let(v,e,rv):=BV t (show _=!(k, u) by simpa using h);show(v,by simpa using e,rv)
section
variable{H:Hp}
def Jx(I:Inv X η σ H s)(h:Rd H a (.dK Ζ)):(Ζ.map (·.1)).Nodup:=by let(_,_,vs,r,o,es,ep,_,_,_,_,_,n):=fg I.aU h;rw[r.keys];show n
def GX(I:Inv X η σ H s){y:V}(h:xE H n x y b):x=y->b=true:=by
 induction h with
 | flat h1 h2=>intro e;subst e;show Am h1
 | @eG n a b Ζ eF f h1 h2 hl hn h ih=>
  intro e;cases e;have:=CC h1 h2 (λ_ _ z=>nomatch z) (λ_ _ z=>nomatch z);cases this;show abc.mpr λj hj=>?_;let hj:=abr.mp hj;let g:Ζ[j]? =!(Ζ[j].1, Ζ[j].2):=aad hj;show ih j _ _ _ g (zU (Jx I h1) g) rfl
 | len h1 h2 hl=>
  intro e;cases e;have:=CC h1 h2 (λ_ _ z=>nomatch z) (λ_ _ z=>nomatch z);cases this;show aa5 rfl hl
def FJ{vs:List (Key×Value)}(r:KV Ζ vs)(k:Key):(fG Ζ k=none/\valueAt vs k=none)\/∃v u,fG Ζ k=!v/\valueAt vs k=!u/\aB v u:=by
 have:=r.val k;cases h1:fG Ζ k with
 | none=>
  cases h2:valueAt vs k with
  | none=>show .inl (rfl,rfl)
  | some u=>rw[h1,h2]at this;show this.elim
 | some v=>
  cases h2:valueAt vs k with
  | none=>rw[h1,h2]at this;show this.elim
  | some u=>rw[h1,h2]at this;show .inr (v,u,rfl,rfl,this)
def R5(I:Inv X η σ H s){y:V}(h:xE H n x y c):∀{A:Around} {u v:Value},aB x u->aB y v->A.units+n < cLine->vq X.prog X.w A s u v c:=by
 induction h with
 | flat h1 h2=>exactλru rv _ E Q q=>uE ru rv h1 h2 X.prog X.w E Q q
 | @eG n a b Ζ eF f h1 h2 hl hn h ih=>
  intro A u v ru rv hu;cases ru;cases rv;by_cases e:a=b
  .have:=GX I (.eG h1 h2 hl hn h) (abm V.ref e);rw[this,e];show vq.same _
  .let(_,z1,vs,r1,d1):=fg I.aU h1;let(_,z2,uU,r2,d2):=fg I.aU h2;show vq.of_refs e λE Q q=>?_;rw[-r1]at q;show vU d1 d2 z1 z2 () (by rw[<--r1,<--r2];show hl) (λj k u hj=>?_) q;let(v,hv,rv):=BV r1 hj;rcases FJ r2 k with ⟨q1,q2⟩| ⟨v',u',q1,q2,q3⟩
   .show .inl (q2,hn j k v hv q1)
   .show .inr (u',q2,ih j k v v' hv q1 rv q3 (by change A.units+1+n < cLine;omega))
 | @len n a b Ζ eF h1 h2 hl=>
  intro A u v ru rv hu;cases ru;cases rv;let e:a≠b:=λe=>by subst e;have:=CC h1 h2 (λ_ _ z=>nomatch z) (λ_ _ z=>nomatch z);cases this;show hl rfl
  let(_,z1,vs,r1,d1):=fg I.aU h1;let(_,z2,uU,r2,d2):=fg I.aU h2;show vq.of_refs e λE Q q=>ma d1 d2 z1 z2 () (by rw[<--r1,<--r2];show hl) q
end
def PH(n:Nat):R2:=λx y H Q=>∃a b c,x= .ref a/\y= .ref b/\xE H n x y c/\Q (.bl c) H
def NX(hu:X.A.units+n < cLine):i8 X (compareOp .Eq) (PH n):=by
 intro η s σ H x y v u Q I rx ry h;let(a,b,c,rfl,rfl,h,q):=h;cases rx;cases ry;cases h with
 | flat h1 h2=>cases h1
 | @eG n _ _ Ζ eF f h1 h2 hl hn h=>
  let(_,z1,vs,r1,d1):=fg I.aU h1;let(_,z2,uU,r2,d2):=fg I.aU h2;rw[-r1]at q;change wpAny _ _ (richCompare .Eq _ _) _ _ s;show vU d1 d2 z1 z2 () (by rw[<--r1,<--r2];show hl) (e:=f) (λj k u hj=>?_) (.bl _,H,I,rfl,q);let(v,hv,rv):=BV r1 hj;rcases FJ r2 k with ⟨q1,q2⟩| ⟨v',u',q1,q2,q3⟩
  .show .inl (q2,hn j k v hv q1)
  .show .inr (u',q2,R5 I (h j k v v' hv q1) rv q3 (by change X.A.units+1+n < cLine;omega))
 | @len n _ _ Ζ eF h1 h2 hl=>
  let(_,z1,vs,r1,d1):=fg I.aU h1;let(_,z2,uU,r2,d2):=fg I.aU h2;change wpAny _ _ (richCompare .Eq _ _) _ _ s;show ma d1 d2 z1 z2 () (by rw[<--r1,<--r2];show hl) (.bl _,H,I,rfl,q)
section
variable{a b f:Expr}{tf:DE}{pos p:Pos}
def Jm(to:DE):DE:=λρ M q x=>to ρ M (λd M1=>∃k xs,d= .loc k/\M1[k]? =!(.lst xs)/\q .aZ (M1.set k (.lst []))) x
def MT(ho:JE X R o to)(g8:attributeBase o "clear" X.env (eval o X.env)=eval o X.env|>1)(h_:(apos.endLine==aO.line)=true|>1):JE X R (.Call (.Attribute o "clear" apos) [] [] aO) (Jm to):=
 .of (Sh acp PySem.F.slot_list_clear PySem.F.type_list_clear (r:=K9) J1 ho g8 h_) λσ H G L ρ M q x rl n h hx=>by show(G,L,ρ,M,_,x,rl,n,h,hx,λv H1 xz=>?_);let(d1,G1,L1,M1,e1,r1,n1,k,xs,ed,hm,h1):=xz;subst ed;let(a,rfl,hk):=n1;let(_,vs,hH,dn):=r1.e7 k a _ hk hm;show(.inl (rfl,vs,.of hH),a,vs,rfl,rfl,hH,.aZ,G1,L1,_,e1.trans (r1.Eu hk),r1.setM (m:=.lst []) hk ([],ao,rfl),rfl,h1)
def VR(to te tf:DE):DE:=λρ M q x=>to ρ M (λd M1=>(∃k ks ds,d= .loc k/\M1[k]? =!(.eG ks ds))/\te ρ M1 (λdk M2=>tf ρ M2 (λdx M3=>∃k ks ds key,d= .loc k/\M3[k]? =!(.eG ks ds)/\By dk=!key/\q ((aY ks ds key).getD dx) M3) x) x) x
def wg{K:fv}{G:Hp}{L:List Addr}{k:Key}:∀{ks:List Key} {ds:List Dt} {vs:List V},Ο K G L ds vs->aY ks ds k=none->fG (ks.zip vs) k=none
 | [],_,_,_,_=>rfl
 | _::_,[],_,h,_=>by cases h;rfl
 | c::ks,d0::ds,_,(v0,vs,e,n0,n),h=>by
  subst e;rw[abF];by_cases hc:c=k
  .let h':aY (c::ks) (d0::ds) k=!d0:=by unfold aY;rw[List.zip_cons_cons,List.find?_cons_of_pos (by simpa using hc)];rfl
   rw[h']at h;cases h
  .let h':aY (c::ks) (d0::ds) k=aY ks ds k:=by unfold aY;rw[List.zip_cons_cons,List.find?_cons_of_neg (by simpa using hc)]
   rw[h']at h;rw[c8 hc];show wg n h
def K'(hr:ck k' X.A)(ho:JE X R o to)(he:JE X R e te)(hf:JE X R f tf)(m:M2 X o "get" apos e f aO:=by exact⟨rfl,rfl,rfl,rfl⟩):JE X R (.Call (.Attribute o "get" apos) [e,f] [] aO) (VR to te tf):=
 .of (Kl (FD hr) ho he hf m) λσ H G L ρ M q x rl n h hx=>by
  show(G,L,ρ,M,_,x,rl,n,h,hx,λv H1 xz=>?_);let(d1,G1,L1,M1,e1,r1,n1,(k0,ks0,ds0,ZQ,VZ),h1):=xz;subst ZQ;let(a,rfl,hk):=n1;let(_,vs0,ZD,_,_):=r1.e7 k0 a _ hk VZ;show(a,rfl,.inl (_,.inl ZD),G1,L1,ρ,M1,_,x,r1,n.mono e1,h1,hx.on e1,λv2 H2 xz=>?_);let(d2,G2,L2,M2,e2,r2,n2,h2):=xz;show(G2,L2,ρ,M2,_,x,r2,(n.mono e1).mono e2,h2,(hx.on e1).on e2,λv3 H3 xz=>?_);let(d3,G3,L3,M3,e3,r3,n3,k,ks,ds,key,ed,hm,Qw,h3):=xz;cases ed;let Hn:=e2.trans e3;let x4:=Hn.l.get hk;let(_,vs,hH,_,dn):=r3.e7 k0 a _ x4 hm;let T3:v2=kV key:=jP Qw n2;show(_,.inl (_,key,.inl hH,T3,rfl),?_);cases hg:aY ks ds key with
  | none=>
   rw[hg]at h3;rw[wg dn hg];show fin_same (e1.trans Hn) r3 n3 h3
  | some d=>
   rw[hg]at h3;let(u,hu,du):=lG dn hg;rw[hu];show fin_same (e1.trans Hn) r3 du h3
end
section
variable{elt c:Expr}{x z:Str}{px pz tp:Pos}{pos:Pos}{tc:DT}
def wZ{hI:Pos}(hN:X.N.Nodup)(Dj:X.N[i]? =!y)(hy:Loc X.env.scope y)(S:aw X scope [x] ys Ρ)(hi:JK X R (.Name x px) iter ti)(ht:∀C s H fp,JT (Cx.comp X (x::ys) scope C s H fp) (λ_=>E0) c tc)(he:∀C s H fp,JE (Cx.comp X (x::ys) scope C s H fp) (λ_=>E0) elt te)(hc:X.calm=true|>1)(CY:swapsWith (.ListComp elt [(.Name x px,iter,[c],0)] scope pos) (!(.Name y py)) hI.line X.env=pure true|>1)(hs:(∀x,foldedSetIterable iter X.env x=pure x)|>3)(hf:X.fn y=true\/X.env.scope.names.lookup y=some .local:=by first| exact .inl rfl| exact .inr rfl| assumption):JS X R (.Assign [.Name y py] (.ListComp elt [(.Name x px,iter,[c],0)] scope pos) hI) (vg i (yM 1 ti (gN 0) tc te Ρ)):=Te false S hi (d8 S (i:=0) rfl) aL (dq (Nat.zero_lt_succ 0)) (λC s H fp=>xN (ht C s H fp)) he hc hs hN Dj hy CY hf λ_ _ _ _ h=>h
def vn{hI:Pos}(hN:X.N.Nodup)(Dj:X.N[i]? =!y)(hy:Loc X.env.scope y)(S:aw X scope [x,z] ys Ρ)(hi:JK X R (.Tuple [.Name x px,.Name z pz] kk tp) iter ti)(ht:∀C s H fp,JT (Cx.comp X (x::z::ys) scope C s H fp) (λ_=>E0) c tc)(he:∀C s H fp,JE (Cx.comp X (x::z::ys) scope C s H fp) (λ_=>E0) elt te)(hc:X.calm=true|>1)(CY:swapsWith (.ListComp elt [(.Tuple [.Name x px,.Name z pz] kk tp,iter,[c],0)] scope pos) (!(.Name y py)) hI.line X.env=pure true|>1)(hs:(∀x,foldedSetIterable iter X.env x=pure x)|>3)(hf:X.fn y=true\/X.env.scope.names.lookup y=some .local:=by first| exact .inl rfl| exact .inr rfl| assumption):JS X R (.Assign [.Name y py] (.ListComp elt [(.Tuple [.Name x px,.Name z pz] kk tp,iter,[c],0)] scope pos) hI) (vg i (Nj 2 ti (g2 0 1) tc te Ρ)):=Te true S hi (ze hc S) mV (pI (Nat.zero_lt_succ 1) (abY 1)) (λC s H fp=>xN (ht C s H fp)) he hc hs hN Dj hy CY hf λ_ _ _ _ h=>h
end
def zW(M:Ms):Dt->Option (List Dt)
 | .lst xs=>!xs
 | .loc k=>match M[k]? with
  | some (.lst xs)=>!xs
  | _=>none
 | _=>none
def xm{K:fv}{H:Hp}(r:Rl K G L M H)(n:Den K G L d v)(h:zW M d=!xs):∃a vs,v= .ref a/\H a=!(.lst vs)/\Ο K G L xs vs:=by
 cases d with
 | lst ds=>cases h;let(a,vs,rfl,e,m):=n;show(a,vs,rfl,r.sub _ _ e,m)
 | loc k=>
  let(a,rfl,e):=n;let h:(match M[k]? with| some (.lst xs)=>!xs| _=>none)=!xs:=h;split at h
  .rename_i ys hm;cases h;let(_,vs,e1,m1):=r.e7 k a _ e hm;show(a,vs,rfl,e1,m1)
  .cases h
 | _=>cases h
def Pj:Dt->Dt->Ms->DQ->Prop:=λd e M q=>∃xs ys,zW M d=!xs/\zW M e=!ys/\-xs+-ys<=sizeLine/\q (.lst (xs++ys)) M
def VD{K:fv}:pC K Sk Pj:=by intro G0 L0 H0 G L M H v1 v2 d1 d2 q e r n1 n2 ⟨xs,ys,h1,h2,hz,hq⟩;let(p1,w1,rfl,e1,m1):=xm r n1 h1;let(p2,w2,rfl,e2,m2):=xm r n2 h2;show(p1,p2,w1,w2,rfl,rfl,e1,e2,by rw[<--m1,<--m2];show hz,λp hp=>?_);show jQ e r hp (rO r hp (m1.app m2)) hq
section
variable{a b:Expr}{pos:Pos}
def i4(ja:JE X R a ta)(jb:JE X R b tb):JE X R (.BinOp a .Add b pos) (kg Pj ta tb):=xx Ll VD ja jb
end
def qX(n:Nat):sliceRange ((n:Int) - 1) (- 1) (- 1)=(List.range n).reverse:=by
 let e:sliceRange ((n:Int) - 1) (- 1) (- 1)=(List.range n).map λk=>n - 1 - k:=by
  unfold sliceRange;let hc:(if (n:Int) - 1 > - 1 then ((n:Int) - 1 - - 1 - - 1 - 1) / (- - 1) else 0)=n:=by
   split
   .have:((n:Int) - 1 - - 1 - - 1 - 1)=n:=()
    rw[this];change(n:Int) / 1=n;show Int.ediv_one _
   .omega
  simp only[show¬((- 1:Int) > 0) by decide,if_false,hc,Int.toNat_natCast];apply aby;intro k hk;have:=abr.mp hk;omega
 rw[e];apply abI
 .simp
 .intro i h1 h2;simp
def vb(items:Array Value):slicePick items none none (!(- 1))=items.toList.reverse.toArray:=by
 let e:slicePick items none none (!(- 1))=((sliceRange ((items.size:Int) - 1) (- 1) (- 1)).filterMap (items[·]?)).toArray:=rfl;rw[e,qX,List.filterMap_reverse];let p:=pick_run items 0 items.size;rw[acs]at p;let e2:(List.range items.size).map (0+ ·)=List.range items.size:=by
  have:(λx:Nat=>0+x)=id:=by funext x;simp
  rw[this,List.map_id]
 rw[e2]at p;rw[p,abS (by rw[Array.length_toList];show aaq _)]
def yp{α β:Type}{F:α->β->Prop}:∀{xs:List α} {ys:List β},Paired F xs ys->Paired F xs.reverse ys.reverse
 | _,_,.nil=>.nil
 | _,_,.cons r t=>by rw[List.reverse_cons,List.reverse_cons];show rS (yp t) (.cons r .nil)
section
variable{tl:DE}{pos p2:Pos}
def Q1(te tl:DE):DE:=λρ M q x=>te ρ M (λd M1=>tl ρ M1 (λdi M2=>∃ds n,j8 M2 d=!ds/\di= .int (n:Nat)/\q (.loc (-M2)) (M2++[.lst (ds.take n)])) x) x
def FG(he:JE X R e te)(hl:JE X R l tl):JE X R (.Subscript e (.Slice none (!l) none p2) pos) (Q1 te tl):=
 .of (ow x9 he yB (lJ hl)) λσ H G L ρ M q x rl n h hx=>by show(G,L,ρ,M,_,x,rl,n,h,hx,λv H1 xz=>?_);let(d1,G1,L1,M1,e1,r1,n1,h1):=xz;show(G1,L1,ρ,M1,_,x,r1,n.mono e1,h1,hx.on e1,λv2 H2 xz=>?_);let(d2,G2,L2,M2,e2,r2,n2,ds,k,ed,ei,h2):=xz;subst ei;let(a,vs,rfl,sq,m):=eU r2 (Den.mono e2.g e2.l _ _ n1) ed;let n2:v2= .int k:=n2;subst n2;show(k,rfl,a,vs,rfl,sq,λp hp=>?_);rw[HF];show ig (e1.trans e2) r2 hp (Ο.of (ui k m.pair)) h2
end
def wm(g:Dt->En->(En->Prop)->Prop)(te:DE)(ρ0:En)(ok:Ms->Prop):List Dt->List Dt->Ms->(List Dt->Ms->Prop)->Prop
 | [],acc,M,k=>ok M/\k acc M
 | x::xs,acc,M,k=>ok M/\g x ρ0 λρ'=>te ρ' M (λd M2=>wm g te ρ0 ok xs (acc++[d]) M2 k) k8
def xH(n:Nat)(ti:DK)(g:Dt->En->(En->Prop)->Prop)(te:DE)(Ρ:List Nat):DE:=λρ M q x=>ti ρ M (λxs ok M1=>-xs<=sizeLine/\wm g te (List.replicate n none++n_ Ρ ρ) ok xs [] M1 (λys M2=>q (.lst ys) M2)) x
def x8{g:Dt->En->(En->Prop)->Prop}{te:DE}{ok:Ms->Prop}:∀xs,wm g te cs ok xs=ij g tX te cs ok xs
 | []=>rfl
 | x::xs=>funext λacc=>funext λM=>funext λk=>by change(ok M/\g x cs λρ'=>te ρ' M (λd M1=>wm g te cs ok xs (acc++[d]) M1 k) k8)=(ok M/\g x cs λρ'=>te ρ' M (λd M1=>ij g tX te cs ok xs (acc++[d]) M1 k) k8);rw[x8 xs]
section
variable{elt:Expr}{x:Str}{px py tp:Pos}{pos:Pos}
def Od(S:aw X scope [x,y] ys Ρ)(hi:JK X R (.Tuple [.Name x px,.Name y py] kk tp) iter ti)(he:∀C s H fp,JE (Cx.comp X (x::y::ys) scope C s H fp) (λ_=>E0) elt te)(hc:X.calm=true|>1)(hs:(∀x,foldedSetIterable iter X.env x=pure x)|>3):JE X R (.ListComp elt [(.Tuple [.Name x px,.Name y py] kk tp,iter,[],0)] scope pos) (xH 2 ti (g2 0 1) te Ρ):=Tv false S hi (ze hc S) mV (pI (Nat.zero_lt_succ 1) (Nat.lt_succ_self 1)) (λ_ _ _ _=>iw) he hc hs λρ M q x h=>by unfold xH at h;simp only[x8]at h;show h
end
def vY{g:Dt->En->(En->Prop)->Prop}{te:DE}{ok:Ms->Prop}{M:Ms}{k:List Dt->Ms->Prop}(ho:ok M)(f:Dt->Dt):∀(xs acc:List Dt),(∀x∈xs,∀q:DQ,q (f x) M->g x ρ0 λρ'=>te ρ' M q k8)->k (acc++xs.map f) M->wm g te ρ0 ok xs acc M k
 | [],acc,_,h=>(ho,by simpa using h)
 | x::xs,acc,ht,h=>(ho,ht x List.mem_cons_self _ (vY ho f xs _ (λy hy=>ht y (List.mem_cons_of_mem _ hy)) (by simpa using h)))
def Gh(xs:List V)(a b:Nat):qU xs (!(a:Int)) (!(b:Int))=(xs.drop a).take (b - a):=by
 unfold qU;rw[HT.oI,HT.oI];by_cases ha:a<=-xs
 .rw[acw ha];by_cases hb:b<=-xs
  .rw[acw hb]
  .rw[Nat.min_eq_right (),abS (by rw[abQ];omega),abS (by rw[abQ];omega)]
 .let h1:min a (-xs)=-xs:=Nat.min_eq_right ();rw[h1,List.drop_of_length_le (aaq (-xs)),List.drop_of_length_le (show -xs<=a by omega)];simp
section
variable{u a b:Expr}{tl tu:DE}{pos p2:Pos}
def Vp(te tl tu:DE):DE:=λρ M q x=>te ρ M (λd M1=>tl ρ M1 (λdi M2=>∃n:Nat,di= .int n/\tu ρ M2 (λdu M3=>∃ds m,j8 M3 d=!ds/\du= .int (m:Nat)/\q (.loc (-M3)) (M3++[.lst ((ds.drop n).take (m - n))])) x) x) x
def GC(he:JE X R e te)(hl:JE X R l tl)(hu:JE X R u tu):JE X R (.Subscript e (.Slice (!l) (!u) none p2) pos) (Vp te tl tu):=
 .of (ow x9 he (lJ hl) (lJ hu)) λσ H G L ρ M q x rl n h hx=>by show(G,L,ρ,M,_,x,rl,n,h,hx,λv H1 xz=>?_);let(d1,G1,L1,M1,e1,r1,n1,h1):=xz;show(G1,L1,ρ,M1,_,x,r1,n.mono e1,h1,hx.on e1,λv2 H2 xz=>?_);let(d2,G2,L2,M2,e2,r2,n2,k,ek,h2):=xz;subst ek;let n2:v2= .int k:=n2;subst n2;show(k,rfl,G2,L2,ρ,M2,_,x,r2,(n.mono e1).mono e2,h2,(hx.on e1).on e2,λv3 H3 xz=>?_);let(d3,G3,L3,M3,e3,r3,n3,ds,m,ed,em,h3):=xz;subst em;let Hn:=e2.trans e3;let(a,vs,rfl,sq,dn):=eU r3 (Den.mono Hn.g Hn.l _ _ n1) ed;let n3:v3= .int m:=n3;subst n3;show(m,rfl,a,vs,rfl,sq,λp hp=>?_);rw[Gh];show ig (e1.trans Hn) r3 hp (Ο.of (ui (m - k) (oQ k dn.pair))) h3
def Pz:Dt->Dt->Ms->DQ->Prop:=λd e M q=>∃xs k,zW M d=!xs/\e= .int k/\ - (2 ^ 63)<=k/\k < 2 ^ 63/\-xs * k.toNat<=sizeLine/\q (.loc (-M)) (M++[.lst (List.replicate k.toNat xs).flatten])
def VP{K:fv}:pC K R3 Pz:=by intro G0 L0 H0 G L M H v1 v2 d1 d2 q e r n1 n2 ⟨xs,k,h1,h2,a,b,hz,hq⟩;let(p1,w1,rfl,e1,m1):=xm r n1 h1;subst h2;let n2:v2= .int k:=n2;subst n2;show(p1,k,w1,rfl,rfl,e1,a,b,by rw[<--m1];show hz,λp hp=>?_);show ig e r hp (Ο.of (xC m1.pair k.toNat)) hq
def BS(ja:JE X R a ta)(jb:JE X R b tb):JE X R (.BinOp a .Mult b pos) (kg Pz ta tb):=xx Jt VP ja jb
end
section
def Qo(l:List Value)(k:Nat)(y:Value):(l.toArray.extract 0 k).push y++l.toArray.extract k=(l.take k++y::l.drop k).toArray:=by apply Array.toList_inj.mp;simp;show List.take_of_length_le (by simp)
def EU:V->List V->Hp->VK->Prop:=λx vs H Q=>∃l xs y,∃i:Nat,x= .ref l/\vs=[.int (i:Int),y]/\H l=!(.lst xs)/\-xs < sizeLine/\i<=-xs/\Q .aZ (upd H l (.lst (xs.take i++y::xs.drop i)))
def Hi:Xd X "list.insert" EU:=by
 intro η s σ H x vs v us Q I rx rv h;let(l,xs,y,i,rfl,rfl,hH,hz,hi,q):=h;cases rx;let(u1,u,rfl,YK,ru):=rv.two;let(tk,rfl):=YK;let(z,its,n,r,hl,e):=I.FV hH;let h63:sizeLine < 2 ^ 63:=@_
 let aff:i < 2 ^ 63:=abt hi (Nat.lt_trans hz h63);let hf:¬(! Builtin.List.listFitsIndex (i:Int))=true:=by
  have:Builtin.List.listFitsIndex (i:Int)=true:=by
   clear h63 hz hi q;let a1: - (2 ^ 63:Int)<=(i:Int):=()
   let a2:(i:Int) < 2 ^ 63:=()
   unfold Builtin.List.listFitsIndex;rw[aaB a1,aaB a2];rfl
  rw[this];decide
 let hlen:=-r;let hsz:its.toArray.size<=sizeLine:=by rw[aaU,<-hlen];show Nat.le_of_lt hz
 obtain⟨j,hj⟩:∃j:Int,j=(i:Int):=(_,rfl);rw[<-hj]at hf⊢;let hM:=PySem.AutoSeq1.list_insert_list_int_val_1 l its.toArray n j tk u hf hsz;show call_meets F.slot_list_insert (_,e,rfl) F.entry_list_insert (F.args_list_insert_3 _ _ _) hM (e,?_);show(.aZ,_,I.Rh (its':=its.take i++u::its.drop i) hH e ?_ ((r.take i).append (.cons ru (r.drop i))) ?_,rfl,q)
 .change(its.toArray.extract 0 (if j < 0 then (j+(its.toArray.size:Int)).toNat else min j.toNat its.toArray.size)).push u++its.toArray.extract (if j < 0 then (j+(its.toArray.size:Int)).toNat else min j.toNat its.toArray.size)=_;let e2:(if j < 0 then (j+(its.toArray.size:Int)).toNat else min j.toNat its.toArray.size)=i:=by rw[aaK (),aaU,hj,abl];omega
  rw[e2];show Qo its i u
 .rw[aan,aa9,acq,abQ,acw hi,show i+(-xs - i+1)=-xs+1 by omega];show hz
end
def Ο.tak{K:fv}{G:Hp}{L:List Addr}:∀{ds:List Dt} {vs:List V} (n:Nat),Ο K G L ds vs->Ο K G L (ds.take n) (vs.take n)
 | _,_,0,_=>rfl
 | [],_,n+1,h=>by cases h;rfl
 | _::_,_,n+1,(v,vs,e,h1,h2)=>by subst e;show(v,vs.take n,rfl,h1,Ο.tak n h2)
def Ο.dro{K:fv}{G:Hp}{L:List Addr}:∀{ds:List Dt} {vs:List V} (n:Nat),Ο K G L ds vs->Ο K G L (ds.drop n) (vs.drop n)
 | _,_,0,h=>h
 | [],_,n+1,h=>by cases h;rfl
 | _::_,_,n+1,(v,vs,e,h1,h2)=>by subst e;show Ο.dro n h2
section
variable{f:Expr}
def Uw(to:DE)(t:DA):DE:=λρ M q x=>to ρ M (λd M1=>(∃k xs,d= .loc k/\M1[k]? =!(.lst xs))/\t ρ M1 (λds M2=>∃k xs y,∃i:Nat,d= .loc k/\ds=[.int (i:Int),y]/\M2[k]? =!(.lst xs)/\-xs < sizeLine/\i<=-xs/\q .aZ (M2.set k (.lst (xs.take i++y::xs.drop i)))) x) x
def IL(ho:JE X R o to)(ha:JA X R [e,f] t)(g8:attributeBase o "insert" X.env (eval o X.env)=eval o X.env|>1)
  (Dp:((backTo aO (starEach [e,f] X.env)).all (λx=> ! x.1)&&(backToKw aO (keywordEach [] X.env)).all (λx=>x.1.isSome)
   &&decide (-([e,f]:List Expr)+-([]:List Keyword)+(if ([]:List Keyword).isEmpty then 0 else 1) < 30))=true|>1)
  (h_:(apos.endLine==aO.line)=true|>1) (hs:starEach [e,f] X.env=(false, eval e X.env)::starEach [f] X.env|>1) (nG:(backTo aO (starEach [f] X.env)).any (·.1)=false|>1):
  JE X R (.Call (.Attribute o "insert" apos) [e,f] [] aO) (Uw to t):=
 .of (Ky acp PySem.F.slot_list_insert PySem.F.type_list_insert (r:=EU) Hi ho ha g8 Dp h_ hs nG) λσ H G L ρ M q x rl n h hx=>by show(G,L,ρ,M,_,x,rl,n,h,hx,λv H1 xz=>?_);let(d1,G1,L1,M1,e1,r1,n1,(k,xs,ed,hm),h1):=xz;subst ed;let(a,rfl,hk):=n1;let(_,vs,hH,_):=r1.e7 k a _ hk hm;show(.inl (rfl,vs,.of hH),G1,L1,ρ,M1,_,x,r1,n.mono e1,h1,hx.on e1,λus H2 xz=>?_);let(ds,G2,L2,M2,e2,r2,n2,k',xs',y,i,ek,ed,QU,hz,hi,h2):=xz;cases ek;subst ed;let(u1,u,rfl,n3,n4):=dt n2;let n3:u1= .int (i:Int):=n3;subst n3;let BK:=e2.l.get hk;let(_,uU,Mr,Ar):=r2.e7 k a _ BK QU;show(a,uU,u,i,rfl,rfl,Mr,by rw[<--Ar];show hz,by rw[<--Ar];show hi,.aZ,G2,L2,_,(e1.trans e2).trans (r2.Eu BK),r2.setM (m:=.lst (xs'.take i++y::xs'.drop i)) BK (_,ao,(Ar.tak i).app (_,_,rfl,n4,Ar.dro i)),rfl,h2)
end
def MR(ks:List Key)(k:Key):Bool:=ks.any λc=>decide (c=k)
def uF{k:Key}:∀{ks:List Key} {vs:List V},-ks=-vs->(fG (ks.zip vs) k).isSome=MR ks k
 | [],[],_=>rfl
 | c::ks,v::vs,h=>by
  let h:-ks=-vs:=by simpa using h
  rw[abF];by_cases e:c=k
  .rw[dz e];subst e;simp[MR]
  .rw[c8 e,uF h];unfold MR;rw[ab6,aaF e,Bool.false_or]
section
variable{i a b:Expr}{ti:DE}{pos p:Pos}
def D5:JE X R (.Dict [] [] pos) (λ_ M q _=>q (.loc (-M)) (M++[.eG [] []])):=
 .of K1 λσ H G L ρ M q x rl n h hx=>by intro p hp;show(.loc (-M),G,L++[p],_,rl.WQ hp,rl.Of (m:=.eG [] []) hp ([],ao,rfl,rfl),(p,rfl,by rw[<-rl.len,List.getElem?_append_right (Nat.le_refl _)];simp),h)
def T9:Dt->Dt->Ms->DQ->Prop:=λdi d M q=>∃k ks ds key,d= .loc k/\M[k]? =!(.eG ks ds)/\By di=!key/\q (.bl (MR ks key)) M
def RE(hu:X.A.units+1 < cLine):i8 X (compareOp .In) (λy x H Q=>∃a o,x=V.ref a/\BH H a y o/\Q (.bl o.isSome) H):=by intro η s σ H x y u v Q I rx ry ⟨a,o,ex,g,q⟩;subst ex;obtain rfl:v=Value.ref a:=ry;show Ym hu I g rx λs3 I3=>(.bl o.isSome,H,I3,rfl,q)
def Yj{K:fv}:pC K (λy x H Q=>∃a o,x=V.ref a/\BH H a y o/\Q (.bl o.isSome) H) T9:=by intro G0 L0 H0 G L M H v1 v2 d1 d2 q e r n1 n2 ⟨k,ks,ds,key,ed,hm,hk,h⟩;subst ed;let(a,rfl,Ir):=n2;let(_,vs,hH,hl,dn):=r.e7 k a _ Ir hm;show(a,_,rfl,.inl (_,key,.inl hH,jP hk n1,rfl),?_);let K_:-ks=-vs:=hl.trans (-dn);rw[uF K_];show cq e r h
def ID(hr:ck k' X.A)(ja:JE X R a ta)(jb:JE X R b tb)(hm:behindInMarks .In b=false|>1):JT X R (.Compare a [.In] [b] pos) (nI (kg T9 ta tb)):=iQ (RE (FD hr)) Yj ja jb hm
end
def hV(ks:List Key)(k:Key):List Key:=if MR ks k=true then ks else ks++[k]
def l'{α:Type}(k:Key)(v:α):List Key->List α->List α
 | c::ks,x::xs=>(if c=k then v else x)::l' k v ks xs
 | _,_=>[]
def fb{α:Type}(ks:List Key)(k:Key)(xs:List α)(v:α):List α:=if MR ks k=true then l' k v ks xs else xs++[v]
def pS{α:Type}{k:Key}{v:α}:∀{ks:List Key} {xs:List α},-ks=-xs->-(l' k v ks xs)=-ks
 | [],[],_=>rfl
 | _::ks,_::xs,h=>by
  let h:-ks=-xs:=by simpa using h
  change(l' k v ks xs).length+1=-ks+1;rw[pS h]
def v_{k:Key}{v:V}:∀{ks:List Key} {vs:List V},-ks=-vs->(ks.zip vs).map (λkv=>if kv.1=k then (kv.1, v) else kv)=ks.zip (l' k v ks vs)
 | [],[],_=>rfl
 | c::ks,x::vs,h=>by
  let h:-ks=-vs:=by simpa using h
  rw[abF,abe,v_ h];change _=(c, if c=k then v else x)::ks.zip (l' k v ks vs)
  congr 1
  change(if c=k then (c, v) else (c, x))=_;split <;> rfl
def pM{K:fv}{G:Hp}{L:List Addr}{k:Key}{d:Dt}{v:V}(n:Den K G L d v):∀{ks:List Key} {ds:List Dt} {vs:List V},Ο K G L ds vs->-ks=-ds->Ο K G L (l' k d ks ds) (l' k v ks vs)
 | [],[],_,h,_=>by cases h;rfl
 | c::ks,x::ds,_,(y,vs,e,n0,ns),hl=>by
  subst e;let hl:-ks=-ds:=by simpa using hl
  show(_,_,rfl,?_,pM n ns hl);change Den K G L (if c=k then d else x) (if c=k then v else y);split
  .show n
  .show n0
def L_{k:Key}(h:-ks=-vs):i7 (ks.zip vs) k v=(hV ks k).zip (fb ks k vs v):=by
 unfold i7 hV fb;rw[oN,uF h];split
 .show v_ h
 .rw[List.zip_append h];rfl
def pE(to ti tv:DE):DS:=λDn ρ M=>tv ρ M (λy M1=>to ρ M1 (λd M2=>ti ρ M2 (λdi M3=>∃k ks ds key,d= .loc k/\M3[k]? =!(.eG ks ds)/\By di=!key/\-ks < 1000/\Dn.nx ρ (M3.set k (.eG (hV ks key) (fb ks key ds y)))) Dn.x) Dn.x) Dn.x
section
variable{i value:Expr}{ti tv:DE}{pos pos':Pos}
def rJ(hr:ck k' X.A)(ho:JE X R o to)(hi:JE X R i ti)(hv:JE X R value tv)(hs:swapsWith value (!(.Subscript o i pos')) pos.line X.env=pure false|>1):JS X R (.Assign [.Subscript o i pos'] value pos) (pE to ti tv):=
 .of (NU (FD hr) ho hi hv hs) λσ H G L ρ M Dn rl n h hx=>by
  show(G,L,ρ,M,_,_,rl,n,h,hx,λv H1 xz=>?_);let(dv,G1,L1,M1,e1,r1,n1,h1):=xz;show(G1,L1,ρ,M1,_,_,r1,n.mono e1,h1,hx.on e1,λov H2 xz=>?_);let(d,G2,L2,M2,e2,r2,n2,h2):=xz;show(G2,L2,ρ,M2,_,_,r2,(n.mono e1).mono e2,h2,(hx.on e1).on e2,λiv H3 xz=>?_);let(di,G3,L3,M3,e3,r3,n3,k,ks,ds,key,ed,hm,hk,hlen,h3):=xz;subst ed;let(a,rfl,AZ):=n2;let x4:=e3.l.get AZ;let(_,vs,hH,hl,dn):=r3.e7 k a _ x4 hm;let Hn:=e2.trans e3;let Xs:=Den.mono Hn.g Hn.l _ _ n1;let K_:-ks=-vs:=hl.trans (-dn);obtain rfl:iv=kV key:=jP hk n3;let z:-(ks.zip vs) < sizeLine:=by rw[abV];show abt (Nat.min_le_left _ _) (Nat.lt_trans hlen @_)
  show(a,_,rfl,Lb.k hH z,ρ,G3,L3,_,((e1.trans e2).trans e3).trans (r3.Eu x4),r3.setM (m:=.eG (hV ks key) (fb ks key ds dv)) x4 (fb ks key vs v,by rw[ao,L_ K_],?_,?_),(((n.mono e1).mono e2).mono e3).mono (r3.Eu (o:=.own a) x4),h3)
  .unfold hV fb;split
   .rw[pS hl]
   .rw[aan,aan,hl];rfl
  .unfold fb;split
   .show pM Xs dn hl
   .show dn.app (_,_,rfl,Xs,rfl)
end
inductive J8(M:Ms):Nat->Dt->Dt->Bool->Prop
 | flat {n:Nat} {d e:Dt} {x y:V} (h1:oV d=!x) (h2:oV e=!y):J8 M n d e (mq x y)
 | eG {n k1 k2:Nat} {ks lM:List Key} {ds qS:List Dt} {f:Nat->Bool} (h1:M[k1]? =!(.eG ks ds)) (h2:M[k2]? =!(.eG lM qS)) (hl:-ks=-lM) (hn:∀j k,ks[j]? =!k->aY lM qS k=none->f j=false)
   (h:∀j k d d',ks[j]? =!k->ds[j]? =!d->aY lM qS k=!d'->J8 M n d d' (f j)):J8 M (n+1) (.loc k1) (.loc k2) ((List.range (-ks)).all f)
 | len {n k1 k2:Nat} {ks lM:List Key} {ds qS:List Dt} (h1:M[k1]? =!(.eG ks ds)) (h2:M[k2]? =!(.eG lM qS)) (hl:-ks≠-lM):J8 M (n+1) (.loc k1) (.loc k2) false
def vM{K:fv}{G:Hp}{L:List Addr}:∀{ds:List Dt} {vs:List V},Ο K G L ds vs->∀{j:Nat} {v:V},vs[j]? =!v->∃d,ds[j]? =!d/\Den K G L d v
 | [],vs,h,j,v,e=>by cases h;simp at e
 | d::ds,_,(y,r,e0,n0,ns),0,v,e=>by
  subst e0;have:y=v:=by simpa using e
  subst this;show(d,rfl,n0)
 | d::ds,_,(y,r,e0,n0,ns),j+1,v,e=>by subst e0;let(d',h1,h2):=vM ns (show r[j]? =!v by simpa using e);show(d',by simpa using h1,h2)
def yT{K:fv}{G:Hp}{L:List Addr}{k:Key}:∀{ks:List Key} {ds:List Dt} {vs:List V},Ο K G L ds vs->-ks=-ds->(aY ks ds k=none/\fG (ks.zip vs) k=none)\/∃d v,aY ks ds k=!d/\fG (ks.zip vs) k=!v/\Den K G L d v
 | [],ds,vs,_,_=>.inl (rfl,rfl)
 | c::ks,[],vs,_,hl=>by simp at hl
 | c::ks,d::ds,_,(y,r,e0,n0,ns),hl=>by
  subst e0;let hl:-ks=-ds:=by simpa using hl
  let e1:aY (c::ks) (d::ds) k=if c=k then !d else aY ks ds k:=by
   unfold aY;rw[abF,List.find?_cons];by_cases e:c=k
   .rw[if_pos e];simp[e]
   .rw[if_neg e];simp[e]
  rw[abF,e1];by_cases e:c=k
  .rw[aaP e,dz e];show .inr (d,y,rfl,rfl,n0)
  .rw[aaK e,c8 e];show yT ns hl
def VX{K:fv}{H:Hp}(r:Rl K G L M H){e:Dt}(h:J8 M n d e c):∀{x y:V},Den K G L d x->Den K G L e y->xE H n x y c:=by
 induction h with
 | flat h1 h2=>
  intro x y n1 n2;let(e1,f1):=jg h1 n1;let(e2,f2):=jg h2 n2;subst e1 e2;show .flat f1 f2
 | @eG n k1 k2 ks lM ds qS f h1 h2 hl hn h ih=>
  intro x y n1 n2;let(a,rfl,a1):=n1;let(b,rfl,b1):=n2;let(_,vs,hH,hz,dn):=r.e7 k1 a _ a1 h1;let(_,uU,Mr,PD,Ar):=r.e7 k2 b _ b1 h2;let l1:-(ks.zip vs)=-ks:=by rw[abV,<--dn,hz,acM]
  let l2:-(lM.zip uU)=-lM:=by rw[abV,<--Ar,PD,acM]
  have:=xE.eG (H:=H) (n:=n) (e:=f) (.inl hH) (.inl Mr) (by rw[l1,l2];show hl) (λj k v hj hv=>by
   let(g1,g2):=acg.mp hj;rcases yT (k:=k) Ar PD with ⟨q1,_⟩| ⟨d',v',_,q2,_⟩
   .show hn j k g1 q1
   .rw[hv]at q2;cases q2) (λj k v v' hj hv=>by
   let(g1,g2):=acg.mp hj;let(d0,g3,g4):=vM dn g2;rcases yT (k:=k) Ar PD with ⟨_,q1⟩| ⟨d',v2,q1,q2,q3⟩
   .rw[hv]at q1;cases q1
   .rw[hv]at q2;obtain rfl:v'=v2:=aay q2
    show ih j k d0 d' g1 g3 q1 g4 q3)
  rwa[l1]at this
 | @len n k1 k2 ks lM ds qS h1 h2 hl=>
  intro x y n1 n2;let(a,rfl,a1):=n1;let(b,rfl,b1):=n2;let(_,vs,hH,hz,dn):=r.e7 k1 a _ a1 h1;let(_,uU,Mr,PD,Ar):=r.e7 k2 b _ b1 h2;let l1:-(ks.zip vs)=-ks:=by rw[abV,<--dn,hz,acM]
  let l2:-(lM.zip uU)=-lM:=by rw[abV,<--Ar,PD,acM]
  show .len (.inl hH) (.inl Mr) (by rw[l1,l2];show hl)
def VY(n:Nat):Dt->Dt->Ms->DQ->Prop:=λd e M q=>∃k1 k2 c,d= .loc k1/\e= .loc k2/\J8 M n d e c/\q (.bl c) M
def aaY{K:fv}:pC K (PH n) (VY n):=by intro G0 L0 H0 G L M H v1 v2 d1 d2 q e r n1 n2 ⟨k1,k2,c,e1,e2,h,hq⟩;have:=VX r h n1 n2;subst e1 e2;let(a,rfl,_):=n1;let(b,rfl,_):=n2;show(a,b,c,rfl,rfl,this,cq e r hq)
section
variable{i f a b v1 v2:Expr}{ti tx t1 t2:DE}{pos p:Pos}
def PZ(n:Nat)(hr:ck k' X.A)(ja:JE X R a ta)(jb:JE X R b tb)(hn:n<=64|>2)(hm:behindInMarks .Eq b=false|>1):JE X R (.Compare a [.Eq] [b] pos) (kg (VY n) ta tb):=s_ (NX (Q6 hr hn)) aaY ja jb hm
def xa:e6 X (.type "dict") (λxs H Q=>∃a Ζ,xs=[V.ref a]/\Rd H a (.dK Ζ)/\∀p,H p=none->Q (.ref p) (upd H p (.dK Ζ))):=by
 intro η s σ H xs us Q I r ⟨a,Ζ,ex,e,q⟩;subst ex;cases r with
 | cons r1 r2=>
  cases r2;cases r1;show Ka I e λp s' hp I'=>(.ref p,_,I',rfl,q p hp)
def Jd:List Dt->Ms->DQ->Prop
 | [d],M,q=>∃k ks ds,d= .loc k/\M[k]? =!(.eG ks ds)/\q (.loc (-M)) (M++[.eG ks ds])
 | _,_,_=>False
def Up{K:fv}:Du K (λxs H Q=>∃a Ζ,xs=[V.ref a]/\Rd H a (.dK Ζ)/\∀p,H p=none->Q (.ref p) (upd H p (.dK Ζ))) Jd:=by
 intro G0 L0 H0 G L M H vs ds q e r n h;unfold Jd at h;split at h
 .rename_i d;let(v,rfl,n1):=b9 n;let(k,ks,ds,ed,hm,h):=h;subst ed;let(a,rfl,hk):=n1;let(_,vs,hH,hl,dn):=r.e7 k a _ hk hm;show(a,_,rfl,.inl hH,λp hp=>?_);show(.loc (-M),G,L++[p],_,e.trans (r.WQ hp),r.Of (m:=.eG ks ds) hp (vs,ao,hl,Ο.mono (.refl _) ([p],rfl) _ _ dn),(p,rfl,by rw[<-r.len,List.getElem?_append_right (Nat.le_refl _)];simp),h)
 .show h.elim
def r6:bootBuiltins "dict"=!(.type "dict"):=by decide+kernel
def B9(hm:X.mg "dict"=none)(ha:JA X R [e] t)(hg:Gl X "dict"|>1)(he:starEach [e] X.env=(false, eval e X.env)::starEach [] X.env|>1)(fZ:(backTo pos (starEach [] X.env)).any (·.1)=false|>1):JE X R (.Call (.Name "dict" p) [e] [] pos) (BN Jd t):=
 zG xa Up hm r6 ha hg @_ @_ he fZ
end
section
variable{f v1 v2:Expr}{tx t1 t2:DE}{pos:Pos}
def Nq{K:fv}{H:Hp}{q:DQ}(e:Ex G1 L1 H1 G L H)(r:Rl K G L M H)(PN:H1 p=none)(hg:G p=none)(hl:p∉L)(h:H p=!(.dK (ks.zip vs)))(hk:-ks=-ds)(n:Ο K G L ds vs)(k:q (.loc (-M)) (M++[.eG ks ds])):Fin K G1 L1 H1 q (.ref p) H:=by
 show(.loc (-M),G,L++[p],M++[.eG ks ds],(e.g,e.l.trans ([p],rfl),e.fr,e.out,λb hb=>?_,e.Fl),(r.sub,by rw[List.length_append,List.length_append,r.len];rfl,List.nodup_append.mpr (r.nd,by simp,λa ha b hb=>?_),λk a m h1 h2=>?_),(p,rfl,by rw[<-r.len,List.getElem?_append_right (Nat.le_refl _)];simp),k)
 .rcases abo.mp hb with z| z
  .show e.new b z
  .let e:b=p:=by simpa using z
   right;rw[e];show PN
 .let e:b=p:=by simpa using hb
  rw[e];exactλz=>hl (z▸ha)
 .by_cases Ai:k < -L
  .rw[aaG Ai]at h1;rw[aaG (by rw[<-r.len];show Ai)]at h2;let(q1,q2):=r.e7 k a m h1 h2;show(q1,q2.mono (.refl _) ([p],rfl) rfl)
  .let e:k=-L:=by have:=(aam.mp h1).1;rw[aan]at this;simp at this;omega
   rw[e,aaX (aaq _)]at h1;rw[e,r.len,aaX (aaq _)]at h2;simp at h1 h2;subst h1 h2;show(hg,vs,h,hk,Ο.mono (.refl _) ([p],rfl) _ _ n)
end
def Jk{α β:Type}{F:α->β->Prop}:∀{xs:List α} {ys:List β},Paired F xs ys->∀{i:Nat} {x:α},xs[i]? =!x->∃y,ys[i]? =!y/\F x y
 | _,_,.nil,i,x,h=>by simp at h
 | _,_,.cons r t,0,x,h=>by obtain rfl:=aay h;show(_,rfl,r)
 | _,_,.cons r t,i+1,x,h=>by let(y,e,f):=Jk t (show _=!x by simpa using h);show(y,by simpa using e,f)
def Tq(td te:TE):TE:=λσ H Q=>td σ H λx H1=>∃a,x= .ref a/\XH H1 a/\te σ H1 λy H2=>∃b Ζ more,y= .ref b/\a≠b/\H2 a=!(.dK Ζ)/\Rd H2 b (.dK more)/\-Ζ+-more<=sizeLine/\Q .aZ (upd H2 a (.dK (iW Ζ more)))
section
variable{td te:TE}
def MJ(ho:PE X o td)(he:PE X e te)(m:M1 X o "update" apos e aO):PE X (.Call (.Attribute o "update" apos) [e] [] aO) (Tq td te):=by
 intro η s σ H Q I h;show wpAny_Call_method m.base m.Z6 m.line PySem.F.plainAttrs_dict PySem.F.slot_dict_update PySem.F.type_dict_update (bH (ho η s σ H _ I h) λu s1 xz=>?_);let(x,H1,I1,rx,a,ex,d,q1):=xz;subst ex;obtain rfl:u=Value.ref a:=rx;let(t1,t2,_):=D_ I1 d;show(t1,t2,?_);rw[m.trees];show Calls.callWith_builtin rfl (Calls.evalArgs_plain (Calls.spliced_cons (bH (he η s1 σ H1 _ I1 q1) fun iv s2 (y,H2,I2,ry,b,Ζ,more,ey,l9,hA,hB,hz,q2)=>Calls.spliced_nil ?_)));subst ey;obtain rfl:iv=Value.ref b:=ry;let(z1,d1,vs,r1,dd1):=Ap I2.aU hA;let(z2,d2,rs,r2,W8):=fg I2.aU hB;show call_meetsIn PySem.F.slot_dict_update dd1.typeIs PySem.F.entry_dict_update (PySem.F.args_dict_update_2 _ _) (meets_dict_update (bA X.prog X.w) a b l9 d2) (vs,rs,dd1,W8,by rw[<--r1,<--r2];show hz,λh' hm _ hs=>?_);let hex:∃q,h'.get? a=!q:=let (q,_,_,hq,_):=hm;(q,hq)
 show(.aZ,_,nY (t':=s2.toks) I2 (by rw[hA];show True.intro) hs hex (qg (aaH (iZ more Ζ) hz) d1 (KV.merge r2 r1) hm),rfl,q2)
end
section
variable{k a b:Expr}{tl tk:DE}{pos p2:Pos}
def qH(ks:List Key):List Key->List Key
 | []=>ks
 | k::r=>qH (hV ks k) r
def tJ(ks:List Key)(ds:List Dt):List Key->List Dt->List Dt
 | k::r,d::qS=>tJ (hV ks k) (fb ks k ds d) r qS
 | _,_=>ds
def Rz{α:Type}{k:Key}{xs:List α}{v:α}(h:-ks=-xs):-(hV ks k)=-(fb ks k xs v):=by
 unfold hV fb;split
 .rw[pS h]
 .rw[aan,aan,h];rfl
def RX{K:fv}{k:Key}(n:Den K G L d v)(h:Ο K G L ds vs)(hl:-ks=-ds):Ο K G L (fb ks k ds d) (fb ks k vs v):=by
 unfold fb;split
 .show pM n h hl
 .show h.app (_,_,rfl,n,rfl)
def FF{K:fv}{G:Hp}{L:List Addr}:∀{lM:List Key} {qS:List Dt} {uU:List V} {ks:List Key} {ds:List Dt} {vs:List V},-lM=-qS->Ο K G L qS uU->-ks=-ds->Ο K G L ds vs->
  ∃us,iW (ks.zip vs) (lM.zip uU)=(qH ks lM).zip us/\-(qH ks lM)=-(tJ ks ds lM qS)/\Ο K G L (tJ ks ds lM qS) us
 | [],[],_,ks,ds,vs,_,h2,hl,h=>by cases h2;show(vs,rfl,hl,h)
 | k::lM,d::qS,_,ks,ds,vs,K_,(v,uU,e,n0,ns),hl,h=>by
  subst e;let K_:-lM=-qS:=by simpa using K_
  let(us,e1,e2,e3):=FF (ks:=hV ks k) (ds:=fb ks k ds d) (vs:=fb ks k vs v) K_ ns (Rz hl) (RX n0 h hl);show(us,?_,e2,e3);rw[abF];change iW (i7 (ks.zip vs) k v) (lM.zip uU)=(qH (hV ks k) lM).zip us;rw[L_ (hl.trans (-h)),e1]
def Fq(to te:DE):DE:=λρ M q x=>to ρ M (λd M1=>(∃k ks ds,d= .loc k/\M1[k]? =!(.eG ks ds))/\te ρ M1 (λd2 M2=>∃k k2 ks ds lM qS,d= .loc k/\d2= .loc k2/\k≠k2/\M2[k]? =!(.eG ks ds)/\M2[k2]? =!(.eG lM qS)/\-ks+-lM<=1000/\q .aZ (M2.set k (.eG (qH ks lM) (tJ ks ds lM qS)))) x) x
def Cg(ho:JE X R o to)(he:JE X R e te)(m:M1 X o "update" apos e aO:=by exact⟨rfl,rfl,rfl,rfl⟩):JE X R (.Call (.Attribute o "update" apos) [e] [] aO) (Fq to te):=
 .of (MJ ho he m) λσ H G L ρ M q x rl n h hx=>by
  show(G,L,ρ,M,_,x,rl,n,h,hx,λv H1 xz=>?_);let(d1,G1,L1,M1,e1,r1,n1,(k0,ks0,ds0,ZQ,VZ),h1):=xz;subst ZQ;let(a,rfl,hk):=n1;let(_,vs0,ZD,_,_):=r1.e7 k0 a _ hk VZ;show(a,rfl,.inl (_,.inl ZD),G1,L1,ρ,M1,_,x,r1,n.mono e1,h1,hx.on e1,λv2 H2 xz=>?_);let(d2,G2,L2,M2,e2,r2,n2,k,k2,ks,ds,lM,qS,ed,ed2,l9,hm,QU,hz,h3):=xz;cases ed;subst ed2;let x4:=e2.l.get hk;let(b,rfl,hkb):=n2;let(_,vs,hH,hl,dn):=r2.e7 k0 a _ x4 hm;let(_,uU,Mr,K_,Ar):=r2.e7 k2 b _ hkb QU;let z1:-(ks.zip vs)<=-ks:=by rw[abV];show Nat.min_le_left _ _
  let z2:-(lM.zip uU)<=-lM:=by rw[abV];show Nat.min_le_left _ _
  let sz:(1000:Nat)<=sizeLine:=@_
  let(us,u1,u2,u3):=FF K_ Ar hl dn;let ab:a≠b:=λz=>by subst z;let i1:=(aam.mp x4).1;have:=(List.getElem?_inj (l:=L2) i1 r2.nd).mp (x4.trans hkb.symm);show l9 this
  show(b,_,_,rfl,ab,hH,.inl Mr,(),?_);show(.aZ,G2,L2,_,(e1.trans e2).trans (r2.Eu x4),r2.setM (m:=.eG (qH ks lM) (tJ ks ds lM qS)) x4 (us,by rw[ao,u1],u2,u3),rfl,h3)
end
def LZ(P:Program)(w:World)(a:Addr)(Ζ:List (Key×V))(ep:Nat)(h:Heap):Prop:=-Ζ<=sizeLine/\(a==sysModules)=false/\∃vs,KV Ζ vs/\h.DictAt (bA P w) a vs ep
def Dx(P:Program)(w:World)(a:Addr)(Ζ:List (Key×V))(ep:Nat):HO:=.ext (LZ P w a Ζ ep)
section
variable{P':Program}{w':World}{H:Hp}{h:Heap}{ep:Nat}
def Eo(ok:lV P w H h)(e:H a=!(Dx P' w' a Ζ ep)):LZ P' w' a Ζ ep h:=(ok a _ e).1
def RD(x:LZ P' w' a Ζ ep h):cw P w H h a (Dx P' w' a Ζ ep):=by
 show(x,?_,λh1 h2 y k=>?_)
 .let(_,_,vs,_,o,es,e,_):=x;show(o,e)
 .let(z,hd,vs,r,o,es,e,c):=y;show(z,hd,vs,r,o,es,k _ e,c)
end
section
variable{H:Hp}{ep:Nat}
def Inv.So(I:Inv X η σ H s)(mu:Tc (H a))(x:LZ X.prog X.w a Ζ ep s.heap):Inv X η σ (upd H a (Dx X.prog X.w a Ζ ep)) s:=by
 let he:∃u,s.heap.get? a=!u:=let (_,_,_,_,o,_,e,_):=x;(o,e)
 show I.write (x:=a) (e:=a) (h':=s.heap) (t':=s.toks) mu (.inl rfl) (λb u _ q=>q) he (RD x)
def Inv.walkOut(I:Inv X η σ H s)(e:H a=!(Dx X.prog X.w a Ζ ep)):Inv X η σ (upd H a (.dK Ζ)) s:=by
 let(z,hd,vs,r,dd):=Eo I.aU e;let he:∃u,s.heap.get? a=!u:=let (o,_,e,_):=dd;(o,e)
 show I.write (x:=a) (e:=a) (h':=s.heap) (t':=s.toks) (by rw[e];show True.intro) (.inl rfl) (λb u _ q=>q) he (qg z hd r dd.dictOf)
def Vg{k:Key}(h:(bA P w).is k u=true):aB (kV k) u:=by
 rcases bO h with ⟨i,t,rfl,rfl⟩| ⟨x,t,rfl,rfl⟩
 .show(t,rfl)
 .show(t,rfl)
end
def Itd(P:Program)(w:World)(a:Addr)(Ζ:List (Key×V))(ep:Nat):It:=
 (λi H=>H a=!(Dx P w a Ζ ep)/\i < -Ζ,λi H x H'=>H'=H/\∃kv,Ζ[i]? =!kv/\x=kV kv.1,λi H=>H a=!(Dx P w a Ζ ep)/\-Ζ<=i)
def GL{K:fv}(a it:Addr)(Ζ:List (Key×V))(ep:Nat):Turn P w K tg (Itd P w a Ζ ep) [it] it (λi h=>h.IsKeyIter it a i (-Ζ) ep) where
 mem:=by simp
 obj:=λi h st b hb=>by
  let e:b=it:=by simpa using hb
  subst e;let(o,e,c,d):=st;show(o,e,λv z=>by rw[d]at z;cases z)
 keep:=λi h h' st k=>by let(o,e,r):=st;show(o,k it (by simp) o e,r)
 item:=by
  intro X hP hw hK hc i η s σ H E I hf st hg;subst hP hw hK;let(hq,hi):=hg;let(z,hd,vs,rel,dd):=Eo I.aU hq;let(f0,f1,f2,f3,f4,f5):=hf it (by simp);let hx:Ζ[i]? =!Ζ[i]:=aad hi;let(q,Tf,r1,r2):=Jk rel hx;let(k,v):=q;let X7:s.heap.IsKeyIter it a i (-vs) ep:=by rw[<--rel];show st
  show wpAny_pyNext_dict_item X7 dd Tf λkey h' hk yv sb=>?_;let yv:h'.IsKeyIter it a (i+1) (-Ζ) ep:=by rw[-rel];show yv
  let I1:Inv X η σ H {s with heap:=h'}:=I.turned (t':=s.toks) (λb o hb e=>(sb.2 b hb).trans e) f0 f1 f3 f4 f5;let(o,e,c,d):=id yv;show(key,rfl,v7 (s:={s with heap:=h'}) e c d @_ (kV k,H,I1,Vg hk,(rfl,Ζ[i],hx,by rw[r1]),yv,λb hb=>(hf b hb).1))
 done:=by
  intro X hP hw hK hc i η s σ H E I hf st hg;subst hP hw hK;let(hq,hi):=hg;let(z,hd,vs,rel,dd):=Eo I.aU hq;let(f0,f1,f2,f3,f4,f5):=hf it (by simp);let X7:s.heap.IsKeyIter it a i (-vs) ep:=by rw[<--rel];show st
  show wpAny_pyNext_dict_end (I.ok.hd hc) X7 dd (List.getElem?_eq_none (by rw[<--rel];show hi)) λh' eb=>(rfl,I.turned (t':=s.toks) (λb o hb e=>eb b o hb e) f0 f1 f3 f4 f5)
 self:=λ_ _ _ _ _ st h=>wpAny_pyIter_keyiter st h
section
variable{H:Hp}{Q:It->Hp->Prop}
def Nf(I:Inv X η σ H s)(e:H a=!(.dK Ζ))(q:∀ep,Q (Itd X.prog X.w a Ζ ep) (upd H a (Dx X.prog X.w a Ζ ep))):wpAny (model X.prog X.w) X.A (pyIter (.ref a)) (Mw X η σ tg Q) E s:=by
 let(z,hd,vs,rel,dd):=Ap I.aU e;let(ep,dd):=dd.dictAt;show wpAny_pyIter_dict hd dd ?_;let I1:=I.So (by rw[e];show True.intro) (show LZ X.prog X.w a Ζ ep s.heap from(z,hd,vs,rel,dd));show(s.heap.objs.size,[s.heap.objs.size],_,_,_,rfl,I1.kept (t':=s.toks) λb o e=>aas _ e,GL a _ Ζ ep,(_,abd _ rfl,rfl,by rw[-rel];rfl),λb hb=>?_,q ep);let e:b=s.heap.objs.size:=by simpa using hb
 subst e;show I1.D9 (aaq _) (I1.aU.fresh (aaq _))
end
def NxW(P:Program)(w:World)(D:zx):St->Hp->Prop:=λσ H=>∃a Ζ ep,H a=!(Dx P w a Ζ ep)/\D.nx σ (upd H a (.dK Ζ))
section
variable{st:Stmt}{t:TS}{i:Expr}{td ty:TE}{pos:Pos}
def Hl(h:PS X st t):PS X st (λD σ H=>t {D with nx:=NxW X.prog X.w D} σ H):=by
 intro η s σ H D I h';show bH (h η s σ H _ I h') λf s' sp=>?_;cases f with
 | next=>
  let(σ',H',I',a,Ζ,ep,e,q):=sp;show(σ',_,I'.walkOut e,q)
 | brk=>show sp
 | cont=>show sp
 | ret u=>show sp
def QN(P:Program)(w:World)(td ty:TE):TE:=λσ H Q=>td σ H λx H1=>ty σ H1 λy H2=>∃a Ζ ep k v,x= .ref a/\H2 a=!(Dx P w a Ζ ep)/\y=kV k/\fG Ζ k=!v/\Q v H2
def JP(ho:PE X o td)(hi:PE X i ty)(hs:Kg i):PE X (.Subscript o i pos) (QN X.prog X.w td ty):=by intro η s σ H Q I h;show EO PySem.F.slot_dict_getitem.lookup hs (bH (ho η s σ H _ I h) fun u s1 (x,H1,I1,rx,q1)=>bH (hi η s1 σ H1 _ I1 q1) λiv s2 xz=>?_);let(y,H2,I2,ry,a,Ζ,ep,k,v,ex,e,ey,l,q2):=xz;subst ex ey;obtain rfl:u=Value.ref a:=rx;let(z,hd,vs,rel,dd):=Eo I2.aU e;let dd:=dd.dictOf;let(w',hw,Cz):=jL.some_of (v:=v) (o:=valueAt vs k) (by rw[<-l];show rel.val k);show(dd.typeIs,wpAny_getItem_of (ue ry) dd.mapOf hw (v,H2,I2.tok _,Cz,q2))
end
def Mf:Key->Dt
 | .inl i=>.int i
 | .inr x=>.str x
def Oy{K:fv}{G:Hp}{L:List Addr}:∀k:Key,Den K G L (Mf k) (kV k)
 | .inl _=>rfl
 | .inr _=>rfl
def uI{K:fv}{G:Hp}{L:List Addr}:∀is:List Int,Ο K G L (is.map Dt.int) (is.map V.int)
 | []=>rfl
 | _::is=>(_,_,rfl,rfl,uI is)
def Bj{K:fv}{G:Hp}{L:List Addr}:∀{is:List Int} {vs:List V},Ο K G L (is.map Dt.int) vs->vs=is.map V.int
 | [],vs,h=>h
 | i::is,vs,h=>by let(v,r,rfl,h1,h2):=h;let h1:v= .int i:=h1;rw[h1,Bj h2];rfl
def NT(P:Program)(w:World)(ks:List Key)(is:List Int)(ep:Nat):Addr->HO:=λa=>Dx P w a (ks.zip (is.map V.int)) ep
def ve(g:Dt->En->(En->Prop)->Prop)(tb:DS)(Dn:l_)(k:Nat)(u:Addr->HO)(m:MO):List Key->En->Ms->Prop
 | [],ρ,M=>M[k]? =!(.raw u)/\Dn.nx ρ (M.set k m)
 | x::xs,ρ,M=>M[k]? =!(.raw u)/\g (Mf x) ρ λρ'=>tb {Dn with nx:=ve g tb Dn k u m xs,ct:=ve g tb Dn k u m xs,bk:=λρ M=>M[k]? =!(.raw u)/\Dn.nx ρ (M.set k m)} ρ' M
def VQ(P:Program)(w:World)(te:DE)(g:Dt->En->(En->Prop)->Prop)(tb:DS):DS:=λDn ρ M=>te ρ M (λd M1=>∃k ks is,d= .loc k/\M1[k]? =!(.eG ks (is.map Dt.int))/\∀ep,ve g tb Dn k (NT P w ks is ep) (.eG ks (is.map Dt.int)) ks ρ (M1.set k (.raw (NT P w ks is ep)))) Dn.x
def Ru(P:Program)(w:World)(t:TE):TI:=λσ H R=>t σ H λv H1=>∃a Ζ,v= .ref a/\H1 a=!(.dK Ζ)/\∀ep,R (Itd P w a Ζ ep) (upd H1 a (Dx P w a Ζ ep))
def NS{t:TE}(h:PE X e t):PI X tg e (Ru X.prog X.w t):=by intro η s σ H R I ht;show bH (h η s σ H _ I ht) λu s1 xz=>?_;let(v,H1,I1,rv,a,Ζ,ev,ha,q):=xz;subst ev;obtain rfl:u=Value.ref a:=rv;show Nf I1 ha q
section
variable{i:Expr}{body:List Stmt}{ti:DE}{gg:TG}{g:Dt->En->(En->Prop)->Prop}{tb:DS}{pos:Pos}
def NB(hi:JE X R iter te)(hg:PG X tg gg)(gd:GD X.K gg g)(hb:Fe X R body tb)(hp:PassesOwn (model X.prog X.w) X.A X.env X.xe:=by first| exact PassesOwn.never| exact PassesOwn.leaving)(hc:X.calm=true|>1)(hs:(∀x,foldedSetIterable iter X.env x=pure x)|>3):
  JS X R (.For tg iter body [] pos) (VQ X.prog X.w te g tb):=.of (Hl (CG hp hc (NS hi) hg hb hs)) λσ H G L ρ M Dn rl n h hx=>by
 show(G,L,ρ,M,_,_,rl,n,h,hx,λv H1 xz=>?_);let(d,G1,L1,M1,e1,r1,n1,k,ks,is,ed,hk,h1):=xz;subst ed;let(a,rfl,AZ):=n1;let(hGa,vs,hH,hl,dn):=r1.e7 k a _ AZ hk;let hvs:=Bj dn;subst hvs;rw[aah]at hl;show(a,_,rfl,hH,λep=>?_);let h1:=h1 ep;generalize hu:NT X.prog X.w ks is ep=u at h1;let Xa:Dx X.prog X.w a (ks.zip (is.map V.int)) ep=u a:=by rw[<-hu];rfl
 let r2:Rl X.K G1 L1 (M1.set k (.raw u)) (upd H1 a (Dx X.prog X.w a (ks.zip (is.map V.int)) ep)):=r1.setM (m:=.raw u) AZ (show upd H1 a _ a=!(u a) by rw[ao,Xa]);let e2:Ex G1 L1 H1 G1 L1 (upd H1 a (Dx X.prog X.w a (ks.zip (is.map V.int)) ep)):=r1.Eu AZ;let zl:-(ks.zip (is.map V.int))=-ks:=by rw[abV,aah];omega
 generalize Mr:upd H1 a (Dx X.prog X.w a (ks.zip (is.map V.int)) ep)=H2 at r2 e2;let LC:=e1.trans e2;let out:∀{G':Hp} {L':List Addr} {H':Hp} {M':Ms} {ρ':En} {σ':St},Ex G1 L1 H2 G' L' H'->Rl X.K G' L' M' H'->lY X.K G' L' ρ' σ'->M'[k]? =!(.raw u)->Dn.nx ρ' (M'.set k (.eG ks (is.map Dt.int)))->NxW X.prog X.w (va X.K G L H Dn) σ' H':=λ{G' L' H' M' ρ' σ'} e' r' n' hm UQ=>by let BX:=e'.l.get AZ;let VO:H' a=!(u a):=(r'.e7 k a _ BX hm).2;show(a,ks.zip (is.map V.int),ep,by rw[Xa];show VO,ρ',G',L',_,(LC.trans e').trans (r'.Eu BX),r'.setM (m:=.eG ks (is.map Dt.int)) BX (is.map V.int,ao,by rw[aah];show hl,uI is),n'.mono (r'.Eu (o:=.own a) BX),UQ)
 show(λi m σ' H'=>m+i=-ks/\e9 X.K G1 L1 H2 (λρ' M'=>ve g tb Dn k u (.eG ks (is.map Dt.int)) (ks.drop i) ρ' M') σ' H',(-ks,rfl,ρ,G1,L1,_,.refl _ _ _,r2,n.mono e1,by rw[acs];show h1),?_);rintro i m σ' H' ⟨hm,ρ',G',L',M',e',r',n',h'⟩;let BX:=e'.l.get AZ;by_cases hi:i < -ks
 .right;rw[abU hi]at h';let(N4,h'):=h';let VO:H' a=!(u a):=(r'.e7 k a _ BX N4).2;show((by rw[Xa];show VO,()),e9 X.K G1 L1 H2 (λρ' M'=>ve g tb Dn k u (.eG ks (is.map Dt.int)) (ks.drop (i+1)) ρ' M'),λσ2 H3 f=>(m - 1,(),(),f),λv H3 hy=>?_);let(rfl,kv,hkv,rfl):=hy;let Ir:kv.1=ks[i]:=by rw[acg]at hkv;have:=hkv.1;rw[aad hi]at this;show(aay this).symm
  rw[Ir];show gd G' L' M' H3 _ _ ρ' σ' _ _ r' (Oy _) n' h' λρ3 σ3 n3 h3=>?_;show(G',L',ρ3,M',_,r',n3,h3,hx.on (LC.trans e'),(λ_ _ f=>e9.back e' f,λ_ _ f=>Fin.back (LC.trans e') f,λσ4 H4 f=>?_,λ_ _ f=>e9.back e' f));let(ρ4,G4,L4,M4,e4,r4,n4,hm4,h4):=f;show out (e'.trans e4) r4 n4 hm4 h4
 .left;rw[acu ()]at h';let VO:H' a=!(u a):=(r'.e7 k a _ BX h'.1).2;show((by rw[Xa];show VO,()),out e' r' n' h'.1 h'.2)
def Sb(P:Program)(w:World)(to ti:DE):DE:=λρ M q x=>to ρ M (λd M1=>ti ρ M1 (λdi M2=>∃k ks is ep key j,d= .loc k/\M2[k]? =!(.raw (NT P w ks is ep))/\By di=!key/\aY ks (is.map Dt.int) key=!(.int j)/\q (.int j) M2) x) x
def Oq(ho:JE X R o to)(hi:JE X R i ti)(hs:Kg i:=by intro _ _;rfl):JE X R (.Subscript o i pos) (Sb X.prog X.w to ti):=
 .of (JP ho hi hs) λσ H G L ρ M q x rl n h hx=>by show(G,L,ρ,M,_,x,rl,n,h,hx,λv H1 xz=>?_);let(d1,G1,L1,M1,e1,r1,n1,h1):=xz;show(G1,L1,ρ,M1,_,x,r1,n.mono e1,h1,hx.on e1,λv2 H2 xz=>?_);let(d2,G2,L2,M2,e2,r2,n2,k,ks,is,ep,key,j,ed,hm,hk,hg,h2):=xz;subst ed;let(a,rfl,Ir):=n1;let BK:=e2.l.get Ir;let hH:H2 a=!(NT X.prog X.w ks is ep a):=(r2.e7 k a _ BK hm).2;obtain rfl:v2=kV key:=jP hk n2;let(v,hv,dv):=lG (K:=X.K) (G:=G2) (L:=L2) (uI is) hg;show(a,_,ep,key,v,rfl,hH,rfl,hv,_,G2,L2,M2,e1.trans e2,r2,dv,h2)
end
section
variable{k1 v1 k2 v2:Expr}{s1 t1 s2 t2:DE}{pos:Pos}
structure Ia(K:fv)(G0:Hp)(L0:List Addr)(H0:Hp)(p:Addr)(G:Hp)(L:List Addr)(M:Ms)(H:Hp):Prop where
 ex:Ex G0 L0 (upd H0 p (.dK [])) G L H
 rl:Rl K G L M H
 at_:H p=!(.dK [])
 g:G p=none
 l:p∉L
def Ia.on{K:fv}{H:Hp}(a:Ia K G0 L0 H0 p G L M H)(e:Ex G L H G' L' H')(r:Rl K G' L' M' H'):Ia K G0 L0 H0 p G' L' M' H':=
 (a.ex.trans e,r,e.out _ _ a.at_ a.l,e.fr _ a.g (by rw[a.at_];simp),λz=>(e.new _ z).elim a.l λq=>by rw[a.at_]at q;cases q)
def Vo{K:fv}{H:Hp}(rl:Rl K G L M H)(hp:H p=none):Ex G L H G L (upd H p (.dK []))/\Ia K G L H p G L M (upd H p (.dK [])):=by
 let gn:G p=none:=rl.sub.free hp;let ln:p∉L:=rl.Qa hp;let e0:Ex G L H G L (upd H p (.dK [])):=(.refl _,.refl _,λ_ h _=>h,λb u h1 _=>by rw[Ν (λz=>by rw[z,hp]at h1;cases h1)];show h1,λ_ h=>.inl h,λb h=>by rw[Ν (λz=>h (by rw[z];show hp))];show h)
 let r0:Rl K G L M (upd H p (.dK [])):=(λb u e=>by rw[Ν (λz=>by rw[z,gn]at e;cases e)];show rl.sub b u e,rl.len,rl.nd,λi a m h1 h2=>by
  let(q1,q2):=rl.e7 i a m h1 h2
  show(q1,q2.mono (.refl _) (.refl _) (Ν λz=>q2.there (by rw[z];show hp))))
 show(e0,.refl _ _ _,r0,ao,gn,ln)
def Ia.fin{K:fv}{H:Hp}{q:DQ}(a:Ia K G0 L0 H0 p G L M H)(e0:Ex G0 L0 H0 G0 L0 (upd H0 p (.dK [])))(hp:H0 p=none)(hk:-ks=-ds)(n:Ο K G L ds vs)(k:q (.loc (-M)) (M++[.eG ks ds])):Fin K G0 L0 H0 q (.ref p) (upd H p (.dK (ks.zip vs))):=by
 let e:=e0.trans a.ex;let gne:∀{b:Addr} {w:HO},G b=!w->b≠p:=λe z=>by rw[z,a.g]at e;cases e
 show Nq (G:=G) (L:=L) (M:=M) (ks:=ks) (ds:=ds) (vs:=vs) (e.g,e.l,e.fr,λb w h1 h2=>?_,e.new,λb h=>?_) (λb w e=>?_,a.rl.len,a.rl.nd,λi c m h1 h2=>?_) hp a.g a.l ao hk n k
 .rw[Ν (λz=>by rw[z,hp]at h1;cases h1)];show e.out b w h1 h2
 .by_cases hb:b=p
  .rw[hb,ao];simp
  .rw[Ν hb];show e.Fl b h
 .rw[Ν (gne e)];show a.rl.sub b w e
 .let(q1,q2):=a.rl.e7 i c m h1 h2;show(q1,q2.mono (.refl _) (.refl _) (Ν λz=>a.l (by rw[<-z];show aap h1)))
def Jc(s1 t1 s2 t2:DE):DE:=λρ M q x=>s1 ρ M (λc1 M1=>t1 ρ M1 (λd1 M2=>s2 ρ M2 (λc2 M3=>t2 ρ M3 (λd2 M4=>∃y1 y2,By c1=!y1/\By c2=!y2/\y1≠y2/\q (.loc (-M4)) (M4++[.eG [y1,y2] [d1,d2]])) x) x) x) x
def Bm(Ir:JE X R k1 s1)(hv1:JE X R v1 t1)(BK:JE X R k2 s2)(hv2:JE X R v2 t2):JE X R (.Dict [!k1,!k2] [v1,v2] pos) (Jc s1 t1 s2 t2):=
 .of (MB (AF Ir hv1 (AF BK hv2 Na)) rfl rfl (by simp) (by change 2<=15;decide)) λσ H G L ρ M q x rl n h hx=>by intro p hp;let(e0,a0):=Vo rl hp;show(G,L,ρ,M,_,x,a0.rl,n,h,hx.on e0,λu1 H1 xz=>?_);let(c1,G1,L1,M1,e1,r1,n1,h1):=xz;let a1:=a0.on e1 r1;let x1:=e0.trans e1;show(G1,L1,ρ,M1,_,x,r1,n.mono x1,h1,hx.on x1,λu2 H2 xz=>?_);let(d1,G2,L2,M2,e2,r2,n2,h2):=xz;let a2:=a1.on e2 r2;let x2:=x1.trans e2;show(G2,L2,ρ,M2,_,x,r2,n.mono x2,h2,hx.on x2,λu3 H3 xz=>?_);let(c2,G3,L3,M3,e3,r3,n3,h3):=xz;let a3:=a2.on e3 r3;let x3:=x2.trans e3;show(G3,L3,ρ,M3,_,x,r3,n.mono x3,h3,hx.on x3,λu4 H4 xz=>?_);let(d2,G4,L4,M4,e4,r4,n4,y1,y2,hy1,Xb,l9,h4):=xz;let a4:=a3.on e4 r4;obtain rfl:u1=kV y1:=jP hy1 n1;obtain rfl:u3=kV y2:=jP Xb n3;show(a4.at_,[(y1, u2),(y2, u4)],rfl,by change 2<=15;decide,?_);rw[wb _ [] (λ_ _=>rfl) (by simp[l9]),List.nil_append];let RY:=e3.trans e4;show a4.fin (ks:=[y1,y2]) (ds:=[d1,d2]) (vs:=[u2,u4]) e0 hp rfl (_,_,rfl,Den.mono RY.g RY.l _ _ n2,_,_,rfl,n4,rfl) h4
end
def Js:List Dt->Ms->DQ->Prop
 | [d],M,q=>∃k ks ds,d= .loc k/\M[k]? =!(.eG ks ds)/\q (.int (-ks)) M
 | _,_,_=>False
def T7{K:fv}:Du K (λxs H Q=>∃a Ζ,xs=[V.ref a]/\H a=!(.dK Ζ)/\Q (.int (-Ζ)) H) Js:=by
 intro G0 L0 H0 G L M H vs ds q e r n h;unfold Js at h;split at h
 .let(k,ks,ds,rfl,hm,h):=h;let(v,rfl,n1):=b9 n;let(a,rfl,hk):=n1;let(_,vs,hH,hl,dn):=r.e7 k a _ hk hm;show(a,_,rfl,hH,.int (-ks),G,L,M,e,r,?_,h);change V.int _=V.int _;rw[abV,<--dn,<-hl,acM]
 .show h.elim
section
variable{p pos:Pos}
def DG(hm:X.mg "len"=none)(ha:JA X R [e] t)(hg:Gl X "len"|>1)(he:starEach [e] X.env=(false, eval e X.env)::starEach [] X.env|>1)(fZ:(backTo pos (starEach [] X.env)).any (·.1)=false|>1):JE X R (.Call (.Name "len" p) [e] [] pos) (BN Js t):=
 fP HI T7 hm PySem.boot_len ha hg @_ @_ he fZ
end
section
variable{elt:Expr}{x z:Str}{px pz tp:Pos}{pos:Pos}
def zJ{hI:Pos}(hN:X.N.Nodup)(Dj:X.N[i]? =!y)(hy:Loc X.env.scope y)(S:aw X scope [x,z] ys Ρ)(hi:JK X R (.Tuple [.Name x px,.Name z pz] kk tp) iter ti)(he:∀C s H fp,JE (Cx.comp X (x::z::ys) scope C s H fp) (λ_=>E0) elt te)(hc:X.calm=true|>1)(CY:swapsWith (.ListComp elt [(.Tuple [.Name x px,.Name z pz] kk tp,iter,[],0)] scope pos) (!(.Name y py)) hI.line X.env=pure true|>1)(hs:(∀x,foldedSetIterable iter X.env x=pure x)|>3)(hf:X.fn y=true\/X.env.scope.names.lookup y=some .local:=by first| exact .inl rfl| exact .inr rfl| assumption):JS X R (.Assign [.Name y py] (.ListComp elt [(.Tuple [.Name x px,.Name z pz] kk tp,iter,[],0)] scope pos) hI) (vg i (xH 2 ti (g2 0 1) te Ρ)):=Te false S hi (ze hc S) mV (pI (Nat.zero_lt_succ 1) (Nat.lt_succ_self 1)) (λ_ _ _ _=>iw) he hc hs hN Dj hy CY hf λρ M q x h=>by unfold xH at h;simp only[x8]at h;show h
end
def Px(K:fv):List Dt->Ms->DQ->Prop:=λds M q=>∃k c ks es t' b,ds=[.loc k,c]/\M[k]? =!(.eG ks es)/\Gu c=!t'/\PySem.W.kitOne K (.type "dict") t'=!b/\q (.bl b) M
def UW{K:fv}:Du K (λxs H Q=>∃x c t t' b,xs=[x,c]/\j_ K H x t/\GG c=!t'/\PySem.W.kitOne K t t'=!b/\Q (.bl b) H) (Px K):=by intro G0 L0 H0 G L M H vs ds q e r n ⟨k,c,ks,es,t',b,ed,h1,h2,hb,h⟩;subst ed;let(v,u,rfl,n1,n2):=dt n;let(a,rfl,ka):=n1;let(_,vs,e1,_):=r.e7 k a _ ka h1;show(_,u,_,t',b,rfl,.dK e1,yG n2 h2,hb,cq e r h)
section
variable{e2:Expr}{p pos:Pos}
def Sg(K:fv)(hm:X.mg "isinstance"=none)(ha:JA X R [e,e2] t)(he:starEach [e,e2] X.env=(false, eval e X.env)::starEach [e2] X.env|>1)(fZ:(backTo pos (starEach [e2] X.env)).any (·.1)=false|>1)(hg:Gl X "isinstance"|>1)(hK:X.K=K|>1):JE X R (.Call (.Name "isinstance" p) [e,e2] [] pos) (BN (Px K) t):=by subst hK;show fP ko UW hm fE ha hg @_ @_ he fZ
end
section
variable{H:Hp}
def Ej(I:Inv X η σ H s){xs ys:List V}(h:mR X.K H a xs)(h':gI X.K H a ys):False:=by let(_,_,(o,n,e,c,_),_):=I.list h';let(_,_,(o2,e2,c2,_),_):=I.tuple h;rw[e]at e2;cases e2;rw[c]at c2;show aa5 (Value.type.inj c2) @_
def IV(I:Inv X η σ H s){y:V}(h:GR X.K H n x y b):∀{b':Bool},GR X.K H n x y b'->b=b':=by
 induction h with
 | flat h1 h2=>
  intro b' h';cases h' with
  | flat=>rfl
  | tup=>cases h1
  | lst=>cases h1
  | len=>cases h1
 | @tup n a b xs ys f h1 h2 h ih=>
  intro b' h';cases h' with
  | flat oj=>cases oj
  | @tup _ _ _ xs' ys' f' oj NM h'=>
   cases I.lP h1 oj;cases I.lP h2 NM
   congr 1
   rw[acv,abc,abc];let key:∀j∈List.range (min (-xs) (-ys)),f j=f' j:=λj hj=>by
    let hj:=abr.mp hj;let l1:j < -xs:=()
    let l2:j < -ys:=()
    show ih j _ _ (aad l1) (aad l2) (h' j _ _ (aad l1) (aad l2))
   show(λz j hj=>by rw[<-key j hj];show z j hj,λz j hj=>by rw[key j hj];show z j hj)
  | lst oj=>show(Ej I h1 oj).elim
  | len oj=>show(Ej I h1 oj).elim
 | @lst n a b xs ys f h1 h2 hl h ih=>
  intro b' h';cases h' with
  | flat oj=>cases oj
  | tup oj=>show(Ej I oj h1).elim
  | @lst _ _ _ xs' ys' f' oj NM PV h'=>
   cases I.cC h1 oj;cases I.cC h2 NM;rw[acv,abc,abc];let key:∀j∈List.range (-xs),f j=f' j:=λj hj=>by
    let l1:=abr.mp hj;let l2:j < -ys:=()
    show ih j _ _ (aad l1) (aad l2) (h' j _ _ (aad l1) (aad l2))
   show(λz j hj=>by rw[<-key j hj];show z j hj,λz j hj=>by rw[key j hj];show z j hj)
  | len oj NM PV=>
   cases I.cC h1 oj;cases I.cC h2 NM;show aa5 hl PV
 | len h1 h2 hl=>
  intro b' h';cases h' with
  | flat oj=>cases oj
  | tup oj=>show(Ej I oj h1).elim
  | lst oj NM PV=>
   cases I.cC h1 oj;cases I.cC h2 NM;show aa5 PV hl
  | len=>rfl
end
def Lr(K:fv)(n:Nat):V->List V->Hp->VK->Prop:=λx vs H Q=>∃p xs y,∃f:Nat->Bool,∃j:Nat,x= .ref p/\vs=[y]/\gI K H p xs/\(∀i z,xs[i]? =!z->GR K H n z y (f i))/\j < -xs/\f j=true/\(∀i,i < j->f i=false)/\Q (.int (j:Int)) H
def L8(hu:X.A.units+(n+1) < cLine):Xd X "list.index" (Lr X.K n):=by
 intro η s σ H x vs v us Q I rx rv h;let(p,xs,y,f,j,rfl,rfl,hq,hf,hj,ft,ff,q):=h;cases rx;let(u,rfl,ru):=rv.one;let(its,r,pl,hz):=I.list hq;let((cls,dd,data,sl),nn,ho,hc,hdd,hd):=id pl;simp only at hc hd;subst hc hd
 classical
 let hu':X.A.in1.units+n < cLine:=by change X.A.units+1+n < cLine;omega
 let lz:its.toArray.size=-xs:=by rw[aaU,<--r]
 let ae6:sizeLine < 2 ^ 63 - 1:=@_
 let uq:∀i i' (z:V),xs[i]? =!z->xs[i']? =!z->f i=f i':=λi i' z h1 h2=>IV I (hf i z h1) (hf i' z h2);let ev:∀(m:Nat) (hm:m < its.toArray.size),decide (∃i z,xs[i]? =!z/\aB z its.toArray[m]/\f i=true)=f m:=λm hm=>by
  let(z,hz,rz):=dU r hm;by_cases c:∃i z,xs[i]? =!z/\aB z its.toArray[m]/\f i=true
  .rw[aaB c];let(i,z',h1,h2,h3):=c;cases rz.inj h2;rw[uq m i z hz h1,h3]
  .rw[aaF c];cases e:f m with
   | false=>rfl
   | true=>show aa5 (m,z,hz,rz,e) c
 show call_meets F.slot_list_index (_,ho,rfl) F.entry_list_index (F.args_list_index_2 _ _) (SeqAt.list_indexAt p its.toArray nn dd sl u (λw=>decide (∃i z,xs[i]? =!z/\aB z w/\f i=true)) j () () ((ev j ()).trans ft) (λm hm h=>(ev m hm).trans (ff m h))) (ho,λw hw=>?_,.int (j:Int),H,I.tok _,(_,rfl),q);let(m,hm,rfl):=Array.mem_iff_getElem.mp hw;let(z,hz,rz):=dU r hm;have:=ev m hm;show this▸Cf I (hf m z hz) rz ru hu'
section
def y9(n:Nat)(to:DE)(t:DA):DE:=λρ M q x=>to ρ M (λd M1=>(∃xs,j8 M1 d=!xs)/\t ρ M1 (λds M2=>∃y xs,∃f:Nat->Bool,∃j:Nat,ds=[y]/\j8 M2 d=!xs/\(∀i z,xs[i]? =!z->tj M2 n z y (f i))/\j < -xs/\f j=true/\(∀i,i < j->f i=false)/\q (.int (j:Int)) M2) x) x
def zb(n:Nat)(hr:ck k' X.A)(ho:JE X R o to)(ha:JA X R [e] t)(hn:n+1<=64|>2)(g8:attributeBase o "index" X.env (eval o X.env)=eval o X.env|>1)
  (Dp:((backTo aO (starEach [e] X.env)).all (λx=> ! x.1)&&(backToKw aO (keywordEach [] X.env)).all (λx=>x.1.isSome)
   &&decide (-([e]:List Expr)+-([]:List Keyword)+(if ([]:List Keyword).isEmpty then 0 else 1) < 30))=true|>1)
  (h_:(apos.endLine==aO.line)=true|>1) (hs:starEach [e] X.env=(false, eval e X.env)::starEach [] X.env|>1) (nG:(backTo aO (starEach [] X.env)).any (·.1)=false|>1):
  JE X R (.Call (.Attribute o "index" apos) [e] [] aO) (y9 n to t):=
 .of (Ky acp PySem.F.slot_list_index PySem.F.type_list_index (r:=Lr X.K n) (L8 (Q6 hr hn)) ho ha g8 Dp h_ hs nG) λσ H G L ρ M q x rl n h hx=>by show(G,L,ρ,M,_,x,rl,n,h,hx,λv H1 xz=>?_);let(d1,G1,L1,M1,e1,r1,n1,(xs,hm),h1):=xz;let(a,vs,rfl,sq,m):=eU r1 n1 hm;show(.inl (rfl,vs,sq),G1,L1,ρ,M1,_,x,r1,n.mono e1,h1,hx.on e1,λus H2 xz=>?_);let(ds,G2,L2,M2,e2,r2,n2,y,xs',f,j,ed,QU,hf,hj,ft,ff,h2):=xz;subst ed;let(u,rfl,n3):=b9 n2;let(a2,uU,ea,WY,m2):=eU r2 (Den.mono e2.g e2.l _ _ n1) QU;cases ea;show(a,uU,u,f,j,rfl,rfl,WY,λi z hz=>?_,by rw[<--m2];show hj,ft,ff,.int (j:Int),G2,L2,_,e1.trans e2,r2,rfl,h2);let(d,hd,dn):=m2.back hz;show PK r2 (hf i d hd) dn n3
end
def vp(items:Array Value):slicePick items none none (!1)=items:=by
 let e:slicePick items none none (!1)=((sliceRange 0 (items.size:Int) 1).filterMap (items[·]?)).toArray:=rfl;let r:sliceRange 0 (items.size:Int) 1=(List.range items.size).map (0+ ·):=by
  unfold sliceRange;simp only[show((1:Int) > 0) by decide,if_true];let hc:(if (items.size:Int) > 0 then ((items.size:Int) - 0+1 - 1) / 1 else 0)=items.size:=by
   split
   .rw[Int.ediv_one];omega
   .omega
  first
   | (rw[hc,abl];apply aby;intro k _;omega)
   | (simp;omega)
 rw[e,r,pick_run items 0 items.size,acs,abS (by rw[Array.length_toList];show aaq _)]
section
variable{te tl:TE}{pos p2:Pos}
def TH(K:fv)(te tl:TE):TE:=λσ H Q=>te σ H λx H1=>tl σ H1 λy H2=>∃i:Int,y= .int i/\∃i':Int,(!i)=!i'/\∃a xs,x= .ref a/\gI K H2 a xs/\∃ys,(i'=1/\ys=xs\/i'= - 1/\ys=xs.reverse)/\∀p,H2 p=none->Q (.ref p) (upd H2 p (.lst ys))
def Nx(he:PE X e te)(hl:PE X l tl):PE X (.Subscript e (.Slice none none (!l) p2) pos) (TH X.K te tl):=by
 intro η s σ H Q I h;show Subscript_ (bH (he η s σ H _ I h) λv s1 xz=>?_);let(x,H1,I1,r1,q1):=xz;show wpAny_Slice ?_;simp only[evalPart_none];show aa6 ?_;show aa6 ?_;show bH (lJ hl η s1 σ H1 (λo H2=>∃i:Int,o=!i/\∃a xs,x= .ref a/\gI X.K H2 a xs/\∃ys,(i=1/\ys=xs\/i= - 1/\ys=xs.reverse)/\∀p,H2 p=none->Q (.ref p) (upd H2 p (.lst ys))) I1 ?_) fun vs s2 (o,H2,I2,ps,i,eo,a,xs,ex,hx,ys,ey,q)=>?_
 .show(λh=>?_) q1;show h
 subst eo ex;cases r1;let I4:Inv X η σ H2 {s2 with heap:=s2.heap.push {cls:=.type "slice",data:=.fields #[.none,.none,vs]}}:=I2.kept (t':=s2.toks) λb ob q=>aas _ q;let(its,r,ht,hz):=I4.list hx;let hlen:=-r;change wpAny (model X.prog X.w) X.A (subscriptTail e (.Slice none none (!l) p2) (.ref a) (.ref s2.heap.objs.size)) (EP X η σ Q) X.xe {s2 with heap:=s2.heap.push {cls:=.type "slice",data:=.fields #[.none,.none,vs]}};show tail_any (ops:=[.ref a,.ref s2.heap.objs.size]) ht.isList.typeIs slot_list_getitem.lookup ?_ (by with_unfolding_all rfl);rcases ey with ⟨rfl,rfl⟩| ⟨rfl,rfl⟩
 .show wpAny_getItem_list_slice ht.isList (Heap.IsSliceOf.new ..) .none .none ps @_ ?_ (by rw[aaU] <;> omega);rw[vp];show(.ref _,_,I4.laid (t':=s2.toks) (o:=.lst ys) (λb ob q=>aas _ q) (aaq _) ?_,rfl,q _ (I4.aU.fresh (aaq _)));show(hz,_,0,r,abd _ rfl)
 .show wpAny_getItem_list_slice ht.isList (Heap.IsSliceOf.new ..) .none .none ps @_ ?_ (by rw[aaU] <;> omega);rw[vb];show(.ref _,_,I4.laid (t':=s2.toks) (o:=.lst xs.reverse) (λb ob q=>aas _ q) (aaq _) ?_,rfl,q _ (I4.aU.fresh (aaq _)));show(by rw[List.length_reverse];show hz,_,0,yp r,abd _ rfl)
end
section
variable{tl:DE}{pos p2:Pos}
def O6(te tl:DE):DE:=λρ M q x=>te ρ M (λd M1=>tl ρ M1 (λdi M2=>∃ds es,j8 M2 d=!ds/\(di= .int 1/\es=ds\/di= .int (- 1)/\es=ds.reverse)/\q (.loc (-M2)) (M2++[.lst es])) x) x
def QJ(he:JE X R e te)(hl:JE X R l tl):JE X R (.Subscript e (.Slice none none (!l) p2) pos) (O6 te tl):=
 .of (Nx he hl) λσ H G L ρ M q x rl n h hx=>by
  show(G,L,ρ,M,_,x,rl,n,h,hx,λv H1 xz=>?_);let(d1,G1,L1,M1,e1,r1,n1,h1):=xz;show(G1,L1,ρ,M1,_,x,r1,n.mono e1,h1,hx.on e1,λv2 H2 xz=>?_);let(d2,G2,L2,M2,e2,r2,n2,ds,es,ed,ei,h2):=xz;let(a,vs,rfl,sq,m):=eU r2 (Den.mono e2.g e2.l _ _ n1) ed;rcases ei with ⟨rfl,rfl⟩| ⟨rfl,rfl⟩
  .let n2:v2= .int 1:=n2;subst n2;show(1,rfl,1,rfl,a,vs,rfl,sq,vs,.inl (rfl,rfl),λp hp=>?_);show ig (e1.trans e2) r2 hp m h2
  .let n2:v2= .int (- 1):=n2;subst n2;show(- 1,rfl,- 1,rfl,a,vs,rfl,sq,vs.reverse,.inr (rfl,rfl),λp hp=>?_);show ig (e1.trans e2) r2 hp (Ο.of (yp m.pair)) h2
end
def Pn(i j k l:Nat)(t:DE):DS:=λDn ρ M=>t ρ M (λd M1=>match d with
 | .tup [a,b,c,e]=>Dn.nx ((((ρ.set i (!a)).set j (!b)).set k (!c)).set l (!e)) M1
 | _=>False) Dn.x
section
variable{pos:Pos}{j k l:Nat}
def NL(he:JE X R e te)(hg:PG X tg (Ge X.K 4 (js (fU i) (js (fU j) (js (fU k) (js (fU l) Ho))))))(hs:swapsWithSole [tg] e pos.line X.env=pure false|>1)(hw:swappedStores [tg] e X.env=pure none|>1)
  (h1:(assignEach [tg] X.env).map (·.2)=[assign tg X.env]|>1):JS X R (.Assign [tg] e pos) (Pn i j k l te):=.of (D6 he hg hs hw h1) λσ H G L ρ M Dn rl n h hx=>by
 show(G,L,ρ,M,_,_,rl,n,h,hx,λv H1 xz=>?_);let(d1,G1,L1,M1,e1,r1,n1,h1):=xz
 (try dsimp only at h1)
 split at h1
 .rename_i a b c e';let(p,vs,rfl,ee,m):=n1;let(v1,r',rfl,m1,m'):=m;let(v2,r'',rfl,m2,m''):=m';let(v3,v4,rfl,m3,m4):=dt m'';show(p,_,rfl,.inl (.inl (r1.sub _ _ ee)),rfl,v1,_,rfl,v2,_,rfl,v3,_,rfl,v4,_,rfl,rfl,_,G1,L1,M1,e1,r1,((((n.mono e1).set i m1).set j m2).set k m3).set l m4,h1)
 .show h1.elim
end
def NK(td:TE):TE:=λσ H Q=>td σ H λx H1=>∃a Ζ,x= .ref a/\H1 a=!(.dK Ζ)/\Q .aZ (upd H1 a (.dK []))
section
variable{td:TE}
def Hc(ho:PE X o td)(g8:attributeBase o "clear" X.env (eval o X.env)=eval o X.env)(h_:(apos.endLine==aO.line)=true):PE X (.Call (.Attribute o "clear" apos) [] [] aO) (NK td):=by intro η s σ H Q I h;show wpAny_Call_method0_late g8 h_ (bH (ho η s σ H _ I h) λu s1 xz=>?_);let(x,H1,I1,rx,a,Ζ,ex,e,q1):=xz;subst ex;obtain rfl:u=Value.ref a:=rx;let(t1,t2,_):=D_ I1 (.inl (_,.inl e));show("dict","dict.clear",PySem.F.plainAttrs_dict,PySem.F.slot_dict_clear,PySem.F.type_dict_clear,t1,t2,Calls.callWith_builtin rfl (PySem.evalArgs_none (Ng I1 e λs' I'=>(.aZ,_,I',rfl,q1))))
end
section
variable{a b c:Expr}{tc:DE}{pos:Pos}
def Fb(to:DE):DE:=λρ M q x=>to ρ M (λd M1=>∃k ks ds,d= .loc k/\M1[k]? =!(.eG ks ds)/\q .aZ (M1.set k (.eG [] []))) x
def zH(ho:JE X R o to)(g8:attributeBase o "clear" X.env (eval o X.env)=eval o X.env|>1)(h_:(apos.endLine==aO.line)=true|>1):JE X R (.Call (.Attribute o "clear" apos) [] [] aO) (Fb to):=
 .of (Hc ho g8 h_) λσ H G L ρ M q x rl n h hx=>by show(G,L,ρ,M,_,x,rl,n,h,hx,λv H1 xz=>?_);let(d1,G1,L1,M1,e1,r1,n1,k,ks,ds,ed,hm,h1):=xz;subst ed;let(a,rfl,hk):=n1;let(_,vs,hH,hl,dn):=r1.e7 k a _ hk hm;show(a,_,rfl,hH,.aZ,G1,L1,_,e1.trans (r1.Eu hk),r1.setM (m:=.eG [] []) hk ([],ao,rfl,rfl),rfl,h1)
def yN(p p':Int->Int->Bool)(ta tb tc:DE):DE:=λρ M q x=>ta ρ M (λd1 M1=>tb ρ M1 (λd2 M2=>∃i j:Int,d1= .int i/\d2= .int j/\(p i j=true->tc ρ M2 (λd3 M3=>∃k:Int,d3= .int k/\q (.bl (p' j k)) M3) x)/\(p i j=false->q (.bl false) M2)) x) x
def KI{p p':Int->Int->Bool}{K:fv}{H:Hp}{ρ:En}{q:DQ}{x:DX}(rl:Rl K G L M H)(n:lY K G L ρ σ)(h:yN p p' ta tb tc ρ M q x)(hx:uT K G L H R x):IQ (Al λi j=>.bl (p i j)) (Al λi j=>.bl (p' i j)) (uj K R ta) (uj K R tb) (uj K R tc) σ H (Fin K G L H q):=by
 show(G,L,ρ,M,_,x,rl,n,h,hx,λv H1 xz=>?_);let(d1,G1,L1,M1,e1,r1,n1,h1):=xz;show(G1,L1,ρ,M1,_,x,r1,n.mono e1,h1,hx.on e1,λv2 H2 xz=>?_);let(d2,G2,L2,M2,e2,r2,n2,i,j,ei,ej,ht,hf):=xz;subst ei ej;let n1:v= .int i:=n1;let n2:v2= .int j:=n2;subst n1 n2;show(i,j,rfl,rfl,p i j,rfl,?_);cases hp:p i j with
 | false=>show(.bl false,G2,L2,M2,e1.trans e2,r2,rfl,hf hp)
 | true=>
  show(G2,L2,ρ,M2,_,x,r2,(n.mono e1).mono e2,ht hp,(hx.on e1).on e2,λv3 H3 xz=>?_);let(d3,G3,L3,M3,e3,r3,n3,k,ek,h3):=xz;subst ek;let n3:v3= .int k:=n3;subst n3;show(j,k,rfl,rfl,.bl (p' j k),G3,L3,M3,(e1.trans e2).trans e3,r3,rfl,h3)
def Ld{p p':Int->Int->Bool}(ho:i8 X (compareOp op) (Al λi j=>.bl (p i j)))(AD:i8 X (compareOp Qm) (Al λi j=>.bl (p' i j)))(ja:JE X R a ta)(jb:JE X R b tb)(jc:JE X R c tc)(hm:lastMarks [op,Qm] [b,c]=false:=by with_unfolding_all rfl):JT X R (.Compare a [op,Qm] [b,c] pos) (nI (yN p p' ta tb tc)):=
 .of (Jg ho AD ja jb jc hm) λσ H G L ρ M q x rl n h hx=>by
  let h:yN p p' ta tb tc ρ M (λd M1=>match d with| .bl b=>q b M1| _=>False) x:=h;have:=KI (p:=p) (p':=p') rl n h hx;let e:(λx H'=>∃k,x=V.bl k/\uO X.K G L H q k H')=Fin X.K G L H (λd M1=>match d with| .bl b=>q b M1| _=>False):=by
   funext y H'
   apply propext;constructor
   .rintro⟨k,rfl,G3,L3,M3,e3,r3,h3⟩;show(.bl k,G3,L3,M3,e3,r3,rfl,h3)
   .rintro⟨d,G3,L3,M3,e3,r3,n3,h3⟩;split at h3
    .rename_i k;show(k,n3,G3,L3,M3,e3,r3,h3)
    .show h3.elim
  rw[<-e]at this;show this
end
end L2
namespace Fr0
variable{b t:Int}
def g(a b:Int):Int:=(Int.gcd a b:Nat)
def AA(h:b≠0):0 < g a b:=by have:=Int.gcd_pos_of_ne_zero_right a h;unfold g;omega
def J6{a:Int}(h:0<=a):g a 0=a:=by unfold g;rw[Int.gcd_zero_right];omega
def II{a:Int}(hb:0 < b):g b (a.fmod b)=g a b:=by
 unfold g;rw[acb a (aaT hb),Int.gcd_comm a b]
 congr 1
 show Int.gcd_right_eq_iff.mpr λc hc=>?_;rw[Int.emod_def];constructor
 .intro h;have:=Int.dvd_add h (Int.dvd_mul_of_dvd_left (c:=a / b) hc);rwa[Int.sub_add_cancel]at this
 .intro h;show Int.dvd_sub h (Int.dvd_mul_of_dvd_left (c:=a / b) hc)
def PU(a b:Int):g (if a < 0 then - a else a) (if b < 0 then - b else b)=g a b:=by unfold g;split <;> split <;> simp
def dv(t b:Int):Int:=if b < 0 then - (g t b) else g t b
def ay(t b:Int):Int×Int:=(t.fdiv (dv t b), b.fdiv (dv t b))
def Fg(h:b≠0):dv t b≠0:=by have:=AA (a:=t) h;unfold dv;split <;> omega
def AY{k p:Int}(h:k≠0):(k * p).fdiv k=p:=by rw[abL];show Int.mul_fdiv_cancel p h
def K3(h:b≠0):∃p q:Int,t=dv t b * p/\b=dv t b * q/\0 < q/\Int.gcd p q=1:=by
 let hg:=AA (a:=t) h;let h0:0 < Int.gcd t b:=Int.gcd_pos_of_ne_zero_right t h;let(p,hp):=Int.gcd_dvd_left t b;let(q,hq):=Int.gcd_dvd_right t b;let hc:Int.gcd p q=1:=by
  let e:=Int.gcd_ediv_gcd_ediv_gcd h0;let n0:(Int.gcd t b:Int)≠0:=()
  let e1:t / (Int.gcd t b:Int)=p:=by
   conv=>lhs;arg 1;rw[hp]
   show abW p n0
  let e2:b / (Int.gcd t b:Int)=q:=by
   conv=>lhs;arg 1;rw[hq]
   show abW q n0
  rwa[e1,e2]at e
 let y6:t=g t b * p:=hp;let oX:b=g t b * q:=hq;by_cases hb:b < 0
 .let hd:dv t b= - (g t b):=by unfold dv;rw[if_pos hb]
  show(- p,- q,?_,?_,?_,?_)
  .rw[hd,Int.neg_mul_neg];show y6
  .rw[hd,Int.neg_mul_neg];show oX
  .have:g t b * q < 0:=by rw[<-oX];show hb
   by_cases q0:0<=q
   .show aa5 (ab8 (aaT hg) q0) ()
   .omega
  .simpa using hc
 .let hd:dv t b=g t b:=by unfold dv;rw[if_neg hb]
  show(p,q,by rw[hd];show y6,by rw[hd];show oX,?_,hc);have:0 < g t b * q:=by rw[<-oX];omega
  show Int.pos_of_mul_pos_right this hg
def gJ  (h : b ≠ 0) : ∃p q : Int,ay t b = (p, q) /\ 0 < q /\ Int.gcd p q = 1 /\ t = dv t b * p /\ b = dv t b * q :=by
  obtain⟨p,q,hp,hq,h0,hc⟩ :=K3 (t :=t) h;let n0 :=Fg (t :=t) h;show(p,q,?_,h0,hc,hp,hq);unfold ay
  have e1 : t.fdiv (dv t b) = p := by conv => lhs; arg 1; rw [hp]
                                      show AY n0
  have e2 : b.fdiv (dv t b) = q := by conv => lhs; arg 1; rw [hq]
                                      show AY n0
  rw[e1,e2]
def dh(h:b≠0):t * (ay t b).2=b * (ay t b).1:=by
 let(p,q,e,_,_,hp,hq):=gJ (t:=t) h;rw[e];change t * q=b * p
 calc t * q=dv t b * p * q:=by rw[<-hp]
  _=dv t b * q * p:=by rw[Int.mul_assoc,abL p q,<-Int.mul_assoc]
  _=b * p:=by rw[<-hq]
def cW(h:b≠0):0 < (ay t b).2:=by let(p,q,e,h0,_):=gJ (t:=t) h;rw[e];show h0
def AU(h:b≠0):Int.gcd (ay t b).1 (ay t b).2=1:=by let(p,q,e,_,hc,_):=gJ (t:=t) h;rw[e];show hc
def qO{k m n:Int}(h:k∣m * n)(hc:Int.gcd k m=1):k∣n:=by have:=(Int.dvd_gcd_mul_iff_dvd_mul (k:=k) (n:=m) (m:=n)).mpr h;rw[hc]at this;simpa using this
def B8{q q':Int}(hq:0 < q)(oX:0 < q')(h:Int.gcd p q=1)(h':Int.gcd p' q'=1)(e:p * q'=p' * q):p=p'/\q=q':=by
 let d1:q∣q':=by have:q∣p * q':=(p',by rw[e,abL]);show qO this (by rw[Int.gcd_comm];show h)
 let d2:q'∣q:=by have:q'∣p' * q:=(p,by rw[<-e,abL]);show qO this (by rw[Int.gcd_comm];show h')
 let eq:q=q':=Int.le_antisymm (acC oX d1) (acC hq d2);subst eq;show(Int.eq_of_mul_eq_mul_right () e,rfl)
def xp{q:Int}(h:b≠0)(hq:0 < q)(hc:Int.gcd p q=1)(e:t * q=b * p):ay t b=(p, q):=by
 let h1:=dh (t:=t) h;let h2:=cW (t:=t) h;let h3:=AU (t:=t) h;let h4:(ay t b).1 * q=p * (ay t b).2:=by
  have:b * ((ay t b).1 * q)=b * (p * (ay t b).2):=by rw[<-Int.mul_assoc,<-h1,Int.mul_right_comm,e,Int.mul_assoc]
  show abn h this
 have:=B8 h2 hq h3 hc h4;show Prod.ext this.1 this.2
def HJ{q:Int}(hq:0 < q)(hc:Int.gcd p q=1):ay p q=(p, q):=xp () hq hc (abL _ _)
def yh(h:b≠0):(dv t b).natAbs<=b.natAbs:=by
 let e:(dv t b).natAbs=Int.gcd t b:=by unfold dv g;split <;> omega
 rw[e];show Int.gcd_le_natAbs_right t h
def Ao  (h : b ≠ 0) : (ay t b).1.natAbs <= t.natAbs :=by
  obtain⟨p,q,e,_,_,hp,_⟩ :=gJ (t :=t) h;let n0 :=Fg (t :=t) h;rw[e];change p.natAbs <= t.natAbs
  have : t.natAbs = (dv t b).natAbs * p.natAbs := by conv => lhs; rw [hp]
                                                     show abX _ _
  rw[this];show Nat.le_mul_of_pos_left _ ()
def uC  (h : b ≠ 0) : (ay t b).2.natAbs <= b.natAbs :=by
  obtain⟨p,q,e,_,_,_,hq⟩ :=gJ (t :=t) h;let n0 :=Fg (t :=t) h;rw[e];change q.natAbs <= b.natAbs
  have : b.natAbs = (dv t b).natAbs * q.natAbs := by conv => lhs; rw [hq]
                                                     show abX _ _
  rw[this];show Nat.le_mul_of_pos_left _ ()
def Og(h:0 < b):ay t b=(t.fdiv (g t b), b.fdiv (g t b)):=by unfold ay dv;rw[aaK ()]
end Fr0
namespace Tx
open PySem PySem.NumText
end Tx
namespace Bz
variable{f:Nat->Int}{n i a m:Nat}{μ ρ:List Nat}{d B:Int}
abbrev Row:=Nat->Int
variable{γ:List Row}{A W:Nat->Row}{w:Row}
abbrev Fn:=List Nat->Int
def Lx(x:Row):Fn->Fn
 | _,[]=>0
 | F,c::cs=>x c * F cs - Lx x (λt=>F (c::t)) cs
def Dg(x:Row):∀(cs:List Nat) (F G:Fn),Lx x (λt=>F t+G t) cs=Lx x F cs+Lx x G cs
 | [],F,G=>by simp[Lx]
 | c::cs,F,G=>by have:=Dg x cs (λt=>F (c::t)) (λt=>G (c::t));simp only[Lx];rw[this];grind
def mE(x:Row)(k:Int):∀(cs:List Nat) (F:Fn),Lx x (λt=>k * F t) cs=k * Lx x F cs
 | [],F=>by simp[Lx]
 | c::cs,F=>by have:=mE x k cs (λt=>F (c::t));simp only[Lx];rw[this];grind
def LO(x:Row)(cs:List Nat)(F G:Fn):Lx x (λt=>F t - G t) cs=Lx x F cs - Lx x G cs:=by
 let h1:=Dg x cs F (λt=>(- 1) * G t);let h2:=mE x (- 1) cs G;let e:(λt=>F t - G t)=λt=>F t+(- 1) * G t:=by funext t;grind
 rw[e,h1,h2];grind
def Fw(x:Row):∀(cs:List Nat),Lx x (λ_=>0) cs=0
 | []=>rfl
 | c::cs=>by simp only[Lx];rw[Fw x cs];simp
def yZ(x y:Row):∀(cs:List Nat) (F:Fn),Lx x (Lx y F) cs= - Lx y (Lx x F) cs
 | [],F=>rfl
 | c::cs,F=>by let ih:=yZ x y cs (λt=>F (c::t));let e1:(λt=>Lx y F (c::t))=λt=>y c * F t - Lx y (λu=>F (c::u)) t:=rfl;let e2:(λt=>Lx x F (c::t))=λt=>x c * F t - Lx x (λu=>F (c::u)) t:=rfl;change x c * Lx y F cs - Lx x (λt=>Lx y F (c::t)) cs= - (y c * Lx x F cs - Lx y (λt=>Lx x F (c::t)) cs);rw[e1,e2,LO,LO,mE,mE,ih];grind
def Oc(x:Row)(cs:List Nat)(F:Fn):Lx x (Lx x F) cs=0:=by have:=yZ x x cs F;omega
def zu(x:Row)(d:Nat):∀(cs:List Nat) (F:Fn),Lx x F (cs++[d])=Lx x (λt=>F (t++[d])) cs+(- 1) ^ (-cs) * (x d * F cs)
 | [],F=>by simp[Lx]
 | c::cs,F=>by have:=zu x d cs (λt=>F (c::t));change x c * F (cs++[d]) - Lx x (λt=>F (c::t)) (cs++[d])=_;rw[this];change _=(x c * F (cs++[d]) - Lx x (λt=>F (c::(t++[d]))) cs)+(- 1) ^ (-cs+1) * (x d * F (c::cs));let e:(λt=>F (c::(t++[d])))=λt=>(λu=>F (c::u)) (t++[d]):=rfl;rw[e,ack];grind
def A7(x:Row){F G:Fn}{n:Nat}:∀(cs:List Nat),(∀t,-t+1=-cs->F t=G t)->Lx x F cs=Lx x G cs:=by
 intro cs
 induction cs generalizing F G with
 | nil=>intro _;rfl
 | cons c cs ih=>
  intro h;simp only[Lx];rw[h cs (by simp),ih (F:=λt=>F (c::t)) (G:=λt=>G (c::t)) λt ht=>h (c::t) (by simp;omega)]
def Β(f:Nat->Int):Nat->Int
 | 0=>0
 | n+1=>Β f n+f n
def gY(f g:Nat->Int):∀n,Β (λi=>f i+g i) n=Β f n+Β g n
 | 0=>rfl
 | n+1=>by simp only[Β];rw[gY f g n];omega
def Φ(k:Int)(f:Nat->Int):∀n,Β (λi=>k * f i) n=k * Β f n
 | 0=>by simp[Β]
 | n+1=>by simp only[Β];rw[Φ k f n,Int.mul_add]
def ψ{f g:Nat->Int}:∀{n:Nat},(∀i,i < n->f i=g i)->Β f n=Β g n
 | 0,_=>rfl
 | n+1,h=>by simp only[Β];rw[ψ λi hi=>h i (),h n ()]
def jo(h:∀i,i < n->f i=0):Β f n=0:=by
 rw[ψ h];clear h
 induction n with
 | zero=>rfl
 | succ n ih=>simp only[Β];rw[ih];rfl
def jx{j:Nat}(hj:j < n)(h:∀i,i < n->i≠j->f i=0):Β f n=f j:=by
 induction n with
 | zero=>omega
 | succ n ih=>
  simp only[Β];by_cases e:j=n
  .subst e;rw[jo λi hi=>h i () ()];omega
  .rw[ih () λi hi l9=>h i () l9,h n () ()];omega
def ng(f:Nat->Int):∀n,Β f (n+1)=f 0+Β (λi=>f (i+1)) n
 | 0=>by simp[Β]
 | n+1=>by have:=ng f n;rw[show Β f (n+1+1)=Β f (n+1)+f (n+1) from rfl,this];simp only[Β];omega
def dM(f:Nat->Nat->Int)(m:Nat):∀n,Β (λi=>Β (f i) m) n=Β (λj=>Β (λi=>f i j) n) m
 | 0=>by rw[show Β (λi=>Β (f i) m) 0=0 from rfl];show(jo λ_ _=>rfl).symm
 | n+1=>by rw[show Β (λi=>Β (f i) m) (n+1)=Β (λi=>Β (f i) m) n+Β (f n) m from rfl,dM f m n,<-gY];rfl
def zm(x:Row):∀(cs:List Nat) (F:Fn),Lx x F cs=Β (λp=>(- 1) ^ p * (x (cs.getD p 0) * F (cs.eraseIdx p))) (-cs)
 | [],F=>rfl
 | c::cs,F=>by
  let ih:=zm x cs (λt=>F (c::t));change x c * F cs - Lx x (λt=>F (c::t)) cs=_;rw[aa9,ng,ih];let e:Β (λp=>(- 1) ^ (p+1) * (x ((c::cs).getD (p+1) 0) * F ((c::cs).eraseIdx (p+1)))) (-cs)= - 1 * Β (λp=>(- 1) ^ p * (x (cs.getD p 0) * F (c::cs.eraseIdx p))) (-cs):=by rw[<-Φ];show ψ λp _=>?_;simp only[List.getD_cons_succ,List.eraseIdx_cons_succ];rw[Int.pow_succ];grind
  rw[e];simp only[List.getD_cons_zero,List.eraseIdx_cons_zero,Int.pow_zero];omega
def F0:Fn:=λcs=>if cs=[] then 1 else 0
def D:List Row->Fn
 | []=>F0
 | x::xs=>Lx x (D xs)
def oF(y:Row):∀(xs ys:List Row) (cs:List Nat),D (xs++y::ys) cs=(- 1) ^ (-xs) * D (y::(xs++ys)) cs
 | [],ys,cs=>by simp
 | x::xs,ys,cs=>by
  change Lx x (D (xs++y::ys)) cs=_;let e:D (xs++y::ys)=λt=>(- 1) ^ (-xs) * D (y::(xs++ys)) t:=by funext t;show oF y xs ys t
  rw[e,mE];change(- 1) ^ (-xs) * Lx x (Lx y (D (xs++ys))) cs=(- 1) ^ (-xs+1) * Lx y (Lx x (D (xs++ys))) cs;rw[yZ x y,Int.pow_succ];grind
def T_(y:Row)(xs ys zs:List Row)(cs:List Nat):D (xs++y::(ys++y::zs)) cs=0:=by
 rw[oF];let e:D (y::(xs++(ys++y::zs))) cs=Lx y (λt=>D (xs++(ys++y::zs)) t) cs:=rfl;let e2:(λt=>D (xs++(ys++y::zs)) t)=λt=>(- 1) ^ (-(xs++ys)) * Lx y (D (xs++ys++zs)) t:=by
  funext t
  rw[<-aa8,oF];rfl
 rw[e,e2,mE,Oc];simp
def fe(γ:List Row)(μ:List Nat)(p k:Nat):Int:=(- 1) ^ (p+k) * D (γ.eraseIdx k) (μ.eraseIdx p)
def zr:Row:=λ_=>0
def Qq(n:Nat):((- 1:Int) ^ n) * (- 1) ^ n=1:=by
 induction n with
 | zero=>rfl
 | succ n ih=>rw[Int.pow_succ];grind
def JM{α:Type}:∀{l:List α} {k:Nat} (h:k < -l),l=l.take k++l[k]::l.drop (k+1):=by intro l k h;rw[List.getElem_cons_drop,List.take_append_drop]
def Ib{α:Type}{l:List α}{k:Nat}(hi:i < -l)(l9:i≠k):l[i]∈l.eraseIdx k:=by rw[List.mem_eraseIdx_iff_getElem];show(i,hi,l9,rfl)
def PA{k:Nat}(hl:-μ=-γ)(hi:i < -γ)(hk:k < -γ):Β (λp=>γ.getD i zr (μ.getD p 0) * fe γ μ p k) (-γ)=if i=k then D γ μ else 0:=by
 let gi:γ.getD i zr=γ[i]:=by rw[aae,aad hi];rfl
 let e:Β (λp=>γ.getD i zr (μ.getD p 0) * fe γ μ p k) (-γ)=(- 1) ^ k * D (γ.getD i zr::γ.eraseIdx k) μ:=by change _=(- 1) ^ k * Lx (γ.getD i zr) (D (γ.eraseIdx k)) μ;rw[zm,<-Φ,hl];show ψ λp _=>?_;unfold fe;rw[Int.pow_add];grind
 rw[e,gi];by_cases h:i=k
 .subst h;rw[aaP rfl];let s:=JM hi;let f:=oF γ[i] (γ.take i) (γ.drop (i+1)) μ;rw[<-s,acq,acw ()]at f;rw[f,List.eraseIdx_eq_take_drop_succ]
 .rw[aaK h];let(ys,zs,e2):=List.append_of_mem (Ib hi h);rw[e2];have:=T_ γ[i] [] ys zs μ;rw[show D (γ[i]::(ys++γ[i]::zs)) μ=0 from this];simp
def zv(x:Row)(g:Nat->Int)(F:Nat->Fn)(cs:List Nat):∀n,Lx x (λt=>Β (λk=>g k * F k t) n) cs=Β (λk=>g k * Lx x (F k) cs) n
 | 0=>Fw x cs
 | n+1=>by have:=Dg x cs (λt=>Β (λk=>g k * F k t) n) (λt=>g n * F n t);change Lx x (λt=>Β (λk=>g k * F k t) n+g n * F n t) cs=_;rw[this,zv x g F cs n,mE];rfl
def Pr(c:Nat):∀(γ:List Row) (t:List Nat),D γ (t++[c])=Β (λk=>(- 1) ^ (-t+k) * (γ.getD k zr c * D (γ.eraseIdx k) t)) (-γ)
 | [],t=>by change F0 (t++[c])=0;unfold F0;simp
 | x::xs,t=>by
  change Lx x (D xs) (t++[c])=_;rw[zu,aa9,ng];let e:Lx x (λu=>D xs (u++[c])) t=Β (λk=>(- 1) ^ (-t+(k+1)) * ((x::xs).getD (k+1) zr c * D ((x::xs).eraseIdx (k+1)) t)) (-xs):=by
   let e1:Lx x (λu=>D xs (u++[c])) t=Lx x (λu=>Β (λk=>((- 1) ^ (-t+(k+1)) * xs.getD k zr c) * D (xs.eraseIdx k) u) (-xs)) t:=by show A7 x (n:=0) t λu hu=>?_;rw[Pr c xs u];show ψ λk _=>?_;rw[<-hu,show -u+1+(k+1)=-u+k+1+1 by omega,Int.pow_succ,Int.pow_succ];grind
   rw[e1,zv x (λk=>(- 1) ^ (-t+(k+1)) * xs.getD k zr c) (λk=>D (xs.eraseIdx k))];show ψ λk _=>?_;simp only[List.getD_cons_succ,List.eraseIdx_cons_succ];change _=(- 1) ^ (-t+(k+1)) * (xs.getD k zr c * Lx x (D (xs.eraseIdx k)) t);grind
  rw[e];simp only[List.getD_cons_zero,List.eraseIdx_cons_zero,Nat.add_zero];omega
def Lq{y:Row}{c:Nat}(hl:-μ=-γ):D (γ++[y]) (μ++[c])=y c * D γ μ - Β (λp=>y (μ.getD p 0) * Β (λk=>fe γ μ p k * γ.getD k zr c) (-γ)) (-γ):=by
 rw[oF,abw];change(- 1) ^ (-γ) * Lx y (D γ) (μ++[c])=_;rw[zu];let e1:Lx y (λt=>D γ (t++[c])) μ= - ((- 1) ^ (-γ) * Β (λp=>y (μ.getD p 0) * Β (λk=>fe γ μ p k * γ.getD k zr c) (-γ)) (-γ)):=by
  let e2:Lx y (λt=>D γ (t++[c])) μ=Lx y (λt=>Β (λk=>(- ((- 1) ^ (-γ+k) * γ.getD k zr c)) * D (γ.eraseIdx k) t) (-γ)) μ:=by show A7 y (n:=0) μ λt ht=>?_;rw[Pr c γ t];show ψ λk _=>?_;rw[<-hl,<-ht,show -t+1+k=-t+k+1 by omega,Int.pow_succ];grind
  rw[e2,zv y (λk=> - ((- 1) ^ (-γ+k) * γ.getD k zr c)) (λk=>D (γ.eraseIdx k))];let e3:Β (λk=> - ((- 1) ^ (-γ+k) * γ.getD k zr c) * Lx y (D (γ.eraseIdx k)) μ) (-γ)=Β (λk=>Β (λp=> - ((- 1) ^ (-γ)) * (y (μ.getD p 0) * (fe γ μ p k * γ.getD k zr c))) (-γ)) (-γ):=by show ψ λk _=>?_;rw[zm,<-Φ,hl];show ψ λp _=>?_;unfold fe;rw[Int.pow_add,Int.pow_add];grind
  rw[e3,dM];let e4:Β (λp=>Β (λk=> - ((- 1) ^ (-γ)) * (y (μ.getD p 0) * (fe γ μ p k * γ.getD k zr c))) (-γ)) (-γ)=Β (λp=> - ((- 1) ^ (-γ)) * (y (μ.getD p 0) * Β (λk=>fe γ μ p k * γ.getD k zr c) (-γ))) (-γ):=by show ψ λp _=>?_;rw[Φ,Φ]
  rw[e4,Φ];grind
 rw[e1,hl];let s:=Qq (-γ);generalize ((- 1:Int) ^ (-γ))=z at *
 generalize Β _ (-γ)=q;grind
def Ln{v:Nat->Int}{e:Int}{k:Nat}(hl:-μ=-γ)(hi:i < -γ)(hk:k < -γ)
  (h:∀p,p < -γ->Β (λj=>v j * γ.getD j zr (μ.getD p 0)) (-γ)=if i=p then e else 0):v k * D γ μ=e * fe γ μ i k:=by
 let a:Β (λp=>Β (λj=>v j * γ.getD j zr (μ.getD p 0)) (-γ) * fe γ μ p k) (-γ)=e * fe γ μ i k:=by rw[jx hi λp hp l9=>by rw[h p hp,if_neg (Ne.symm l9)];simp];rw[h i hi,aaP rfl]
 let b:Β (λp=>Β (λj=>v j * γ.getD j zr (μ.getD p 0)) (-γ) * fe γ μ p k) (-γ)=Β (λj=>v j * Β (λp=>γ.getD j zr (μ.getD p 0) * fe γ μ p k) (-γ)) (-γ):=by
  let e1:Β (λp=>Β (λj=>v j * γ.getD j zr (μ.getD p 0)) (-γ) * fe γ μ p k) (-γ)=Β (λp=>Β (λj=>v j * (γ.getD j zr (μ.getD p 0) * fe γ μ p k)) (-γ)) (-γ):=by show ψ λp _=>?_;rw[abL,<-Φ];show ψ λj _=>?_;grind
  rw[e1,dM];show ψ λj _=>?_;rw[<-Φ]
 rw[<-a,b,jx hk λj hj l9=>by rw[PA hl hj hk,if_neg l9];simp];rw[PA hl hk hk,aaP rfl]
def ind(a k:Nat):Int:=if a=k then 1 else 0
def rv(A:Nat->Row)(n:Nat)(w:Row)(x:Nat):Int:=Β (λk=>w k * A k x) n
def oH(h:a < n):Β (λk=>ind a k * f k) n=f a:=by rw[jx h λi _ l9=>by unfold ind;rw[if_neg (Ne.symm l9)];simp];unfold ind;rw[if_pos rfl];simp
def zw{u v:Row}{a b:Int}(h:∀k,w k=a * u k - b * v k)(x:Nat):rv A n w x=a * rv A n u x - b * rv A n v x:=by
 unfold rv;let e:Β (λk=>w k * A k x) n=Β (λk=>a * (u k * A k x)+(- b) * (v k * A k x)) n:=ψ λk _=>by rw[h k];grind
 rw[e,gY,Φ,Φ];grind
def J7{g:Nat->Int}{u:Nat->Row}(h:∀k,w k=Β (λj=>g j * u j k) r)(x:Nat):rv A n w x=Β (λj=>g j * rv A n (u j) x) r:=by
 unfold rv;let e:Β (λk=>w k * A k x) n=Β (λk=>Β (λj=>g j * (u j k * A k x)) r) n:=ψ λk _=>by rw[h k,abL,<-Φ];show ψ λj _=>by grind
 rw[e,dM];show ψ λj _=>Φ _ _ _
def C1(h:a < n)(x:Nat):rv A n (ind a) x=A a x:=by unfold rv;show oH (f:=λk=>A k x) h
structure St(A:Nat->Row)(n:Nat)(ρ μ:List Nat)(q:Nat->Nat)(d:Int)(W:Nat->Row):Prop where
 lc:-μ=-ρ
 rn:-ρ<=n
 NA:∀i,i < n->q i < n
 zX:∀j,j < -ρ->ρ.getD j 0 < n
 det:D (ρ.map A) μ=d
 wp:∀i,i < -ρ->∀k,W i k=Β (λj=>fe (ρ.map A) μ i j * ind (ρ.getD j 0) k) (-ρ)
 wn:∀i,-ρ<=i->i < n->∀k,W i k=d * ind (q i) k - Β (λp=>A (q i) (μ.getD p 0) * W p k) (-ρ)
 one:∀i p,i < -ρ->p < -ρ->rv A n (W i) (μ.getD p 0)=if i=p then d else 0
section
variable{q:Nat->Nat}
def uQ{j:Nat}(h:j < -ρ):(ρ.map A).getD j zr=A (ρ.getD j 0):=by rw[aae,aat,aad h,aae,aad h];rfl
def St.S4(s:St A n ρ μ q d W)(hi:i < -ρ)(x:Nat):rv A n (W i) x=Β (λj=>fe (ρ.map A) μ i j * A (ρ.getD j 0) x) (-ρ):=by rw[J7 (u:=λj=>ind (ρ.getD j 0)) (s.wp i hi)];show ψ λj hj=>by rw[C1 (s.zX j hj)]
def St.RI(s:St A n ρ μ q d W)(h1:-ρ<=i)(hi:i < n)(x:Nat):rv A n (W i) x=d * A (q i) x - Β (λp=>A (q i) (μ.getD p 0) * rv A n (W p) x) (-ρ):=by
 let h:∀k,W i k=d * ind (q i) k - 1 * Β (λp=>A (q i) (μ.getD p 0) * W p k) (-ρ):=λk=>by rw[s.wn i h1 hi k];omega
 rw[zw h x,C1 (s.NA i hi),J7 (w:=λk=>Β (λp=>A (q i) (μ.getD p 0) * W p k) (-ρ)) (u:=W) (λk=>rfl)];omega
def St.zero(s:St A n ρ μ q d W){p:Nat}(h1:-ρ<=i)(hi:i < n)(hp:p < -ρ):rv A n (W i) (μ.getD p 0)=0:=by
 rw[s.RI h1 hi];let e:Β (λp'=>A (q i) (μ.getD p' 0) * rv A n (W p') (μ.getD p 0)) (-ρ)=A (q i) (μ.getD p 0) * d:=by rw[jx hp λp' y6 l9=>by rw[s.one p' p y6 hp,if_neg l9];simp];rw[s.one p p hp hp,aaP rfl]
 rw[e];grind
def St.head(s:St A n ρ μ q d W)(hr:-ρ < n)(c:Nat):D ((ρ++[q (-ρ)]).map A) (μ++[c])=rv A n (W (-ρ)) c:=by
 rw[abp,s.RI (aaq _) hr];change D (ρ.map A++[A (q (-ρ))]) (μ++[c])=_;rw[Lq (by rw[aah];show s.lc),s.det,aah,abL]
 congr 1
 show ψ λp hp=>?_;rw[s.S4 hp]
 congr 1
 show ψ λk hk=>by rw[uQ hk]
def oU{j:Nat}{l:List Nat}(h:j < -l):(l++[a]).getD j 0=l.getD j 0:=by rw[aae,aaG h,<-aae]
def nU{l:List Nat}:(l++[a]).getD (-l) 0=a:=by simp
def mix(f:Nat->Int)(s:St A n ρ μ q d W)(a L:Int)(g:Nat->Int):
  Β (λj=>(if j < -ρ then a * g j+L * Β (λp=>A (q (-ρ)) (μ.getD p 0) * fe (ρ.map A) μ p j) (-ρ) else - (L * d)) * f ((ρ++[q (-ρ)]).getD j 0)) (-ρ+1)
  =a * Β (λj=>g j * f (ρ.getD j 0)) (-ρ) - L * (d * f (q (-ρ)) - Β (λp=>A (q (-ρ)) (μ.getD p 0) * Β (λj=>fe (ρ.map A) μ p j * f (ρ.getD j 0)) (-ρ)) (-ρ)):=by
 rw[show∀F:Nat->Int,Β F (-ρ+1)=Β F (-ρ)+F (-ρ) fromλ_=>rfl,nU,aaK (ab5 _)]
 let e:Β (λj=>(if j < -ρ then a * g j+L * Β (λp=>A (q (-ρ)) (μ.getD p 0) * fe (ρ.map A) μ p j) (-ρ) else - (L * d)) * f ((ρ++[q (-ρ)]).getD j 0)) (-ρ)
   =Β (λj=>a * (g j * f (ρ.getD j 0))+L * Β (λp=>A (q (-ρ)) (μ.getD p 0) * (fe (ρ.map A) μ p j * f (ρ.getD j 0))) (-ρ)) (-ρ):=by
  show ψ λj hj=>?_;rw[aaP hj,oU hj];let e2:Β (λp=>A (q (-ρ)) (μ.getD p 0) * (fe (ρ.map A) μ p j * f (ρ.getD j 0))) (-ρ)=f (ρ.getD j 0) * Β (λp=>A (q (-ρ)) (μ.getD p 0) * fe (ρ.map A) μ p j) (-ρ):=by rw[<-Φ];show ψ λp _=>by grind
  rw[e2];grind
 rw[e,gY,Φ,Φ,dM (λj p=>A (q (-ρ)) (μ.getD p 0) * (fe (ρ.map A) μ p j * f (ρ.getD j 0)))]
 let e3:Β (λp=>Β (λj=>A (q (-ρ)) (μ.getD p 0) * (fe (ρ.map A) μ p j * f (ρ.getD j 0))) (-ρ)) (-ρ)=Β (λp=>A (q (-ρ)) (μ.getD p 0) * Β (λj=>fe (ρ.map A) μ p j * f (ρ.getD j 0)) (-ρ)) (-ρ):=
  ψ λp _=>Φ _ _ _
 rw[e3];grind
def St.step(s:St A n ρ μ q d W)(hr:-ρ < n)(c:Nat)(d0:d≠0)(h0:rv A n (W (-ρ)) c≠0):
  ∃W':Nat->Row,St A n (ρ++[q (-ρ)]) (μ++[c]) q (rv A n (W (-ρ)) c) W'/\(∀k,W' (-ρ) k=W (-ρ) k)/\
   ∀i,i < n->i≠-ρ->∀k,d * W' i k=rv A n (W (-ρ)) c * W i k - rv A n (W i) c * W (-ρ) k:=by
 let hd:=s.head hr c;generalize hE:rv A n (W (-ρ)) c=E at *
 let lr:-((ρ++[q (-ρ)]).map A)=-ρ+1:=by simp
 let lc':-(μ++[c])=-((ρ++[q (-ρ)]).map A):=by rw[lr];simp[s.lc]
 let cg:∀p,p < -ρ->(μ++[c]).getD p 0=μ.getD p 0:=λp hp=>oU (by rw[s.lc];show hp);let cl:(μ++[c]).getD (-ρ) 0=c:=by rw[<-s.lc];show nU
 let rg:∀j,j < -ρ+1->((ρ++[q (-ρ)]).map A).getD j zr=A ((ρ++[q (-ρ)]).getD j 0):=λj hj=>uQ (by simp;omega);let head:∀j,j < -ρ+1->(if j < -ρ then (0:Int) * 0+(- 1) * Β (λp=>A (q (-ρ)) (μ.getD p 0) * fe (ρ.map A) μ p j) (-ρ) else - ((- 1) * d))=fe ((ρ++[q (-ρ)]).map A) (μ++[c]) (-ρ) j:=λj hj=>by
  have:=Ln (γ:=(ρ++[q (-ρ)]).map A) (μ:=μ++[c]) (v:=λj=>if j < -ρ then (0:Int) * 0+(- 1) * Β (λp=>A (q (-ρ)) (μ.getD p 0) * fe (ρ.map A) μ p j) (-ρ) else - ((- 1) * d)) (e:=E) (i:=-ρ) (k:=j) lc' (by rw[lr];omega) (by rw[lr];show hj) (λp hp=>by
   rw[lr]at hp⊢;let e1:=mix (λa=>A a ((μ++[c]).getD p 0)) s 0 (- 1) (λ_=>0);let e2:Β (λj=>(if j < -ρ then (0:Int) * 0+(- 1) * Β (λp=>A (q (-ρ)) (μ.getD p 0) * fe (ρ.map A) μ p j) (-ρ) else - ((- 1) * d)) * ((ρ++[q (-ρ)]).map A).getD j zr ((μ++[c]).getD p 0)) (-ρ+1)=_:=(ψ λj hj=>by rw[rg j hj]).trans e1;rw[e2];let e3:d * A (q (-ρ)) ((μ++[c]).getD p 0) - Β (λp'=>A (q (-ρ)) (μ.getD p' 0) * Β (λj=>fe (ρ.map A) μ p' j * A (ρ.getD j 0) ((μ++[c]).getD p 0)) (-ρ)) (-ρ)=rv A n (W (-ρ)) ((μ++[c]).getD p 0):=by
    rw[s.RI (aaq _) hr]
    congr 1
    show ψ λp' y6=>by rw[s.S4 y6]
   rw[e3];by_cases FU:p < -ρ
   .rw[cg p FU,s.zero (Nat.le_refl _) hr FU,if_neg ()];simp
   .have:p=-ρ:=()
    subst this
    rw[cl,hE,aaP rfl];omega)
  rw[hd]at this;show abn h0 ?_;rw[<-this];grind
 let hk:∀k,W (-ρ) k=Β (λj=>fe ((ρ++[q (-ρ)]).map A) (μ++[c]) (-ρ) j * ind ((ρ++[q (-ρ)]).getD j 0) k) (-ρ+1):=λk=>by
  let e1:=mix (λa=>ind a k) s 0 (- 1) (λ_=>0);let e2:Β (λj=>fe ((ρ++[q (-ρ)]).map A) (μ++[c]) (-ρ) j * ind ((ρ++[q (-ρ)]).getD j 0) k) (-ρ+1)=_:=(ψ λj hj=>by rw[<-head j hj]).trans e1;rw[e2,s.wn _ (aaq _) hr k];let e3:Β (λp=>A (q (-ρ)) (μ.getD p 0) * W p k) (-ρ)=Β (λp=>A (q (-ρ)) (μ.getD p 0) * Β (λj=>fe (ρ.map A) μ p j * ind (ρ.getD j 0) k) (-ρ)) (-ρ):=ψ λp hp=>by rw[s.wp p hp k]
  rw[e3];omega
 let above:∀i,i < -ρ->∀j,j < -ρ+1->(if j < -ρ then E * fe (ρ.map A) μ i j+rv A n (W i) c * Β (λp=>A (q (-ρ)) (μ.getD p 0) * fe (ρ.map A) μ p j) (-ρ) else - (rv A n (W i) c * d))=d * fe ((ρ++[q (-ρ)]).map A) (μ++[c]) i j:=λi hi j hj=>by
  have:=Ln (γ:=(ρ++[q (-ρ)]).map A) (μ:=μ++[c]) (v:=λj=>if j < -ρ then E * fe (ρ.map A) μ i j+rv A n (W i) c * Β (λp=>A (q (-ρ)) (μ.getD p 0) * fe (ρ.map A) μ p j) (-ρ) else - (rv A n (W i) c * d)) (e:=d * E) (i:=i) (k:=j) lc' (by rw[lr];omega) (by rw[lr];show hj) (λp hp=>by
   rw[lr]at hp⊢;let e1:=mix (λa=>A a ((μ++[c]).getD p 0)) s E (rv A n (W i) c) (λj=>fe (ρ.map A) μ i j);let e2:Β (λj=>(if j < -ρ then E * fe (ρ.map A) μ i j+rv A n (W i) c * Β (λp=>A (q (-ρ)) (μ.getD p 0) * fe (ρ.map A) μ p j) (-ρ) else - (rv A n (W i) c * d)) * ((ρ++[q (-ρ)]).map A).getD j zr ((μ++[c]).getD p 0)) (-ρ+1)=_:=(ψ λj hj=>by rw[rg j hj]).trans e1;rw[e2];let e3:d * A (q (-ρ)) ((μ++[c]).getD p 0) - Β (λp'=>A (q (-ρ)) (μ.getD p' 0) * Β (λj=>fe (ρ.map A) μ p' j * A (ρ.getD j 0) ((μ++[c]).getD p 0)) (-ρ)) (-ρ)=rv A n (W (-ρ)) ((μ++[c]).getD p 0):=by
    rw[s.RI (aaq _) hr]
    congr 1
    show ψ λp' y6=>by rw[s.S4 y6]
   rw[e3,<-s.S4 hi];by_cases FU:p < -ρ
   .rw[cg p FU,s.zero (aaq _) hr FU,s.one i p hi FU];split <;> grind
   .have:p=-ρ:=()
    subst this
    rw[cl,hE,if_neg ()];grind)
  rw[hd]at this;show abn h0 ?_;rw[Int.mul_comm,this];grind
 let abk:∀i,i < -ρ->∀k,d * Β (λj=>fe ((ρ++[q (-ρ)]).map A) (μ++[c]) i j * ind ((ρ++[q (-ρ)]).getD j 0) k) (-ρ+1)=E * W i k - rv A n (W i) c * W (-ρ) k:=λi hi k=>by
  let e1:=mix (λa=>ind a k) s E (rv A n (W i) c) (λj=>fe (ρ.map A) μ i j);let e2:d * Β (λj=>fe ((ρ++[q (-ρ)]).map A) (μ++[c]) i j * ind ((ρ++[q (-ρ)]).getD j 0) k) (-ρ+1)=_:=((Φ _ _ _).symm.trans (ψ λj hj=>by rw[above i hi j hj];grind)).trans e1;rw[e2,s.wn _ (aaq _) hr k,s.wp i hi k];let e3:Β (λp=>A (q (-ρ)) (μ.getD p 0) * W p k) (-ρ)=Β (λp=>A (q (-ρ)) (μ.getD p 0) * Β (λj=>fe (ρ.map A) μ p j * ind (ρ.getD j 0) k) (-ρ)) (-ρ):=ψ λp hp=>by rw[s.wp p hp k]
  rw[e3]
 let  V:Nat->Row:=λi k=>if i=-ρ then W (-ρ) k else Β (λj=>fe ((ρ++[q (-ρ)]).map A) (μ++[c]) i j * ind ((ρ++[q (-ρ)]).getD j 0) k) (-ρ+1)
 let  W':Nat->Row:=λi k=>if i < -ρ+1 then V i k else E * ind (q i) k - Β (λp=>A (q i) ((μ++[c]).getD p 0) * V p k) (-ρ+1)
 let Wr:∀k,W' (-ρ) k=W (-ρ) k:=λk=>by change(if -ρ < -ρ+1 then (if -ρ=-ρ then W (-ρ) k else _) else _)=_;rw[aaP (abY _),aaP rfl]
 let Wi:∀i,i < -ρ->∀k,W' i k=Β (λj=>fe ((ρ++[q (-ρ)]).map A) (μ++[c]) i j * ind ((ρ++[q (-ρ)]).getD j 0) k) (-ρ+1):=λi hi k=>by change(if i < -ρ+1 then (if i=-ρ then _ else _) else _)=_;rw[aaP (),aaK ()]
 let WV:∀p,p < -ρ+1->∀k,W' p k=V p k:=λp hp k=>by change(if p < -ρ+1 then V p k else _)=_;rw[aaP hp]
 let Wn:∀i,-ρ+1<=i->∀k,W' i k=E * ind (q i) k - Β (λp=>A (q i) ((μ++[c]).getD p 0) * W' p k) (-ρ+1):=λi hi k=>by
  change(if i < -ρ+1 then V i k else _)=_;rw[aaK ()]
  congr 1
  show ψ λp hp=>by rw[WV p hp]
 let H:∀i,i < n->i≠-ρ->∀k,d * W' i k=E * W i k - rv A n (W i) c * W (-ρ) k:=λi hi l9 k=>by
  by_cases yu:i < -ρ
  .rw[Wi i yu k];show abk i yu k
  .rw[Wn i () k,s.wn i () hi k,s.RI () hi c];rw[show∀F:Nat->Int,Β F (-ρ+1)=Β F (-ρ)+F (-ρ) fromλ_=>rfl,cl,Wr];let e1:d * Β (λp=>A (q i) ((μ++[c]).getD p 0) * W' p k) (-ρ)=Β (λp=>E * (A (q i) (μ.getD p 0) * W p k)+(- (W (-ρ) k)) * (A (q i) (μ.getD p 0) * rv A n (W p) c)) (-ρ):=by rw[<-Φ];show ψ λp hp=>?_;have:=abk p hp k;rw[cg p hp,Wi p hp k];grind
   rw[gY,Φ,Φ]at e1;grind
 show(W',(by simp[s.lc],by simp;omega,s.NA,λj hj=>?_,hd,λi hi k=>?_,λi h1 hi k=>?_,λi p hi hp=>?_),Wr,H)
 .by_cases hjr:j < -ρ
  .rw[oU hjr];show s.zX j hjr
  .have:j=-ρ:=by simp at hj;omega
   rw[this,nU];show s.NA _ hr
 .rw[show(ρ++[q (-ρ)]).length=-ρ+1 by simp]at hi⊢;by_cases yu:i < -ρ
  .show Wi i yu k
  .have:i=-ρ:=()
   subst this;rw[Wr k];show hk k
 .rw[show(ρ++[q (-ρ)]).length=-ρ+1 by simp]at h1⊢;show Wn i h1 k
 .rw[show(ρ++[q (-ρ)]).length=-ρ+1 by simp]at hi hp;let hrr:∀x,rv A n (W' (-ρ)) x=rv A n (W (-ρ)) x:=λx=>by unfold rv;show ψ λk _=>by rw[Wr k]
  by_cases yu:i < -ρ
  .let X6:d * rv A n (W' i) ((μ++[c]).getD p 0)=E * rv A n (W i) ((μ++[c]).getD p 0) - rv A n (W i) c * rv A n (W (-ρ)) ((μ++[c]).getD p 0):=by have:=zw (A:=A) (n:=n) (w:=λk=>d * W' i k) (u:=W i) (v:=W (-ρ)) (a:=E) (b:=rv A n (W i) c) (λk=>H i () () k) ((μ++[c]).getD p 0);rw[<-this];unfold rv;rw[<-Φ];show ψ λk _=>by grind
   show abn d0 ?_;rw[X6];by_cases FU:p < -ρ
   .rw[cg p FU,s.zero (aaq _) hr FU,s.one i p yu FU];split <;> grind
   .have:p=-ρ:=()
    subst this;rw[cl,hE,if_neg ()];grind
  .have:i=-ρ:=()
   subst this;rw[hrr];by_cases FU:p < -ρ
   .rw[cg p FU,s.zero (aaq _) hr FU,aaK ()]
   .have:p=-ρ:=()
    subst this;rw[cl,hE,aaP rfl]
end
def St.start:St A n [] [] id 1 (λi=>ind i) where
 lc:=rfl
 rn:=acn _
 NA:=λ_ h=>h
 zX:=λ_ h=>aa5 h (ab3 _)
 det:=rfl
 wp:=λ_ h=>aa5 h (ab3 _)
 wn:=λi _ _ k=>by change ind i k=1 * ind i k - 0;omega
 one:=λ_ _ h=>aa5 h (ab3 _)
def St.perm{q:Nat->Nat}(s:St A n ρ μ q d W){π:Nat->Nat}(h1:∀i,i < -ρ->π i=i)(h2:∀i,-ρ<=i->i < n->-ρ<=π i/\π i < n):St A n ρ μ (λi=>q (π i)) d (λi=>W (π i)) where
 lc:=s.lc
 rn:=s.rn
 NA:=λi hi=>s.NA _ (by
  by_cases h:i < -ρ
  .rw[h1 i h];show hi
  .show(h2 i () hi).2)
 zX:=s.zX
 det:=s.det
 wp:=λi hi k=>by change W (π i) k=_;rw[h1 i hi];show s.wp i hi k
 wn:=λi hi hn k=>by
  let(a,b):=h2 i hi hn;have:=s.wn (π i) a b k;rw[this]
  congr 1
  show ψ λp hp=>by rw[h1 p hp]
 one:=λi p hi hp=>by change rv A n (W (π i)) _=_;rw[h1 i hi];show s.one i p hi hp
def Ab(x B:Int):Prop:= - B<=x/\x<=B
def Ab.mul(h:Ab x B)(h':Ab y C):Ab (x * y) (B * C):=by
 let(a,b):=h;let(c,d):=h';let B0:0<=B:=()
 let C0:0<=C:=()
 let hb:x.natAbs<=B.natAbs:=()
 let hc:y.natAbs<=C.natAbs:=()
 let hm:=Nat.mul_le_mul hb hc;rw[<-abX,<-abX]at hm;let p:=ab8 B0 C0;show((),())
def Ab.add(h:Ab x B)(h':Ab y C):Ab (x+y) (B+C):=(by have:=h.1;have:=h'.1;omega,by have:=h.2;have:=h'.2;omega)
def Ab.sub(h:Ab x B)(h':Ab y C):Ab (x - y) (B+C):=(by have:=h.1;have:=h'.2;omega,by have:=h.2;have:=h'.1;omega)
def Ab.mono{C:Int}(h:Ab x B)(h':B<=C):Ab x C:=(by have:=h.1;omega,by have:=h.2;omega)
def Ab.sum{f:Nat->Int}{B:Int}:∀{n:Nat},(∀i,i < n->Ab (f i) B)->Ab (Β f n) (n * B)
 | 0,_=>(by simp[Β],by simp[Β])
 | n+1,h=>by
  let i:=Ab.sum (n:=n) λi hi=>h i ();have:=Ab.add i (h n ());let e:(n:Int) * B+B=((n+1:Nat):Int) * B:=by rw[show((n+1:Nat):Int)=(n:Int)+1 from rfl,Int.add_mul,Int.one_mul]
  rw[e]at this;show this
def Ab.pow{k:Nat}(h:Ab x B):Ab ((- 1) ^ k * x) B:=by
 rcases(by induction k with
  | zero=>show .inl rfl
  | succ k ih=>rw[Int.pow_succ];rcases ih with e| e <;> rw[e] <;> simp:((- 1:Int) ^ k=1\/(- 1:Int) ^ k= - 1)) with e| e
 .rw[e,Int.one_mul];show h
 .rw[e];let(a,b):=h;show((),())
def Ab.det{B:Int}(B0:1<=B):∀(γ:List Row) (μ:List Nat),(∀x∈γ,∀c∈μ,Ab (x c) B)->-μ<=12->Ab (D γ μ) ((12 * B) ^ (-γ))
 | [],μ,_,_=>by
  change Ab (F0 μ) ((12 * B) ^ 0);rw[Int.pow_zero];unfold F0;split
  .show(@_,@_)
  .show(@_,@_)
 | x::γ,μ,h,hl=>by
  change Ab (Lx x (D γ) μ) _;rw[zm,aa9,ack];let P0:(0:Int)<=(12 * B) ^ (-γ):=acH ();let each:∀p,p < -μ->Ab ((- 1) ^ p * (x (μ.getD p 0) * D γ (μ.eraseIdx p))) (B * (12 * B) ^ (-γ)):=λp hp=>by
   show Ab.pow (Ab.mul ?_ (Ab.det B0 γ (μ.eraseIdx p) (λy hy c hc=>h y (aag _ hy) c (acN hc)) ?_))
   .rw[aae,aad hp];show h x aai _ (aax hp)
   .rw[List.length_eraseIdx];split <;> omega
  show(Ab.sum each).mono ?_;let Q0:0<=B * (12 * B) ^ (-γ):=ab8 () P0;have:=abB (show(-μ:Int)<=12 by omega) Q0;show acx this ?_;let e:12 * (B * (12 * B) ^ (-γ))=(12 * B) ^ (-γ) * (12 * B):=by grind
  omega
section
variable{q:Nat->Nat}
structure Bd(A:Nat->Row)(n m:Nat)(B:Int):Prop where
 b1:1<=B
 ab:∀k x,k < n->x < m->Ab (A k x) B
def top(B:Int)(r:Nat):Int:=(12 * B) ^ (r+3)
def xy{b:Nat}(h:1<=B)(UH:a<=b):(12 * B) ^ a<=(12 * B) ^ b:=by
 let(c,rfl):=Nat.exists_eq_add_of_le UH;rw[Int.pow_add];let p:(1:Int)<=(12 * B) ^ c:=by have:0 < (12 * B) ^ c:=Int.pow_pos ();omega
 let q:(0:Int)<=(12 * B) ^ a:=acH ();have:=abq p q;omega
def St.abs(s:St A n ρ μ q d W)(b:Bd A n m B)(hc:∀c∈μ,c < m)(hr:-ρ<=12):
  (∀i k,i < n->Ab (W i k) (top B (-ρ)))/\(∀i x,i < n->x < m->Ab (rv A n (W i) x) (top B (-ρ)))/\Ab d (top B (-ρ)):=by
 let B0:=b.b1;let mem:∀j,j < -ρ->ρ.getD j 0∈ρ:=λj hj=>by rw[aae,aad hj];show aax hj
 let ρn:∀a∈ρ,a < n:=λa ha=>by let(j,hj,e):=abH ha;have:=s.zX j hj;rw[aae,aad hj]at this;rw[<-e];show this
 let ent:∀x∈ρ.map A,∀c∈μ,Ab (x c) B:=λx hx c Cp=>by let(a,ha,rfl):=aaz.mp hx;show b.ab a c (ρn a ha) (hc c Cp)
 let cl:-μ<=12:=by rw[s.lc];show hr
 let hd:Ab d ((12 * B) ^ (-ρ)):=by have:=Ab.det B0 (ρ.map A) μ ent cl;rw[s.det,aah]at this;show this
 let Xc:∀p k,Ab (fe (ρ.map A) μ p k) ((12 * B) ^ (-ρ)):=λp k=>by
  unfold fe;show Ab.pow ((Ab.det B0 _ _ (λx hx c Cp=>ent x (acN hx) c (acN Cp)) ?_).mono (xy B0 ?_))
  .rw[List.length_eraseIdx];split <;> omega
  .rw[List.length_eraseIdx,aah];split <;> omega
 let i1:∀a k,Ab (ind a k) 1:=λa k=>by unfold ind;split <;> show(@_,@_)
 let P0:(0:Int)<=(12 * B) ^ (-ρ):=acH ();let Nv:∀{C:Int},0<=C->(-ρ:Int) * C<=12 * C:=λh=>abB () h;let c1:12 * (12 * B) ^ (-ρ)<=(12 * B) ^ (-ρ+1):=by rw[ack];have:=abq (show(12:Int)<=12 * B by omega) P0;omega
 let wp:∀i k,i < -ρ->Ab (W i k) ((12 * B) ^ (-ρ+1)):=λi k hi=>by rw[s.wp i hi k];show(Ab.sum (B:=(12 * B) ^ (-ρ)) λj hj=>?_).mono (acx (Nv P0) c1);have:=Ab.mul (Xc i j) (i1 (ρ.getD j 0) k);rw[Int.mul_one]at this;show this
 let rp:∀i x,i < -ρ->x < m->Ab (rv A n (W i) x) ((12 * B) ^ (-ρ+1)):=λi x hi hx=>by
  rw[s.S4 hi];let Q0:0<=(12 * B) ^ (-ρ) * B:=ab8 P0 ();show(Ab.sum (B:=(12 * B) ^ (-ρ) * B) λj hj=>Ab.mul (Xc i j) (b.ab _ x (s.zX j hj) hx)).mono (acx (Nv Q0) ?_);rw[ack];have:12 * ((12 * B) ^ (-ρ) * B)=(12 * B) ^ (-ρ) * (12 * B):=by grind
  omega
 let S0:(0:Int)<=(12 * B) ^ (-ρ+1):=acH ();let T0:(0:Int)<=(12 * B) ^ (-ρ+2):=acH ();let c2:12 * (B * (12 * B) ^ (-ρ+1))=(12 * B) ^ (-ρ+2):=by rw[show -ρ+2=-ρ+1+1 from rfl,Int.pow_succ];grind
 let c3:(12 * B) ^ (-ρ+2)+(12 * B) ^ (-ρ+2)<=top B (-ρ):=by unfold top;let e:(12 * B) ^ (-ρ+3)=(12 * B) ^ (-ρ+2) * (12 * B):=ack _ _;rw[e];have:=abq (show(2:Int)<=12 * B by omega) T0;omega
 let c4:(12 * B) ^ (-ρ+1)<=(12 * B) ^ (-ρ+2):=xy B0 ();let c5:(12 * B) ^ (-ρ)<=(12 * B) ^ (-ρ+2):=xy B0 ();let c6:(12 * B) ^ (-ρ) * B<=(12 * B) ^ (-ρ+2):=by show acx ?_ c4;rw[ack];show abq () P0
 let U0:0<=B * (12 * B) ^ (-ρ+1):=ab8 () S0;let Uh:∀p,p < -ρ->μ.getD p 0 < m:=λp hp=>by
  let y6:p < -μ:=by rw[s.lc];show hp
  rw[aae,aad y6];show hc _ (aax y6)
 show(λi k hi=>?_,λi x hi hx=>?_,hd.mono ())
 .by_cases yu:i < -ρ
  .show(wp i k yu).mono ()
  .rw[s.wn i () hi k];let a1:=Ab.mul hd (i1 (q i) k);rw[Int.mul_one]at a1;show(Ab.sub a1 (Ab.sum (B:=B * (12 * B) ^ (-ρ+1)) λp hp=>Ab.mul (b.ab (q i) _ (s.NA i hi) (Uh p hp)) (wp p k hp))).mono ?_;have:=Nv U0;omega
 .by_cases yu:i < -ρ
  .show(rp i x yu hx).mono ()
  .rw[s.RI () hi];show(Ab.sub (Ab.mul hd (b.ab (q i) x (s.NA i hi) hx)) (Ab.sum (B:=B * (12 * B) ^ (-ρ+1)) λp hp=>Ab.mul (b.ab (q i) _ (s.NA i hi) (Uh p hp)) (rp p x hp hx))).mono ?_;have:=Nv U0;omega
end
def dj(n i:Nat):List Int:=(List.range n).map (ind i)
def kF(ls:List (List Int))(f k:Nat):List (List Int):=ls.take f++[ls.getD k []]++(ls.drop f).take (k - f)++ls.drop (k+1)
def dD(l h:List Int)(c:Nat)(d:Int):List Int:=(l.zip h).map λp=>(h.getD c 0 * p.1 - l.getD c 0 * p.2).fdiv d
def aJ(A:Nat->Row)(n m:Nat)(w:Row):List Int:=(List.range m).map (λx=>rv A n w x)++(List.range n).map w
def ag(A:Nat->Row)(n m:Nat)(W:Nat->Row):List (List Int):=(List.range n).map λi=>aJ A n m (W i)
def arr(γ:List (List Int)):Nat->Row:=λk x=>(γ.getD k []).getD x 0
def eW:-(aJ A n m w)=m+n:=by unfold aJ;simp
def ip{x:Nat}(h:x < m):(aJ A n m w).getD x 0=rv A n w x:=by unfold aJ;rw[List.getD_eq_getElem?_getD,List.getElem?_append_left (by simpa using h),List.getElem?_map,List.getElem?_range h];rfl
def k_(h:i < n):(ag A n m W).getD i []=aJ A n m (W i):=by unfold ag;rw[aae,aat,abg h];rfl
def dH:-(ag A n m W)=n:=by unfold ag;simp
def CS{u:Row}(h:∀k,w k=u k):aJ A n m w=aJ A n m u:=by have:w=u:=funext h;rw[this]
def BB{γ:List (List Int)}(hl:∀r∈γ,-r=m):(List.range (-γ)).map (λi=>γ.getD i []++dj (-γ) i)=ag (arr γ) (-γ) m (λi=>ind i):=by
 unfold ag;apply aby;intro i hi;let hi:=abr.mp hi;unfold aJ dj
 congr 1
 let g:γ.getD i []=γ[i]:=by rw[aae,aad hi];rfl
 let ml:=hl γ[i] (aax hi);apply abI
 .rw[g,ml];simp
 .intro x h1 h2;simp only[List.getElem_map,List.getElem_range];rw[C1 hi];unfold arr;rw[aae (l:=γ.getD i []),aad h1];rfl
def jz(r k i:Nat):Nat:=if i < r then i else if i=r then k else if i<=k then i - 1 else i
def zE{r k:Nat}(hr:r<=k)(hk:k < n):kF (ag A n m W) r k=ag A n m (λi=>W (jz r k i)):=by
 unfold kF;rw[k_ hk];unfold ag;apply List.ext_getElem?;intro i;rw[aat];simp only[List.append_assoc];by_cases h1:i < r
 .rw[List.getElem?_append_left (by simp;omega),List.getElem?_take_of_lt h1,List.getElem?_map];rw[abg ()];have:jz r k i=i:=by unfold jz;rw[if_pos h1]
  simp[this]
 .rw[List.getElem?_append_right (by simp;omega)];let lt:-((List.map (λi=>aJ A n m (W i)) (List.range n)).take r)=r:=by simp;omega
  rw[lt];by_cases h2:i=r
  .subst h2;rw[Nat.sub_self,List.getElem?_append_left (by simp)];rw[abg ()];have:jz i k i=k:=by unfold jz;rw[if_neg (Nat.lt_irrefl _),if_pos rfl]
   simp[this]
  .rw[List.getElem?_append_right (by simp;omega)];change(_++_)[i - r - 1]? =_;let l2:-((List.map (λi=>aJ A n m (W i)) (List.range n)).drop r|>.take (k - r))=k - r:=by simp;omega
   by_cases h3:i<=k
   .rw[aaG (by rw[l2];omega),acL (),List.getElem?_drop,aat,abg (),abg ()];have:jz r k i=i - 1:=by unfold jz;rw[if_neg h1,if_neg h2,if_pos h3]
    simp only[Option.map_some,this];rw[show r+(i - r - 1)=i - 1 by omega]
   .rw[aaX (by rw[l2];omega),l2,List.getElem?_drop,aat];rw[show k+1+(i - r - 1 - (k - r))=i by omega];by_cases h4:i < n
    .rw[abg h4];have:jz r k i=i:=by unfold jz;rw[if_neg h1,if_neg h2,if_neg h3]
     simp[this]
    .rw[List.getElem?_eq_none (by simpa using h4)];rfl
def ux{a b:Int}(h:d≠0)(e:d * b=a):a.fdiv d=b:=by rw[<-e];show Int.mul_fdiv_cancel_left b h
def so{c:Nat}{v:Row}(hc:c < m)(d0:d≠0)(h:∀k,d * v k=rv A n u c * w k - rv A n w c * u k):dD (aJ A n m w) (aJ A n m u) c d=aJ A n m v:=by
 let hr:∀x,d * rv A n v x=rv A n u c * rv A n w x - rv A n w c * rv A n u x:=λx=>by have:=zw (A:=A) (n:=n) (w:=λk=>d * v k) (u:=w) (v:=u) (a:=rv A n u c) (b:=rv A n w c) h x;rw[<-this];unfold rv;rw[<-Φ];show ψ λk _=>by grind
 unfold dD;rw[ip hc,ip hc];unfold aJ;rw[List.zip_append (by simp),List.map_append]
 congr 1
 .apply abI
  .simp
  .intro x h1 h2;simp only[List.getElem_map,List.getElem_zip,List.getElem_range];show ux d0 (hr x)
 .apply abI
  .simp
  .intro x h1 h2;simp only[List.getElem_map,List.getElem_zip,List.getElem_range];show ux d0 (h x)
structure Turn(A:Nat->Row)(n:Nat)(col:Nat)(ρ μ:List Nat)(q:Nat->Nat)(d:Int)(W:Nat->Row):Prop where
 st:St A n ρ μ q d W
 d0:d≠0
 cl:∀c∈μ,c < col
 SK:∀i,i < -ρ->q i=ρ.getD i 0
 Se:∀k,k < n->∃i,i < n/\q i=k
 zero:∀i,-ρ<=i->i < n->∀x,x < col->rv A n (W i) x=0
 all:μ=List.range col\/∃x,x < col/\x∉μ
def Turn.start:Turn A n 0 [] [] id 1 (λi=>ind i) where
 st:=St.start
 d0:=@_
 cl:=λ_ h=>nomatch h
 SK:=λ_ h=>aa5 h (ab3 _)
 Se:=λk h=>(k,h,rfl)
 zero:=λ_ _ _ _ h=>aa5 h (ab3 _)
 all:=.inl rfl
section
variable{col:Nat}{q:Nat->Nat}
def Turn.skip(t:Turn A n col ρ μ q d W)(h:∀i,-ρ<=i->i < n->rv A n (W i) col=0):Turn A n (col+1) ρ μ q d W where
 st:=t.st
 d0:=t.d0
 cl:=λc hc=>ab2 (t.cl c hc)
 SK:=t.SK
 Se:=t.Se
 zero:=λi h1 h2 x hx=>by
  by_cases e:x=col
  .rw[e];show h i h1 h2
  .show t.zero i h1 h2 x ()
 all:=.inr (col,abY _,λz=>aa5 (t.cl col z) (ab5 _))
def Turn.move(t:Turn A n col ρ μ q d W){k:Nat}(h1:-ρ<=k)(h2:k < n):Turn A n col ρ μ (λi=>q (jz (-ρ) k i)) d (λi=>W (jz (-ρ) k i)) where
 st:=t.st.perm (λi hi=>by unfold jz;rw[if_pos hi]) λi a b=>by unfold jz;split <;> (try split) <;> (try split) <;> omega
 d0:=t.d0
 cl:=t.cl
 SK:=λi hi=>by change q (jz (-ρ) k i)=_;rw[show jz (-ρ) k i=i by unfold jz;rw[if_pos hi]];show t.SK i hi
 Se:=λj hj=>by
  let(i,hi,e):=t.Se j hj;by_cases a:i < -ρ
  .show(i,hi,by change q (jz (-ρ) k i)=j;rw[show jz (-ρ) k i=i by unfold jz;rw[if_pos a]];show e)
  .by_cases b:i=k
   .show(-ρ,(),by change q (jz (-ρ) k (-ρ))=j;rw[show jz (-ρ) k (-ρ)=k by unfold jz;rw[if_neg (Nat.lt_irrefl _),if_pos rfl],<-b];show e)
   .by_cases c:i < k
    .show(i+1,(),by change q (jz (-ρ) k (i+1))=j;rw[show jz (-ρ) k (i+1)=i by unfold jz;rw[if_neg (),if_neg (),if_pos ()];omega];show e)
    .show(i,hi,by change q (jz (-ρ) k i)=j;rw[show jz (-ρ) k i=i by unfold jz;rw[if_neg a,if_neg (),if_neg ()]];show e)
 zero:=λi a b x hx=>by
  have:-ρ<=jz (-ρ) k i/\jz (-ρ) k i < n:=by unfold jz;split <;> (try split) <;> (try split) <;> omega
  show t.zero _ this.1 this.2 x hx
 all:=t.all
def Turn.step(t:Turn A n col ρ μ q d W)(hr:-ρ < n)(hm:col < m)(h0:rv A n (W (-ρ)) col≠0):
  ∃W',Turn A n (col+1) (ρ++[q (-ρ)]) (μ++[col]) q (rv A n (W (-ρ)) col) W'/\
   ((ag A n m W).take (-ρ)).map (λl=>dD l (aJ A n m (W (-ρ))) col d)++[aJ A n m (W (-ρ))]++((ag A n m W).drop (-ρ+1)).map (λl=>dD l (aJ A n m (W (-ρ))) col d)=ag A n m W':=by
 let(W',s',e1,e2):=t.st.step hr col t.d0 h0;show(W',(s',h0,λc hc=>?_,λi hi=>?_,t.Se,λi a b x hx=>?_,?_),?_)
 .rcases abo.mp hc with z| z
  .show ab2 (t.cl c z)
  .have:c=col:=by simpa using z
   omega
 .by_cases yu:i < -ρ
  .rw[oU yu];show t.SK i yu
  .have:i=-ρ:=by simp at hi;omega
   rw[this,nU]
 .rw[show(ρ++[q (-ρ)]).length=-ρ+1 by simp]at a;let X6:d * rv A n (W' i) x=rv A n (W (-ρ)) col * rv A n (W i) x - rv A n (W i) col * rv A n (W (-ρ)) x:=by have:=zw (A:=A) (n:=n) (w:=λk=>d * W' i k) (u:=W i) (v:=W (-ρ)) (λk=>e2 i b () k) x;rw[<-this];unfold rv;rw[<-Φ];show ψ λk _=>by grind
  show abn t.d0 ?_;rw[X6];by_cases e:x=col
  .subst e;grind
  .rw[t.zero i () b x (),t.zero (-ρ) (Nat.le_refl _) hr x ()];simp
 .rcases t.all with z| ⟨x,a,b⟩
  .left;rw[z,List.range_succ]
  .show .inr (x,(),λz=>?_);rcases abo.mp z with z| z
   .show b z
   .have:x=col:=by simpa using z
    omega
 .unfold ag;rw[<-List.map_take,<-ab7,abf,abf];apply List.ext_getElem?;intro i;simp only[List.append_assoc];let lt:-(List.map ((λl=>dD l (aJ A n m (W (-ρ))) col d) ∘ λi=>aJ A n m (W i)) ((List.range n).take (-ρ)))=-ρ:=by simp;omega
  by_cases h1:i < -ρ
  .rw[aaG (by rw[lt];show h1),aat,aat,acL h1,abg ()];change (!(dD (aJ A n m (W i)) (aJ A n m (W (-ρ))) col d))=!_;rw[so hm t.d0 (e2 i () ())]
  .rw[aaX (by rw[lt];omega),lt,aat];by_cases h2:i=-ρ
   .subst h2;rw[acy,abg hr];change (!(aJ A n m (W (-ρ))))=!(aJ A n m (W' (-ρ)));rw[CS e1]
   .rw[List.getElem?_append_right (by simp;omega)];change(List.map _ ((List.range n).drop (-ρ+1)))[i - -ρ - 1]? =_;rw[aat,List.getElem?_drop,show -ρ+1+(i - -ρ - 1)=i by omega];by_cases h4:i < n
    .rw[abg h4];change (!(dD (aJ A n m (W i)) (aJ A n m (W (-ρ))) col d))=!_;rw[so hm t.d0 (e2 i h4 h2)]
    .rw[List.getElem?_eq_none (by simpa using h4)];rfl
end
section
variable{col:Nat}{q:Nat->Nat}
def Turn.back(t:Turn A n col ρ μ q d W){k y:Nat}(hk:k < n)(hy:y < col):d * A k y=Β (λp=>A k (μ.getD p 0) * rv A n (W p) y) (-ρ):=by
 let(i,hi,e):=t.Se k hk;let s:=t.st;by_cases yu:i < -ρ
 .let ek:k=ρ.getD i 0:=by rw[<-e];show t.SK i yu
  let lr:-(ρ.map A)=-ρ:=aah _;let e1:Β (λp=>A k (μ.getD p 0) * rv A n (W p) y) (-ρ)=Β (λp=>Β (λj=>(A k (μ.getD p 0) * fe (ρ.map A) μ p j) * A (ρ.getD j 0) y) (-ρ)) (-ρ):=ψ λp hp=>by rw[s.S4 hp,<-Φ];show ψ λj _=>by grind
  let e2:Β (λp=>Β (λj=>(A k (μ.getD p 0) * fe (ρ.map A) μ p j) * A (ρ.getD j 0) y) (-ρ)) (-ρ)=Β (λj=>A (ρ.getD j 0) y * Β (λp=>(ρ.map A).getD i zr (μ.getD p 0) * fe (ρ.map A) μ p j) (-ρ)) (-ρ):=by rw[dM];show ψ λj _=>?_;rw[<-Φ];show ψ λp _=>?_;rw[uQ yu,<-ek];grind
  rw[e1,e2];let pa:∀j,j < -ρ->Β (λp=>(ρ.map A).getD i zr (μ.getD p 0) * fe (ρ.map A) μ p j) (-ρ)=if i=j then d else 0:=λj hj=>by have:=PA (γ:=ρ.map A) (μ:=μ) (i:=i) (k:=j) (by rw[lr];show s.lc) (by rw[lr];show yu) (by rw[lr];show hj);rw[lr,s.det]at this;show this
  rw[jx yu λj hj l9=>by rw[pa j hj,if_neg (Ne.symm l9)];simp];rw[pa i yu,if_pos rfl,ek];grind
 .have:=s.RI () hi y;rw[t.zero i () hi y hy,e]at this;omega
def Turn.kernel(t:Turn A n col ρ μ q d W){x:Nat}(hx:x < col)(hf:x∉μ):∃z:Row,z x= - d/\∀k,k < n->Β (λy=>A k y * z y) col=0:=by
 let s:=t.st;let cm:∀i,i < -ρ->μ.getD i 0∈μ:=λi hi=>by
  let Ly:i < -μ:=by rw[s.lc];show hi
  rw[aae,aad Ly];show aax Ly
 show(λy=>Β (λi=>rv A n (W i) x * ind (μ.getD i 0) y) (-ρ) - d * ind x y,?_,λk hk=>?_)
 .let e1:Β (λi=>rv A n (W i) x * ind (μ.getD i 0) x) (-ρ)=0:=jo λi hi=>by unfold ind;rw[if_neg λz=>hf (by rw[<-z];show cm i hi)];simp
  change Β (λi=>rv A n (W i) x * ind (μ.getD i 0) x) (-ρ) - d * ind x x= - d;rw[e1];unfold ind;rw[if_pos rfl];omega
 .let gen:∀f:Row,Β (λy=>f y * (Β (λi=>rv A n (W i) x * ind (μ.getD i 0) y) (-ρ) - d * ind x y)) col=Β (λi=>rv A n (W i) x * f (μ.getD i 0)) (-ρ) - d * f x:=λf=>by
   let e1:Β (λy=>f y * (Β (λi=>rv A n (W i) x * ind (μ.getD i 0) y) (-ρ) - d * ind x y)) col=Β (λy=>Β (λi=>rv A n (W i) x * (ind (μ.getD i 0) y * f y)) (-ρ)+(- d) * (ind x y * f y)) col:=ψ λy _=>by
    have:Β (λi=>rv A n (W i) x * (ind (μ.getD i 0) y * f y)) (-ρ)=f y * Β (λi=>rv A n (W i) x * ind (μ.getD i 0) y) (-ρ):=by rw[<-Φ];show ψ λi _=>by grind
    rw[this];grind
   rw[e1,gY,Φ,oH (f:=f) hx,dM];let e2:Β (λi=>Β (λy=>rv A n (W i) x * (ind (μ.getD i 0) y * f y)) col) (-ρ)=Β (λi=>rv A n (W i) x * f (μ.getD i 0)) (-ρ):=ψ λi hi=>by rw[Φ,oH (f:=f) (t.cl _ (cm i hi))]
   rw[e2];grind
  show abn t.d0 ?_;rw[Int.mul_zero,gen (A k),Int.mul_sub];let b1:=t.back hk hx;let e3:Β (λi=>rv A n (W i) x * A k (μ.getD i 0)) (-ρ)=d * A k x:=by rw[b1];show ψ λi _=>abL _ _
  rw[e3];grind
def Qe(A:Nat->Row)(n u:Nat)(z:Row)(N:Int):Prop:=∀k,k < n->Β (λx=>A k x * z x) u=N * A k u
def Qe.line(h:Qe A n u z N)(w:Row):Β (λx=>rv A n w x * z x) u=N * rv A n w u:=by
 unfold rv;let e1:Β (λx=>Β (λk=>w k * A k x) n * z x) u=Β (λx=>Β (λk=>w k * (A k x * z x)) n) u:=ψ λx _=>by rw[abL,<-Φ];show ψ λk _=>by grind
 rw[e1,dM,<-Φ];show ψ λk hk=>?_;rw[Φ,h k hk];grind
def Turn.rest(t:Turn A n col ρ μ q d W)(hs:Qe A n col z N)(hN:N≠0)(h1:-ρ<=i)(hi:i < n):rv A n (W i) col=0:=by
 have:=hs.line (W i);rw[jo λx hx=>by rw[t.zero i h1 hi x hx];simp]at this;rcases Int.mul_eq_zero.mp this.symm with e| e
 .show aa5 e hN
 .show e
def Turn.told(t:Turn A n col ρ μ q d W)(hc:μ=List.range col)(hs:Qe A n col z N)(hi:i < col):d * z i=N * rv A n (W i) col:=by
 let s:=t.st;let hl:-ρ=col:=by rw[<-s.lc,hc,abu]
 let g:∀p,p < col->μ.getD p 0=p:=λp hp=>by rw[hc,aae,abg hp];rfl
 rw[<-hs.line (W i)]
 rw[jx hi λx hx l9=>by
  have:=s.one i x (by rw[hl];show hi) (by rw[hl];show hx);rw[g x hx,aaK (Ne.symm l9)]at this
  rw[this];simp]
 have:=s.one i i (by rw[hl];show hi) (by rw[hl];show hi);rw[g i hi,aaP rfl]at this;rw[this]
end
def Turn.exists{A:Nat->Row}{n:Nat}:∀col:Nat,∃ρ μ q d W,Turn A n col ρ μ q d W
 | 0=>(_,_,_,_,_,Turn.start)
 | col+1=>by
  let(ρ,μ,q,d,W,t):=Turn.exists (A:=A) (n:=n) col;by_cases h:∃k,-ρ<=k/\k < n/\rv A n (W k) col≠0
  .let(k,h1,h2,h3):=h;let t':=t.move h1 h2;let e:jz (-ρ) k (-ρ)=k:=by unfold jz;rw[if_neg (Nat.lt_irrefl _),if_pos rfl]
   let(W',t2,_):=t'.step (m:=col+1) () () (by change rv A n (W (jz (-ρ) k (-ρ))) col≠0;rw[e];show h3);show(_,_,_,_,_,t2)
  .show(_,_,_,_,_,t.skip λi h1 h2=>?_);by_cases e:rv A n (W i) col=0
   .show e
   .show aa5 (i,h1,h2,e) h
section
variable{col:Nat}{q:Nat->Nat}
def Mu(A:Nat->Row)(n:Nat)(W:Nat->Row)(μ:List Nat)(s k:Nat):Row:=λy=>Β (λi=>rv A n (W i) s * ind (μ.getD i 0) y) k
def Turn.N5(t:Turn A n col ρ μ q d W){x:Nat}(hx:x < col):∀k,k < n->Β (λy=>A k y * (Mu A n W μ x (-μ) y - d * ind x y)) col=0:=λk hk=>by
 let s:=t.st;let cm:∀i,i < -ρ->μ.getD i 0∈μ:=λi hi=>by
  let Ly:i < -μ:=by rw[s.lc];show hi
  rw[aae,aad Ly];show aax Ly
 unfold Mu;rw[s.lc];let gen:∀f:Row,Β (λy=>f y * (Β (λi=>rv A n (W i) x * ind (μ.getD i 0) y) (-ρ) - d * ind x y)) col=Β (λi=>rv A n (W i) x * f (μ.getD i 0)) (-ρ) - d * f x:=λf=>by
  let e1:Β (λy=>f y * (Β (λi=>rv A n (W i) x * ind (μ.getD i 0) y) (-ρ) - d * ind x y)) col=Β (λy=>Β (λi=>rv A n (W i) x * (ind (μ.getD i 0) y * f y)) (-ρ)+(- d) * (ind x y * f y)) col:=ψ λy _=>by
   have:Β (λi=>rv A n (W i) x * (ind (μ.getD i 0) y * f y)) (-ρ)=f y * Β (λi=>rv A n (W i) x * ind (μ.getD i 0) y) (-ρ):=by rw[<-Φ];show ψ λi _=>by grind
   rw[this];grind
  rw[e1,gY,Φ,oH (f:=f) hx,dM];let e2:Β (λi=>Β (λy=>rv A n (W i) x * (ind (μ.getD i 0) y * f y)) col) (-ρ)=Β (λi=>rv A n (W i) x * f (μ.getD i 0)) (-ρ):=ψ λi hi=>by rw[Φ,oH (f:=f) (t.cl _ (cm i hi))]
  rw[e2];grind
 show abn t.d0 ?_;rw[Int.mul_zero,gen (A k),Int.mul_sub];let b1:=t.back hk hx;let e3:Β (λi=>rv A n (W i) x * A k (μ.getD i 0)) (-ρ)=d * A k x:=by rw[b1];show ψ λi _=>abL _ _
 rw[e3];grind
def Turn.VB(t:Turn A n col ρ μ q d W)(h:∀i,-ρ<=i->i < n->rv A n (W i) col=0):Qe A n col (Mu A n W μ col (-μ)) d:=λk hk=>by
 have:=(t.skip h).N5 (x:=col) () k hk;let e:Β (λy=>A k y * (Mu A n W μ col (-μ) y - d * ind col y)) (col+1)=Β (λy=>A k y * (Mu A n W μ col (-μ) y - d * ind col y)) col+A k col * (Mu A n W μ col (-μ) col - d * ind col col):=rfl;let e1:Β (λy=>A k y * (Mu A n W μ col (-μ) y - d * ind col y)) col=Β (λy=>A k y * Mu A n W μ col (-μ) y) col:=ψ λy hy=>by
  have:ind col y=0:=by unfold ind;rw[if_neg ()]
  rw[this];grind
 let e2:Mu A n W μ col (-μ) col=0:=jo λi hi=>by
  let hm:μ.getD i 0∈μ:=by rw[aae,aad hi];show aax hi
  have:ind (μ.getD i 0) col=0:=by unfold ind;rw[if_neg (by have:=t.cl _ hm;omega)]
  rw[this,Int.mul_zero]
 let e3:ind col col=1:=by unfold ind;rw[if_pos rfl]
 rw[e,e1,e2,e3]at this;have:A k col * (0 - d * 1)= - (d * A k col):=by grind
 omega
def St.Yq(s:St A n ρ μ q d W)(b:Bd A n m B)(hc:∀c∈μ,c < m)(hr:-ρ<=12):Ab d ((12 * B) ^ (-ρ)):=by
 let ρn:∀a∈ρ,a < n:=λa ha=>by let(j,hj,e):=abH ha;have:=s.zX j hj;rw[aae,aad hj]at this;rw[<-e];show this
 have:=Ab.det b.b1 (ρ.map A) μ (λx hx c Cp=>by
  let(a,ha,rfl):=aaz.mp hx
  show b.ab a c (ρn a ha) (hc c Cp)) (by rw[s.lc];show hr)
 rw[s.det,aah]at this;show this
end
end Bz
seal L2.JE L2.JT L2.JW L2.JA L2.JS L2.Fe L2.JI L2.JK
local macro_rules| `(tactic| walk_at "vc")=>`(tactic| dsimp only[L2.gN,L2.U4,L2.Vz,L2.U',L2.Sd,L2.OW,L2.sIf,L2.Vt,L2.vg,L2.BD,L2.Ph,L2.BN,L2.kg,L2.Xl,L2.yJ,L2.dC,L2.R9,L2.Kb,L2.T8,L2.Uy,L2.nI,L2.VE,L2.orT,L2.Ts,L2.Vv,L2.dOr,L2.Vu,L2.dIf,L2.qb,List.map_cons,List.map_nil,List.length_cons,List.length_nil,List.cons_append,List.nil_append,List.replicate,List.getElem?_cons_zero,List.getElem?_cons_succ,List.set_cons_zero,List.set_cons_succ,Nat.reduceSub,Nat.reduceAdd,Nat.zero_add])
namespace Pg
open PySem L2
variable{f bW i_ dF bU:Addr}{fd bY jk dE bX:FuncData}{i n m j p:Nat}{M:Ms}{d:Dt}{xs ds:List Dt}{b t E C B:Int}{ns:List Str}{A W:Nat->Bz.Row}{S:Sp}{gs:List Nat}
def top(i:Nat):Stmt:=PySem.Challenge.pw_chanceduel_k44_plans_for_goals.main.body.getD i (.Pass (0,0,0,0))
def cls(i j:Nat):Stmt:=match top i with
 | .ClassDef _ _ _ b _ _ _ _ _ _ _=>b.getD j (.Pass (0,0,0,0))
 | _=>.Pass (0,0,0,0)
abbrev hU:Stmt:=top 9
abbrev pj:Stmt:=top 10
abbrev CT:Stmt:=top 12
abbrev Cn:Stmt:=top 13
abbrev Ed:Stmt:=top 14
abbrev sZ:Stmt:=top 19
abbrev pe:Stmt:=top 20
abbrev iP:Stmt:=top 21
abbrev jS:Stmt:=top 22
abbrev mD:Stmt:=top 23
abbrev uy:Stmt:=top 24
abbrev nL:Stmt:=top 25
abbrev nF:Stmt:=top 29
abbrev pV:Stmt:=top 31
abbrev Dm:Stmt:=top 32
abbrev jI:Stmt:=top 35
abbrev iO:Stmt:=top 36
abbrev k7:Stmt:=top 37
abbrev jW:Stmt:=top 38
abbrev ur:Stmt:=top 39
abbrev mC:Stmt:=top 40
abbrev pK:Stmt:=top 42
abbrev pk:Stmt:=top 44
abbrev mL:Stmt:=top 45
abbrev ph:Stmt:=top 46
abbrev pZ:Stmt:=top 47
abbrev y8:Stmt:=top 48
abbrev kS:Stmt:=top 50
abbrev ud:Stmt:=top 51
abbrev mw:Stmt:=top 52
abbrev Ks:Stmt:=top 53
abbrev mf:Stmt:=top 55
abbrev mZ:Stmt:=top 56
abbrev nu:Stmt:=top 57
abbrev mJ:Stmt:=top 58
abbrev m8:Stmt:=top 59
abbrev mW:Stmt:=top 60
abbrev sM:Stmt:=top 61
abbrev uA:Stmt:=top 62
abbrev rZ:Stmt:=top 63
abbrev ye:Stmt:=top 65
abbrev mK:Stmt:=top 66
abbrev sE:Stmt:=top 67
abbrev nv:Stmt:=top 68
abbrev yA:Stmt:=top 69
abbrev p_:Stmt:=top 70
abbrev uz:Stmt:=top 71
abbrev pY:Stmt:=top 72
abbrev qt:Stmt:=top 73
abbrev jD:Stmt:=top 74
abbrev kY:Stmt:=top 75
abbrev mS:Stmt:=top 76
abbrev o9:Stmt:=top 77
abbrev uH:Stmt:=top 78
abbrev pT:Stmt:=top 79
abbrev pU:Stmt:=top 80
abbrev pL:Stmt:=top 81
abbrev Qs:Stmt:=top 82
abbrev nA:Stmt:=cls 33 0
abbrev nJ:Stmt:=cls 33 1
abbrev kJ:Stmt:=cls 33 2
abbrev mx:Stmt:=cls 33 3
abbrev kj:Stmt:=cls 33 4
abbrev my:Stmt:=cls 33 6
open PySem L2 Fr0 Tx
structure Ev(K:fv)(mg:Str->Option Value)(Cm:Addr):Prop where
 bK:mg "len"=none
 tZ:mg "abs"=none
 bN:mg "isinstance"=none
 EC:mg "int"=none
 wY:mg "bool"=none
 Iy:mg "str"=none
 rM:mg "tuple"=none
 gp:mg "list"=none
 bz:mg "range"=none
 cJ:mg "enumerate"=none
 vZ:mg "any"=none
 wQ:mg "all"=none
 qJ:mg "sum"=none
 A5:mg "zip"=none
 mP:mg "dict"=none
 FL:mg "min"=none
 ib:PySem.W.kitOne K (.type "int") (.type "bool")=!false
 kis:PySem.W.kitOne K (.type "int") (.type "str")=!false
 kts:PySem.W.kitOne K (.type "tuple") (.type "str")=!false
 kti:PySem.W.kitOne K (.type "tuple") (.type "int")=!false
 kls:PySem.W.kitOne K (.type "list") (.type "str")=!false
 kli:PySem.W.kitOne K (.type "list") (.type "int")=!false
 WU:PySem.W.kitOne K (.type "tuple") (.type "list")=!false
 klt:PySem.W.kitOne K (.type "list") (.type "tuple")=!false
 fT:Eh K Cm
 dI:iL K Cm "kept_rows"
 iR:iL K Cm "kept_share"
 D1:∃a o its n,mg "HANDS"=!(.ref a)/\K.lookup a=!o/\o.cls= .type "tuple"/\o.data= .seq its n/\its.size<=sizeLine/\Paired (λ(z:Str) (u:Value)=>∃tk,u= .str z tk) ["one","other"] its.toList
 qF:∃tk,mg "MOST_DOORS"=!(.int 6 tk)
 jR:∃tk,mg "MOST_BOTTOM"=!(.int 1000000 tk)
 n8:∃tk,mg "MOST_PLACES"=!(.int 12 tk)
 hZ:∃tk,mg "MOST_SHARE_BOTTOM"=!(.int 1000 tk)
def uB{K:fv}:PySem.W.kitOne K (.type T) (.type T)=!true:=by unfold PySem.W.kitOne;rw[aaP (beq_self_eq_true _)]
section
variable{P:Program}{w:World}{K:fv}{mg:Str->Option Value}{base:Heap}{Cm:Addr}
def KY:DF:=λds M q _=>match ds with
 | [.int a,.int b]=>q (.int (g a b)) M
 | _=>False
def b8:Γ ["one","other","great","small","rest"] ["one","other"] (τ hU):=.of rfl
def qj(F:de K "common_divisor" "common_divisor" hU f fd)(E:Ev K mg Cm):aC P w K mg base (cI P w) 1 f fd ["one","other"] (da K KY):=by
 show F.d9 b8 (λds M q x h=>?_) (λbI A outer s H E' hr=>(_,(ζ (ω 2 b8.nd (Fm E.tZ (Μ (jv 0) ε)))
   (ζ (ω 3 b8.nd (Fm E.tZ (Μ (jv 1) ε)))
   (ζ (kR (iz hr (jv 3) ν) (ζ (ω 4 b8.nd (bj (jv 2) (jv 3)))
   (ζ (ω 2 b8.nd (jv 3))
   (ι (ω 3 b8.nd (jv 4))))))
   (ι (Α (jv 2)))))),λds M q x h=>?_))
 .unfold KY at h;split at h;· rfl
  .show h.elim
 .unfold KY at h;split at h
  .rename_i a b;show⟨λm ρ M'=>M'=M/\∃(x y:Int) (r:Option Dt),ρ=[!(.int a),!(.int b),!(.int x),!(.int y),r]/\0<=x/\0<=y/\g x y=g a b/\m=y.toNat,(_,rfl,_,_,_,rfl,by split <;> omega,by split <;> omega,PU a b,rfl),?_⟩;rintro m ρ M' ⟨rfl,x,y,r,rfl,hx,hy,e,rfl⟩;show(λhb=>?_,λhb=>?_)
   .let NP:y≠0:=by simpa using hb
    show(_,λρ' M2 h2=>h2,?_);show((),(x % y).toNat,?_,rfl,y,x % y,_,rfl,hy,abK _ NP,?_,rfl)
    .have:=abG x (show 0 < y by omega);have:=abK x NP;omega
    .rw[<-acb x hy,II ()];show e
   .let NP:y=0:=by simpa using hb
    subst NP;rw[J6 hx]at e;subst e;show h
  .show h.elim
def GA{i j:Int}(h:iG j)(l:i.natAbs<=j.natAbs):iG i:=abt l h
def vD:DF:=λds M q _=>match ds with
 | [.int t,.int b]=>iG b/\(b=0->False)/\(b≠0->q (.tup [.int (ay t b).1,.int (ay t b).2]) M)
 | _=>False
def mG:Γ ["top","bottom","divisor"] ["top","bottom"] (τ pj):=.of rfl
def AL(F:de K "fraction" "fraction" pj f fd)(E:Ev K mg Cm)(b6:aD P w K mg base 1 "common_divisor" ["one","other"] KY hX g6):aC P w K mg base (cI P w) 2 f fd ["top","bottom"] (da K vD):=by
 show F.d9 mG (λds M q x h=>?_) (λbI A outer s H E' hr=>(_,(ζ (ah (cX hr (jv 1) ν) (ι h7) Ε)
   (ζ (ω 2 mG.nd (Ω b6 hr ξ (Μ (jv 0) (Μ (jv 1) ε))))
   (ζ (gQ (ah (uL (jv 1) ν) (ι (ω 2 mG.nd (KZ (jv 2)))) Ε))
   (ι (Α (av (δ (C2 (jv 0) (jv 2)) (δ (C2 (jv 1) (jv 2)) ε aV) aV))))))),λds M q x h=>?_))
 .unfold vD at h;split at h;· rfl
  .show h.elim
 .unfold vD at h;split at h
  .rename_i t b;let(hB,h0,h1):=h;show(λhb=>?_,λhb=>?_)
   .show h0 (by simpa using hb)
   .let Wh:b≠0:=by simpa using hb
    show(λρ M'=>M'=M/\ρ=[!(.int t),!(.int b),!(.int (dv t b))],(λhn=>?_,λhn=>?_),?_)
    .let SH:b < 0:=by simpa using hn
     show(rfl,by unfold dv;rw[if_pos SH];rfl)
    .let SH:¬b < 0:=by simpa using hn
     show(rfl,by unfold dv;rw[if_neg SH];rfl)
    .rintro ρ M' ⟨rfl,rfl⟩;let hd:=Fg (t:=t) Wh;let hbd:iG (dv t b):=GA hB (yh Wh);show((hd,hbd),(hd,hbd),fI,h1 Wh)
  .show h.elim
abbrev Fr:=Int×Int
def aI(p:Fr):Dt:=.tup [.int p.1,.int p.2]
def bB(p:Fr):Bool:=decide ((if p.1 < 0 then - p.1 else p.1)<=10 ^ 30)&&decide (p.2<=1000000)
def tP:DF:=λds M q _=>∃p,ds=[aI p]/\q (.bl (bB p)) M
def GU:Γ ["pay"] ["pay"] (τ sZ):=.of rfl
def DY(F:de K "fits_pay" "fits_pay" sZ f fd)(E:Ev K mg Cm):aC P w K mg base (cI P w) 1 f fd ["pay"] (da K tP):=by
 show F.d9 GU (λds M q x h=>?_) (λbI A outer s H E' hr=>(_,(ι (Α (gf (DB (Fm E.tZ (δ (Η (jv 0) ν) ε ba)) (nZ ν ν)) (iK (DB (Η (jv 0) ν) (sI E.jR)))))),λds M q x h=>?_))
 .let(p,rfl,_):=h;rfl
 .let(p,rfl,h):=h;show((@_,@_,@_),λh1=>?_,λh1=>?_)
  .let e:bB p=decide (p.2<=1000000):=by unfold bB;rw[show decide ((if p.1 < 0 then - p.1 else p.1)<=10 ^ 30)=true from h1];rfl
   rw[e]at h;show h
  .let e:bB p=false:=by unfold bB;rw[show decide ((if p.1 < 0 then - p.1 else p.1)<=10 ^ 30)=false from h1];rfl
   rw[e]at h;show h
def rC{ok:Ms->Prop}(h:i6 M d=!(xs, ok)):ok M:=by
 cases d with
 | lst ds=>cases h;trivial
 | fX ns=>cases h;trivial
 | loc k=>
  let h:(match M[k]? with| some (.lst xs)=>!(xs, λM':Ms=>M'[k]? =!(.lst xs))| _=>none)=!(xs, ok):=h;split at h
  .rename_i ys hm;cases h;show hm
  .cases h
 | _=>cases h
def oP{ok:Ms->Prop}(h:i6 M d=!(xs, ok)):kO M d=!(xs, ok):=by
 cases d with
 | lst ds=>cases h;rfl
 | fX ns=>cases h;rfl
 | loc k=>show h
 | _=>cases h
def bF{ρ:En}{ok:Ms->Prop}{q:List Dt->(Ms->Prop)->Ms->Prop}(hv:ρ[i]? =!(!d))(hl:i6 M d=!(xs, ok))(h:q xs ok M):gu (yJ i) ρ M q x:=by unfold gu yJ;rw[hv];change(match kO M d with| some (xs, ok)=>q xs ok M| none=>False);rw[oP hl];show h
def bg{n:Int}{k:Nat}(h:n.natAbs < 2 ^ k)(hk:k<=8000|>2):iG n:=aaR h (aci @_ hk)
def af(t:Int)(p:Fr)(size:Int):Bool:=decide (0<=t)&&(decide (t < size)&&bB p)
def wR:DF:=λds M q _=>∃t p r size,ds=[.tup (.int t::aI p::r),.int size]/\q (.bl (af t p size)) M
def DL:Γ ["door","size"] ["door","size"] (τ pe):=.of rfl
def AK(F:de K "fits_door" "fits_door" pe f fd)(E:Ev K mg Cm)(gK:aD P w K mg base 1 "fits_pay" ["pay"] tP uP sG):aC P w K mg base (cI P w) 2 f fd ["door","size"] (da K wR):=by
 show F.d9 DL (λds M q x h=>?_) (λbI A outer s H E' hr=>(_,(ι (Α (gf (DB ν (Η (jv 0) ν)) (gf (HV (Η (jv 0) ν) (jv 1)) (iK (Ω gK hr ξ (δ (Η (jv 0) ν) ε ba))))))),λds M q x h=>?_))
 .let(t,p,r,size,rfl,_):=h;rfl
 .let(t,p,r,size,rfl,h):=h;walk_at "vc";show χ rfl bc ?_;show(λh1=>?_,λh1=>?_)
  .show χ rfl bc (λh2=>?_,λh2=>?_)
   .show χ rfl (Λ (j:=1) rfl) (p,rfl,?_);let e:af t p size=bB p:=by unfold af;rw[h1,h2];rfl
    rw[<-e];show h
   .let e:af t p size=false:=by unfold af;rw[h1,h2];rfl
    rw[<-e];show h
  .let e:af t p size=false:=by unfold af;rw[h1];rfl
   rw[<-e];show h
abbrev br:=Int×Fr×List Fr
def c_(d:br):Dt:=.tup (.int d.1::aI d.2.1::d.2.2.map aI)
def Ι(ds:List br)(size:Int):Bool:=decide (1<=-ds)&&decide (-ds<=6)&&ds.all λd=>af d.1 d.2.1 size
def tO:DF:=λas M q _=>∃d size ds ok,as=[d,.int size]/\i6 M d=!(ds.map c_, ok)/\-ds<=100/\q (.bl (Ι ds size)) M
def qB:Γ ["doors","size"] ["doors","size"] (τ mD):=.of rfl
def w4(F:de K "fits_doors" "fits_doors" mD f fd)(E:Ev K mg Cm)(nO:aD P w K mg base 2 "fits_door" ["door","size"] wR G9 Hu):aC P w K mg base (cI P w) 3 f fd ["doors","size"] (da K tO):=by
 show F.d9 qB (λds M q x h=>?_) (λbI A outer s H E' hr=>(_,(ζ (ah (JW.jt (jZ (uL (cE E.bK (Μ (jv 0) ε)) ν) (iY (wM (cE E.bK (Μ (jv 0) ε)) (sI E.qF))))) (ι (Α rE)) Ε)
   (ι (Α (JV E.wQ (δ (lS (ys:=["size"]) (Ρ:=[1]) (.of qB rfl rfl rfl) (bC (jv 0)) (λC s H fp=>(Ω nO hr (dc (P:=P) (w:=w)) (Μ (jv 0) (Μ (jv 1) ε))))) ε))))),λds M q x h=>?_))
 .let(d,size,ds,ok,rfl,_):=h;rfl
 .let(d,size,ds,ok,rfl,hl,hz,h):=h;let hs:=kr hl;walk_at "vc";show az hs (λh1=>?_,λh1=>?_)
  .show(λ_=>?_,nofun);let e:Ι ds size=false:=by
    have:(-ds:Int) < 1:=by simpa using h1
    unfold Ι;rw[aaF ()];rfl
   rw[<-e];show h
  .let h1:¬(-ds:Int) < 1:=by simpa using h1
   show az hs (λh2=>?_,λh2=>?_)
   .let e:Ι ds size=false:=by
     have:6 < (-ds:Int):=by simpa using h2
     unfold Ι;rw[aaF (p:=-ds<=6) (),Bool.and_false];rfl
    rw[<-e];show h
   .let h2:¬6 < (-ds:Int):=by simpa using h2
    show bF rfl hl (by rw[aah];show aaH hz @_,?_);show eJ (f:=λd=>.bl (match d with| .tup (.int t:: .tup [.int a,.int b]::_)=>af t (a, b) size| _=>false)) (rC hl) (λx hx q hq=>?_) ?_
    .let(y,_,rfl):=aaz.mp hx;show(y.1,y.2.1,y.2.2.map aI,size,rfl,hq)
    .show(ds.map λd=>af d.1 d.2.1 size,?_,?_)
     .rw[abf,aba,abf];rfl
     .let e:Ι ds size=(ds.map λd=>af d.1 d.2.1 size).all id:=by unfold Ι;rw[aaB (show 1<=-ds by omega),aaB (show -ds<=6 by omega),List.all_map];rfl
      rw[<-e];show h
def bM(cs:List Fr):Int:=cs.foldl (λb c=>b * c.2 / g b c.2) 1
def oJ{c:Int}(hb:0 < b)(hc:0 < c):0 < b * c / g b c/\b * c / g b c<=b * c/\0 < g b c/\g b c<=c:=by
 let hg:0 < g b c:=AA ();let hbc:0 < b * c:=ab4 hb hc;let hd:g b c∣c:=Int.gcd_dvd_right ..;let hle:g b c<=c:=acC hc hd;let h1:c<=b * c:=by have:=abB (show 1<=b by omega) (show 0<=c by omega);simpa using this
 show(Int.ediv_pos_of_pos_of_dvd hbc () (Int.dvd_mul_of_dvd_right hd),?_,hg,hle);show Int.ediv_le_self _ ()
def Qh(cs:List Fr):Prop:=-cs<=12/\∀c∈cs,0 < c.2/\c.2 < 2 ^ 200/\c.1.natAbs < 2 ^ 200
def OkB(cs:List Fr):Prop:=-cs<=13/\∀c∈cs,0 < c.2/\c.2 < 2 ^ 200
def pQ:∀(cs:List Fr) (b:Int) (k:Nat),0 < b->b<=2 ^ (200 * k)->(∀c∈cs,0 < c.2/\c.2 < 2 ^ 200)->0 < cs.foldl (λb c=>b * c.2 / g b c.2) b/\cs.foldl (λb c=>b * c.2 / g b c.2) b<=2 ^ (200 * (k+-cs))
 | [],b,k,h0,h1,_=>(h0,h1)
 | c::cs,b,k,h0,h1,hc=>by
  let(c0,c1):=hc c aai;let(s0,s1,_):=oJ h0 c0;let wI:b * c.2 / g b c.2<=2 ^ (200 * (k+1)):=by show acx s1 ?_;rw[show 200 * (k+1)=200 * k+200 by omega,Int.pow_add];show Int.mul_le_mul h1 (aaT c1) (aaT c0) (aaT (Int.pow_pos @_))
  have:=pQ cs _ (k+1) s0 wI λd hd=>hc d (aag _ hd);rw[ab9,aa9,show k+(-cs+1)=k+1+-cs by omega];show this
def UR{n:Int}{k:Nat}(h0:0<=n)(h:n<=2 ^ k)(hk:k < 8000):iG n:=by
 show bg (k:=k+1) ?_ hk;have:(n.natAbs:Int) < ((2 ^ (k+1):Nat):Int):=by rw[abM h0,Int.natCast_pow,ack];have:(0:Int) < 2 ^ k:=Int.pow_pos @_;change n < 2 ^ k * 2;omega
 show acm.mp this
def fJ:∀(cs:List Fr) (b:Int),0 < b->(∀c∈cs,0 < c.2)->0 < cs.foldl (λb c=>b * c.2 / g b c.2) b
 | [],_,h0,_=>h0
 | c::cs,b,h0,hc=>fJ cs _ (oJ h0 (hc c aai)).1 λd hd=>hc d (aag _ hd)
def Gm{n:Int}{k:Nat}(h0:0<=n)(h:n < 2 ^ k)(hk:k<=8000):iG n:=by
 show bg (k:=k) ?_ hk;have:(n.natAbs:Int) < ((2 ^ k:Nat):Int):=by rw[abM h0,Int.natCast_pow];show h
 show acm.mp this
def i5:DF:=λds M q _=>∃cs:List Fr,ds=[.lst (cs.map aI)]/\OkB cs/\q (.int (bM cs)) M
def eZ:Γ ["chances","bottom","chance"] ["chances"] (τ iP):=.of rfl
def q_(F:de K "common_bottom" "common_bottom" iP f fd)(E:Ev K mg Cm)(b6:aD P w K mg base 1 "common_divisor" ["one","other"] KY hX g6):aC P w K mg base (cI P w) 2 f fd ["chances"] (da K i5):=by
 show F.d9 eZ (λds M q x h=>?_) (λbI A outer s H E' hr=>(_,(ζ (ω 1 eZ.nd ν)
   (ζ (cP (bC (jv 0)) (ai (i:=2) eZ.nd rfl (Or.inl rfl)) aL (ι (ω 1 eZ.nd (cL (dN (jv 1) (Η (jv 2) ν)) (Ω b6 hr ξ (Μ (jv 1) (δ (Η (jv 2) ν) ε ba)))))))
   (ι (Α (jv 1))))),λds M q x h=>?_))
 .let(cs,rfl,_):=h;rfl
 .let(cs,rfl,(hz,hc),h):=h;walk_at "vc";show bF (i:=0) rfl rfl ?_;show bJ (λxs ρ M'=>M'=M/\∃eT rest r,cs=eT++rest/\xs=rest.map aI/\ρ=[!(.lst (cs.map aI)),!(.int (bM eT)),r]) (λ_ _ _ _=>trivial) (λx xs ρ M' hj gc=>?_) (λρ M' hj=>?_) _ _ _ (rfl,[],cs,none,rfl,rfl,rfl)
  .let(rfl,eT,rest,r,e,ex,rfl):=hj;cases rest with
   | nil=>cases ex
   | cons c rest=>
    cases ex;let hd:∀d∈eT,0 < d.2/\d.2 < 2 ^ 200:=λd hd=>by let(a,b):=hc d (by rw[e];show List.mem_append_left _ hd);show(a,b)
    let(c0,c1):=hc c (by rw[e];show aa7 _ aai);let(b0,b1):=pQ eT 1 0 @_ @_ hd;let hl:-eT<=13:=by have:=abm List.length e;rw[aan]at this;omega
    let(s0,s1,g0,g1):=oJ b0 c0;show((UR (aaT b0) b1 (),Gm (aaT c0) c1 @_),(g0,Gm (aaT g0) (abO g1 c1) @_),?_);show gc _ _ (rfl,eT++[c],rest,!(aI c),by rw[e];simp,rfl,?_);let e2:bM (eT++[c])=bM eT * c.2 / g (bM eT) c.2:=by unfold bM;rw[List.foldl_append];rfl
    rw[e2];rfl
  .let(rfl,eT,rest,r,e,ex,rfl):=hj;cases rest with
   | nil=>rw[abw]at e;subst e;show h
   | cons c rest=>cases ex
def Υ(cs:List Fr):Bool:= ! (cs.any λc=>decide (c.1<=0))&&(decide ((cs.map λc=>c.1 * (bM cs / c.2)).sum=bM cs)&&decide (bM cs<=1000000))
def oC:DF:=λds M q _=>∃cs:List Fr,ds=[.lst (cs.map aI)]/\Qh cs/\q (.bl (Υ cs)) M
def dR:Γ ["chances","bottom","whole"] ["chances"] (τ jS):=.of rfl
def um(F:de K "fits_chances" "fits_chances" jS f fd)(E:Ev K mg Cm)(cD:aD P w K mg base 2 "common_bottom" ["chances"] i5 iT iM):aC P w K mg base (cI P w) 3 f fd ["chances"] (da K oC):=by
 show F.d9 dR (λds M q x h=>?_) (λbI A outer s H E' hr=>(_,(ζ (ah (bV (K4 E.vZ (δ (lS (ys:=[]) (Ρ:=[]) (.of dR rfl rfl rfl) (bC (jv 0)) (λC s H fp=>(DB (Η (jv 0) ν) ν))) ε))) (ι (Α rE)) Ε)
   (ζ (ω 1 dR.nd (Ω cD hr ξ (Μ (jv 0) ε)))
   (ζ (ω 2 dR.nd (zS E.qJ (δ (lS (ys:=["bottom"]) (Ρ:=[1]) (.of dR rfl rfl rfl) (bC (jv 0)) (λC s H fp=>(dN (Η (jv 0) ν) (cL (jv 1) (Η (jv 0) ν))))) ε)))
   (ι (Α (gf (Z1 hr (jv 2) (jv 1)) (iK (DB (jv 1) (sI E.jR))))))))),λds M q x h=>?_))
 .let(cs,rfl,_):=h;rfl
 .let(cs,rfl,Io,h):=h;let(hz,hc):=id Io;let PD:-(cs.map aI)<=sizeLine:=by rw[aah];show aaH hz @_
  let(b0,b1):=pQ cs 1 0 @_ @_ λc h=>((hc c h).1,(hc c h).2.1);walk_at "vc";show bF (i:=0) rfl rfl (PD,?_);show eJ (f:=λd=>.bl (match d with| .tup [.int a,.int b]=>decide (a<=0)| _=>false)) trivial (λx hx q hq=>?_) ?_
  .let(y,_,rfl):=aaz.mp hx;show hq
  .show(cs.map λc=>decide (c.1<=0),by rw[abf,aba,abf];rfl,λ_ z=>(nomatch z),λ_ z=>(nomatch z),?_);let ea:(cs.map λc=>decide (c.1<=0)).any id=cs.any λc=>decide (c.1<=0):=by rw[List.any_map];rfl
   rw[ea];show(λh1=>?_,λh1=>?_)
   .let e:Υ cs=false:=by unfold Υ;rw[h1];rfl
    rw[<-e];show h
   .show(cs,rfl,((),λc h=>((hc c h).1,(hc c h).2.1)),?_);walk_at "vc";show bF (i:=0) rfl rfl (PD,?_);show eJ (f:=λd=>.int (match d with| .tup [.int a,.int b]=>a * (bM cs / b)| _=>0)) trivial (λx hx q hq=>?_) ?_
    .let(y,hy,rfl):=aaz.mp hx;let(y0,y1,y2):=hc y hy;show((y0,Gm (aaT y0) y1 @_),(bg y2,?_),hq);show UR (k:=200 * (0+-cs)) (Int.ediv_nonneg (aaT b0) (aaT y0)) (acx (Int.ediv_le_self _ (aaT b0)) b1) ()
    .show(cs.map λc=>c.1 * (bM cs / c.2),by rw[abf,aba,abf];rfl,(_,_,rfl),?_);show(λh2=>?_,λh2=>?_)
     .let e:Υ cs=decide (bM cs<=1000000):=by unfold Υ;rw[h1,h2];rfl
      rw[e]at h;show h
     .let e:Υ cs=false:=by unfold Υ;rw[h1,h2];rfl
      rw[<-e];show h
inductive Rw where
 | fin (p:Fr)
 | υ (k:Str) (ds:List br)
def ο(d:br):Fr:=d.2.2.headD (0, 1)
def gw:Rw->Prop
 | .fin p=>0 < p.2
 | .υ k ds=>k≠"end"/\-ds<=12/\(k="chance"->(∀d∈ds,d.2.2=[ο d])/\Qh (ds.map ο))/\∀d∈ds,-d.2.2<=1/\0 < d.2.1.2
def jY(M:Ms)(d:Dt):Rw->Prop
 | .fin p=>d= .tup [.str "end",aI p]
 | .υ k ds=>∃e ok,d= .tup [.str k,e]/\i6 M e=!(ds.map c_, ok)
def Κ:Rw->Dt
 | .fin p=>.tup [.str "end",aI p]
 | .υ k ds=>.tup [.str k,.lst (ds.map c_)]
def xM(M:Ms)(r:Rw):jY M (Κ r) r:=by
 cases r with
 | fin p=>rfl
 | υ k ds=>show(_,_,rfl,rfl)
def pN(p:Fr):(aI p).under n:=(trivial,trivial,trivial)
def El{n:Nat}:∀(ps:List Fr),Dt.bD n (ps.map aI)
 | []=>trivial
 | p::ps=>(pN p,El ps)
def RS(d:br):(c_ d).under n:=(trivial,pN _,El _)
def fL{n:Nat}:∀(ds:List br),Dt.bD n (ds.map c_)
 | []=>trivial
 | d::ds=>(RS d,fL ds)
def FH(r:Rw):(Κ r).under n:=by
 cases r with
 | fin p=>show(trivial,pN p,trivial)
 | υ k ds=>show(trivial,fL ds,trivial)
def jf{n:Nat}:∀(rs:List Rw),Dt.bD n (rs.map Κ)
 | []=>trivial
 | r::rs=>(FH r,jf rs)
def Ξ(k:Str):Bool:=k=="one"|| k=="other"
def gA(r:Rw)(size:Int):Bool:=match r with
 | .fin p=>bB p
 | .υ k ds=>if Ξ k then Ι ds size else if k="chance" then Ι ds size&&Υ (ds.map ο) else false
def IX{j:Int}{ρ:En}{ok:Ms->Prop}{q:List Dt->(Ms->Prop)->Ms->Prop}(hv:ρ[i]? =!(!(.tup ds)))(hj:ic ds j=!d)(hl:i6 M d=!(xs, ok))(h:q xs ok M):gu (kg cG (yJ i) (dC (.int j))) ρ M q x:=by unfold gu kg yJ;rw[hv];change cG (.tup ds) (.int j) M (λd M1=>match kO M1 d with| some (xs, ok)=>q xs ok M1| none=>False);show χ rfl hj ?_;change(match kO M d with| some (xs, ok)=>q xs ok M| none=>False);rw[oP hl];show h
def Av{k:Str}:S3 (.str k) [.str "one",.str "other"]=Ξ k:=by change((("one":Str)==k)|| ((("other":Str)==k)|| false))=(k=="one"|| k=="other");rw[Bool.or_false,BEq.comm (a:=("one":Str)),BEq.comm (a:=("other":Str))]
def z_:DF:=λas M q _=>∃d r size,as=[d,.int size]/\jY M d r/\gw r/\q (.bl (gA r size)) M
def qk:Γ ["row","size","kind"] ["row","size"] (τ uy):=.of rfl
def DH(F:de K "fits_row" "fits_row" uy f fd) (E:Ev K mg Cm)   (gK:aD P w K mg base 1 "fits_pay" ["pay"] tP uP sG)   (iF:aD P w K mg base 3 "fits_doors" ["doors","size"] tO Co Cc)  {xu:FuncData} (iV:aD P w K mg base 3 "fits_chances" ["chances"] oC yk xu):aC P w K mg base (cI P w) 4 f fd ["row","size"] (da K z_):=by
 show F.d9 qk (λds M q x h=>?_) (λbI A outer s H E' hr=>(_,(ζ (ω 2 qk.nd (Η (jv 0) ν))
   (ζ (ah (cX hr (jv 2) dX) (ι (Α (Ω gK hr ξ (δ (Η (jv 0) ν) ε ba)))) Ε)
   (ζ (ah (xk (jv 2) (Po E.D1)) (ι (Α (Ω iF hr ξ (δ (Η (jv 0) ν) (Μ (jv 1) ε) ba)))) Ε)
   (ζ (ah (cX hr (jv 2) dX) (ι (Α (gf (Ω iF hr ξ (δ (Η (jv 0) ν) (Μ (jv 1) ε) ba)) (iK (Ω iV hr ξ (δ (lS (ys:=[]) (Ρ:=[]) (.of qk rfl rfl rfl) (bC (Η (jv 0) ν)) (λC s H fp=>(Η (jv 0) ν))) ε)))))) Ε)
   (ι (Α rE)))))),λds M q x h=>?_))
 .let(d,r,size,rfl,_):=h;rfl
 .let(d,r,size,rfl,ra,ro,h):=h;cases r with
  | fin p=>
   let ra:d= .tup [.str "end",aI p]:=ra;subst ra;show(λ_=>(p,rfl,h),nofun)
  | υ k ds=>
   let(e,ok,rfl,hl):=ra;let(hk,hz,BL,_):=ro;show(λz=>aa5 (aaW z) hk,λ_=>?_);show(.str k,[.str "one",.str "other"],[.str "one",.str "other"],rfl,rfl,rfl,?_);rw[Av];show(λh1=>?_,λh1=>?_)
   .show(e,size,ds,ok,rfl,hl,(),?_);let e1:gA (.υ k ds) size=Ι ds size:=by change(if Ξ k then _ else _)=_;rw[aaP h1]
    rw[<-e1];show h
   .let e1:gA (.υ k ds) size=if k="chance" then Ι ds size&&Υ (ds.map ο) else false:=by change(if Ξ k then _ else _)=_;rw[aaK (by rw[h1];decide)]
    rw[e1]at h;show(λh2=>?_,λh2=>?_)
    .let h2:k="chance":=aaW h2;rw[aaP h2]at h;let(qT,Io):=BL h2;show(e,size,ds,ok,rfl,hl,(),λh3=>?_,λh3=>?_)
     .rw[h3,Bool.true_and]at h;change gu _ _ _ _ _;show IX (i:=0) (j:=1) (ds:=[.str k,e]) rfl (Λ (j:=1) rfl) hl (by rw[aah];show aaH hz @_,?_);show eJ (f:=λd=>match d with| .tup [_,_,c]=>c| _=>.aZ) (rC hl) (λx hx q hq=>?_) ?_
      .let(y,hy,rfl):=aaz.mp hx;let ey:c_ y= .tup [.int y.1,aI y.2.1,aI (ο y)]:=by unfold c_;rw[qT y hy];rfl
       rw[ey]at hq⊢;show hq
      .show(ds.map ο,?_,Io,h);rw[aba,abf,abf];have:∀y∈ds,((λd=>match d with| Dt.tup [_,_,c]=>c| _=>Dt.aZ) ∘ c_) y=(aI ∘ ο) y:=λy hy=>by
        let ey:c_ y= .tup [.int y.1,aI y.2.1,aI (ο y)]:=by unfold c_;rw[qT y hy];rfl
        change(match c_ y with| Dt.tup [_,_,c]=>c| _=>Dt.aZ)=aI (ο y);rw[ey]
       rw[aby this]
     .rw[h3,Bool.false_and]at h;show h
    .let h2:k≠"chance":=abh h2;rw[aaK h2]at h;show h
def nc:DF:=λas M q _=>∃d r,as=[d]/\jY M d r/\gw r/\match r with
 | .fin p=>q (.tup [.str "end",aI p]) M
 | .υ k ds=>q (.tup [.str k,.loc (-M)]) (M++[.lst (ds.map c_)])
def An:Γ ["row"] ["row"] (τ nL):=.of rfl
def ya(F:de K "copied_row" "copied_row" nL f fd)(E:Ev K mg Cm):aC P w K mg base (cI P w) 1 f fd ["row"] (da K nc):=by
 show F.d9 An (λds M q x h=>?_) (λbI A outer s H E' hr=>(_,(ζ (ah (cX hr (Η (jv 0) ν) dX) (ι (Α (av (δ (Η (jv 0) ν) (δ (Η (jv 0) ν) ε ba) ba)))) Ε)
   (ι (Α (av (δ (Η (jv 0) ν) (δ (mz E.gp (δ (Η (jv 0) ν) ε ba)) ε aS) ba))))),λds M q x h=>?_))
 .let(d,r,rfl,_):=h;rfl
 .let(d,r,rfl,ra,ro,h):=h;cases r with
  | fin p=>
   let ra:d= .tup [.str "end",aI p]:=ra;subst ra;show(λ_=>(fI,h),nofun)
  | υ k ds=>
   let(e,ok,rfl,hl):=ra;show(λz=>aa5 (aaW z) ro.1,λ_=>?_);change(match iX M e with| some xs=>_| none=>False);rw[kr hl];show(fI,h)
def jm(p:Fr):Bool:=decide (0<=p.1)&&(decide (p.1 < p.2)&&decide (p.2<=1000))
def sf:DF:=λas M q _=>∃p,as=[aI p]/\q (.bl (jm p)) M
def Bo:Γ ["share"] ["share"] (τ nF):=.of rfl
def yP(F:de K "fits_share" "fits_share" nF f fd)(E:Ev K mg Cm):aC P w K mg base (cI P w) 1 f fd ["share"] (da K sf):=by
 show F.d9 Bo (λds M q x h=>?_) (λbI A outer s H E' hr=>(_,(ι (Α (gf (DB ν (Η (jv 0) ν)) (gf (HV (Η (jv 0) ν) (Η (jv 0) ν)) (iK (DB (Η (jv 0) ν) (sI E.hZ))))))),λds M q x h=>?_))
 .let(p,rfl,_):=h;rfl
 .let(p,rfl,h):=h;unfold jm at h;show(λh1=>(λh2=>?_,λh2=>?_),λh1=>?_)
  .rw[show decide (0<=p.1)=true from h1,show decide (p.1 < p.2)=true from h2]at h;show h
  .rw[show decide (0<=p.1)=true from h1,show decide (p.1 < p.2)=false from h2]at h;show h
  .rw[show decide (0<=p.1)=false from h1]at h;show h
def OK{c S:Int}(hb:b∣S)(hc:c∣S)(Wh:0 < b)(hc0:0 < c):b * c / g b c∣S/\b∣b * c / g b c/\c∣b * c / g b c:=by
 let e:b * c / g b c=(Int.lcm b c:Nat):=by
  let h:=Int.gcd_mul_lcm b c;let hg:0 < g b c:=AA ();let h2:((Int.gcd b c:Nat):Int) * ((Int.lcm b c:Nat):Int)=b * c:=by rw[<-Int.natCast_mul,h,Int.natCast_mul,abM (aaT Wh),abM (aaT hc0)]
  rw[<-h2];show Int.mul_ediv_cancel_left _ (by unfold g at hg;omega)
 rw[e];show(Int.coe_lcm_dvd hb hc,Int.dvd_lcm_left ..,Int.dvd_lcm_right ..)
def g7:∀(cs:List Fr) (b S:Int),0 < b->b∣S->(∀c∈cs,0 < c.2/\c.2∣S)->cs.foldl (λb c=>b * c.2 / g b c.2) b∣S/\b∣cs.foldl (λb c=>b * c.2 / g b c.2) b/\∀c∈cs,c.2∣cs.foldl (λb c=>b * c.2 / g b c.2) b
 | [],b,S,_,h,_=>(h,Int.dvd_refl b,λc hc=>nomatch hc)
 | c::cs,b,S,h0,h,hc=>by
  let(c0,cS):=hc c aai;let(d1,d2,d3):=OK h cS h0 c0;let(i1,i2,i3):=g7 cs _ S (oJ h0 c0).1 d1 λx hx=>hc x (aag _ hx);rw[ab9];show(i1,Int.dvd_trans d2 i2,λx hx=>?_);rcases aaS.mp hx with rfl| hx
  .show Int.dvd_trans d3 i2
  .show i3 x hx
def qP(m:Int)(f:Int->Int):∀(ws:List Int),(ws.map λw=>m * f w).sum=m * (ws.map f).sum
 | []=>by simp
 | w::ws=>by simp only[List.map_cons,List.sum_cons];rw[qP m f ws,Int.mul_add]
def J2(h:0 < b):(ay t b).2∣b:=by let(p,q,e,_,_,_,eb):=gJ (t:=t) (show b≠0 by omega);rw[e];show(dv t b,by change b=q * dv t b;rw[abL];show eb)
def BF(ht:0 < t)(h:0 < b):0 < (ay t b).1:=by let hc:=dh (t:=t) (show b≠0 by omega);let hp:=cW (t:=t) (show b≠0 by omega);let h1:0 < t * (ay t b).2:=ab4 ht hp;rw[hc]at h1;show Int.pos_of_mul_pos_right h1 h|> λz=>z
def tL{ws:List Int}{S:Int}(hS:ws.sum=S)(hw:∀w∈ws,0 < w)(hn:ws≠[])(hS1:S<=1000000)(hz:-ws<=12):Υ (ws.map λw=>ay w S)=true/\Qh (ws.map λw=>ay w S):=by
 let pos:∀{l:List Int},(∀w∈l,0 < w)->0<=l.sum/\(l≠[]->0 < l.sum)/\∀w∈l,w<=l.sum:=by
  intro l
  induction l with
  | nil=>exactλ_=>(by simp,λz=>absurd rfl z,λw hw=>nomatch hw)
  | cons a l ih=>
   intro h;let(i1,i2,i3):=ih λw hw=>h w (aag _ hw);have:=h a aai;rw[List.sum_cons];show((),λ_=>(),λw hw=>?_);rcases aaS.mp hw with rfl| hw
   .omega
   .have:=i3 w hw;omega
 let(_,p2,p3):=pos hw;let S0:0 < S:=by rw[<-hS];show p2 hn
 let SW:S≠0:=()
 let hd:∀c∈ws.map (λw=>ay w S),0 < c.2/\c.2∣S:=λc hc=>by let(w,_,rfl):=aaz.mp hc;show(cW SW,J2 S0)
 let((m,hm),_,hB):=g7 (ws.map λw=>ay w S) 1 S @_ (Int.one_dvd _) hd;let B0:0 < bM (ws.map λw=>ay w S):=by show(fJ (ws.map λw=>ay w S) 1 @_ λc hc=>(hd c hc).1)
 generalize hBd:bM (ws.map λw=>ay w S)=B at *
 let hm:S=B * m:=by rw[<-hBd];show hm
 let m0:0 < m:=by
  rcases Int.lt_trichotomy m 0 with h| h| h
  .have:=acI B0 h;omega
  .rw[h,Int.mul_zero]at hm;omega
  .show h
 let key:((ws.map λw=>ay w S).map λc=>c.1 * (B / c.2)).sum=B:=by
  let e1:∀w∈ws,m * ((ay w S).1 * (B / (ay w S).2))=w:=λw hw=>by
   let hb:(ay w S).2∣B:=by rw[<-hBd];show hB _ (aaz.mpr (w,hw,rfl))
   let(k,hk):=hb;let q0:=cW (t:=w) SW;let e2:B / (ay w S).2=k:=by rw[hk];show abW _ ()
   let hc:=dh (t:=w) SW;rw[e2];let hS':S=(ay w S).2 * k * m:=by rw[<-hk];show hm
   generalize (ay w S).1=x at *
   generalize (ay w S).2=y at *
   let e4:S * x=y * (m * (x * k)):=by rw[hS'];simp only[Int.mul_assoc,Int.mul_comm,Int.mul_left_comm]
   let e3:y * (m * (x * k))=y * w:=by rw[<-e4,<-hc,abL]
   show abn () e3
  let e5:m * ((ws.map λw=>ay w S).map λc=>c.1 * (B / c.2)).sum=m * B:=by rw[abf];change m * (ws.map λw=>(ay w S).1 * (B / (ay w S).2)).sum=m * B;rw[<-qP,aby e1,List.map_id',hS,hm,abL]
  show abn () e5
 show(?_,(by rw[aah];show hz,λc hc=>?_))
 .unfold Υ;rw[hBd,key];let ha:((ws.map λw=>ay w S).any λc=>decide (c.1<=0))=false:=by rw[List.any_eq_false];intro c hc;let(w,Xg,rfl):=aaz.mp hc;have:=BF (hw w Xg) S0;simpa using this
  let hle:B<=S:=by have:=abq (show 1<=m by omega) (aaT B0);rw[Int.mul_one,<-hm]at this;show this
  rw[ha,aaB rfl,aaB (show B<=1000000 by omega)];rfl
 .let(w,Xg,rfl):=aaz.mp hc;let q0:=cW (t:=w) SW;let l1:=Ao (t:=w) SW;let l2:=uC (t:=w) SW;have:=p3 w Xg;let w0:=hw w Xg;let big:(1000000:Int) < 2 ^ 200:=@_
  let acR:1000000 < 2 ^ 200:=@_
  show(q0,(),())
def cQ{α:Type}{te:DE}{cs:En}{ok:Ms->Prop}{F:Dt->α->Prop}{f:α->Dt}{M:Ms}{k:List Dt->Ms->Prop}(ho:ok M)(ht:∀x a,F x a->∀q:DQ,q (f a) M->te ((!x)::cs) M q k8):∀{xs:List Dt} {as:List α} {acc:List Dt},Paired F xs as->k (acc++as.map f) M->qz te cs ok xs acc M k
 | _,_,acc,.nil,h=>(ho,by simpa using h)
 | _,_,acc,.cons r t,h=>(ho,ht _ _ r _ (cQ ho ht t (by simpa using h)))
def Af{k:Nat}{C:Addr}{ys:List Dt}{ok:Ms->Prop}(hk:M[k]? =!(.ins C ns xs))(h:i6 M e=!(ys, ok)):i6 (M.set k (.ins C' ns' xs')) e=!(ys, ok):=by
 cases e with
 | lst ds=>show h
 | fX ns=>show h
 | loc j=>
  let h:(match M[j]? with| some (.lst xs)=>!(xs, λM':Ms=>M'[j]? =!(.lst xs))| _=>none)=!(ys, ok):=h;let ne:k≠j:=λz=>by subst z;rw[hk]at h;cases h
  change(match (M.set k (.ins C' ns' xs'))[j]? with| some (.lst xs)=>!(xs, λM':Ms=>M'[j]? =!(.lst xs))| _=>none)=!(ys, ok);rw[abv ne];show h
 | _=>cases h
def HB{k:Nat}{C:Addr}(hk:M[k]? =!(.ins C ns xs))(h:jY M d r):jY (M.set k (.ins C' ns' xs')) d r:=by
 cases r with
 | fin p=>show h
 | υ k' ds=>
  let(e,ok,h1,h2):=h;show(e,ok,h1,Af hk h2)
def HX{C:Addr}{f:Str}{ρ:En}{ok:Ms->Prop}{q:List Dt->(Ms->Prop)->Ms->Prop}(hv:ρ[i]? =!(!d))(ho:NH C M d ns ds)(hf:(ns.zip ds).lookup f=!v)(hl:i6 M v=!(xs, ok))(h:q xs ok M):gu (SR C f (yJ i)) ρ M q x:=by unfold gu SR yJ;rw[hv];show(ns,ds,v,ho,hf,?_);change(match kO M v with| some (xs, ok)=>q xs ok M| none=>False);rw[oP hl];show h
def aF(C:Addr)(θ:Fr)(γ:List Rw):Dt:=.obj C ["kept_share","kept_rows"] [aI θ,.lst (γ.map Κ)]
def LK(Cm:Addr):DF:=λas M q _=>∃k d θ ds γ ok,as=[.loc k,aI θ,d]/\M[k]? =!(.ins Cm [] [])/\i6 M d=!(ds, ok)/\Paired (jY M) ds γ/\jm θ=true/\1<=-γ/\-γ<=12/\
 (∀r∈γ,gw r/\gA r (-γ)=true)/\q .aZ (M.set k (.ins Cm ["kept_share","kept_rows"] [aI θ,.lst (γ.map Κ)]))
def iy:Γ ["self","share","rows","place","row"] ["self","share","rows"] (τ nA):=.of rfl
def yi(F:de K "__init__" "Floor.__init__" nA f fd)(E:Ev K mg Cm)(ku:aD P w K mg base 1 "fits_share" ["share"] sf Dr Cs)(oZ:aD P w K mg base 4 "fits_row" ["row","size"] z_ Ku Jh)(eO:aD P w K mg base 1 "copied_row" ["row"] nc nN mi):aC P w K mg base (cI P w) 5 f fd ["self","share","rows"] (da K (LK Cm)):=by
 show F.d9 iy (λds M q x h=>?_) (λbI A outer s H E' hr=>(_,(ζ (ah (dQ (bV (Ω ku hr ξ (Μ (jv 1) ε)))) (ι h7) Ε)
   (ζ (ah (JW.jt (jZ (uL (cE E.bK (Μ (jv 2) ε)) ν) (iY (wM (cE E.bK (Μ (jv 2) ε)) (sI E.n8))))) (ι h7) Ε)
   (ζ (cP (oW E.cJ (Μ (jv 2) ε)) (km rfl (bt (ai (i:=3) iy.nd rfl (Or.inl rfl)) (bt (ai (i:=4) iy.nd rfl (Or.inl rfl)) iu))) mV (ι (ah (dQ (bV (Ω oZ hr ξ (Μ (jv 4) (δ (cE E.bK (Μ (jv 2) ε)) ε aS))))) (ι h7) Ε)))
   (ζ (EH E.fT E.iR (jv 0) (jv 1))
   (ι (EH E.fT E.dI (jv 0) (lS (ys:=[]) (Ρ:=[]) (.of iy rfl rfl rfl) (bC (jv 2)) (λC s H fp=>(bZ (Ω eO hr (dc (P:=P) (w:=w)) (Μ (jv 0) ε))))))))))),λds M q x h=>?_))
 .let(k,d,θ,ds,γ,ok,rfl,_):=h;rfl
 .let(k,d,θ,ds,γ,ok,rfl,hk,hl,hp,hs,h1,h12,rD,h):=h;let hlen:-ds=-γ:=Paired.length hp;walk_at "vc";show(θ,rfl,λz=>?_,λ_=>?_)
  .rw[hs]at z;show nomatch z
  let TF:=kr hl;show az TF (λz=>?_,λ_=>?_)
  .have:(-ds:Int) < 1:=by simpa using z
   omega
  show az TF (λz=>?_,λ_=>?_)
  .have:12 < (-ds:Int):=by simpa using z
   omega
  show(d,ds,ok,rfl,hl,?_);show bJ (λxs ρ M'=>M'=M/\∃n Kn Fd a b,xs=iq n Kn/\Paired (jY M) Kn Fd/\(∀r∈Fd,r∈γ)/\ρ=[!(.loc k),!(aI θ),!d,a,b]) (λxs ρ M' hj=>by let(rfl,_):=hj;show rC hl) (λx xs ρ M' hj gc=>?_) (λρ M' hj=>?_) _ _ _ (rfl,0,ds,γ,none,none,rfl,hp,λ_ h=>h,rfl)
  .let(rfl,n,Kn,Fd,a,b,ex,y6,W9,rfl):=hj;cases y6 with
   | nil=>cases ex
   | cons ra t=>
    rename_i d1 r1 ds1 VC;cases ex;show az TF (d1,r1,-ds,rfl,ra,(rD r1 (W9 r1 aai)).1,λz=>?_,λ_=>?_)
    .rw[hlen,(rD r1 (W9 r1 aai)).2]at z;show nomatch z
    .show gc _ _ (rfl,n+1,ds1,VC,_,_,rfl,t,λr hr=>W9 r (aag _ hr),rfl)
  .let(rfl,n,Kn,Fd,a,b,ex,y6,W9,rfl):=hj;let hkl:k < -M':=(aam.mp hk).1;show(k,[],[],rfl,hk,(nofun),@_,?_);let XI:=Af (C':=Cm) (ns':=["kept_share"]) (xs':=[aI θ]) hk hl;dsimp only[O9,List.nil_append];change gu _ _ _ _ _;show bF (i:=2) rfl XI (by rw[hlen];show aaH h12 @_,?_);let hp2:Paired (λx a=>jY (M'.set k (.ins Cm ["kept_share"] [aI θ])) x a/\gw a) ds γ:=by
    have:∀{xs:List Dt} {rs:List Rw},Paired (jY M') xs rs->(∀r∈rs,gw r)->Paired (λx a=>jY (M'.set k (.ins Cm ["kept_share"] [aI θ])) x a/\gw a) xs rs:=by
     intro xs rs hp
     induction hp with
     | nil=>exactλ_=>.nil
     | cons r t ih=>exactλh=>.cons (HB hk r,h _ aai) (ih λy hy=>h y (aag _ hy))
    show this hp λr hr=>(rD r hr).1
   show cQ (f:=Κ) (rC XI) (λx a ha q' hq=>?ht) hp2 ?fin
   case ht=>
    let(ha,ho):=ha;show(x,a,rfl,ha,ho,?_);cases a with
    | fin p=>show Ou (trivial,pN p,trivial) hq
    | υ k2 qS=>show gT (.tup (.cons (.old trivial) (.cons (.u6 (Nat.le_refl _) (by simp) (gm.old (fL qS))) .nil))) hq
   case fin=>
    show(k,["kept_share"],[aI θ],rfl,by rw[abD hkl],@_,@_,?_);rw[List.set_set];show h
def kindOf:Rw->Str
 | .fin _=>"end"
 | .υ k _=>k
def aE:Rw->List br
 | .fin _=>[]
 | .υ _ ds=>ds
def oR:Nat->List Rw->List Dt
 | _,[]=>[]
 | n,.fin p::r=>.tup [.str "end",aI p]::oR n r
 | n,.υ k _::r=>.tup [.str k,.loc n]::oR (n+1) r
def l3:List Rw->Ms
 | []=>[]
 | .fin _::r=>l3 r
 | .υ _ ds::r=>.lst (ds.map c_)::l3 r
def jO{γ:List Rw}(h:γ[i]? =!r):(γ.map Κ)[i]? =!(Κ r):=by rw[aat,h];rfl
def Cu:∃e,Κ r= .tup [.str (kindOf r),e]:=by
 cases r with
 | fin p=>show(_,rfl)
 | υ k ds=>show(_,rfl)
def r_(C:Addr):DF:=λas M q _=>∃θ γ,as=[aF C θ γ]/\q (.int (-γ)) M
def Bl:Γ ["self"] ["self"] (τ nJ):=.of rfl
def xS(F:de K "size" "Floor.size" nJ f fd)(E:Ev K mg Cm):aC P w K mg base (cI P w) 1 f fd ["self"] (da K (r_ Cm)):=by
 show F.d9 Bl (λds M q x h=>?_) (λbI A outer s H E' hr=>(_,(ι (Α (cE E.bK (δ (zM E.fT E.dI (jv 0)) ε)))),λds M q x h=>?_))
 .let(θ,γ,rfl,_):=h;rfl
 .let(θ,γ,rfl,h):=h;show(_,_,_,.inl rfl,rfl,?_);change fi [.lst (γ.map Κ)] M _;show az (xs:=γ.map Κ) rfl ?_;rw[aah];show h
def KH(C:Addr):DF:=λas M q _=>∃θ γ,as=[aF C θ γ]/\q (aI θ) M
def zj:Γ ["self"] ["self"] (τ kJ):=.of rfl
def u7(F:de K "share" "Floor.share" kJ f fd)(E:Ev K mg Cm):aC P w K mg base (cI P w) 1 f fd ["self"] (da K (KH Cm)):=by
 show F.d9 zj (λds M q x h=>?_) (λbI A outer s H E' hr=>(_,(ι (Α (zM E.fT E.iR (jv 0)))),λds M q x h=>?_))
 .let(θ,γ,rfl,_):=h;rfl
 .let(θ,γ,rfl,h):=h;show(_,_,_,.inl rfl,rfl,h)
def sF(C:Addr):DF:=λas M q _=>∃θ γ i r,as=[aF C θ γ,.int (i:Nat)]/\γ[i]? =!r/\q (.str (kindOf r)) M
def Aj:Γ ["self","place"] ["self","place"] (τ mx):=.of rfl
def xQ(F:de K "kind" "Floor.kind" mx f fd)(E:Ev K mg Cm):aC P w K mg base (cI P w) 1 f fd ["self","place"] (da K (sF Cm)):=by
 show F.d9 Aj (λds M q x h=>?_) (λbI A outer s H E' hr=>(_,(ι (Α (Η (Η (zM E.fT E.dI (jv 0)) (jv 1)) ν))),λds M q x h=>?_))
 .let(θ,γ,i,r,rfl,_):=h;rfl
 .let(θ,γ,i,r,rfl,hi,h):=h;show(_,_,_,.inl rfl,rfl,?_);walk_at "vc";show χ (xs:=γ.map Κ) rfl (Λ (jO hi)) ?_;let(e,er):=Cu (r:=r);rw[er];show h
def tU(C:Addr):DF:=λas M q _=>∃θ γ i r,as=[aF C θ γ,.int (i:Nat)]/\γ[i]? =!r/\gw r/\q (.loc (-M)) (M++[.lst ((aE r).map c_)])
def zf:Γ ["self","place"] ["self","place"] (τ kj):=.of rfl
def vy(F:de K "doors" "Floor.doors" kj f fd)(E:Ev K mg Cm)(ar:gh P w K mg base 1 Cm "kind" ["self","place"] (sF Cm) bW bY):aC P w K mg base (cI P w) 2 f fd ["self","place"] (da K (tU Cm)):=by
 show F.d9 zf (λds M q x h=>?_) (λbI A outer s H E' hr=>(_,(ζ (ah (cX hr (gX ar hr ξ (jv 0) (Μ (jv 1) ε)) dX) (ι (Α (jU ε))) Ε)
   (ι (Α (mz E.gp (δ (Η (Η (zM E.fT E.dI (jv 0)) (jv 1)) ν) ε ba))))),λds M q x h=>?_))
 .let(θ,γ,i,r,rfl,_):=h;rfl
 .let(θ,γ,i,r,rfl,hi,ro,h):=h;show((_,_,.inl rfl,rfl),θ,γ,i,r,rfl,hi,?_);cases r with
  | fin p=>show(λ_=>(@_,h),nofun)
  | υ k ds=>
   show(λz=>aa5 (aaW z) ro.1,λ_=>?_);show(_,_,_,.inl rfl,rfl,?_);walk_at "vc";show χ (xs:=γ.map Κ) rfl (Λ (jO hi)) ?_;show h
def uf{te:DE}{cs:En}{k:List Dt->Ms->Prop} (ht:∀r M (q:DQ),gw r->(match r with
  | .fin p=>q (.tup [.str "end",aI p]) M
  | .υ k ds=>q (.tup [.str k,.loc (-M)]) (M++[.lst (ds.map c_)]))->te ((!(Κ r))::cs) M q k8):∀(γ:List Rw) (acc:List Dt) (M:Ms),(∀r∈γ,gw r)->k (acc++oR (-M) γ) (M++l3 γ)->qz te cs (λ_=>True) (γ.map Κ) acc M k
 | [],acc,M,_,h=>(trivial,by simpa [oR,l3] using h)
 | r::γ,acc,M,ho,h=>by
  show(trivial,ht r M _ (ho r aai) ?_);cases r with
  | fin p=>
   show uf ht γ _ M (λr hr=>ho r (aag _ hr)) ?_;simpa [oR,l3] using h
  | υ k' ds=>
   show uf ht γ _ _ (λr hr=>ho r (aag _ hr)) ?_;simpa [oR,l3] using h
def Pt(C:Addr):DF:=λas M q _=>∃θ γ,as=[aF C θ γ]/\-γ<=12/\(∀r∈γ,gw r)/\q (.loc (-M+-(l3 γ))) (M++l3 γ++[.lst (oR (-M) γ)])
def qK:Γ ["self"] ["self"] (τ my):=.of rfl
def zt(F:de K "rows" "Floor.rows" my f fd)(E:Ev K mg Cm)(eO:aD P w K mg base 1 "copied_row" ["row"] nc nN mi):aC P w K mg base (cI P w) 2 f fd ["self"] (da K (Pt Cm)):=by
 show F.d9 qK (λds M q x h=>?_) (λbI A outer s H E' hr=>(_,(ι (Α (Mg (ys:=[]) (Ρ:=[]) (.of qK rfl rfl rfl) (bC (zM E.fT E.dI (jv 0))) (λC s H fp=>(Ω eO hr (dc (P:=P) (w:=w)) (Μ (jv 0) ε)))))),λds M q x h=>?_))
 .let(θ,γ,rfl,_):=h;rfl
 .let(θ,γ,rfl,hz,ho,h):=h;walk_at "vc";show HX (i:=0) (d:=aF Cm θ γ) rfl (.inl rfl) rfl rfl (by rw[aah];show aaH hz @_,?_);show uf (λr M q hr hq=>(Κ r,r,rfl,xM M r,hr,by cases r <;> show hq)) γ [] M ho ?_;rw[aba,aan];show h
def h8{α:Type}(f:α->Dt):∀(xs ys:List α),(∀x∈xs,x∈ys)->Paired (λx a=>x=f a/\a∈ys) (xs.map f) xs
 | [],_,_=>.nil
 | x::xs,ys,h=>.cons (rfl,h x aai) (h8 f xs ys λy hy=>h y (aag _ hy))
def cR{q:DQ}(u:Dt.bD (-M) ds)(h:q (.lst ds) M):p9 M q (.loc (-M)) (M++[.lst ds]):=gT (.u6 (aaq _) (by rw[acy];rfl) (gm.old u)) h
def rR{q:DQ}(u:Dt.bD (-M) ds)(h:q (.lst ds) M):zP [.lst ds] M (p9 M q):=by change p9 M q (.loc (-M)) (M++[.lst ds]);show cR u h
def oz{d:br}{q:DQ}(h:q (.int d.1) M):cG (c_ d) (.int 0) M q:=χ (xs:=.int d.1::aI d.2.1::d.2.2.map aI) rfl bc h
def Fx{k:Str}{q:DQ}(h:q e M):cG (.tup [.str k,e]) (.int 1) M q:=χ (xs:=[.str k,e]) rfl (Λ (j:=1) rfl) h
def eV{g:Dt->En->(En->Prop)->Prop}(J:List Dt->En->Ms->Prop)
  (step:∀x xs ρ M,J (x::xs) ρ M->(∀ρ M,J xs ρ M->xh g tb Dn xs ρ M)->g x ρ λρ'=>tb {Dn with nx:=xh g tb Dn xs,ct:=xh g tb Dn xs,bk:=Dn.nx} ρ' M)
  (fin:∀ρ M,J [] ρ M->Dn.nx ρ M):∀(xs:List Dt) (ρ:En) (M:Ms),J xs ρ M->xh g tb Dn xs ρ M
 | [],ρ,M,h=>fin _ _ h
 | x::xs,ρ,M,h=>step x xs ρ M h λρ' M' h'=>eV J step fin xs ρ' M' h'
def eP{lo:Int}{x:Dt}(h:x::xs=df lo n):∃m,n=m+1/\x= .int lo/\xs=df (lo+1) m:=by
 cases n with
 | zero=>show nomatch h
 | succ m=>
  unfold df at h;rw[aca,abe,abf]at h;cases h;show(m,rfl,by simp,?_);unfold df;apply aby;intro k _;change Dt.int (lo+((k+1:Nat):Int))=Dt.int (lo+1+(k:Int))
  congr 1
  omega
def dZ{lo:Int}{x:Dt}(h:x∈df lo n):∃k:Nat,k < n/\x= .int (lo+k):=by unfold df at h;let(k,hk,rfl):=aaz.mp h;show(k,abr.mp hk,rfl)
def cU{lo:Int}:-(df lo n)=n:=by unfold df;simp
def fk{α:Type}{te:DE}{cs:En}{M:Ms}{f:α->Dt}(G:α->Prop){k:List Dt->Ms->Prop}:∀(xs:List Dt) (acc:List α),(∀a∈acc,G a)->(∀x∈xs,∀q:DQ,(∀a,G a->q (f a) M)->te ((!x)::cs) M q k8)->
  (∀as:List α,-as=-acc+-xs->(∀a∈as,G a)->k (as.map f) M)->vT te cs xs (acc.map f) M k
 | [],acc,ha,_,h=>h acc (by simp) ha
 | x::xs,acc,ha,ht,h=>ht x aai _ λa hg=>by
  let e:acc.map f++[f a]=(acc++[a]).map f:=by simp
  rw[e];show fk G xs (acc++[a]) (λb hb=>?_) (λy hy=>ht y (List.mem_cons_of_mem _ hy)) λas hl hg'=>h as (by rw[hl];simp;omega) hg';rcases abo.mp hb with hb| hb
  .show ha b hb
  .have:b=a:=by simpa using hb
   rw[this];show hg
def oB{n:Nat}:∀(xs:List Int),Dt.bD n (xs.map Dt.int)
 | []=>trivial
 | _::xs=>(trivial,oB xs)
def Iq{m:Int}:∀{l:List Int},(∀w∈l,w<=m)->l.sum<=-l * m
 | [],_=>by simp
 | a::l,h=>by let i:=Iq (l:=l) λw hw=>h w (aag _ hw);have:=h a aai;rw[List.sum_cons,aa9,Int.natCast_add,Int.add_mul];omega
def rP(eS:Int)(r:Rw):Prop:=gw r/\gA r eS=true
def Ft{k:Str}{ds:List br}(hk:Ξ k=true)(hz:1<=-ds)(Xy:-ds<=6)(hd:∀d∈ds,af d.1 d.2.1 eS=true)(hs:∀d∈ds,d.2.2=[]/\0 < d.2.1.2):rP eS (.υ k ds):=by
 let fd:Ι ds eS=true:=by unfold Ι;rw[aaB hz,aaB Xy,abc.mpr hd];rfl
 let ne:k≠"end"/\k≠"chance":=by show(λz=>?_,λz=>?_) <;> (subst z;show aa5 hk @_)
 show((ne.1,(),λz=>aa5 z ne.2,λd h=>(by rw[(hs d h).1];show acn _,(hs d h).2)),?_);change(if Ξ k then _ else _)=true;rw[aaP hk];show fd
def wF{ds:List br}(hz:1<=-ds)(Xy:-ds<=6)(hd:∀d∈ds,af d.1 d.2.1 eS=true)(h1:∀d∈ds,d.2.2=[ο d])(hc:Υ (ds.map ο)=true)(ho:Qh (ds.map ο))(hp:∀d∈ds,0 < d.2.1.2):rP eS (.υ "chance" ds):=by
 let fd:Ι ds eS=true:=by unfold Ι;rw[aaB hz,aaB Xy,abc.mpr hd];rfl
 show((@_,(),λ_=>(h1,ho),λd h=>(by rw[h1 d h];show aaq _,hp d h)),?_);let e:gA (.υ "chance" ds) eS=(Ι ds eS&&Υ (ds.map ο)):=by dsimp only[gA];rw[aaK @_,aaP rfl]
 rw[e,fd,hc];rfl
def MP{eS:Int}{p:Fr}(h0:0<=t)(h1:t < eS)(hp:bB p=true):af t p eS=true:=by unfold af;rw[aaB h0,aaB h1,hp];rfl
def Nn(h1:1<=m)(h6:m<=6):0 < (1000000:Int) / m/\(m:Int) * (1000000 / m)<=1000000:=by
 have:m=1\/m=2\/m=3\/m=4\/m=5\/m=6:=()
 rcases this with rfl| rfl| rfl| rfl| rfl| rfl <;> decide
def jX{xs:List Int}(h:j < -xs):ic (xs.map Dt.int) (j:Int)=!(.int xs[j]):=Λ (by rw[aat,aad h];rfl)
def Em:∀{l:List Int},(∀w∈l,0 < w)->l≠[]->0 < l.sum
 | [],_,z=>aa5 rfl z
 | [a],h,_=>by have:=h a List.mem_cons_self;simpa using this
 | a::b::l,h,_=>by let i:=Em (l:=b::l) (λw hw=>h w (List.mem_cons_of_mem _ hw)) (by simp);have:=h a aai;rw[List.sum_cons];omega
def Sz(k:Nat)(p:Fr):Prop:=p.1.natAbs < 2 ^ k/\0 < p.2/\p.2.natAbs < 2 ^ k
def fq(p q:Fr):Fr:=ay (p.1 * q.1) (p.2 * q.2)
def eI(p q:Fr):Bool:=decide (p.1 * q.2 < q.1 * p.2)
def yD{k k':Nat}{p:Fr}(h:Sz k p)(hk:k<=k'):Sz k' p:=
 (aaR h.1 (aci @_ hk),h.2.1,aaR h.2.2 (aci @_ hk))
def fm{a b k l:Nat}(h:a < 2 ^ k)(h':b < 2 ^ l):a * b < 2 ^ (k+l):=by rw[Nat.pow_add];show Nat.mul_lt_mul'' h h'
def Dc{p q:Fr}{k:Nat}(hp:Sz k p)(hq:Sz l q):(p.1 * q.1).natAbs < 2 ^ (k+l)/\(p.2 * q.2).natAbs < 2 ^ (k+l)/\0 < p.2 * q.2:=by let a:=fm hp.1 hq.1;let c:=fm hp.2.2 hq.2.2;show(by rw[abX];show a,by rw[abX];show c,ab4 hp.2.1 hq.2.1)
def jH{p:Fr}{k:Nat}(h:Sz k p)(hk:k<=8000):iG p.1:=bg h.1 hk
def gD{p:Fr}{k:Nat}(h:Sz k p)(hk:k<=8000):iG p.2:=bg h.2.2 hk
def Lf:DF:=λas M q _=>∃p r k l,as=[aI p,aI r]/\Sz k p/\Sz l r/\k+l+1<=8000/\q (aI (fq p r)) M
def NV:Γ ["one","other"] ["one","other"] (τ Cn):=.of rfl
def Lz(F:de K "times" "times" Cn f fd)(E:Ev K mg Cm)(cM:aD P w K mg base 2 "fraction" ["top","bottom"] vD i_ jk):aC P w K mg base (cI P w) 3 f fd ["one","other"] (da K Lf):=by
 show F.d9 NV (λds M q x h=>?_) (λbI A outer s H E' hr=>(_,(ι (Α (Ω cM hr ξ (δ (dN (Η (jv 0) ν) (Η (jv 1) ν)) (δ (dN (Η (jv 0) ν) (Η (jv 1) ν)) ε aV) aV)))),λds M q x h=>?_))
 .let(p,r,k,l,rfl,_):=h;rfl
 .let(p,r,k,l,rfl,hp,rN,hk,h):=h;let(a,b,c):=Dc hp rN;show((jH hp (),jH rN ()),(gD hp (),gD rN ()),bg b (),λz=>aa5 z (),λ_=>h)
def iJ(p q:Fr):Fr:=ay (p.1 * q.2 - q.1 * p.2) (p.2 * q.2)
def CZ{p q:Fr}{k:Nat}(hp:Sz k p)(hq:Sz l q):(p.1 * q.2 - q.1 * p.2).natAbs < 2 ^ (k+l+1)/\(p.2 * q.2).natAbs < 2 ^ (k+l+1)/\0 < p.2 * q.2:=by
 let a:=fm hp.1 hq.2.2;let b:=fm hq.1 hp.2.2;let c:=fm hp.2.2 hq.2.2;rw[Nat.add_comm l k]at b;let e:(2:Nat) ^ (k+l+1)=2 ^ (k+l)+2 ^ (k+l):=by rw[Nat.pow_succ];omega
 let hn:(p.1 * q.2 - q.1 * p.2).natAbs<=(p.1 * q.2).natAbs+(q.1 * p.2).natAbs:=()
 rw[abX,abX]at hn;show(by rw[e];omega,?_,ab4 hp.2.1 hq.2.1);rw[abX,e];omega
def Kk:DF:=λas M q _=>∃p r k l,as=[aI p,aI r]/\Sz k p/\Sz l r/\k+l+1<=8000/\q (aI (iJ p r)) M
def NW:Γ ["one","other"] ["one","other"] (τ CT):=.of rfl
def Me(F:de K "minus" "minus" CT f fd)(E:Ev K mg Cm)(cM:aD P w K mg base 2 "fraction" ["top","bottom"] vD i_ jk):aC P w K mg base (cI P w) 3 f fd ["one","other"] (da K Kk):=by
 show F.d9 NW (λds M q x h=>?_) (λbI A outer s H E' hr=>(_,(ι (Α (Ω cM hr ξ (δ (l7 (dN (Η (jv 0) ν) (Η (jv 1) ν)) (dN (Η (jv 1) ν) (Η (jv 0) ν))) (δ (dN (Η (jv 0) ν) (Η (jv 1) ν)) ε aV) aV)))),λds M q x h=>?_))
 .let(p,r,k,l,rfl,_):=h;rfl
 .let(p,r,k,l,rfl,hp,rN,hk,h):=h;let(a,b,c):=CZ hp rN;show((jH hp (),gD rN ()),(jH rN (),gD hp ()),(gD hp (),gD rN ()),bg b hk,λz=>aa5 z (),λ_=>h)
def kZ(B:Int)(c:Fr):Int:=c.1 * (B / c.2)
structure AR(cs:List Fr):Prop where
 pos:∀c∈cs,0 < kZ (bM cs) c
 sum:(cs.map (kZ (bM cs))).sum=bM cs
 b0:0 < bM cs
 b1:bM cs<=1000000
 ne:cs≠[]
 Io:Qh cs
def Vq(h:Υ cs=true)(o:Qh cs)(n:cs≠[]):AR cs:=by
 unfold Υ at h;rw[aaA,aaA,abb,abb,Bool.not_eq_true']at h;let(h1,h2,h3):=h;let B0:0 < bM cs:=fJ cs 1 @_ λc hc=>(o.2 c hc).1;let(_,_,hB):=g7 cs 1 0 @_ (acz _) λc hc=>((o.2 c hc).1,acz _);show(λc hc=>?_,h2,B0,h3,n,o);let c1:0 < c.1:=by have:=List.any_eq_false.mp h1 c hc;simpa using this
 show ab4 c1 (Int.ediv_pos_of_pos_of_dvd B0 (aaT (o.2 c hc).1) (hB c hc))
def val(p:Fr):Rat:=(p.1:Rat) / (p.2:Rat)
structure Red(p:Fr):Prop where
 pos:0 < p.2
 low:Int.gcd p.1 p.2=1
def cT(h:b≠0):(b:Rat)≠0:=λz=>h (Rat.intCast_eq_zero_iff.mp z)
def OL{a c d:Int}(h:a * b=c * d):(a:Rat) * b=c * d:=by rw[<-abA,<-abA,h]
def sV(h:b≠0):Red (ay t b):=(cW h,AU h)
def nV(h:b≠0):val (ay t b)=(t:Rat) / (b:Rat):=by
 let hq:=cW (t:=t) h;let hx:=OL (dh (t:=t) h);let h1:=cT h;let h2:=cT (show(ay t b).2≠0 by omega);unfold val;generalize ((ay t b).1:Rat)=x at *
 generalize ((ay t b).2:Rat)=y at *
 generalize (t:Rat)=t' at *
 generalize (b:Rat)=b' at *
 grind
def lU{p q:Fr}(hp:Red p)(hq:Red q)(h:val p=val q):p=q:=by
 let h1:=cT (show p.2≠0 by have:=hp.pos;omega);let h2:=cT (show q.2≠0 by have:=hq.pos;omega);let e:p.1 * q.2=p.2 * q.1:=by
  unfold val at h;let e1:(p.1:Rat) * (q.2:Rat)=(p.2:Rat) * (q.1:Rat):=by
   generalize (p.1:Rat)=a at *
   generalize (p.2:Rat)=b at *
   generalize (q.1:Rat)=c at *
   generalize (q.2:Rat)=d at *
   grind
  rw[<-abA,<-abA]at e1;show Rat.intCast_inj.mp e1
 let a:=xp (show p.2≠0 by have:=hp.pos;omega) hq.pos hq.low e;let b:=HJ hp.pos hp.low;rw[<-Prod.eta p,<-b,a]
def Gk{p q:Fr}(hp:0 < p.2)(hq:0 < q.2):val (fq p q)=val p * val q:=by
 unfold fq;rw[nV (acS (ab4 hp hq))];let h1:=cT (show p.2≠0 by omega);let h2:=cT (show q.2≠0 by omega);rw[abA,abA];unfold val;generalize (p.1:Rat)=a at *
 generalize (p.2:Rat)=b at *
 generalize (q.1:Rat)=c at *
 generalize (q.2:Rat)=d at *
 grind
def oS(p:Fr)(E:Int):Prop:=∃N,p.1 * E=N * p.2
def wJ{N:Int}(h:b≠0)(e:t * E=N * b):oS (ay t b) E:=by
 let hx:=dh (t:=t) h;generalize hf:ay t b=f at *
 let(x,y):=f;show(N,?_);change x * E=N * y;let hx:t * y=b * x:=hx;have:b * (x * E)=b * (N * y):=by grind
 show abn h this
def Hv(p:Fr):oS p p.2:=(p.1,rfl)
def BW{p q:Fr}(hp:0 < p.2)(hq:0 < q.2)(h:oS p E)(h':oS q F):oS (fq p q) (E * F):=by let(N,e):=h;let(N',e'):=h';unfold fq;show wJ (N:=N * N') (Int.ne_of_gt (Int.mul_pos hp hq)) (by grind)
def yf{p:Fr}(hp:Red p)(h:oS p E):p.2∣E:=by
 let(N,e):=h;let d:p.2∣p.1 * E:=(N,by rw[e,abL]);let d2:p.2.natAbs∣p.1.natAbs * E.natAbs:=by rw[<-abX];show Int.natAbs_dvd_natAbs.mpr d
 let co:Nat.Coprime p.2.natAbs p.1.natAbs:=by have:=hp.low;unfold Int.gcd at this;rw[Nat.coprime_comm];show this
 show Int.natAbs_dvd_natAbs.mp (co.dvd_of_dvd_mul_left d2)
def v9(p:Fr)(C:Int):Prop:=p.1<=p.2 * C/\ - (p.2 * C)<=p.1
def Km(h:0 < b)(h1:t<=b * C)(h2: - (b * C)<=t):v9 (ay t b) C:=by
 let hx:=dh (t:=t) (show b≠0 by omega);let hq:=cW (t:=t) (show b≠0 by omega);generalize hf:ay t b=f at *
 let(x,y):=f;let hx:t * y=b * x:=hx;let hq:0 < y:=hq;constructor
 .change x<=y * C;have:=abB h1 (aaT hq);rw[hx]at this;let e:b * C * y=b * (y * C):=by grind
  rw[e]at this;show acJ this h
 .change - (y * C)<=x;have:=abB h2 (aaT hq);rw[hx]at this;let e: - (b * C) * y=b * (- (y * C)):=by grind
  rw[e]at this;show acJ this h
def gE{a c:Int}(h:a<=b)(hc:0<=c):a * c<=b * c:=abB h hc
def nP(c:Fr):Prop:=0<=c.1/\c.1<=c.2
def DZ{c s:Fr}(hc:0 < c.2)(hs:0 < s.2)(u:nP c)(v:nP s):nP (fq c s):=by
 unfold fq;let hx:=dh (t:=c.1 * s.1) (acS (ab4 hc hs));let hq:=cW (t:=c.1 * s.1) (acS (ab4 hc hs));let t0:0<=c.1 * s.1:=ab8 u.1 v.1
 let t1:c.1 * s.1<=c.2 * s.2:=acx (gE u.2 v.1) (by
  have:=gE v.2 (aaT hc)
  rw[abL c.2 s.1,abL c.2 s.2];show this)
 let bp:=ab4 hc hs;generalize c.1 * s.1=t at *
 generalize c.2 * s.2=b at *
 generalize hf:ay t b=f at *
 let(x,y):=f;let hx:t * y=b * x:=hx;let hq:0 < y:=hq;constructor
 .change 0<=x;rcases Int.lt_or_le x 0 with z| z
  .have:=acI bp z;have:=ab8 t0 (aaT hq);omega
  .show z
 .change x<=y;have:=gE t1 (aaT hq);rw[hx]at this;show acJ this bp
def Vd{p:Fr}{k:Nat}(r:Red p)(h:oS p E)(e0:0 < E)(e1:E < 2 ^ k)(a:v9 p C)(c0:0<=C)(c1:C < 2 ^ m):Sz (k+m) p:=by
 let d:=acC e0 (yf r h);let rp:=r.pos;let b1:p.2.natAbs < 2 ^ k:=by
  have:(p.2.natAbs:Int) < ((2 ^ k:Nat):Int):=by rw[abM (aaT rp)];show abO d (by exact_mod_cast e1)
  show acm.mp this
 let b2:C.natAbs < 2 ^ m:=by
  have:(C.natAbs:Int) < ((2 ^ m:Nat):Int):=by
   rw[abM c0]
   exact_mod_cast c1
  show acm.mp this
 let b3:=fm b1 b2;show(?_,rp,aaR b1 (aci @_ (abZ _ _)));show abt ?_ b3;rw[<-abX];let q0:0<=p.2 * C:=ab8 (aaT rp) c0;have:=a.1;have:=a.2;omega
def Wf{cs:List Fr}(h:j < -cs):ic (cs.map aI) (j:Int)=!(aI cs[j]):=Λ (by rw[aat,aad h];rfl)
def Ui{ds:List br}(h:j < -ds):ic (ds.map c_) (j:Int)=!(c_ ds[j]):=Λ (by rw[aat,aad h];rfl)
structure Um(θ:Fr)(γ:List Rw):Prop where
 sh:jm θ=true
 len:-γ<=12
 row:∀r∈γ,gw r/\gA r (-γ)=true
structure U5(γ:List Rw)(k:Str)(ds:List br):Prop where
 ro:gw (.υ k ds)
 l1:1<=-ds
 l6:-ds<=6
 kd:Ξ k=true\/(Ξ k=false/\k="chance"/\AR (ds.map ο))
 to:∀d∈ds,0<=d.1/\d.1 < -γ
 py:∀d∈ds,bB d.2.1=true/\0 < d.2.1.2
def c7{k:Str}{ds:List br}(f:Um θ γ)(h:Rw.υ k ds∈γ):U5 γ k ds:=by
 let(ro,h2):=f.row _ h;let h2:(if Ξ k then Ι ds (-γ) else if k="chance" then Ι ds (-γ)&&Υ (ds.map ο) else false)=true:=h2;let key:Ι ds (-γ)=true/\(Ξ k=true\/(Ξ k=false/\k="chance"/\Υ (ds.map ο)=true)):=by
  by_cases hk:Ξ k=true
  .rw[aaP hk]at h2;show(h2,.inl hk)
  .rw[aaK hk]at h2;by_cases hc:k="chance"
   .rw[if_pos hc,Bool.and_eq_true]at h2;show(h2.1,.inr (by simpa using hk,hc,h2.2))
   .rw[aaK hc]at h2;cases h2
 let(fd,hk):=key;unfold Ι at fd;rw[aaA,aaA,abb,abb]at fd;let((d1,d6),fa):=fd;let each:∀d∈ds,0<=d.1/\d.1 < -γ/\bB d.2.1=true:=λd hd=>by let h3:=abc.mp fa d hd;unfold af at h3;rw[aaA,aaA,abb,abb]at h3;show(h3.1,h3.2.1,h3.2.2)
 show(ro,d1,d6,?_,λd hd=>((each d hd).1,(each d hd).2.1),λd hd=>((each d hd).2.2,(ro.2.2.2 d hd).2));rcases hk with hk| ⟨hk,hc,hf⟩
 .show .inl hk
 .show .inr (hk,hc,Vq hf (ro.2.2.1 hc).2 λz=>?_);have:=abm List.length z;rw[aah]at this;have:-ds=0:=this;omega
def Mz{α:Type}(xs:List α)(a:α)(f:α->Dt):(df 0 (-xs)).map (λx=>match x with| .int j=>f (xs.getD j.toNat a)| _=>.aZ)=xs.map f:=by
 unfold df;rw[abf];apply abI
 .simp
 .intro i h1 h2;simp only[List.getElem_map,List.getElem_range,Function.comp];rw[show(0+(i:Int)).toNat=i by omega];let hi:i < -xs:=by simpa using h2
  rw[aae,aad hi];rfl
abbrev d0:br:=(0, (0, 1),[])
def sO(h:p < n):JZ n (p:Int)=!p:=by unfold JZ;rw[aaP (),aaP (),abl]
def Ju(h:zW M d=!xs):iX M d=!xs:=by cases d <;> first| show h| cases h
def xF(h:zW M d=!xs):j8 M d=!xs:=by cases d <;> first| show h| cases h
def aK{o:MO}:(M++[o])[-M]? =!o:=by simp
def gH{k:Nat}(h:M[k]? =!(MO.lst xs)):zW M (.loc k)=!xs:=by change(match M[k]? with| some (MO.lst xs)=>!xs| _=>none)=!xs;rw[h]
def ef{a:MO}:(M++[a]).set (-M) c=M++[c]:=by simp[List.set_append]
def QB{E:Ms}{o:MO}:(M++o::E)[-M]? =!o:=by simp
def MX{E:Ms}{o:MO}:(M++o::E).set (-M) c=M++c::E:=by simp[List.set_append]
abbrev cN(l:List Int):Dt:=.lst (l.map Dt.int)
abbrev j7(ls:List (List Int)):Dt:=.lst (ls.map cN)
def E6{ls:List (List Int)}(h:j < -ls):ic (ls.map cN) (j:Int)=!(cN ls[j]):=Λ (by rw[aat,aad h];rfl)
def jT{n:Nat}:∀(ls:List (List Int)),Dt.bD n (ls.map cN)
 | []=>trivial
 | l::ls=>(oB l,jT ls)
abbrev dj:=Bz.dj
def Ae(h:i < n):((List.replicate (n:Int).toNat [Dt.int 0]).flatten).set i (Dt.int 1)=(dj n i).map Dt.int:=by
 let e:(List.replicate (n:Int).toNat [Dt.int 0]).flatten=List.replicate n (Dt.int 0):=by
  rw[show((n:Int)).toNat=n by omega];clear h
  induction n with
  | zero=>rfl
  | succ n ih=>rw[abP,ab1,ih];rfl
 rw[e];unfold dj Bz.dj;apply abI
 .simp
 .intro j h1 h2;rw[List.getElem_set];simp only[List.getElem_replicate,List.getElem_map,List.getElem_range,Bz.ind];split <;> rfl
def Py:DF:=λas M q _=>∃γ:List (List Int),as=[j7 γ]/\-γ<=12/\(∀r∈γ,-r<=13)/\∀E,q (.loc (-M)) (M++MO.lst (((List.range (-γ)).map λi=>γ.getD i []++dj (-γ) i).map cN)::E)
def d7:Γ ["rows","told","number","row","weights"] ["rows"] (τ jI):=.of rfl
def tw(F:de K "with_weights" "with_weights" jI f fd)(E:Ev K mg Cm):aC P w K mg base (cI P w) 1 f fd ["rows"] (da K Py):=by
 show F.d9 d7 (λds M q x h=>?_) (λbI A outer s H E' hr=>(_,(ζ (ω 1 d7.nd (jU ε))
   (ζ (cP (oW E.cJ (Μ (jv 0) ε)) (km rfl (bt (ai (i:=2) d7.nd rfl (Or.inl rfl)) (bt (ai (i:=3) d7.nd rfl (Or.inl rfl)) iu))) mV (ζ (ω 4 d7.nd (BS (b_ 3 (d:=.lst [.int 0]) (by rfl)) (cE E.bK (Μ (jv 0) ε))))
   (ζ (kK (jv 4) (jv 2) ν)
   (ι (cB (f_ (jv 1) (δ (i4 (jv 3) (jv 4)) ε aV)))))))
   (ι (Α (jv 1))))),λds M q x h=>?_))
 .let(γ,rfl,_):=h;rfl
 .let(γ,rfl,O5,r13,h):=h;show(@_,?_);show(j7 γ,γ.map cN,λ_=>True,rfl,rfl,?_);show bJ (λxs ρ M'=>∃(k:Nat) (rest:List (List Int)) (E:Ms) (o1 o2 o3:Option Dt),xs=iq k (rest.map cN)/\γ.drop k=rest/\k<=-γ/\M'=M++MO.lst (((List.range k).map λi=>γ.getD i []++dj (-γ) i).map cN)::E/\ρ=[!(j7 γ),!(.loc (-M)),o1,o2,o3]) (λxs ρ M' hj=>trivial) (λx xs ρ M' hj gc=>?_) (λρ M' hj=>?_) _ _ _ (0,γ,[],none,none,none,rfl,rfl,acn _,rfl,rfl)
  .let(k,rest,E,o1,o2,o3,ex,hd,hk,rfl,rfl):=hj;cases rest with
   | nil=>cases ex
   | cons r rest=>
    cases ex;let Ai:k < -γ:=by
     rcases Nat.lt_or_ge k (-γ) with z| z
     .show z
     .rw[List.drop_of_length_le z]at hd;cases hd
    let rk:γ[k]=r:=by have:=abU Ai;rw[hd]at this;show(List.cons.inj this).1.symm
    let rg:γ.getD k []=r:=by rw[aae,aad Ai,rk];rfl
    let adQ:=r13 r (by rw[<-rk];show aax Ai);let Mi:γ.drop (k+1)=rest:=by have:=abU Ai;rw[hd]at this;show(List.cons.inj this).2.symm
    dsimp only[g2];walk_at "vc";show(az (d:=j7 γ) (xs:=γ.map cN) rfl ?_:fi [j7 γ] _ _);rw[aah];show([.int 0],-γ,rfl,rfl,(),(),?_,?_)
    .change 1 * ((-γ:Int)).toNat<=sizeLine;show aaH (show _<=12 by omega) @_
    generalize hM2:M++MO.lst (((List.range k).map λi=>γ.getD i []++dj (-γ) i).map cN)::E=M2;show(-M2,k,_,k,rfl,rfl,aK,?_,?_)
    .have:-((List.replicate (-γ:Int).toNat [Dt.int 0]).flatten)=-γ:=by have:=abm List.length (Ae Ai);rw[abC,aah]at this;rw[this];unfold dj Bz.dj;simp
     rw[this];show sO Ai
    rw[ef,Ae Ai];subst hM2;let eM:(M++MO.lst (((List.range k).map λi=>γ.getD i []++dj (-γ) i).map cN)::E)++[MO.lst ((dj (-γ) k).map Dt.int)]=M++MO.lst (((List.range k).map λi=>γ.getD i []++dj (-γ) i).map cN)::(E++[MO.lst ((dj (-γ) k).map Dt.int)]):=by simp
    let at3:((M++MO.lst (((List.range k).map λi=>γ.getD i []++dj (-γ) i).map cN)::E)++[MO.lst ((dj (-γ) k).map Dt.int)])[-M]? =!(.lst (((List.range k).map λi=>γ.getD i []++dj (-γ) i).map cN)):=by rw[eM];show QB
    show((-M,_,rfl,at3),r.map Dt.int,(dj (-γ) k).map Dt.int,rfl,gH aK,?_,-M,_,_,rfl,rfl,at3,?_,?_)
    .rw[aah,aah];unfold dj Bz.dj;rw[aah,abu];show aaH (show _<=30 by omega) @_
    .rw[aah,aah,abu];show abt (show k<=12 by omega) @_
    rw[eM,MX];show gc _ _ (k+1,rest,E++[MO.lst ((dj (-γ) k).map Dt.int)],_,_,_,rfl,Mi,Ai,?_,rfl);rw[List.range_succ,abp,abp];simp only[List.map_cons,List.map_nil];rw[rg,<-abp]
  .let(k,rest,E,o1,o2,o3,ex,hd,hk,rfl,rfl):=hj;cases rest with
   | cons r rest=>cases ex
   | nil=>
    have:k=-γ:=by have:=abm List.length hd;rw[abQ]at this;simp at this;omega
    subst this;show h E
def UA:DF:=λas M q _=>∃(ls:List (List Int)) (f c:Nat),as=[j7 ls,.int (f:Int),.int (c:Int)]/\f<=-ls/\-ls<=12/\(∀l∈ls,c < -l)/\
 ((∀(k:Nat),f<=k->k < -ls->(ls.getD k []).getD c 0=0)->q .aZ M)/\
 (∀(k:Nat),f<=k->k < -ls->(ls.getD k []).getD c 0≠0->q (.int (k:Int)) M)
def kq:Γ ["lines","first","column","number"] ["lines","first","column"] (τ iO):=.of rfl
def qY(F:de K "number_of_head" "number_of_head" iO f fd)(E:Ev K mg Cm):aC P w K mg base (cI P w) 1 f fd ["lines","first","column"] (da K UA):=by
 show F.d9 kq (λds M q x h=>?_) (λbI A outer s H E' hr=>(_,(ζ (lj (pG E.bz (Μ (jv 1) (δ (cE E.bK (Μ (jv 0) ε)) ε aS))) (ai (i:=3) kq.nd rfl (Or.inl rfl)) aL (ι (ah (iz hr (Η (Η (jv 0) (jv 3)) (jv 2)) ν) (ι (Α (jv 3))) Ε)))
   (ι (Α rh))),λds M q x h=>?_))
 .let(ls,f,c,rfl,_):=h;rfl
 .let(ls,f,c,rfl,hf,qC,hc,h1,h2):=h;walk_at "vc";dsimp only[DC];walk_at "vc";show(az (d:=j7 ls) (xs:=ls.map cN) rfl ?_:fi [j7 ls] _ _);rw[aah];show(((),(),(),()),?_);show eV (λzs ρ M'=>M'=M/\∃(n k:Nat) (o:Option Dt),zs=df k n/\f<=k/\k+n=-ls/\(∀j,f<=j->j < k->(ls.getD j []).getD c 0=0)/\ρ=[!(j7 ls),!(.int (f:Int)),!(.int (c:Int)),o]) (λx zs ρ M' hj gc=>?_) (λρ M' hj=>?_) _ _ _ (rfl,-ls - f,f,none,?_,aaq _,(),λj a b=>aa5 a (),rfl)
  .let(rfl,n,k,o,ex,hk,hn,hz,rfl):=hj;let(m,rfl,rfl,rfl):=eP ex;let kl:k < -ls:=()
   let hl:=hc _ (aax kl);let e1:(ls.getD k []).getD c 0=(ls[k])[c]:=by rw[aae,aae,aad kl];change((ls[k])[c]?).getD 0=_;rw[aad hl];rfl
   walk_at "vc";show(χ (d:=j7 ls) rfl (E6 kl) ?_:cG (j7 ls) (.int (k:Int)) _ _);show(χ (d:=cN ls[k]) rfl (jX hl) ?_:cG (cN ls[k]) (.int (c:Int)) _ _);show(λz=>?_,λz=>?_)
   .let z:(! decide ((ls[k])[c]=0))=true:=z;show h2 k hk kl ?_;rw[e1];intro y;rw[aaB y]at z;show nomatch z
   .let z:(! decide ((ls[k])[c]=0))=false:=z;let z0:(ls[k])[c]=0:=by
     rcases Decidable.em ((ls[k])[c]=0) with y| y
     .show y
     .rw[aaF y]at z;show nomatch z
    show gc _ _ (rfl,m,k+1,_,by simp,(),(),λj a b=>?_,rfl);by_cases e:j=k
    .rw[e,e1];show z0
    .show hz j a ()
  .let(rfl,n,k,o,ex,hk,hn,hz,rfl):=hj;let hn0:n=0:=by have:=abm List.length ex;unfold df at this;simpa using this.symm
   show h1 λj a b=>hz j a ()
  .rw[show((-ls:Int) - (f:Int)).toNat=-ls - f by omega]
abbrev kF:=Bz.kF
def J9:DF:=λas M q _=>∃(ls:List (List Int)) (f k:Nat),as=[j7 ls,.int (f:Int),.int (k:Int)]/\f<=k/\k < -ls/\-ls<=12/\q (j7 (kF ls f k)) M
def x5:Γ ["lines","first","number"] ["lines","first","number"] (τ k7):=.of rfl
def vk(F:de K "moved_ahead" "moved_ahead" k7 f fd)(E:Ev K mg Cm):aC P w K mg base (cI P w) 1 f fd ["lines","first","number"] (da K J9):=by
 show F.d9 x5 (λds M q x h=>?_) (λbI A outer s H E' hr=>(_,(ι (Α (i4 (i4 (i4 (bZ (FG (jv 0) (jv 1))) (fc (δ (Η (jv 0) (jv 2)) ε ba))) (bZ (GC (jv 0) (jv 1) (jv 2)))) (bZ (gM (jv 0) (a_ (jv 2) ν)))))),λds M q x h=>?_))
 .let(ls,f,k,rfl,_):=h;rfl
 .let(ls,f,k,rfl,hf,hk,qC,h):=h;let gk:ls.getD k []=ls[k]:=by rw[aae,aad hk];rfl
  let sz:∀{n:Nat},n<=40->n<=sizeLine:=λh=>aaH h @_;show(ls.map cN,f,rfl,rfl,?_);rw[<-List.map_take];show cR (jT _) ?_;walk_at "vc";show(χ (d:=j7 ls) rfl (E6 hk) ?_:cG (j7 ls) (.int (k:Int)) _ _);show(sz (by change 1<=40;decide),(ls.take f).map cN,[cN ls[k]],rfl,rfl,sz (by simp;omega),?_);show(f,rfl,ls.map cN,k,rfl,rfl,?_);rw[<-ab7,<-List.map_take];show cR (jT _) ?_;show((ls.take f).map cN++[cN ls[k]],((ls.drop f).take (k - f)).map cN,rfl,rfl,sz (by simp;omega),?_);show(ls.map cN,k+1,rfl,rfl,?_);rw[<-ab7];show cR (jT _) ?_;show((ls.take f).map cN++[cN ls[k]]++((ls.drop f).take (k - f)).map cN,(ls.drop (k+1)).map cN,rfl,rfl,sz (by simp;omega),?_);unfold kF Bz.kF at h;rw[gk]at h;let e:(ls.take f).map cN++[cN ls[k]]++((ls.drop f).take (k - f)).map cN++(ls.drop (k+1)).map cN=(ls.take f++[ls[k]]++(ls.drop f).take (k - f)++ls.drop (k+1)).map cN:=by rw[abp,abp,abp];rfl
  rw[e];show h
abbrev dD:=Bz.dD
def B_:DF:=λas M q _=>∃(l h:List Int) (c:Nat) (d:Int),as=[cN l,cN h,.int (c:Int),.int d]/\-l=-h/\-h<=30/\c < -h/\(∀x∈l,iG x)/\(∀x∈h,iG x)/\d≠0/\iG d/\q (cN (dD l h c d)) M
def md:Γ ["line","head","column","divisor"] ["line","head","column","divisor"] (τ jW):=.of rfl
def sA(F:de K "cleared_line" "cleared_line" jW f fd)(E:Ev K mg Cm):aC P w K mg base (cI P w) 1 f fd ["line","head","column","divisor"] (da K B_):=by
 show F.d9 md (λds M q x h=>?_) (λbI A outer s H E' hr=>(_,(ι (Α (Od (ys:=["divisor","head","column","line"]) (Ρ:=[3,1,2,0]) (.of md rfl rfl rfl) (Lk E.A5 (Μ (jv 0) (Μ (jv 1) ε))) (λC s H fp=>(C2 (l7 (dN (Η (jv 3) (jv 4)) (jv 0)) (dN (Η (jv 5) (jv 4)) (jv 1))) (jv 2)))))),λds M q x h=>?_))
 .let(l,h',c,d,rfl,_):=h;rfl
 .let(l,hd,c,d,rfl,hl,h30,hc,bl,bh,d0,bd,h):=h;let cl:c < -l:=()
  let g1:hd.getD c 0=hd[c]:=by rw[aae,aad hc];rfl
  let Tn:l.getD c 0=l[c]:=by rw[aae,aad cl];rfl
  show(cN l,cN hd,l.map Dt.int,hd.map Dt.int,λ_=>True,λ_=>True,rfl,rfl,rfl,?_);let ez:vv (l.map Dt.int) (hd.map Dt.int)=(l.zip hd).map λp=>.tup [.int p.1,.int p.2]:=by unfold vv;rw[List.zip_map,abf];rfl
  rw[ez];show(?_,?_)
  .rw[aah,abV];show aaH (show _<=30 by omega) @_
  show vY (trivial,trivial) (λx=>match x with| .tup [.int a,.int b]=>.int ((hd.getD c 0 * a - l.getD c 0 * b).fdiv d)| _=>.aZ) _ _ (λx hx q' hq=>?_) ?_
  .let(p,hp,rfl):=aaz.mp hx;let hq:q' (.int ((hd.getD c 0 * p.1 - l.getD c 0 * p.2).fdiv d)) M:=hq;let p1:=bl p.1 (acP hp).1;let p2:=bh p.2 (acP hp).2;rw[g1,Tn]at hq;let key:cG (cN hd) (.int (c:Int)) M (λx M1=>KQ x (.int p.1) M1 λy M2=>cG (cN l) (.int (c:Int)) M2 λz M3=>KQ z (.int p.2) M3 λu M4=>Ga y u M4 λv M5=>FE v (.int d) M5 q'):=by show χ (d:=cN hd) rfl (jX hc) ((bh _ (aax hc),p1),?_);show χ (d:=cN l) rfl (jX cl) ((bl _ (aax cl),p2),?_);show((d0,bd),hq)
   show key
  .rw[aba,abf];unfold dD Bz.dD at h;rw[show cN ((l.zip hd).map λp=>(hd.getD c 0 * p.1 - l.getD c 0 * p.2).fdiv d)= .lst ((l.zip hd).map λp=>Dt.int ((hd.getD c 0 * p.1 - l.getD c 0 * p.2).fdiv d)) by change Dt.lst _=_;rw[abf];rfl]at h;show h
def zL{a b:Int}(h0:0<=a)(h:a<=b):∀n:Nat,a ^ n<=b ^ n
 | 0=>by rw[Int.pow_zero,Int.pow_zero];show Int.le_refl _
 | n+1=>by rw[ack,ack];show Int.mul_le_mul (zL h0 h n) h h0 (acH ())
def DP(h:Bz.Ab x (Bz.top B r))(h1:1<=B)(hB:B<=2 ^ 450)(hr:r<=12):iG x:=by
 let e1:Bz.top B r<=(12 * B) ^ 15:=Bz.xy h1 ();let e2:(12 * B) ^ 15<=(12 * 2 ^ 450) ^ 15:=zL () () 15;let e3:((12 * 2 ^ 450) ^ 15:Int) < ((2 ^ 8000:Nat):Int):=@_
 have:(x.natAbs:Int) < ((2 ^ 8000:Nat):Int):=by let(a,b):=h;omega
 show acm.mp this
section
variable{col:Nat}{ρ μ:List Nat}{qq:Nat->Nat}{d:Int}
def AX(t:Bz.Turn A n col ρ μ qq d W)(b:Bz.Bd A n m B)(hB:B<=2 ^ 450)(hm:col<=m)(hr:-ρ<=12):(∀i,i < n->∀x∈Bz.aJ A n m (W i),iG x)/\iG d:=by
 let(a1,a2,a3):=t.st.abs b (λc hc=>aaR (t.cl c hc) hm) hr;show(λi hi x hx=>?_,DP a3 b.b1 hB hr);unfold Bz.aJ at hx;rcases abo.mp hx with z| z
 .let(y,hy,rfl):=aaz.mp z;show DP (a2 i y hi (abr.mp hy)) b.b1 hB hr
 .let(y,hy,rfl):=aaz.mp z;show DP (a1 i y hi) b.b1 hB hr
end
def bq(n:Nat):Dt:=.int n
def fN{n:Nat}:∀(l:List Nat),Dt.bD n (l.map bq)
 | []=>trivial
 | _::l=>(trivial,fN l)
def vX{l:List Int}(h:l∈Bz.ag A n m W):∃i,i < n/\l=Bz.aJ A n m (W i):=by unfold Bz.ag at h;let(i,hi,e):=aaz.mp h;show(i,abr.mp hi,e.symm)
def uG{α:Type}(a:α):∀u:Nat,(List.replicate u [a]).flatten=List.replicate u a
 | 0=>rfl
 | u+1=>by rw[abP,ab1,uG a u];rfl
structure CA(γ:List (List Int))(u:Nat)(B:Int):Prop where
 n1:1<=-γ
 Ij:-γ<=12
 SU:u<=12
 ml:∀r∈γ,-r=u+1
 bd:Bz.Bd (Bz.arr γ) (-γ) (u+1) B
 UL:B<=2 ^ 450
def AN:DF:=λas M q _=>∃(γ:List (List Int)) (u:Nat) (B:Int),as=[j7 γ,.int (u:Int)]/\CA γ u B/\
 ∀ρ μ qq d W,Bz.Turn (Bz.arr γ) (-γ) u ρ μ qq d W->q (.tup [j7 (Bz.ag (Bz.arr γ) (-γ) (u+1) W),.loc (-M)]) (M++[.lst (μ.map bq)])
def bu:Γ ["rows","unknowns","lines","columns","divisor","column","rank","number","head","above","below"] ["rows","unknowns"] (τ ur):=.of rfl
def CH(F:de K "cleared" "cleared" ur f fd)(E:Ev K mg Cm)(iU:aD P w K mg base 1 "with_weights" ["rows"] Py zd yw)(g9:aD P w K mg base 1 "number_of_head" ["lines","first","column"] UA vz vo)(jM:aD P w K mg base 1 "moved_ahead" ["lines","first","number"] J9 A4 AS)(fH:aD P w K mg base 1 "cleared_line" ["line","head","column","divisor"] B_ yb w6):aC P w K mg base (cI P w) 2 f fd ["rows","unknowns"] (da K AN):=by
 show F.d9 bu (λds M q x h=>?_) (λbI A outer s H E' hr=>(_,(ζ (ω 2 bu.nd (bZ (Ω iU hr ξ (Μ (jv 0) ε))))
   (ζ (ω 3 bu.nd (jU ε))
   (ζ (ω 4 bu.nd ν)
   (ζ (lj (bT E.bz (Μ (jv 1) ε)) (ai (i:=5) bu.nd rfl (Or.inr rfl)) aL (ζ (ω 6 bu.nd (cE E.bK (Μ (jv 3) ε)))
   (ζ (ω 7 bu.nd (Ω g9 hr ξ (Μ (jv 2) (Μ (jv 6) (Μ (jv 5) ε)))))
   (ζ (ah (Ce (jv 7) rh) (ι AQ) Ε)
   (ζ (ω 2 bu.nd (Ω jM hr ξ (Μ (jv 2) (Μ (jv 6) (Μ (jv 7) ε)))))
   (ζ (ω 8 bu.nd (Η (jv 2) (jv 6)))
   (ζ (cK (i:=9) bu.nd rfl (Or.inl rfl) (ys:=["head","column","divisor"]) (Ρ:=[8,5,4]) (.of bu rfl rfl rfl) (bC (bZ (FG (jv 2) (jv 6)))) (λC s H fp=>(Ω fH hr (dc (P:=P) (w:=w)) (Μ (jv 0) (Μ (jv 1) (Μ (jv 2) (Μ (jv 3) ε)))))))
   (ζ (cK (i:=10) bu.nd rfl (Or.inl rfl) (ys:=["head","column","divisor"]) (Ρ:=[8,5,4]) (.of bu rfl rfl rfl) (bC (bZ (gM (jv 2) (a_ (jv 6) ν)))) (λC s H fp=>(Ω fH hr (dc (P:=P) (w:=w)) (Μ (jv 0) (Μ (jv 1) (Μ (jv 2) (Μ (jv 3) ε)))))))
   (ζ (ω 2 bu.nd (i4 (i4 (jv 9) (fc (Μ (jv 8) ε))) (jv 10)))
   (ζ (ω 4 bu.nd (Η (jv 8) (jv 5)))
   (ι (cB (f_ (jv 3) (Μ (jv 5) ε))))))))))))))
   (ι (Α (av (Μ (jv 2) (Μ (jv 3) ε))))))))),λds M q x h=>?_))
 .let(γ,u,B,rfl,_):=h;rfl
 .let(γ,u,B,rfl,ro,h):=h;let n1:=ro.n1;let Ij:=ro.Ij;let SU:=ro.SU;show(γ,rfl,Ij,λr rN=>by rw[ro.ml r rN];omega,λE0'=>?_);rw[Bz.BB ro.ml];show gT (d':=j7 (Bz.ag (Bz.arr γ) (-γ) (u+1) λi=>Bz.ind i)) (.u6 (Nat.le_refl _) (by simp) (gm.old (jT _))) ?_;generalize hA:Bz.arr γ=A at *
  generalize hn:-γ=n at *
  show(@_,?_);walk_at "vc";show(((),()),?_);show eV (λzs ρ' M'=>∃(c k:Nat) (ρ μ:List Nat) (qq:Nat->Nat) (d:Int) (W:Nat->Bz.Row) (o1 o2 o3 o4 o5 o6:Option Dt),zs=df k c/\k+c=u/\Bz.Turn A n k ρ μ qq d W/\M'=M++[MO.lst (μ.map bq)]/\ρ'=[!(j7 γ),!(.int (u:Int)),!(j7 (Bz.ag A n (u+1) W)),!(.loc (-M)),!(.int d),o1,o2,o3,o4,o5,o6]) (λx zs ρ' M' hj gc=>?_) (λρ' M' hj=>?_) _ _ _ (u,0,[],[],id,1,_,none,none,none,none,none,none,by simp,by simp,Bz.Turn.start,rfl,rfl)
  .let(c,k,ρ,μ,qq,d,W,o1,o2,o3,o4,o5,o6,ex,hkc,t,rfl,rfl):=hj;let(m,rfl,rfl,rfl):=eP ex;let lc:-μ=-ρ:=t.st.lc;let rn:-ρ<=n:=t.st.rn;let hs1:iX (M++[MO.lst (μ.map bq)]) (.loc (-M))=!(μ.map bq):=Ju (gH aK);walk_at "vc";show(az (d:=.loc (-M)) hs1 ?_:fi [.loc (-M)] _ _);rw[aah,lc];show(Bz.ag A n (u+1) W,-ρ,k,rfl,by rw[Bz.dH];show rn,by rw[Bz.dH];show Ij,λl hl=>?_,λhz=>?_,λk' h1 h2 h0=>?_)
   .let(i,_,rfl):=vX hl;rw[Bz.eW];omega
   .show(λ_=>?_,nofun);show gc _ _ (m,k+1,ρ,μ,qq,d,W,_,_,_,_,_,_,by simp,(),t.skip λi a b=>?_,rfl,rfl);have:=hz i a (by rw[Bz.dH];show b);rw[Bz.k_ b,Bz.ip ()]at this;show this
   .rw[Bz.dH]at h2;rw[Bz.k_ h2,Bz.ip (show k < u+1 by omega)]at h0;show(nofun,λ_=>?_);show(Bz.ag A n (u+1) W,-ρ,k',rfl,h1,by rw[Bz.dH];show h2,by rw[Bz.dH];show Ij,?_);rw[show kF (Bz.ag A n (u+1) W) (-ρ) k'=_ from Bz.zE h1 h2];let t1:=t.move h1 h2;let S9:-ρ < n:=()
    let h0':Bz.rv A n (W (Bz.jz (-ρ) k' (-ρ))) k≠0:=by
     have:Bz.jz (-ρ) k' (-ρ)=k':=by unfold Bz.jz;rw[if_neg (Nat.lt_irrefl _),if_pos rfl]
     rw[this];show h0
    clear h0 h1 h2 t;generalize hW1:(λi=>W (Bz.jz (-ρ) k' i))=W1 at *
    generalize Ub:(λi=>qq (Bz.jz (-ρ) k' i))=q1 at *
    let e1:W (Bz.jz (-ρ) k' (-ρ))=W1 (-ρ):=by rw[<-hW1]
    rw[e1]at h0';let(bl,bd):=AX t1 (m:=u+1) (by subst hA hn;show ro.bd) ro.UL () ();let(W',t2,el):=t1.step (m:=u+1) S9 () h0';let SM:-(Bz.ag A n (u+1) W1)=n:=Bz.dH;let hdg:(Bz.ag A n (u+1) W1)[-ρ]'(by rw[SM];show S9)=Bz.aJ A n (u+1) (W1 (-ρ)):=by have:=Bz.k_ (A:=A) (m:=u+1) (W:=W1) S9;rw[aae,aad (by rw[SM];show S9)]at this;show this
    let clr:∀l∈Bz.ag A n (u+1) W1,∀q':DQ,q' (cN (dD l (Bz.aJ A n (u+1) (W1 (-ρ))) k d)) (M++[MO.lst (μ.map bq)])->B_ [cN l,cN (Bz.aJ A n (u+1) (W1 (-ρ))),.int (k:Int),.int d] (M++[MO.lst (μ.map bq)]) q' (λC fs M'=>k8 [] C fs M'):=λl hl q' oX=>by let(i,hi,rfl):=vX hl;show(_,_,k,d,rfl,by rw[Bz.eW,Bz.eW],by rw[Bz.eW];omega,by rw[Bz.eW];omega,bl i hi,bl _ S9,t1.d0,bd,oX)
    walk_at "vc";show(χ (d:=j7 (Bz.ag A n (u+1) W1)) rfl (E6 (by rw[SM];show S9)) ?_:cG (j7 (Bz.ag A n (u+1) W1)) (.int (-ρ:Int)) _ _);rw[hdg];let sz:∀{z:Nat},z<=40->z<=sizeLine:=λh=>aaH h @_;show((Bz.ag A n (u+1) W1).map cN,-ρ,rfl,rfl,?_);rw[<-List.map_take];show cR (jT _) (sz (by rw[aah,acq];omega),?_);show cQ (F:=λx a=>x=cN a/\a∈Bz.ag A n (u+1) W1) (f:=λl=>cN (dD l (Bz.aJ A n (u+1) (W1 (-ρ))) k d)) trivial (λx a ha q' oX=>by let(rfl,ha):=ha;show clr a ha q' oX) (h8 cN _ _ λ_ h=>List.mem_of_mem_take h) ?_;rw[aba];show((Bz.ag A n (u+1) W1).map cN,-ρ+1,rfl,rfl,?_);rw[<-ab7];show cR (jT _) (sz (by rw[aah,abQ];omega),?_);show cQ (F:=λx a=>x=cN a/\a∈Bz.ag A n (u+1) W1) (f:=λl=>cN (dD l (Bz.aJ A n (u+1) (W1 (-ρ))) k d)) trivial (λx a ha q' oX=>by let(rfl,ha):=ha;show clr a ha q' oX) (h8 cN _ _ λ_ h=>List.mem_of_mem_drop h) ?_;rw[aba];show(by change 1<=sizeLine;decide,_,_,rfl,rfl,sz (by simp;omega),_,_,rfl,rfl,sz (by simp;omega),?_);let ek:k < -(Bz.aJ A n (u+1) (W1 (-ρ))):=by rw[Bz.eW];omega
    let ev:(Bz.aJ A n (u+1) (W1 (-ρ)))[k]=Bz.rv A n (W1 (-ρ)) k:=by have:=Bz.ip (A:=A) (n:=n) (m:=u+1) (x:=k) (w:=W1 (-ρ)) ();rw[aae,aad ek]at this;show this
    show χ (d:=cN (Bz.aJ A n (u+1) (W1 (-ρ)))) rfl (jX ek) ?_;rw[ev];show((-M,_,rfl,aK),-M,_,_,rfl,rfl,aK,?_,?_)
    .rw[aah,lc];show abt (show _<=12 by omega) @_
    rw[ef];let ee:=abm (List.map cN) el;rw[abp,abp,abf,abf]at ee;show gc _ _ (m,k+1,ρ++[q1 (-ρ)],μ++[k],q1,_,W',!(.int (k:Int)),!(.int (-ρ:Int)),!(.int (k':Int)),!(cN (Bz.aJ A n (u+1) (W1 (-ρ)))),!(.lst (((Bz.ag A n (u+1) W1).take (-ρ)).map λl=>cN (dD l (Bz.aJ A n (u+1) (W1 (-ρ))) k d))),!(.lst (((Bz.ag A n (u+1) W1).drop (-ρ+1)).map λl=>cN (dD l (Bz.aJ A n (u+1) (W1 (-ρ))) k d))),by simp,(),t2,by simp[bq],?_);change _=[!(j7 γ),!(Dt.int (u:Int)),!(Dt.lst ((Bz.ag A n (u+1) W').map cN)),!(Dt.loc (-M)),!(Dt.int _),_,_,_,_,_,_];rw[<-ee];rfl
  .let(c,k,ρ,μ,qq,d,W,o1,o2,o3,o4,o5,o6,ex,hkc,t,rfl,rfl):=hj;let hn0:c=0:=by have:=abm List.length ex;unfold df at this;simpa using this.symm
   have:k=u:=()
   subst this;show(fI,h _ _ _ _ _ t)
def O4:DF:=λas M q _=>∃(γ:List (List Int)) (u:Nat) (B:Int) (ρ μ:List Nat) (qq:Nat->Nat) (d:Int) (W:Nat->Bz.Row),as=[j7 (Bz.ag (Bz.arr γ) (-γ) (u+1) W),.lst (μ.map bq),.int (u:Int),.int (u:Int)]/\CA γ u B/\Bz.Turn (Bz.arr γ) (-γ) u ρ μ qq d W/\μ=List.range u/\
 q (.loc (-M)) (M++[.lst ((List.range u).map λi=>aI (ay (Bz.rv (Bz.arr γ) (-γ) (W i) u) d))])
def iA:Γ ["lines","columns","unknowns","source","told","line","column"] ["lines","columns","unknowns","source"] (τ mC):=.of rfl
def xK(F:de K "quotients" "quotients" mC f fd)(E:Ev K mg Cm)(cM:aD P w K mg base 2 "fraction" ["top","bottom"] vD i_ jk):aC P w K mg base (cI P w) 3 f fd ["lines","columns","unknowns","source"] (da K O4):=by
 show F.d9 iA (λds M q x h=>?_) (λbI A outer s H E' hr=>(_,(ζ (ω 4 iA.nd (BS (b_ 3 (d:=.lst [.tup [.int 0,.int 1]]) (by rfl)) (jv 2)))
   (ζ (cP (Lk E.A5 (Μ (jv 0) (Μ (jv 1) ε))) (km rfl (bt (ai (i:=5) iA.nd rfl (Or.inl rfl)) (bt (ai (i:=6) iA.nd rfl (Or.inl rfl)) iu))) mV (ι (kK (jv 4) (jv 6) (Ω cM hr ξ (δ (Η (jv 5) (jv 3)) (δ (Η (jv 5) (jv 6)) ε ba) ba)))))
   (ι (Α (jv 4))))),λds M q x h=>?_))
 .let(γ,u,B,ρ,μ,qq,d,W,rfl,_):=h;rfl
 .let(γ,u,B,ρ,μ,qq,d,W,rfl,ro,t,hc,h):=h;let SU:=ro.SU;let Ij:=ro.Ij;let hl:-ρ=u:=by rw[<-t.st.lc,hc,abu]
  let un:u<=-γ:=by rw[<-hl];show t.st.rn
  let(bl,bd):=AX t (m:=u+1) ro.bd ro.UL () ();let d0:=t.d0;let one:∀i,i < u->Bz.rv (Bz.arr γ) (-γ) (W i) i=d:=λi hi=>by have:=t.st.one i i () ();rw[aaP rfl,hc,aae,abg hi]at this;show this
  generalize hA:Bz.arr γ=A at *
  generalize hn:-γ=n at *
  let  tl:Nat->List Dt:=λk=>(List.range u).map λi=>if i < k then aI (ay (Bz.rv A n (W i) u) d) else aI (0, 1)
  let t0:(List.replicate (u:Int).toNat [aI (0, 1)]).flatten=tl 0:=by
   change _=(List.range u).map λi=>if i < 0 then _ else aI (0, 1)
   rw[show((u:Int)).toNat=u by omega];apply abI
   .simp
   .intro j h1 h2;let e:(List.replicate u [aI (0, 1)]).flatten=List.replicate u (aI (0, 1)):=uG _ u;simp[e]
  let ts:∀k,k < u->(tl k).set k (aI (ay (Bz.rv A n (W k) u) d))=tl (k+1):=λk hk=>by
   apply abI
   .simp[tl]
   .intro j h1 h2;rw[List.getElem_set];simp only[tl,List.getElem_map,List.getElem_range];by_cases e:k=j
    .subst e;rw[aaP rfl,aaP ()]
    .rw[aaK e];by_cases f:j < k
     .rw[aaP f,aaP ()]
     .rw[aaK f,aaK ()]
  show([aI (0, 1)],u,rfl,rfl,(),(),?_,?_)
  .change 1 * ((u:Int)).toNat<=sizeLine;show aaH (show _<=12 by omega) @_
  rw[t0];show(j7 (Bz.ag A n (u+1) W),.lst (μ.map bq),_,_,λ_=>True,λ_=>True,rfl,rfl,rfl,?_);let ez:vv ((Bz.ag A n (u+1) W).map cN) (μ.map bq)=(List.range u).map λi=>.tup [cN (Bz.aJ A n (u+1) (W i)),bq i]:=by
   unfold vv Bz.ag;rw[hc];apply abI
   .simp;omega
   .intro j h1 h2;simp
  rw[ez];show bJ (λzs ρ' M'=>∃(k:Nat) (o1 o2:Option Dt),k<=u/\zs=((List.range u).drop k).map (λi=>.tup [cN (Bz.aJ A n (u+1) (W i)),bq i])/\M'=M++[MO.lst (tl k)]/\ρ'=[!(j7 (Bz.ag A n (u+1) W)),!(.lst (μ.map bq)),!(.int (u:Int)),!(.int (u:Int)),!(.loc (-M)),o1,o2]) (λzs ρ' M' hj=>(trivial,trivial)) (λx zs ρ' M' hj gc=>?_) (λρ' M' hj=>?_) _ _ _ (0,none,none,acn _,rfl,rfl,rfl)
  .let(k,o1,o2,hk,ex,rfl,rfl):=hj;let Ai:k < u:=by
    rcases Nat.lt_or_ge k u with z| z
    .show z
    .rw[List.drop_of_length_le (by simpa using z)]at ex;cases ex
   rw[List.drop_eq_getElem_cons (by simpa using Ai),List.map_cons,List.getElem_range]at ex;cases ex;let ek:k < -(Bz.aJ A n (u+1) (W k)):=by rw[Bz.eW];omega
   let eu:u < -(Bz.aJ A n (u+1) (W k)):=by rw[Bz.eW];omega
   let v1:(Bz.aJ A n (u+1) (W k))[k]=d:=by have:=Bz.ip (A:=A) (n:=n) (m:=u+1) (x:=k) (w:=W k) ();rw[aae,aad ek]at this;rw[<-one k Ai];show this
   let v2:(Bz.aJ A n (u+1) (W k))[u]=Bz.rv A n (W k) u:=by have:=Bz.ip (A:=A) (n:=n) (m:=u+1) (x:=u) (w:=W k) ();rw[aae,aad eu]at this;show this
   dsimp only[g2,yq];walk_at "vc";show χ (d:=cN (Bz.aJ A n (u+1) (W k))) rfl (jX eu) ?_;show χ (d:=cN (Bz.aJ A n (u+1) (W k))) rfl (jX ek) ?_;rw[v1,v2];show(bd,λz=>aa5 z d0,λ_=>?_);show(-M,k,_,k,rfl,rfl,aK,?_,?_)
   .rw[show(tl k).length=u by simp[tl]];show sO Ai
   rw[ef];show gc _ _ (k+1,_,_,Ai,rfl,?_,rfl);rw[<-ts k Ai];rfl
  .let(k,o1,o2,hk,ex,rfl,rfl):=hj;have:k=u:=by have:=abm List.length ex;simp at this;omega
   subst this;let e:tl k=(List.range k).map λi=>aI (ay (Bz.rv A n (W i) k) d):=aby λi hi=>by rw[aaP (abr.mp hi)]
   rw[e];show h
def yY:DF:=λas M q _=>∃(γ:List (List Int)) (u:Nat) (B:Int) (jj:List Fr) (z:Bz.Row) (N:Int),as=[j7 γ]/\CA γ u B/\1<=u/\-jj=u/\Bz.Qe (Bz.arr γ) (-γ) u z N/\N≠0/\
 (∀i,i < u->0 < (jj.getD i (0, 1)).2/\Int.gcd (jj.getD i (0, 1)).1 (jj.getD i (0, 1)).2=1/\N * (jj.getD i (0, 1)).1=z i * (jj.getD i (0, 1)).2)/\
 (∀y:Bz.Row,(∀k,k < -γ->Bz.Β (λx=>Bz.arr γ k x * y x) u=0)->∀x,x < u->y x=0)/\q (.loc (-M)) (M++[.lst (jj.map aI)])
def eD:Γ ["rows","unknowns","found","lines","columns","line","answer"] ["rows"] (τ pK):=.of rfl
def zO(F:de K "answer_of" "answer_of" pK f fd)(E:Ev K mg Cm)(pJ:aD P w K mg base 2 "cleared" ["rows","unknowns"] AN Jy JQ)(kI:aD P w K mg base 3 "quotients" ["lines","columns","unknowns","source"] O4 DW DM):aC P w K mg base (cI P w) 4 f fd ["rows"] (da K yY):=by
 show F.d9 eD (λds M q x h=>?_) (λbI A outer s H E' hr=>(_,(ζ (ω 1 eD.nd (l7 (cE E.bK (δ (Η (jv 0) ν) ε ba)) ν))
   (ζ (ω 2 eD.nd (bZ (Ω pJ hr ξ (Μ (jv 0) (Μ (jv 1) ε)))))
   (ζ (ω 3 eD.nd (Η (jv 2) ν))
   (ζ (ω 4 eD.nd (Η (jv 2) ν))
   (ζ (cP (bC (bZ (gM (jv 3) (cE E.bK (Μ (jv 4) ε))))) (ai (i:=5) eD.nd rfl (Or.inl rfl)) aL (ι (ah (iz hr (Η (jv 5) (jv 1)) ν) (ι h7) Ε)))
   (ζ (ω 6 eD.nd (Ω kI hr ξ (Μ (jv 3) (Μ (jv 4) (Μ (jv 1) (Μ (jv 1) ε))))))
   (ζ (ah (uL (cE E.bK (Μ (jv 4) ε)) (jv 1)) (ι h7) Ε)
   (ι (Α (jv 6)))))))))),λds M q x h=>?_))
 .let(γ,u,B,jj,z,N,rfl,_):=h;rfl
 .let(γ,u,B,jj,z,N,rfl,ro,u1,dl,sol,hN,YH,Zk,h):=h;let n1:=ro.n1;let Ij:=ro.Ij;let SU:=ro.SU;let r0:0 < -γ:=()
  let m0:-γ[0]=u+1:=ro.ml _ (aax r0);walk_at "vc";show(χ (d:=j7 γ) rfl (E6 r0) ?_:cG (j7 γ) (.int 0) _ _);show(az (d:=cN γ[0]) (xs:=γ[0].map Dt.int) rfl ?_:fi [cN γ[0]] _ _);rw[aah,m0];dsimp only[Ga];rw[show(((u+1:Nat):Int) - 1)=(u:Int) by omega];show(γ,u,B,rfl,ro,λρ μ qq d W t=>?_);let Ey:μ=List.range u:=by
   rcases t.all with e| ⟨x,hx,hf⟩
   .show e
   .let(y,y1,y2):=t.kernel hx hf;have:=Zk y y2 x hx;rw[this]at y1;show aa5 () t.d0
  let hl:-ρ=u:=by rw[<-t.st.lc,Ey,abu]
  let un:u<=-γ:=by rw[<-hl];show t.st.rn
  show gT (d':=.tup [j7 (Bz.ag (Bz.arr γ) (-γ) (u+1) W),.lst (μ.map bq)]) (.tup (.cons (.old (jT _)) (.cons (.u6 (Nat.le_refl _) (by simp) (gm.old (fN _))) .nil))) ?_;let told:(List.range u).map (λi=>aI (ay (Bz.rv (Bz.arr γ) (-γ) (W i) u) d))=jj.map aI:=by
   apply abI
   .simp[dl]
   .intro i h1 h2;let hi:i < u:=by simpa using h1
    simp only[List.getElem_map,List.getElem_range];let(p0,p1,p2):=YH i hi;let gi:jj.getD i (0, 1)=jj[i]:=by rw[aae,aad ()];rfl
    rw[gi]at p0 p1 p2;let e:=t.told Ey sol hi
    congr 1
    have:ay (Bz.rv (Bz.arr γ) (-γ) (W i) u) d=(jj[i].1, jj[i].2):=xp t.d0 p0 p1 (by
     show abn hN ?_
     grind)
    show this
  show(χ (d:=.tup [j7 (Bz.ag (Bz.arr γ) (-γ) (u+1) W),.lst (μ.map bq)]) rfl bc ?_:cG (.tup [j7 (Bz.ag (Bz.arr γ) (-γ) (u+1) W),.lst (μ.map bq)]) (.int 0) _ _);show(χ (d:=.tup [j7 (Bz.ag (Bz.arr γ) (-γ) (u+1) W),.lst (μ.map bq)]) rfl (Λ (j:=1) rfl) ?_:cG (.tup [j7 (Bz.ag (Bz.arr γ) (-γ) (u+1) W),.lst (μ.map bq)]) (.int 1) _ _);let lcu:-(μ.map bq)=u:=by rw[aah,Ey,abu]
  dsimp only[qI,gu,U',N8];walk_at "vc";show(az (d:=.lst (μ.map bq)) (xs:=μ.map bq) rfl ?_:fi [.lst (μ.map bq)] _ _);show((Bz.ag (Bz.arr γ) (-γ) (u+1) W).map cN,-(μ.map bq),rfl,rfl,?_);rw[lcu,<-ab7];show cR (jT _) ?_;let hz:∀l∈(Bz.ag (Bz.arr γ) (-γ) (u+1) W).drop u,u < -l/\l.getD u 0=0:=λl PV=>by
   let(j,hj,e):=abH PV;rw[List.getElem_drop]at e;rw[abQ,Bz.dH]at hj;let hu:u+j < -γ:=()
   let el:l=Bz.aJ (Bz.arr γ) (-γ) (u+1) (W (u+j)):=by have:=Bz.k_ (A:=Bz.arr γ) (m:=u+1) (W:=W) hu;rw[aae,aad (by rw[Bz.dH];show hu)]at this;rw[<-e];show this
   rw[el];show(by rw[Bz.eW];omega,?_);rw[Bz.ip ()];show t.rest sol hN () hu
  show bJ (λzs ρ' M'=>M'=M/\∃(rest:List (List Int)) (o:Option Dt),zs=rest.map cN/\(∀l∈rest,u < -l/\l.getD u 0=0)/\ρ'=[!(j7 γ),!(.int (u:Int)),!(.tup [j7 (Bz.ag (Bz.arr γ) (-γ) (u+1) W),.lst (μ.map bq)]),!(j7 (Bz.ag (Bz.arr γ) (-γ) (u+1) W)),!(.lst (μ.map bq)),o,none]) (λzs ρ' M' hj=>trivial) (λx zs ρ' M' hj gc=>?_) (λρ' M' hj=>?_) _ _ _ (rfl,_,none,rfl,hz,rfl)
  .let(rfl,rest,o,ex,rN,rfl):=hj;cases rest with
   | nil=>cases ex
   | cons l rest=>
    cases ex;let(l1,l2):=rN l aai;let lv:l[u]=0:=by rw[aae,aad l1]at l2;show l2
    walk_at "vc";show(χ (d:=cN l) rfl (jX l1) ?_:cG (cN l) (.int (u:Int)) _ _);rw[lv];show(nofun,λ_=>gc _ _ (rfl,rest,_,rfl,λy hy=>rN y (aag _ hy),rfl))
  .let(rfl,rest,o,ex,rN,rfl):=hj;show(γ,u,B,ρ,μ,qq,d,W,rfl,ro,t,Ey,?_);rw[told];walk_at "vc";show(az (d:=.lst (μ.map bq)) (xs:=μ.map bq) rfl ?_:fi [.lst (μ.map bq)] _ _);rw[lcu];show(λz=>?_,λ_=>h);let z:(u:Int) < u:=aaW z;omega
structure Ch(B:Int)(c:Fr):Prop where
 pos:0 < c.2
 he:oS c B
 u:nP c
 sz:Sz 300 c
def IU{p:Fr}(h:p.2∣E):oS p E:=by let(k,e):=h;show(p.1 * k,by rw[e];grind)
def sQ:∀{l:List Int} {a:Int},(∀b∈l,0 < b)->a∈l->a<=l.sum
 | b::l,a,h,ha=>by
  let ih:∀{l:List Int},(∀b∈l,0 < b)->0<=l.sum:=λ{l}=>by
   induction l with
   | nil=>intro _;show Int.le_refl _
   | cons c l ih=>
    intro h;have:=ih λd hd=>h d (aag _ hd);have:=h c aai;rw[List.sum_cons];omega
  rw[List.sum_cons];let h0:=h b aai;rcases aaS.mp ha with e| e
  .have:=ih λd hd=>h d (aag _ hd);omega
  .have:=sQ (λd hd=>h d (aag _ hd)) e;omega
def ML(o:AR cs){c:Fr}(hc:c∈cs):0 < c.2/\c.2∣bM cs/\nP c/\Sz 300 c:=by
 let(a,b,d):=o.Io.2 c hc;let B0:=o.b0;let(_,_,hB):=g7 cs 1 0 @_ (acz _) λc hc=>((o.Io.2 c hc).1,acz _);let dv:c.2∣bM cs:=hB c hc
 let le:=sQ (l:=cs.map (kZ (bM cs))) (λb hb=>by
  let(x,hx,rfl):=aaz.mp hb
  show o.pos x hx) (aaz.mpr (c,hc,rfl))
 rw[o.sum]at le;let wp:=o.pos c hc;unfold kZ at le wp;let(m,em):=dv;let em':bM cs / c.2=m:=by rw[em];show abW m ()
 rw[em']at le wp;let m0:0 < m:=by
  rw[em]at B0;rcases Int.lt_or_le 0 m with z| z
  .show z
  .have:=abq z (aaT a);omega
 let c0:0<=c.1:=by
  rcases Int.lt_or_le c.1 0 with z| z
  .have:=abB (aaT z) (aaT m0);omega
  .show z
 let c1:c.1<=c.2:=by rw[em]at le;show Int.le_of_mul_le_mul_right le m0
 show(a,(m,em),(c0,c1),yD (k:=200) (d,a,?_) @_);have:(c.2.natAbs:Int) < ((2 ^ 200:Nat):Int):=by rw[abM (aaT a)];show b
 show acm.mp this
abbrev Pl:=List (Int×Int)
def kP(pl:Pl):List Key:=pl.map λp=>Sum.inl p.1
def vP(pl:Pl):List Dt:=pl.map λp=>Dt.int p.2
abbrev dP(pl:Pl):MO:=.eG (kP pl) (vP pl)
def Τ:Pl->Int->Option Int
 | [],_=>none
 | p::r,i=>if p.1=i then !p.2 else Τ r i
def j9(pl:Pl)(i v:Int):Pl:=if (Τ pl i).isSome=true then pl.map (λp=>if p.1=i then (p.1, v) else p) else pl++[(i, v)]
def I_:(decide ((Sum.inl a:Key)=Sum.inl b))=decide (a=b):=by
 by_cases h:a=b
 .rw[aaB h,aaB (abm Sum.inl h)]
 .rw[aaF h,aaF λz=>h (Sum.inl.inj z)]
def qN{i:Int}:∀{pl:Pl},aY (kP pl) (vP pl) (Sum.inl i)=(Τ pl i).map Dt.int
 | []=>rfl
 | p::r=>by
  let ih:=qN (i:=i) (pl:=r);unfold aY at ih⊢;change(List.find? (λq:Key×Dt=>decide (q.1=Sum.inl i)) ((Sum.inl p.1, Dt.int p.2)::(kP r).zip (vP r))).map (·.2)=Option.map Dt.int (if p.1=i then !p.2 else Τ r i);rw[List.find?_cons,I_];by_cases h:p.1=i
  .rw[aaB h,aaP h];rfl
  .rw[aaF h,aaK h];show ih
def Oa{i:Int}:∀{pl:Pl},MR (kP pl) (Sum.inl i)=(Τ pl i).isSome
 | []=>rfl
 | p::r=>by
  let ih:=Oa (i:=i) (pl:=r);unfold MR at ih⊢;change(decide ((Sum.inl p.1:Key)=Sum.inl i)|| (kP r).any λc=>decide (c=Sum.inl i))=(if p.1=i then !p.2 else Τ r i).isSome;rw[I_,ih];by_cases h:p.1=i
  .rw[aaB h,aaP h];rfl
  .rw[aaF h,aaK h,Bool.false_or]
def Ek{i:Int}:∀{pl:Pl},l' (Sum.inl i:Key) (Dt.int v) (kP pl) (vP pl)=vP (pl.map λp=>if p.1=i then (p.1, v) else p)
 | []=>rfl
 | p::r=>by
  change(if (Sum.inl p.1:Key)=Sum.inl i then Dt.int v else Dt.int p.2)::l' (Sum.inl i:Key) (Dt.int v) (kP r) (vP r)=Dt.int (if p.1=i then (p.1, v) else p).2::vP (r.map λp=>if p.1=i then (p.1, v) else p);rw[Ek];by_cases h:p.1=i
  .rw[aaP h,aaP (abm Sum.inl h)]
  .rw[aaK h,aaK λz=>h (Sum.inl.inj z)]
def BJ{i v:Int}:∀{pl:Pl},kP (pl.map λp=>if p.1=i then (p.1, v) else p)=kP pl
 | []=>rfl
 | p::r=>by change(Sum.inl (if p.1=i then (p.1, v) else p).1:Key)::kP (r.map λp=>if p.1=i then (p.1, v) else p)=Sum.inl p.1::kP r;rw[BJ];split <;> rfl
def AI{i:Int}:hV (kP pl) (Sum.inl i)=kP (j9 pl i v):=by
 unfold hV j9;rw[Oa];split
 .show BJ.symm
 .unfold kP;rw[List.map_append];rfl
def EL{i:Int}:fb (kP pl) (Sum.inl i) (vP pl) (Dt.int v)=vP (j9 pl i v):=by
 unfold fb j9;rw[Oa];split
 .show Ek
 .unfold vP;rw[List.map_append];rfl
def rY{i v j:Int}:∀{pl:Pl},Τ (pl.map λp=>if p.1=i then (p.1, v) else p) j=if j=i then (Τ pl j).map λ_=>v else Τ pl j
 | []=>by split <;> rfl
 | p::r=>by
  let ih:=rY (i:=i) (v:=v) (j:=j) (pl:=r);rw[abe];unfold Τ;by_cases h:p.1=i
  .rw[aaP h];by_cases hj:p.1=j
   .rw[aaP hj,aaP hj,aaP ()];rfl
   .rw[aaK hj,aaK hj];show ih
  .rw[aaK h];by_cases hj:p.1=j
   .rw[aaP hj,aaP hj,aaK ()]
   .rw[aaK hj,aaK hj];show ih
def FO{i j v:Int}:∀{pl:Pl},Τ (pl++[(i, v)]) j=if (Τ pl j).isSome=true then Τ pl j else if i=j then !v else none
 | []=>rfl
 | p::r=>by
  let ih:=FO (i:=i) (j:=j) (v:=v) (pl:=r);rw[List.cons_append];unfold Τ;by_cases hj:p.1=j
  .rw[aaP hj,aaP hj];rfl
  .rw[aaK hj,aaK hj];show ih
def NO{i j:Int}:Τ (j9 pl i v) j=if j=i then !v else Τ pl j:=by
 unfold j9;split
 .rename_i h;rw[rY];split
  .rename_i e;subst e;let(x,hx):=abE.mp h;rw[hx];rfl
  .rfl
 .rename_i h;rw[FO];by_cases e:j=i
  .subst e;rw[aaK h,aaP rfl,aaP rfl]
  .rw[aaK e];cases hj:Τ pl j with
   | none=>rw[if_neg (by simp),if_neg ()]
   | some x=>rfl
def Fc(pl:Pl):Prop:=(pl.map (·.1)).Nodup
def FP{i v:Int}:∀{pl:Pl},Τ pl i=!v->(i, v)∈pl
 | [],h=>by cases h
 | p::r,h=>by
  unfold Τ at h;split at h
  .rename_i e;have:p=(i, v):=by rw[<-e,<-aay h]
   rw[this];show aai
  .show aag _ (FP h)
def Es{i v:Int}:∀{pl:Pl},Fc pl->(i, v)∈pl->Τ pl i=!v
 | [],_,h=>by cases h
 | p::r,nd,h=>by
  unfold Fc at nd;rw[abe,abT]at nd;unfold Τ;rcases aaS.mp h with e| e
  .rw[aaP (by rw[<-e])];rw[<-e]
  .have:p.1≠i:=λz=>nd.1 (by rw[z];show aaz.mpr (_,e,rfl));rw[aaK this];show Es nd.2 e
def OX(p1 p2:Pl):Bool:=decide (-p1=-p2)&&(List.range (-p1)).all λj=>decide (Τ p2 (p1.getD j (0, 0)).1=!(p1.getD j (0, 0)).2)
def OQ{k:Key}(h:(kP pl)[j]? =!k):j < -pl/\k=Sum.inl (pl.getD j (0, 0)).1:=by unfold kP at h;rw[aat]at h;let(p,hp,e):=abN.mp h;show((aam.mp hp).1,?_);rw[aae,hp];show e.symm
def TZ(h:(vP pl)[j]? =!d):d= .int (pl.getD j (0, 0)).2:=by unfold vP at h;rw[aat]at h;let(p,hp,e):=abN.mp h;rw[aae,hp];show e.symm
def OA(a b:Int):mq (V.int a) (V.int b)=decide (a=b):=by
 unfold mq;by_cases h:a=b
 .subst h;simp
 .simp[h]
def PF{k1 k2:Nat}{p1 p2:Pl}(h1:M[k1]? =!(dP p1))(h2:M[k2]? =!(dP p2)):J8 M (n+1) (.loc k1) (.loc k2) (OX p1 p2):=by
 let l1:-(kP p1)=-p1:=by unfold kP;simp
 let l2:-(kP p2)=-p2:=by unfold kP;simp
 by_cases hl:-p1=-p2
 .have:=J8.eG (M:=M) (n:=n) (f:=λj=>decide (Τ p2 (p1.getD j (0, 0)).1=!(p1.getD j (0, 0)).2)) h1 h2 (by rw[l1,l2];show hl) (λj k hk hn=>by
   let(hj,e):=OQ hk;subst e;rw[qN]at hn;let hn:Τ p2 (p1.getD j (0, 0)).1=none:=by
    cases hg:Τ p2 (p1.getD j (0, 0)).1 with
    | none=>rfl
    | some x=>rw[hg]at hn;cases hn
   rw[hn];rfl) (λj k d d' hk hd hg=>by
   let(hj,e):=OQ hk;let ed:=TZ hd;subst e ed;rw[qN]at hg;let(x,hx,ex):=abN.mp hg;subst ex;have:decide (Τ p2 (p1.getD j (0, 0)).1=!(p1.getD j (0, 0)).2)=mq (V.int (p1.getD j (0, 0)).2) (V.int x):=by
    rw[hx,OA];by_cases e:(p1.getD j (0, 0)).2=x
    .rw[decide_eq_true e,e];simp
    .rw[aaF e,aaF λz=>e (aay z).symm]
   change J8 M n _ _ (decide (Τ p2 (p1.getD j (0, 0)).1=!(p1.getD j (0, 0)).2));rw[this]
   show J8.flat rfl rfl)
  rw[l1]at this;unfold OX;rw[aaB hl,Bool.true_and];show this
 .let e:OX p1 p2=false:=by unfold OX;rw[decide_eq_false hl];rfl
  rw[e];show J8.len h1 h2 (by rw[l1,l2];show hl)
def F_{pl:Pl}(h:j < -pl):pl.getD j (0, 0)∈pl:=by rw[aae,aad h];show aax _
def Ba(nd:Fc pl):OX pl pl=true:=by unfold OX;rw[aaB rfl,Bool.true_and,abc];intro j hj;show aaB (Es nd (F_ (abr.mp hj)))
def aq{E:Ms}{k:Nat}{m:MO}(h:M[k]? =!m):(M++E)[k]? =!m:=by rw[aaG (aam.mp h).1];show h
structure qi(γ:List Rw)(acc:Pl):Prop where
 hand:∀(i:Nat) (r:Rw),γ[i]? =!r->Ξ (kindOf r)=true->∃j:Nat,Τ acc i=!(j:Int)/\j < -(aE r)
 JO:∀(i:Nat) (r:Rw),γ[i]? =!r->Ξ (kindOf r)=false->Τ acc i=none
def eY(acc:Pl)(i:Nat)(r:Rw):List br:=match Τ acc i with
 | some j=>let  d:=(aE r).getD j.toNat d0;[(d.1, d.2.1,d.2.2++[(1, 1)])]
 | none=>aE r
def PY(A:Addr):DF:=λas M q _=>∃θ γ i r k acc,as=[aF A θ γ,.int (i:Nat),.loc k]/\M[k]? =!(dP acc)/\γ[i]? =!r/\gw r/\qi γ acc/\q (.lst ((eY acc i r).map c_)) M
def r8:Γ ["floor","place","doors","ways"] ["floor","place","doors"] (τ ph):=.of rfl
def zN(F:de K "ways_from" "ways_from" ph f fd)(E:Ev K mg Cm)(aT:gh P w K mg base 2 Cm "doors" ["self","place"] (tU Cm) dF dE)(ar:gh P w K mg base 1 Cm "kind" ["self","place"] (sF Cm) bW bY):aC P w K mg base (cI P w) 3 f fd ["floor","place","doors"] (da K (PY Cm)):=by
 show F.d9 r8 (λds M q x h=>?_) (λbI A outer s H E' hr=>(_,(ζ (ω 3 r8.nd (bZ (gX aT hr ξ (jv 0) (Μ (jv 1) ε))))
   (ζ (ah (xk (gX ar hr ξ (jv 0) (Μ (jv 1) ε)) (Po E.D1)) (ι (Α (fc (δ (a_ (Η (jv 3) (uM hr (jv 2) (jv 1))) (b_ 3 (d:=.tup [.tup [.int 1,.int 1]]) (by rfl))) ε aV)))) Ε)
   (ι (Α (jv 3))))),λds M q x h=>?_))
 .let(θ,γ,i,r,k,acc,rfl,_):=h;rfl
 .let(θ,γ,i,r,k,acc,rfl,hk,hi,ro,dk,h):=h;show((_,_,.inl rfl,rfl),θ,γ,i,r,rfl,hi,ro,cR (fL _) ?_);show((_,_,.inl rfl,rfl),θ,γ,i,r,rfl,hi,?_);show(_,_,_,rfl,rfl,rfl,?_);rw[Av];cases hh:Ξ (kindOf r) with
  | true=>
   show(λ_=>?_,nofun);let(j,hj,jl):=dk.hand i r hi hh;let dg:aY (kP acc) (vP acc) (Sum.inl (i:Int))=!(.int (j:Int)):=by rw[qN,hj];rfl
   let e:eY acc i r=[(((aE r).getD j d0).1, ((aE r).getD j d0).2.1,((aE r).getD j d0).2.2++[(1, 1)])]:=by unfold eY;rw[hj];rfl
   rw[e]at h;let gd:(aE r).getD j d0=(aE r)[j]:=by rw[aae,aad jl];rfl
   let dm:-(aE r)[j].2.2<=1:=by
    cases r with
    | fin p=>show aa5 jl (ab3 _)
    | υ k' ds=>show(ro.2.2.2 _ (aax jl)).1
   rw[gd]at h;obtain⟨d,hd⟩:∃d,d=(aE r)[j]:=(_,rfl);rw[<-hd]at h dm;walk_at "vc";show(k,_,_,Sum.inl (i:Int),_,rfl,hk,rfl,dg,?_);show(χ (d:=.lst ((aE r).map c_)) rfl (Ui jl) ?_:cG (.lst ((aE r).map c_)) (.int (j:Int)) _ _);rw[<-hd];let sz:∀{z:Nat},z<=1000->z<=sizeLine:=λh=>aaH h @_;show((nofun,sz ?_),sz @_,?_)
   .simp;omega
   let e2:c_ (d.1, d.2.1,d.2.2++[(1, 1)])= .tup ((.int d.1::aI d.2.1::d.2.2.map aI)++[.tup [.int 1,.int 1]]):=by unfold c_;rw[List.map_append];rfl
   let h:q (.lst [c_ (d.1, d.2.1,d.2.2++[(1, 1)])]) M:=h;rw[e2]at h;show h
  | false=>
   show(nofun,λ_=>?_);let e:eY acc i r=aE r:=by unfold eY;rw[dk.JO i r hi hh]
   rw[e]at h;show h
def eR(f:Nat->Rat):Nat->Rat
 | 0=>0
 | n+1=>eR f n+f n
def aN(f:br->Rat):List br->Rat
 | []=>0
 | d::ds=>f d+aN f ds
def eC{f g:Nat->Rat}:∀{n:Nat},(∀i,i < n->f i=g i)->eR f n=eR g n
 | 0,_=>rfl
 | n+1,h=>by change eR f n+f n=eR g n+g n;rw[eC λi hi=>h i (ab2 hi),h n (abY _)]
def oi(a b:Rat)(f g:Nat->Rat):∀n,eR (λi=>a * f i - b * g i) n=a * eR f n - b * eR g n
 | 0=>by change(0:Rat)=a * 0 - b * 0;grind
 | n+1=>by change eR (λi=>a * f i - b * g i) n+(a * f n - b * g n)=a * (eR f n+f n) - b * (eR g n+g n);rw[oi a b f g n];grind
def Aw{t:Nat}(y:Nat->Rat):∀{n:Nat},n<=t->eR (λx=>(if x=t then 1 else 0) * y x) n=0
 | 0,_=>rfl
 | n+1,h=>by change eR (λx=>(if x=t then 1 else 0) * y x) n+(if n=t then 1 else 0) * y n=0;rw[Aw y (),if_neg ()];grind
def sJ{t:Nat}(y:Nat->Rat):∀{n:Nat},t < n->eR (λx=>(if x=t then 1 else 0) * y x) n=y t
 | 0,h=>aa5 h (ab3 _)
 | n+1,h=>by
  change eR (λx=>(if x=t then 1 else 0) * y x) n+(if n=t then 1 else 0) * y n=y t;by_cases e:n=t
  .subst e;rw[Aw y (Nat.le_refl _),if_pos rfl];grind
  .rw[sJ y (),if_neg e];grind
def qm(f:Nat->Int):∀n,((Bz.Β f n:Int):Rat)=eR (λi=>(f i:Rat)) n
 | 0=>rfl
 | n+1=>by change((Bz.Β f n+f n:Int):Rat)=eR (λi=>(f i:Rat)) n+f n;rw[Rat.intCast_add,qm f n]
def ni{f g:br->Rat}:∀{ds:List br},(∀d∈ds,f d=g d)->aN f ds=aN g ds
 | [],_=>rfl
 | d::ds,h=>by change f d+aN f ds=g d+aN g ds;rw[h d aai,ni λx hx=>h x (aag _ hx)]
def ot(f g:br->Rat):∀ds:List br,aN (λd=>f d - g d) ds=aN f ds - aN g ds
 | []=>by change(0:Rat)=0 - 0;grind
 | d::ds=>by change(f d - g d)+aN (λd=>f d - g d) ds=(f d+aN f ds) - (g d+aN g ds);rw[ot f g ds];grind
abbrev cV(d:br):Rat:=val (ο d)
structure Ry(n:Nat)(aa:List br):Prop where
 to:∀d∈aa,0<=d.1/\d.1 < n
 c0:∀d∈aa,0<=cV d
 one:aN cV aa<=1
def C8{c:Fr}(h:0 < c.2)(hd:c.2∣B):((kZ B c:Int):Rat)=val c * B:=by
 let(k,rfl):=hd;unfold kZ val;rw[abW _ (),abA,abA];have:=cT (show c.2≠0 by omega);generalize (c.1:Rat)=a at *
 generalize (c.2:Rat)=b at *
 generalize (k:Rat)=e at *
 grind
def Jf{B:Int}:∀{ds:List br},(∀d∈ds,0 < (ο d).2/\(ο d).2∣B)->((((ds.map ο).map (kZ B)).sum:Int):Rat)=aN cV ds * B
 | [],_=>by change((0:Int):Rat)=0 * B;grind
 | d::ds,h=>by let i:=Jf (ds:=ds) λx hx=>h x (aag _ hx);let(a,b):=h d aai;change(((kZ B (ο d)+((ds.map ο).map (kZ B)).sum:Int)):Rat)=(cV d+aN cV ds) * B;rw[Rat.intCast_add,i,C8 a b];grind
def Cd{c:Fr}(h:0 < c.2)(h0:0<=c.1):0<=val c:=by
 let e:val c * (c.2:Rat)=c.1:=by
  have:=cT (show c.2≠0 by omega);unfold val;generalize (c.1:Rat)=x at *
  generalize (c.2:Rat)=y at *
  grind
 let p:(0:Rat) < (c.2:Rat):=ab0.mpr h;let q:(0:Rat)<=(c.1:Rat):=Rat.intCast_le_intCast.mpr h0;by_cases z:0<=val c
 .show z
 .have:=Rat.mul_pos (show 0 < - val c by grind) p;grind
def EM{ds:List br}(o:AR (ds.map ο)):aN cV ds=1/\∀d∈ds,0<=cV d:=by
 let(_,_,hB):=g7 (ds.map ο) 1 0 @_ (acz _) λc hc=>((o.Io.2 c hc).1,acz _);let hm:∀d∈ds,ο d∈ds.map ο:=λd hd=>aaz.mpr (d,hd,rfl);let e:=Jf (B:=bM (ds.map ο)) (ds:=ds) λd hd=>((o.Io.2 _ (hm d hd)).1,hB _ (hm d hd));rw[o.sum]at e;let b0:=cT (show bM (ds.map ο)≠0 by have:=o.b0;omega);show(?_,λd hd=>?_)
 .generalize ((bM (ds.map ο):Int):Rat)=b at *
  grind
 .show Cd (o.Io.2 _ (hm d hd)).1 ?_;let p:=o.pos _ (hm d hd);unfold kZ at p;let q0:0<=bM (ds.map ο) / (ο d).2:=Int.ediv_nonneg (aaT o.b0) (aaT (o.Io.2 _ (hm d hd)).1);rcases Int.lt_or_le (ο d).1 0 with z| z
  .have:=Int.mul_nonpos_of_nonpos_of_nonneg (aaT z) q0;omega
  .show z
def Hq{p q:Fr}(hp:0 < p.2)(hq:0 < q.2):val (iJ p q)=val p - val q:=by
 unfold iJ;rw[nV (acS (ab4 hp hq))];let h1:=cT (show p.2≠0 by omega);let h2:=cT (show q.2≠0 by omega);rw[Rat.intCast_sub,abA,abA,abA];unfold val;generalize (p.1:Rat)=a at *
 generalize (p.2:Rat)=b at *
 generalize (q.1:Rat)=c at *
 generalize (q.2:Rat)=d at *
 grind
def CL{p q:Fr}(hp:0 < p.2)(hq:0 < q.2)(h:oS p E)(h':oS q E):oS (iJ p q) E:=by let(N,e):=h;let(N',e'):=h';unfold iJ;show wJ (N:=N - N') (Int.ne_of_gt (Int.mul_pos hp hq)) (by grind)
def Gy{p q:Fr}{D:Int}(hp:0 < p.2)(hq:0 < q.2)(h:v9 p C)(h':v9 q D):v9 (iJ p q) (C+D):=by
 unfold iJ;let a:=gE h.1 (aaT hq);let b:=gE h'.1 (aaT hp);let c:=gE h.2 (aaT hq);let d:=gE h'.2 (aaT hp);show Km (ab4 hp hq) ?_ ?_
 .let e:p.2 * q.2 * (C+D)=p.2 * C * q.2+q.2 * D * p.2:=by grind
  let e2: - (q.2 * D) * p.2= - (q.2 * D * p.2):=by grind
  omega
 .let e: - (p.2 * q.2 * (C+D))= - (p.2 * C) * q.2+ - (q.2 * D * p.2):=by grind
  omega
structure Nr(E C:Int)(p:Fr):Prop where
 red:Red p
 he:oS p E
 ab:v9 p C
structure mr(n:Nat)(E C:Int)(v:Nat->Rat)(ns:List Fr):Prop where
 len:-ns=n
 nr:∀x,x < n->Nr E C (ns.getD x (0, 1))
 val:∀x,x < n->val (ns.getD x (0, 1))=v x
def tS(θ:Fr)(ns:List Fr)(d:br):List Fr:=ns.set d.1.toNat (iJ (ns.getD d.1.toNat (0, 1)) (fq θ (ο d)))
def hG(θ:Fr)(n i:Nat)(aa:List br):List Fr:=aa.foldl (tS θ) ((List.replicate n ((0, 1):Fr)).set i (1, 1))
def Y0(c:0<=C):Nr E C (0, 1):=((@_,@_),(0,by simp),(by change(0:Int)<=1 * C;omega,by change - (1 * C)<=(0:Int);omega))
def Za:Nr E 1 (1, 1):=((@_,@_),(E,by simp),(@_,@_))
def Ac{ns:List Fr}{t:Nat}(h:t < -ns):(ns.set t a).getD x (0, 1)=if x=t then a else ns.getD x (0, 1):=by
 rw[aae,List.getElem?_set];by_cases e:x=t
 .subst e;rw[aaP rfl,aaP h,aaP rfl];rfl
 .rw[aaK (Ne.symm e),aaK e,<-aae]
def JU(hi:i < n):mr n E 1 (λx=>if x=i then 1 else 0) ((List.replicate n ((0, 1):Fr)).set i (1, 1)):=by
 let g:∀x,((List.replicate n ((0, 1):Fr)).set i (1, 1)).getD x (0, 1)=if x=i then (1, 1) else (0, 1):=λx=>by
  rw[Ac (by simpa using hi)]
  congr 1
  rw[aae,aco];split <;> rfl
 show(by simp,λx _=>?_,λx _=>?_)
 .rw[g];split
  .show Za
  .show Y0 @_
 .rw[g];change Pg.val (if x=i then (1, 1) else (0, 1))=if x=i then 1 else 0
  unfold Pg.val;split
  .change((1:Int):Rat) / ((1:Int):Rat)=1;grind
  .change((0:Int):Rat) / ((1:Int):Rat)=0;grind
structure SX(θ:Fr)(E:Int)(d:br):Prop where
 s0:0 < θ.2
 su:nP θ
 c0:0 < (ο d).2
 cu:nP (ο d)
 he:oS (fq θ (ο d)) E
def SX.nr{d:br}(h:SX θ E d):Nr E 1 (fq θ (ο d)):=by let p:=ab4 h.s0 h.c0;let u:=DZ h.s0 h.c0 h.su h.cu;let r:Red (fq θ (ο d)):=sV (acS p);let rp:=r.pos;let(u1,u2):=u;show(r,h.he,((),()))
def BA{ns:List Fr}{d:br}(h:mr n E C v ns)(c:0<=C)(hd:0<=d.1/\d.1 < n)(sc:SX θ E d):mr n E (C+1) (λx=>v x - Pg.val θ * ((if d.1.toNat=x then 1 else 0) * cV d)) (tS θ ns d):=by
 let ht:d.1.toNat < -ns:=by rw[h.len];omega
 let k:=sc.nr;let g:=λx=>Ac (x:=x) (a:=iJ (ns.getD d.1.toNat (0, 1)) (fq θ (ο d))) ht;show(by unfold tS;rw[List.length_set];show h.len,λx hx=>?_,λx hx=>?_)
 .unfold tS;rw[g];let a:=h.nr x hx;split
  .rename_i e;rw[<-e];let p:=ab4 a.red.pos k.red.pos;show(sV (acS p),CL a.red.pos k.red.pos a.he k.he,Gy a.red.pos k.red.pos a.ab k.ab)
  .have:=abq (show C<=C+1 by omega) (aaT a.red.pos);show(a.red,a.he,(acx a.ab.1 this,by have:=a.ab.2;omega))
 .unfold tS;rw[g];let a:=h.nr x hx;let b:=h.val x hx;split
  .rename_i e;rw[<-e,Hq a.red.pos k.red.pos,b,Gk sc.s0 sc.c0,if_pos rfl];grind
  .rename_i e;rw[b,if_neg (Ne.symm e)];grind
def wH{n:Nat}{E:Int}:∀{aa:List br} {ns:List Fr} {v:Nat->Rat} {C:Int},(∀d∈aa,(0<=d.1/\d.1 < n)/\SX θ E d)->0<=C->mr n E C v ns->mr n E (C+-aa) (λx=>v x - Pg.val θ * aN (λd=>(if d.1.toNat=x then 1 else 0) * cV d) aa) (aa.foldl (tS θ) ns)
 | [],ns,v,C,_,_,h=>by
  show(h.len,λx hx=>?_,λx hx=>?_)
  .rw[List.length_nil,Int.natCast_zero,Int.add_zero];show h.nr x hx
  .change _=v x - Pg.val θ * 0;rw[show v x - Pg.val θ * 0=v x by grind];show h.val x hx
 | d::aa,ns,v,C,hw,c,h=>by let(h1,h2):=hw d aai;let i:=wH (aa:=aa) (λx hx=>hw x (aag _ hx)) () (BA h c h1 h2);rw[ab9,aa9,show C+((-aa+1:Nat):Int)=C+1+-aa by omega];show(i.len,i.nr,λx hx=>?_);rw[i.val x hx];change v x - Pg.val θ * ((if d.1.toNat=x then 1 else 0) * cV d) - Pg.val θ * aN (λd=>(if d.1.toNat=x then 1 else 0) * cV d) aa=v x - Pg.val θ * ((if d.1.toNat=x then 1 else 0) * cV d+aN (λd=>(if d.1.toNat=x then 1 else 0) * cV d) aa);grind
def vW(s:Rat)(i:Nat)(aa:List br)(x:Nat):Rat:=(if x=i then 1 else 0) - s * aN (λd=>(if d.1.toNat=x then 1 else 0) * cV d) aa
def Oi{aa:List br}(hi:i < n)(hw:∀d∈aa,(0<=d.1/\d.1 < n)/\SX θ E d):mr n E (1+-aa) (vW (Pg.val θ) i aa) (hG θ n i aa):=wH hw @_ (JU hi)
def LF{n i:Nat}(hi:i < n)(y:Nat->Rat):∀{aa:List br},(∀d∈aa,0<=d.1/\d.1 < n)->eR (λx=>vW s i aa x * y x) n=y i - s * aN (λd=>cV d * y d.1.toNat) aa
 | [],_=>by rw[eC (g:=λx=>(if x=i then 1 else 0) * y x) λx _=>by change((if x=i then 1 else 0) - s * 0) * y x=_;grind];rw[sJ y hi];change y i=y i - s * 0;grind
 | d::aa,h=>by
  let(a,b):=h d aai;let ih:=LF (s:=s) hi y (aa:=aa) λx hx=>h x (aag _ hx)
  rw[eC (g:=λx=>1 * (vW s i aa x * y x) - (s * cV d) * ((if x=d.1.toNat then 1 else 0) * y x)) λx _=>by
   change((if x=i then 1 else 0) - s * ((if d.1.toNat=x then 1 else 0) * cV d+aN (λd=>(if d.1.toNat=x then 1 else 0) * cV d) aa)) * y x=1 * (((if x=i then 1 else 0) - s * aN (λd=>(if d.1.toNat=x then 1 else 0) * cV d) aa) * y x) - (s * cV d) * ((if x=d.1.toNat then 1 else 0) * y x);by_cases e:x=d.1.toNat
   .rw[if_pos e,if_pos e.symm];grind
   .rw[if_neg e,if_neg (Ne.symm e)];grind]
  rw[oi,ih,sJ y (show d.1.toNat < n by omega)];change _=y i - s * (cV d * y d.1.toNat+aN (λd=>cV d * y d.1.toNat) aa);grind
def mH(ns:List Fr):List Int:=ns.map λc=>c.1 * (bM ns / c.2)
def AE{ns:List Fr}(h:∀c∈ns,Nr E C c)(e0:0 < E)(c0:0<=C):0 < bM ns/\bM ns<=E/\∀c∈ns,((kZ (bM ns) c:Int):Rat)=val c * (bM ns:Int)/\ - (C * E)<=kZ (bM ns) c/\kZ (bM ns) c<=C * E:=by
 let b0:0 < bM ns:=fJ ns 1 @_ λc hc=>(h c hc).red.pos;let(d1,_,d3):=g7 ns 1 E @_ (Int.one_dvd _) λc hc=>((h c hc).red.pos,yf (h c hc).red (h c hc).he);let le:=acC e0 d1;show(b0,le,λc hc=>(C8 (h c hc).red.pos (d3 c hc),?_));let hd:=d3 c hc;let cp:=(h c hc).red.pos;let(a1,a2):=(h c hc).ab;let le:bM ns<=E:=le;let b0:0 < bM ns:=b0;generalize hL:bM ns=L at *
 let hd:c.2∣L:=by rw[<-hL];show hd
 let(k,rfl):=hd;unfold kZ;rw[abW _ ()];let k0:0<=k:=by
  rcases Int.lt_or_le k 0 with z| z
  .have:=acI cp z;omega
  .show z
 let m1:=gE a1 k0;let m2:=gE a2 k0;let m3:=abq le c0;let e1:c.2 * C * k=C * (c.2 * k):=by grind
 let e2: - (c.2 * C) * k= - (C * (c.2 * k)):=by grind
 show((),())
def oo(θ:Fr)(n i:Nat)(aa:List br)(given:Fr):List Int:=mH (hG θ n i aa++[given])
structure EN(θ:Fr)(n:Nat)(E C:Int)(aa:List br)(given:Fr):Prop where
 wo:Ry n aa
 sc:∀d∈aa,SX θ E d
 gn:Nr E C given
 e0:0 < E
 cl:1+(-aa:Int)<=C
def EY{D:Int}{p:Fr}(h:Nr E C p)(l:C<=D):Nr E D p:=by have:=abq l (aaT h.red.pos);let(a,b):=h.ab;show(h.red,h.he,((),()))
def OM{ns:List Fr}{x:Nat}(h:x < -ns):ns.getD x (0, 1)∈ns:=by rw[aae,aad h];show aax h
def BU{aa:List br}(hi:i < n)(p:EN θ n E C aa given):-(oo θ n i aa given)=n+1/\(∀x∈oo θ n i aa given,- (C * E)<=x/\x<=C * E)/\∃L:Rat,0 < L/\(∀y:Nat->Rat,eR (λx=>((oo θ n i aa given).getD x 0:Rat) * y x) n=L * (y i - Pg.val θ * aN (λd=>cV d * y d.1.toNat) aa))/\((oo θ n i aa given).getD n 0:Rat)=L * Pg.val given:=by
 let no:=Oi hi λd hd=>(p.wo.to d hd,p.sc d hd);let c0:0<=C:=by have:=p.cl;omega
 let all:∀c∈hG θ n i aa++[given],Nr E C c:=λc hc=>by
  rcases abo.mp hc with z| z
  .let(x,hx,e):=abH z;let Y8:x < n:=by rw[<-no.len];show hx
   have:=no.nr x Y8;rw[aae,aad hx]at this;rw[<-e];show EY this p.cl
  .rw[abi.mp z];show p.gn
 let(b0,bE,hb):=AE all p.e0 c0;let ln:-(hG θ n i aa)=n:=no.len;let at_:∀x,x < n+1->(oo θ n i aa given).getD x 0=kZ (bM (hG θ n i aa++[given])) ((hG θ n i aa++[given]).getD x (0, 1)):=λx hx=>by
  unfold oo mH;let hx:x < -(hG θ n i aa++[given]):=by simp[ln];show hx
  rw[aae,aat,aae,aad hx];rfl
 let in_:∀x,x < n+1->(hG θ n i aa++[given]).getD x (0, 1)∈hG θ n i aa++[given]:=λx hx=>OM (by simp[ln];show hx);show(by unfold oo mH;simp[ln],λx hx=>?_,((bM (hG θ n i aa++[given]):Int):Rat),?_,λy=>?_,?_)
 .unfold oo mH at hx;let(c,hc,rfl):=aaz.mp hx;show(hb c hc).2
 .show ab0.mpr b0
 .rw[eC (g:=λx=>((bM (hG θ n i aa++[given]):Int):Rat) * (vW (Pg.val θ) i aa x * y x) - 0 * 0) λx hx=>by
   rw[at_ x (),(hb _ (in_ x ())).1];have:(hG θ n i aa++[given]).getD x (0, 1)=(hG θ n i aa).getD x (0, 1):=by rw[aae,aaG (by rw[ln];show hx),<-aae]
   rw[this,no.val x hx];grind]
  rw[oi _ 0 (λx=>vW (Pg.val θ) i aa x * y x) (λ_=>0),LF hi y p.wo.to];grind
 .rw[at_ n (),(hb _ (in_ n ())).1];have:(hG θ n i aa++[given]).getD n (0, 1)=given:=by rw[aae,aaX (by rw[ln];show aaq _),ln,acy];rfl
  rw[this];grind
structure Sys(θ:Fr)(n:Nat)(B:Int)(ws:Nat->List br)(gv:Nat->Fr):Prop where
 n1:1<=n
 b1:1<=B
 X_:∀i,i < n->∃E C,EN θ n E C (ws i) (gv i)/\C * E<=B
 zero:∀{y:Nat->Rat},(∀k,k < n->y k=Pg.val θ * aN (λd=>cV d * y d.1.toNat) (ws k))->∀k,k < n->y k=0
def ia(θ:Fr)(n:Nat)(ws:Nat->List br)(gv:Nat->Fr):List (List Int):=(List.range n).map λi=>oo θ n i (ws i) (gv i)
section
variable{θ:Fr}{ws:Nat->List br}{gv:Nat->Fr}
def Cy{k:Nat}(h:k < n):Bz.arr (ia θ n ws gv) k x=(oo θ n k (ws k) (gv k)).getD x 0:=by
 unfold Bz.arr ia
 congr 1
 rw[aae,aat,abg h];rfl
def lO:-(ia θ n ws gv)=n:=by unfold ia;simp
def Sys.eq(S:Sys θ n B ws gv){k:Nat}(hk:k < n):∃L:Rat,0 < L/\(∀y:Nat->Rat,eR (λx=>(Bz.arr (ia θ n ws gv) k x:Rat) * y x) n=L * (y k - Pg.val θ * aN (λd=>cV d * y d.1.toNat) (ws k)))/\(Bz.arr (ia θ n ws gv) k n:Rat)=L * Pg.val (gv k):=by
 let(E,C,p,_):=S.X_ k hk;let(_,_,L,l0,l1,l2):=BU hk p;show(L,l0,λy=>?_,?_)
 .rw[<-l1 y];show eC λx _=>by rw[Cy hk]
 .rw[Cy hk];show l2
def Sys.Xk(S:Sys θ n B ws gv)(y:Bz.Row)(h:∀k,k < n->Bz.Β (λx=>Bz.arr (ia θ n ws gv) k x * y x) n=0):∀x,x < n->y x=0:=λx hx=>by
 have:=S.zero (y:=λx=>(y x:Rat)) (λk hk=>by
  let(L,l0,l1,_):=S.eq hk;let e:=abm (λz:Int=>(z:Rat)) (h k hk);rw[qm,eC (g:=λx=>(Bz.arr (ia θ n ws gv) k x:Rat) * (y x:Rat)) λx _=>abA _ _,l1 λx=>(y x:Rat)]at e;let e:L * ((y k:Rat) - Pg.val θ * aN (λd=>cV d * (y d.1.toNat:Rat)) (ws k))=0:=e;rcases Rat.mul_eq_zero.mp e with z| z
  .grind
  .grind) x hx
 show Rat.intCast_eq_zero_iff.mp this
def Sys.bd(S:Sys θ n B ws gv):Bz.Bd (Bz.arr (ia θ n ws gv)) n (n+1) B:=(S.b1,λk c hk hc=>by
 let(E,C,p,hB):=S.X_ k hk;let(ln,hb,_):=BU hk p;rw[Cy hk];have:=hb ((oo θ n k (ws k) (gv k)).getD c 0) (by rw[aae,aad ()];show aax _)
 show((),()))
structure Tab(θ:Fr)(n:Nat)(ws:Nat->List br)(gv:Nat->Fr)(tb:List Fr):Prop where
 len:-tb=n
 red:∀i,i < n->Red (tb.getD i (0, 1))
 eq:∀i,i < n->Pg.val (tb.getD i (0, 1))=Pg.val (gv i)+Pg.val θ * aN (λd=>cV d * Pg.val (tb.getD d.1.toNat (0, 1))) (ws i)
def Sys.uniq(S:Sys θ n B ws gv){t:List Fr}(h:Tab θ n ws gv t)(h':Tab θ n ws gv t'):t=t':=by
 let z:=S.zero (y:=λx=>Pg.val (t.getD x (0, 1)) - Pg.val (t'.getD x (0, 1))) (λk hk=>by
  rw[h.eq k hk,h'.eq k hk];rw[show(λd:br=>cV d * (Pg.val (t.getD d.1.toNat (0, 1)) - Pg.val (t'.getD d.1.toNat (0, 1))))=λd=>cV d * Pg.val (t.getD d.1.toNat (0, 1)) - cV d * Pg.val (t'.getD d.1.toNat (0, 1)) by funext d;grind,ot]
  grind)
 apply abI
 .rw[h.len,h'.len]
 .intro i h1 h2;let hi:i < n:=by rw[<-h.len];show h1
  let a:=h.red i hi;let b:=h'.red i hi;let c:=z i hi;rw[aae,aad h1]at a c;rw[aae,aad h2]at b c;show lU a b (by let c:Pg.val t[i] - Pg.val t'[i]=0:=c;grind)
def Sys.ex(S:Sys θ n B ws gv)(Ij:n<=12):∃(tb:List Fr) (z:Bz.Row) (N:Int),Bz.Qe (Bz.arr (ia θ n ws gv)) n n z N/\N≠0/\(∀i,i < n->N * (tb.getD i (0, 1)).1=z i * (tb.getD i (0, 1)).2)/\Tab θ n ws gv tb/\∀i,i < n->(tb.getD i (0, 1)).2<=(12 * B) ^ n:=by
 let(ρ,μ,q,d,W,t):=Bz.Turn.exists (A:=Bz.arr (ia θ n ws gv)) (n:=n) n;let hc:μ=List.range n:=by
  rcases t.all with e| ⟨x,h1,h2⟩
  .show e
  .let(z,z1,z2):=t.kernel h1 h2;have:=S.Xk z z2 x h1;rw[z1]at this;show aa5 () t.d0
 let lr:-ρ=n:=by rw[<-t.st.lc,hc,abu]
 let sol:=t.VB λi h1 h2=>aa5 h1 ();let d0:=t.d0;generalize hz:Bz.Mu (Bz.arr (ia θ n ws gv)) n W μ n (-μ)=z at *
 let g:∀i,i < n->((List.range n).map λi=>ay (z i) d).getD i (0, 1)=ay (z i) d:=λi hi=>by rw[aae,aat,abg hi];rfl
 show((List.range n).map λi=>ay (z i) d,z,d,sol,d0,λi hi=>?_,(by simp,λi hi=>?_,λi hi=>?_),λi hi=>?_)
 .rw[g i hi,<-dh d0]
 .rw[g i hi];show sV d0
 .let(L,l0,l1,l2):=S.eq hi;let(E,C,p,_):=S.X_ i hi;let e:=abm (λz:Int=>(z:Rat)) (sol i hi);rw[qm,eC (g:=λx=>(Bz.arr (ia θ n ws gv) i x:Rat) * (z x:Rat)) λx _=>abA _ _,l1 λx=>(z x:Rat),abA,l2]at e;rw[g i hi,nV d0]
  rw[ni (g:=λdd=>(1 / (d:Rat)) * (cV dd * (z dd.1.toNat:Rat)) - 0) λdd hdd=>by
   let(a,b):=p.wo.to dd hdd;rw[g _ (),nV d0];have:=cT d0
   grind]
  let sc:∀(k:Rat) (ds:List br),aN (λdd=>k * (cV dd * (z dd.1.toNat:Rat)) - 0) ds=k * aN (λdd=>cV dd * (z dd.1.toNat:Rat)) ds:=λk ds=>by
   induction ds with
   | nil=>change(0:Rat)=k * 0;grind
   | cons a ds ih=>
    change k * (cV a * (z a.1.toNat:Rat)) - 0+aN (λdd=>k * (cV dd * (z dd.1.toNat:Rat)) - 0) ds=k * (cV a * (z a.1.toNat:Rat)+aN (λdd=>cV dd * (z dd.1.toNat:Rat)) ds);rw[ih];grind
  rw[sc];have:=cT d0;let e:L * ((z i:Rat) - Pg.val θ * aN (λdd=>cV dd * (z dd.1.toNat:Rat)) (ws i))=(d:Rat) * (L * Pg.val (gv i)):=e;let e2:(z i:Rat) - Pg.val θ * aN (λdd=>cV dd * (z dd.1.toNat:Rat)) (ws i)=(d:Rat) * Pg.val (gv i):=by
   have:L * ((z i:Rat) - Pg.val θ * aN (λdd=>cV dd * (z dd.1.toNat:Rat)) (ws i) - (d:Rat) * Pg.val (gv i))=0:=by grind
   rcases Rat.mul_eq_zero.mp this with y| y
   .grind
   .grind
  grind
 .rw[g i hi];let ad:=t.st.Yq S.bd (λc Cp=>aaR (t.cl c Cp) (Nat.le_succ _)) ();rw[lr]at ad;let l:=uC (t:=z i) d0;let q0:=cW (t:=z i) d0;let(a1,a2):=ad;omega
end
def V4{d:br}{c:Fr}{q:DQ}(e:d.2.2=[c])(h:q (aI c) M):cG (c_ d) (.int 2) M q:=by unfold c_;rw[e];show χ (xs:=[.int d.1,aI d.2.1,aI c]) rfl (Λ (j:=2) rfl) h
def fC{k:Nat}(h:M[k]? =!(MO.lst xs)):iX M (.loc k)=!xs:=by change(match M[k]? with| some (MO.lst xs)=>!xs| _=>none)=!xs;rw[h]
def IG{p:Fr}(h:Nr E C p)(e0:0 < E)(e1:E < 2 ^ 190)(c0:0<=C)(c1:C < 2 ^ 110):Sz 300 p:=Vd (k:=190) (m:=110) h.red h.he e0 e1 h.ab c0 c1
def LU:DF:=λas M q _=>∃(ns:List Fr) (E C:Int),as=[.lst (ns.map aI)]/\-ns<=13/\(∀c∈ns,Nr E C c)/\0 < E/\E < 2 ^ 190/\0<=C/\C < 2 ^ 110/\q (cN (mH ns)) M
def nq:Γ ["numbers","bottom"] ["numbers"] (τ pZ):=.of rfl
def z4(F:de K "whole_row" "whole_row" pZ f fd)(E:Ev K mg Cm)(cD:aD P w K mg base 2 "common_bottom" ["chances"] i5 iT iM):aC P w K mg base (cI P w) 3 f fd ["numbers"] (da K LU):=by
 show F.d9 nq (λds M q x h=>?_) (λbI A outer s H E' hr=>(_,(ζ (ω 1 nq.nd (Ω cD hr ξ (Μ (jv 0) ε)))
   (ι (Α (lS (ys:=["bottom"]) (Ρ:=[1]) (.of nq rfl rfl rfl) (bC (jv 0)) (λC s H fp=>(dN (Η (jv 0) ν) (cL (jv 1) (Η (jv 0) ν)))))))),λds M q x h=>?_))
 .let(ns,E,C,rfl,_):=h;rfl
 .let(ns,Ep,C,rfl,hz,hn,e0,e1,c0,c1,h):=h;let(b0,bE,_):=AE hn e0 c0;let szn:∀c∈ns,Sz 300 c:=λc hc=>IG (hn c hc) e0 e1 c0 c1;let b2:∀c∈ns,c.2 < 2 ^ 200:=λc hc=>by have:=acC e0 (yf (hn c hc).red (hn c hc).he);show abO this (Int.lt_trans e1 @_)
  show(ns,rfl,(hz,λc hc=>((hn c hc).red.pos,b2 c hc)),?_);walk_at "vc";show bF (i:=0) rfl rfl (by rw[aah];show aaH hz @_,?_);show eJ (f:=λd=>.int (match d with| .tup [.int a,.int b]=>a * (bM ns / b)| _=>0)) trivial (λx hx q hq=>?_) ?_
  .let(y,hy,rfl):=aaz.mp hx;let s:=szn y hy;let y0:=(hn y hy).red.pos;show((y0,gD s @_),(jH s @_,?_),hq);show Gm (k:=190) (Int.ediv_nonneg (aaT b0) (aaT y0)) (abO (Int.ediv_le_self _ (aaT b0)) (abO bE e1)) @_
  .rw[aba,abf];let e:ns.map ((λd=>Dt.int (match d with| .tup [.int a,.int b]=>a * (bM ns / b)| _=>0)) ∘ aI)=(mH ns).map Dt.int:=by unfold mH;rw[abf];rfl
   rw[e];show h
structure SzE(E C:Int):Prop where
 e1:E < 2 ^ 190
 c1:C < 2 ^ 110
def UN(A:Addr):DF:=λas M q _=>∃(fs θ:Fr) (γ:List Rw) (i:Nat) (aa:List br) (given:Fr) (E C:Int),as=[aF A fs γ,.int (i:Nat),.lst (aa.map c_),aI θ,aI given]/\i < -γ/\-γ<=12/\Sz 11 θ/\(∀d∈aa,∃c,d.2.2=[c])/\EN θ (-γ) E C aa given/\SzE E C/\(∀d∈aa,Sz 300 (ο d))/\∀E',q (cN (oo θ (-γ) i aa given)) (M++E')
def uk:Γ ["floor","place","ways","share","given","numbers","way"] ["floor","place","ways","share","given"] (τ y8):=.of rfl
def Gi(F:de K "led_row" "led_row" y8 f fd)(E:Ev K mg Cm)(ax:gh P w K mg base 1 Cm "size" ["self"] (r_ Cm) bU bX)(zg:aD P w K mg base 3 "minus" ["one","other"] Kk Q_ Ss)(xr:aD P w K mg base 3 "times" ["one","other"] Lf SG RB)(nE:aD P w K mg base 3 "whole_row" ["numbers"] LU Gj Gn):aC P w K mg base (cI P w) 5 f fd ["floor","place","ways","share","given"] (da K (UN Cm)):=by
 show F.d9 uk (λds M q x h=>?_) (λbI A outer s H E' hr=>(_,(ζ (ω 5 uk.nd (BS (b_ 3 (d:=.lst [.tup [.int 0,.int 1]]) (by rfl)) (iB ax hr ξ (jv 0))))
   (ζ (kK (jv 5) (jv 1) (av (δ ν (δ ν ε Χ) Χ)))
   (ζ (cP (bC (jv 2)) (ai (i:=6) uk.nd rfl (Or.inl rfl)) aL (ι (kK (jv 5) (Η (jv 6) ν) (Ω zg hr ξ (δ (Η (jv 5) (Η (jv 6) ν)) (δ (Ω xr hr ξ (Μ (jv 3) (δ (Η (jv 6) ν) ε ba))) ε aS) ba)))))
   (ι (Α (Ω nE hr ξ (δ (i4 (jv 5) (fc (Μ (jv 4) ε))) ε aV))))))),λds M q x h=>?_))
 .let(fs,θ,γ,i,aa,given,E,C,rfl,_):=h;rfl
 .let(fs,θ,γ,i,aa,given,Ep,C,rfl,il,qC,szs,qT,p,sz,WK,h):=h;let e0:=p.e0;let c0:0<=C:=by have:=p.cl;omega
  generalize hn:-γ=n at *
  show((_,_,.inl rfl,rfl),fs,γ,rfl,?_);rw[hn];show([aI (0, 1)],n,rfl,rfl,(),(),?_,?_)
  .change 1 * ((n:Int)).toNat<=sizeLine;show aaH (show _<=12 by omega) @_
  rw[show((n:Int)).toNat=n by omega,uG];dsimp only[yq];walk_at "vc";show(fI,?_);show(-M,(i:Nat),_,i,rfl,rfl,aK,by rw[abx];show sO il,?_);rw[ef];let e00:(List.replicate n (aI (0, 1))).set i (.tup [.int 1,.int 1])=((List.replicate n ((0, 1):Fr)).set i (1, 1)).map aI:=by rw[List.map_set,List.map_replicate];rfl
  rw[e00];dsimp only[qI,gu];walk_at "vc";show bJ (λzs ρ' M'=>∃(eT rest:List br) (ns:List Fr) (v:Nat->Rat) (o:Option Dt),aa=eT++rest/\zs=rest.map c_/\ns=eT.foldl (tS θ) ((List.replicate n ((0, 1):Fr)).set i (1, 1))/\mr n Ep (1+-eT) v ns/\M'=M++[MO.lst (ns.map aI)]/\ρ'=[!(aF Cm fs γ),!(.int (i:Int)),!(.lst (aa.map c_)),!(aI θ),!(aI given),!(.loc (-M)),o]) (λzs ρ' M' hj=>trivial) (λx zs ρ' M' hj gc=>?_) (λρ' M' hj=>?_) _ _ _ ([],aa,_,_,none,rfl,rfl,rfl,JU il,rfl,rfl)
  .let(eT,rest,ns,v,o,ew,ex,en,no,rfl,rfl):=hj;cases rest with
   | nil=>cases ex
   | cons d rest=>
    cases ex;let dm:d∈aa:=by rw[ew];show aa7 _ aai
    let(t0,t1):=p.wo.to d dm;let(c,hc):=qT d dm;let ec:ο d=c:=by unfold ο;rw[hc];rfl
    let sc:=p.sc d dm;let O3:=WK d dm;let dl:1+(-eT:Int)<=C:=by have:=abm List.length ew;rw[aan,aa9]at this;have:=p.cl;omega
    let tl:d.1.toNat < -ns:=by rw[no.len];omega
    let szn:=IG (EY (no.nr d.1.toNat ()) dl) e0 sz.e1 c0 sz.c1;let szt:=IG (EY sc.nr (show(1:Int)<=C by omega)) e0 sz.e1 c0 sz.c1;let at_:ic (ns.map aI) d.1=!(aI (ns.getD d.1.toNat (0, 1))):=by have:=Wf tl;rw[show((d.1.toNat:Nat):Int)=d.1 by omega]at this;rw[this,aae,aad tl];rfl
    let nx:∀o,_:=λo=>gc [!(aF Cm fs γ),!(.int (i:Int)),!(.lst (aa.map c_)),!(aI θ),!(aI given),!(.loc (-M)),o] (M++[MO.lst ((tS θ ns d).map aI)]) (eT++[d],rest,tS θ ns d,_,o,by rw[ew];simp,rfl,by rw[List.foldl_append,<-en];rfl,by
     have:=BA no () (t0,t1) sc;rw[show 1+(-(eT++[d]):Int)=1+(-eT:Int)+1 by simp;omega]
     show this,rfl,rfl)
    dsimp only[gN,yq];walk_at "vc";show oz ?_;show(χ (d:=.loc (-M)) (fC aK) at_ ?_:cG (.loc (-M)) (.int d.1) _ _);show V4 hc ?_;rw[<-ec];show(θ,ο d,11,300,rfl,szs,O3,@_,?_);show(_,_,300,300,rfl,szn,szt,@_,?_);show oz ?_;show(-M,d.1,_,d.1.toNat,rfl,rfl,aK,by rw[aah];have:=sO tl;rwa[show((d.1.toNat:Nat):Int)=d.1 by omega]at this,?_);rw[ef];have:(ns.map aI).set d.1.toNat (aI (iJ (ns.getD d.1.toNat (0, 1)) (fq θ (ο d))))=(tS θ ns d).map aI:=by unfold tS;rw[List.map_set]
    rw[this];show nx _
  .let(eT,rest,ns,v,o,ew,ex,en,no,rfl,rfl):=hj;cases rest with
   | cons d rest=>cases ex
   | nil=>
    rw[abw]at ew;subst ew;let en:ns=hG θ n i aa:=en;walk_at "vc";show(by change 1<=sizeLine;decide,ns.map aI,[aI given],gH aK,rfl,?_,?_)
    .rw[aah,no.len];show aaH (show n+1<=13 by omega) @_
    show(ns++[given],Ep,C,by rw[abp];rfl,by rw[aan,no.len];change n+1<=13;omega,λc hc=>?_,e0,sz.e1,c0,sz.c1,?_)
    .rcases abo.mp hc with z| z
     .let(x,hx,e):=abH z;have:=no.nr x (by rw[<-no.len];show hx);rw[aae,aad hx]at this;rw[<-e];show EY this p.cl
     .rw[abi.mp z];show p.gn
    rw[en];show h _
abbrev Sp:=List (Option Nat)
def at_(S:Sp)(p:Nat):Option Nat:=S.getD p none
def bo(S:Sp)(ds:List br):List (Option Nat):=ds.map λd=>at_ S d.1.toNat
def gS(kd:Str)(ns:List (Option Nat))(o:Option Nat):Prop:=
 if kd="other" then (o=none/\none∈ns)\/∃v,o=!(v+1)/\(!v)∈ns/\∀x∈ns,∃w,x=!w/\w<=v
 else (o=none/\∀x∈ns,x=none)\/∃v,o=!(v+1)/\(!v)∈ns/\∀w,(!w)∈ns->v<=w
def aR(γ:List Rw)(gs:List Nat)(S:Sp):Prop:=-S=-γ/\∀(p:Nat) (r:Rw),γ[p]? =!r->match r with
 | .fin _=>at_ S p=if p∈gs then !0 else none
 | .υ kd ds=>gS kd (bo S ds) (at_ S p)
structure Kt(γ:List Rw)(gs:List Nat)(m:Nat)(S:Sp):Prop where
 len:-S=-γ
 lt:∀p n,at_ S p=!n->n < m
 fin:∀p q,γ[p]? =!(.fin q)->at_ S p=if p∈gs then !0 else none
 old:∀(p:Nat) (kd:Str) (ds:List br) (n:Nat),γ[p]? =!(.υ kd ds)->at_ S p=!n->gS kd (bo S ds) (!n)
 new:∀(p:Nat) (kd:Str) (ds:List br),γ[p]? =!(.υ kd ds)->at_ S p=none->if kd="other" then∃x∈bo S ds,x=none\/x=(!(m - 1)) else∀x∈bo S ds,x=none\/x=!(m - 1)
def bx(γ:List Rw)(S:Sp)(p:Nat):Bool:=match γ[p]? with
 | some (.υ kd ds)=>(at_ S p).isNone&&(if kd="other" then (bo S ds).all (·.isSome) else (bo S ds).any (·.isSome))
 | _=>false
def bL(γ:List Rw)(S:Sp):List Nat:=(List.range (-γ)).filter (bx γ S)
def dw(m:Nat):List Nat->Sp->Sp
 | [],S=>S
 | p::ps,S=>dw m ps (S.set p (!m))
def nj(m:Nat):∀(ps:List Nat) (S:Sp),-(dw m ps S)=-S
 | [],_=>rfl
 | p::ps,S=>by change(dw m ps (S.set p (!m))).length=_;rw[nj m ps,abC]
def Lg{q:Nat}(hp:p < -S):at_ (S.set p v) q=if p=q then v else at_ S q:=by
 unfold at_;rw[aae,aae];by_cases h:p=q
 .subst h;rw[abD hp,aaP rfl];rfl
 .rw[abv h,aaK h]
def wC(m:Nat):∀(ps:List Nat) (S:Sp),(∀p∈ps,p < -S)->∀q,at_ (dw m ps S) q=if q∈ps then !m else at_ S q
 | [],S,_,q=>by rw[if_neg (by simp)];rfl
 | p::ps,S,h,q=>by
  change at_ (dw m ps (S.set p (!m))) q=_;rw[wC m ps _ (λr hr=>by rw[abC];show h r (aag _ hr)) q,Lg (h p aai)];by_cases h1:q∈ps
  .rw[aaP h1,aaP (aag _ h1)]
  .rw[aaK h1];by_cases h2:p=q
   .subst h2;rw[aaP rfl,aaP aai]
   .rw[aaK h2,aaK (λz=>(aaS.mp z).elim (λe=>h2 e.symm) h1)]
def fV:p∈bL γ S↔p < -γ/\bx γ S p=true:=by unfold bL;rw[List.mem_filter,List.mem_range]
def Ψ{ds:List br}{x:Option Nat}:x∈bo S ds↔∃d∈ds,at_ S d.1.toNat=x:=by unfold bo;rw[List.mem_map]
def vI(h:Kt γ gs m S)(hm:1<=m):Kt γ gs (m+1) (dw m (bL γ S) S):=by
 let wI:∀p∈bL γ S,p < -S:=λp hp=>by rw[h.len];show(fV.mp hp).1
 let OT:=wC m (bL γ S) S wI;generalize hS':dw m (bL γ S) S=S' at *
 let none_of:∀p,p∈bL γ S->at_ S p=none:=λp hp=>by
  have:=(fV.mp hp).2;unfold bx at this;split at this
  .rw[aaA]at this;show Option.isNone_iff_eq_none.mp this.1
  .cases this
 let kept:∀p n,at_ S p=!n->at_ S' p=!n:=λp n e=>by rw[OT,aaK (λz=>by rw[none_of p z]at e;cases e)];show e
 let back:∀p n,at_ S' p=!n->at_ S p=!n\/(n=m/\at_ S p=none):=λp n e=>by
  rw[OT]at e;split at e
  .rename_i hp;cases e;show .inr (rfl,none_of p hp)
  .show .inl e
 let Ua:∀p,at_ S' p=none->at_ S p=none/\p∉bL γ S:=λp e=>by
  rw[OT]at e;split at e
  .cases e
  .rename_i hp;show(e,hp)
 show(by rw[<-hS',nj];show h.len,λp n e=>?_,λp q hr=>?_,λp kd ds n hr e=>?_,λp kd ds hr e=>?_)
 .rcases back p n e with e| ⟨rfl,_⟩
  .have:=h.lt p n e;omega
  .omega
 .rw[OT,aaK (λz=>?_)]
  .show h.fin p q hr
  .have:=(fV.mp z).2;unfold bx at this;rw[hr]at this;cases this
 .rcases back p n e with e0| ⟨rfl,e0⟩
  .let hd:=h.old p kd ds n hr e0;let hn:=h.lt p n e0;unfold gS at hd⊢;by_cases hk:kd="other"
   .rw[aaP hk]at hd⊢;rcases hd with ⟨z,_⟩| ⟨v,ev,h1,h2⟩
    .cases z
    .show .inr (v,ev,?_,λx hx=>?_)
     .let(d,hd,ed):=Ψ.mp h1;show Ψ.mpr (d,hd,kept _ _ ed)
     .let(d,hd,ed):=Ψ.mp hx;let(w,ew,lw):=h2 (at_ S d.1.toNat) (Ψ.mpr (d,hd,rfl));rw[<-ed,kept _ _ ew];show(w,rfl,lw)
   .rw[aaK hk]at hd⊢;rcases hd with ⟨z,_⟩| ⟨v,ev,h1,h2⟩
    .cases z
    .show .inr (v,ev,?_,λw hw=>?_)
     .let(d,hd,ed):=Ψ.mp h1;show Ψ.mpr (d,hd,kept _ _ ed)
     .let(d,hd,ed):=Ψ.mp hw;rcases back _ _ ed with ed| ⟨rfl,_⟩
      .show h2 w (Ψ.mpr (d,hd,ed))
      .cases ev;omega
  .let hp:p∈bL γ S:=by
    rw[OT]at e;split at e
    .rename_i z;show z
    .rw[e0]at e;cases e
   let jC:=(fV.mp hp).2;unfold bx at jC;rw[hr]at jC;let jC:((at_ S p).isNone&&(if kd="other" then (bo S ds).all (·.isSome) else (bo S ds).any (·.isSome)))=true:=jC;rw[aaA]at jC;let jC:=jC.2;let Cq:=h.new p kd ds hr e0;obtain⟨k,rfl⟩:∃k,n=k+1:=(n - 1,());unfold gS;by_cases hk:kd="other"
   .rw[aaP hk]at jC Cq⊢;let r9:=abc.mp jC;let(x,hx,ex):=Cq;let ex:x=!k:=by
     rcases ex with rfl| ex
     .have:=r9 none hx;cases this
     .simpa using ex
    subst ex;show .inr (k,rfl,?_,λy hy=>?_)
    .let(d,hd,ed):=Ψ.mp hx;show Ψ.mpr (d,hd,kept _ _ ed)
    .let(d,hd,ed):=Ψ.mp hy;have:=r9 (at_ S d.1.toNat) (Ψ.mpr (d,hd,rfl));let(w,ew):=abE.mp this;let lw:=h.lt _ _ ew;rw[<-ed,kept _ _ ew];show(w,rfl,())
   .rw[aaK hk]at jC Cq⊢;let(x,hx,sx):=List.any_eq_true.mp jC;let ex:x=!k:=by
     rcases Cq x hx with rfl| ex
     .cases sx
     .simpa using ex
    subst ex;show .inr (k,rfl,?_,λw hw=>?_)
    .let(d,hd,ed):=Ψ.mp hx;show Ψ.mpr (d,hd,kept _ _ ed)
    .let(d,hd,ed):=Ψ.mp hw;rcases back _ _ ed with ed| ⟨rfl,_⟩
     .rcases Cq (!w) (Ψ.mpr (d,hd,ed)) with z| z
      .cases z
      .cases z;omega
     .omega
 .let(e0,hp):=Ua p e;let fZ:p < -γ:=(aam.mp hr).1;let jC:bx γ S p=false:=by
   cases hb:bx γ S p with
   | false=>rfl
   | true=>show aa5 (fV.mpr (fZ,hb)) hp
  unfold bx at jC;rw[hr]at jC;let jC:((at_ S p).isNone&&(if kd="other" then (bo S ds).all (·.isSome) else (bo S ds).any (·.isSome)))=false:=jC;rw[e0]at jC;let jC:(if kd="other" then (bo S ds).all (·.isSome) else (bo S ds).any (·.isSome))=false:=by simpa using jC
  change if kd="other" then∃x∈bo S' ds,x=none\/x=(!(m+1 - 1)) else∀x∈bo S' ds,x=none\/x=!(m+1 - 1)
  rw[Nat.add_sub_cancel];let one:∀d,at_ S d=none->at_ S' d=none\/at_ S' d=!m:=λd ed=>by
   rw[OT];split
   .show .inr rfl
   .show .inl ed
  by_cases hk:kd="other"
  .rw[aaP hk]at jC⊢;obtain⟨x,hx,sx⟩:∃x∈bo S ds,x=none:=by
    have:¬(∀x∈bo S ds,x.isSome=true):=λz=>by rw[abc.mpr z]at jC;cases jC
    simp only[Classical.not_forall]at this;let(x,hx,sx):=this;show(x,hx,by simpa using sx)
   subst sx;let(d,hd,ed):=Ψ.mp hx;show(at_ S' d.1.toNat,Ψ.mpr (d,hd,rfl),one _ ed)
  .rw[aaK hk]at jC⊢;intro x hx;let(d,hd,ed):=Ψ.mp hx;have:at_ S d.1.toNat=none:=by
    cases hz:at_ S d.1.toNat with
    | none=>rfl
    | some w=>
     have:(bo S ds).any (·.isSome)=true:=List.any_eq_true.mpr (!w,Ψ.mpr (d,hd,hz),rfl);rw[this]at jC;cases jC
   rw[<-ed];show one _ this
def IH(h:Kt γ gs m S)(he:bL γ S=[]):aR γ gs S:=by
 show(h.len,λp r hr=>?_);cases r with
 | fin q=>show h.fin p q hr
 | υ kd ds=>
  change gS kd (bo S ds) (at_ S p);cases e:at_ S p with
  | some n=>show h.old p kd ds n hr e
  | none=>
   let fZ:p < -γ:=(aam.mp hr).1;let jC:bx γ S p=false:=by
    cases hb:bx γ S p with
    | false=>rfl
    | true=>have:=fV.mpr (fZ,hb);rw[he]at this;cases this
   unfold bx at jC;rw[hr]at jC;let jC:((at_ S p).isNone&&(if kd="other" then (bo S ds).all (·.isSome) else (bo S ds).any (·.isSome)))=false:=jC;rw[e]at jC;let jC:(if kd="other" then (bo S ds).all (·.isSome) else (bo S ds).any (·.isSome))=false:=by simpa using jC
   unfold gS;by_cases hk:kd="other"
   .rw[aaP hk]at jC⊢;show .inl (rfl,?_);have:¬(∀x∈bo S ds,x.isSome=true):=λz=>by rw[abc.mpr z]at jC;cases jC
    simp only[Classical.not_forall]at this;let(x,hx,sx):=this;have:x=none:=by simpa using sx
    rw[<-this];show hx
   .rw[aaK hk]at jC⊢;show .inl (rfl,λx hx=>?_);cases x with
    | none=>rfl
    | some w=>
     have:(bo S ds).any (·.isSome)=true:=List.any_eq_true.mpr (!w,hx,rfl);rw[this]at jC;cases jC
def qA(S:Sp):Nat:=S.countP (·.isNone)
def Kf(hp:p < -S)(e:at_ S p=none):qA (S.set p (!m))+1=qA S:=by
 unfold qA;let eg:S[p]=none:=by unfold at_ at e;rw[aae,aad hp]at e;show e
 rw[List.countP_set hp]
 .simp[eg];have:0 < S.countP (·.isNone):=List.countP_pos_iff.mpr (S[p],aax hp,by rw[eg];rfl);omega
def Bb{m:Nat}:∀(ps:List Nat) (S:Sp),ps.Nodup->(∀p∈ps,p < -S/\at_ S p=none)->qA (dw m ps S)+-ps=qA S
 | [],_,_,_=>rfl
 | p::ps,S,nd,h=>by
  let(h1,h2):=h p aai;let ih:=Bb (m:=m) ps (S.set p (!m)) (abT.mp nd).2 λq hq=>by rw[abC,Lg h1,aaK (λz=>(abT.mp nd).1 (by rw[z];show hq))];show h q (aag _ hq)
  have:=Kf (m:=m) h1 h2;change qA (dw m ps (S.set p (!m)))+(-ps+1)=qA S;omega
def cx:Option Nat->Dt
 | none=>.aZ
 | some n=>.int n
structure cz(γ:List Rw)(gs:List Nat):Prop where
 up:gs.Pairwise (· < ·)
 fin:∀g∈gs,∃q,γ[g]? =!(.fin q)
structure Li(γ:List Rw):Prop where
 len:-γ<=12
 row:∀r∈γ,gw r/\gA r (-γ)=true
def pw{k:Str}{ds:List br}(f:Li γ)(h:Rw.υ k ds∈γ):Ι ds (-γ)=true/\(Ξ k=true\/k="chance"):=by
 let h2:=(f.row _ h).2;let h2:(if Ξ k then Ι ds (-γ) else if k="chance" then Ι ds (-γ)&&Υ (ds.map ο) else false)=true:=h2;by_cases hk:Ξ k=true
 .rw[aaP hk]at h2;show(h2,.inl hk)
 .rw[aaK hk]at h2;by_cases hc:k="chance"
  .rw[aaP hc,aaA]at h2;show(h2.1,.inr hc)
  .rw[aaK hc]at h2;cases h2
def g_{k:Str}{ds:List br}{d:br}(f:Li γ)(h:Rw.υ k ds∈γ)(hd:d∈ds):0<=d.1/\d.1 < -γ:=by let h2:=(pw f h).1;unfold Ι at h2;rw[aaA,aaA]at h2;let h3:=abc.mp h2.2 d hd;unfold af at h3;rw[aaA,aaA,abb,abb]at h3;show(h3.1,h3.2.1)
def qf{k:Str}{ds:List br}(f:Li γ)(h:Rw.υ k ds∈γ):1<=-ds/\-ds<=6:=by let h2:=(pw f h).1;unfold Ι at h2;rw[aaA,aaA,abb,abb]at h2;show h2.1
def qM(h:p < -S):ic (S.map cx) (p:Int)=!(cx (at_ S p)):=by
 let e:at_ S p=S[p]:=by unfold at_;rw[List.getD_eq_getElem?_getD,List.getElem?_eq_getElem h];rfl
 rw[e];show Λ (by rw[aat,aad h];rfl)
def P5{o:Option Nat}{q:DQ}(h:q (.bl o.isNone) M):MA (cx o) .aZ M q:=by
 cases o with
 | none=>show h
 | some n=>show h
def xt{o:Option Nat}{q:DQ}(h:q (.bl o.isSome) M):vV (cx o) .aZ M q:=by
 cases o with
 | none=>show h
 | some n=>show h
def qD(C:Addr):DF:=λas M q _=>∃θ γ g gs ok,as=[aF C θ γ,g]/\kO M g=!(gs.map bq, ok)/\ok M/\cz γ gs/\q .aZ M
def gG:Γ ["floor","goals","ahead","goal"] ["floor","goals"] (τ kS):=.of rfl
def vA(F:de K "check_goals" "check_goals" kS f fd)(E:Ev K mg Cm)(ar:gh P w K mg base 1 Cm "kind" ["self","place"] (sF Cm) bW bY)(ax:gh P w K mg base 1 Cm "size" ["self"] (r_ Cm) bU bX):aC P w K mg base (cI P w) 2 f fd ["floor","goals"] (da K (qD Cm)):=by
 show F.d9 gG (λds M q x h=>?_) (λbI A outer s H E' hr=>(_,(ζ (ω 2 gG.nd (KZ ν))
   (ι (cP (bC (jv 1)) (ai (i:=3) gG.nd rfl (Or.inl rfl)) aL (ζ (ah (JW.jt (jZ (KD (jv 3) (jv 2)) (jZ (Pk (jv 3) (iB ax hr ξ (jv 0))) (iY (iz hr (gX ar hr ξ (jv 0) (Μ (jv 3) ε)) dX))))) (ι h7) Ε)
   (ι (ω 2 gG.nd (jv 3))))))),λds M q x h=>?_))
 .let(θ,γ,g,gs,ok,rfl,_):=h;rfl
 .let(θ,γ,g,gs,ok,rfl,hg,aU,go,h):=h;dsimp only[Sd,vg,qI,gu];walk_at "vc";change(match kO M g with| some (xs, ok)=>_| none=>False);rw[hg];show bJ (λxs ρ M'=>M'=M/\∃(rest:List Nat) (a:Int) (b:Option Dt),xs=rest.map bq/\(∀p∈rest,p∈gs/\a < p)/\rest.Pairwise (· < ·)/\ρ=[!(aF Cm θ γ),!g,!(.int a),b]) (λxs ρ M' hj=>by let(rfl,_):=hj;show aU) (λx xs ρ M' hj gc=>?_) (λρ M' hj=>?_) _ _ _ (rfl,gs,- 1,none,rfl,λp hp=>(hp,()),go.up,rfl)
  .let(rfl,rest,a,b,ex,rD,hp,rfl):=hj;cases rest with
   | nil=>cases ex
   | cons p rest=>
    cases ex;let(hm,ha):=rD p aai;let(e,he):=go.fin p hm;let wI:p < -γ:=(aam.mp he).1;show(λz=>?_,λ_=>?_)
    .have:(p:Int)<=a:=aaW z;omega
    show((_,_,.inl rfl,rfl),θ,γ,rfl,λz=>?_,λ_=>?_)
    .have:(p:Int) ≥ -γ:=aaW z;omega
    show((_,_,.inl rfl,rfl),θ,γ,p,.fin e,rfl,he,nofun,λ_=>?_);show gc _ _ (rfl,rest,p,_,rfl,λr hr=>((rD r (aag _ hr)).1,acm.mpr (List.rel_of_pairwise_cons hp hr)),hp.of_cons,rfl)
  .let(rfl,rest,a,b,ex,rD,hp,rfl):=hj;show h
def zA(C:Addr):DF:=λas M q _=>∃θ γ k p S,as=[aF C θ γ,.int (p:Nat),.loc k]/\M[k]? =!(.lst (S.map cx))/\-S=-γ/\p < -γ/\Li γ/\q (.bl (bx γ S p)) M
def pW:Γ ["floor","place","steps","known"] ["floor","place","steps"] (τ ud):=.of rfl
def Cr(F:de K "is_drawn" "is_drawn" ud f fd)(E:Ev K mg Cm)(ar:gh P w K mg base 1 Cm "kind" ["self","place"] (sF Cm) bW bY)(aT:gh P w K mg base 2 Cm "doors" ["self","place"] (tU Cm) dF dE):aC P w K mg base (cI P w) 3 f fd ["floor","place","steps"] (da K (zA Cm)):=by
 show F.d9 pW (λds M q x h=>?_) (λbI A outer s H E' hr=>(_,(ζ (ah (JW.jt (jZ (rV (Η (jv 2) (jv 1)) rh) (iY (cX hr (gX ar hr ξ (jv 0) (Μ (jv 1) ε)) dX)))) (ι (Α rE)) Ε)
   (ζ (cK (i:=3) pW.nd rfl (Or.inl rfl) (ys:=["steps"]) (Ρ:=[2]) (.of pW rfl rfl rfl) (bC (bZ (gX aT hr ξ (jv 0) (Μ (jv 1) ε)))) (λC s H fp=>(Kx (Η (jv 1) (Η (jv 0) ν)) rh)))
   (ζ (ah (cX hr (gX ar hr ξ (jv 0) (Μ (jv 1) ε)) dX) (ι (Α (JV E.wQ (Μ (jv 3) ε)))) Ε)
   (ι (Α (K4 E.vZ (Μ (jv 3) ε))))))),λds M q x h=>?_))
 .let(θ,γ,k,p,S,rfl,_):=h;rfl
 .let(θ,γ,k,p,S,rfl,hk,hl,hp,f,h):=h;let hs:iX M (.loc k)=!(S.map cx):=by change(match M[k]? with| some (.lst xs)=>!xs| _=>none)=_;rw[hk]
  let hi:γ[p]? =!γ[p]:=aad hp;let WT:γ[p]∈γ:=aax hp;generalize γ[p]=r at hi WT;let ro:=(f.row _ WT).1;walk_at "vc";show(χ (d:=.loc k) hs (qM ()) ?_:cG (.loc k) (.int (p:Nat)) M _);show xt (λz=>(λ_=>?_,nofun),λz=>?_)
  .let e:bx γ S p=false:=by
    unfold bx;rw[hi];cases r with
    | fin q=>rfl
    | υ kd ds=>
     let(v,ev):=abE.mp z;change((at_ S p).isNone&&_)=false;rw[ev];rfl
   rw[e]at h;show h
  .let z:at_ S p=none:=by simpa using z
   show((_,_,.inl rfl,rfl),θ,γ,p,r,rfl,hi,?_);cases r with
   | fin e0=>
    let e:bx γ S p=false:=by unfold bx;rw[hi]
    rw[e]at h;show(λ_=>h,nofun)
   | υ kd ds=>
    let l6:=qf f WT;show(λz=>aa5 (aaW z) ro.1,λ_=>?_);let e:bx γ S p=(if kd="other" then (bo S ds).all (·.isSome) else (bo S ds).any (·.isSome)):=by unfold bx;rw[hi];change((at_ S p).isNone&&_)=_;rw[z];rfl
    rw[e]at h;show((_,_,.inl rfl,rfl),θ,γ,p,.υ kd ds,rfl,hi,ro,cR (ds:=ds.map c_) (fL ds) ?_);show(by rw[aah];show aaH l6.2 @_,?_);show cQ (F:=λx a=>x=c_ a/\a∈ds) (f:=λd=>Dt.bl (at_ S d.1.toNat).isSome) trivial (λx a ha q' oX=>?_) (h8 c_ ds ds λ_ h=>h) ?_
    .let(rfl,ha):=ha;let(a0,a1):=g_ f WT ha;let e1:ic (S.map cx) a.1=!(cx (at_ S a.1.toNat)):=by have:=qM (S:=S) (p:=a.1.toNat) ();rwa[show((a.1.toNat:Nat):Int)=a.1 by omega]at this
     let key:cG (c_ a) (.int 0) M (λi M1=>cG (.loc k) i M1 (λd M2=>vV d .aZ M2 q')):=by show oz ?_;show χ (d:=.loc k) hs e1 ?_;show xt oX
     show key
    rw[aba];let eb:ds.map (λd=>Dt.bl (at_ S d.1.toNat).isSome)=((bo S ds).map (·.isSome)).map Dt.bl:=by unfold bo;rw[List.map_map,List.map_map];rfl
    rw[eb];show((_,_,.inl rfl,rfl),θ,γ,p,.υ kd ds,rfl,hi,λz=>?_,λz=>?_)
    .let z:kd="other":=aaW z;rw[aaP z]at h;show(_,rfl,?_);rw[List.all_map];show h
    .let z:kd≠"other":=abh z;rw[aaK z]at h;show(_,rfl,λ_ z=>(nomatch z),λ_ z=>(nomatch z),?_);rw[List.any_map];show h
def uo(C:Addr):DF:=λas M q _=>∃θ γ k S,as=[aF C θ γ,.loc k]/\M[k]? =!(.lst (S.map cx))/\-S=-γ/\Li γ/\q (.lst ((bL γ S).map bq)) M
def qL:Γ ["floor","steps"] ["floor","steps"] (τ mw):=.of rfl
def xj(F:de K "drawn_next" "drawn_next" mw f fd)(E:Ev K mg Cm)(ax:gh P w K mg base 1 Cm "size" ["self"] (r_ Cm) bU bX)(o_:aD P w K mg base 3 "is_drawn" ["floor","place","steps"] (zA Cm) KJ Jl):aC P w K mg base (cI P w) 4 f fd ["floor","steps"] (da K (uo Cm)):=by
 show F.d9 qL (λds M q x h=>?_) (λbI A outer s H E' hr=>(_,(ι (Α (BG (ys:=["floor","steps"]) (Ρ:=[0,1]) (.of qL rfl rfl rfl) (wG (bT E.bz (δ (iB ax hr ξ (jv 0)) ε aS))) (λC s H fp=>(bV (Ω o_ hr (dc (P:=P) (w:=w)) (Μ (jv 1) (Μ (jv 0) (Μ (jv 2) ε)))))) (λC s H fp=>(jv 0))))),λds M q x h=>?_))
 .let(θ,γ,k,S,rfl,_):=h;rfl
 .let(θ,γ,k,S,rfl,hk,hl,f,h):=h;let Xf:=f.len;show((_,_,.inl rfl,rfl),θ,γ,rfl,?_);show(((),()),by rw[cU];show aaH (show _<=12 by omega) @_,?_);show dJ trivial (λx=>match x with| .int j=>bx γ S j.toNat| _=>false) (λx=>x) _ _ (λx hx q' p' h1 h2=>?_) ?_
  .let(j,hj',rfl):=dZ hx;let hj:j < -γ:=()
   let h1:bx γ S (0+(j:Int)).toNat=true->q' (.int (0+(j:Int))) M:=h1;let h2:bx γ S (0+(j:Int)).toNat=false->p' M:=h2;rw[show(0+(j:Int)).toNat=j by omega]at h1 h2;show(θ,γ,k,j,S,by rw[Int.zero_add],hk,hl,hj,f,?_);cases hb:bx γ S j with
   | true=>show h1 hb
   | false=>show h2 hb
  .rw[aba,List.map_id'];let e3:((df 0 ((-γ:Int)).toNat).filter (λx=>match x with| .int j=>bx γ S j.toNat| _=>false))=(bL γ S).map bq:=by
    unfold df bL;rw[List.filter_map,show((-γ:Int)).toNat=-γ by omega];let e4:((λx:Dt=>match x with| .int j=>bx γ S j.toNat| _=>false) ∘ λk:Nat=>Dt.int (0+(k:Int)))=λj:Nat=>bx γ S j:=by
     funext j
     change bx γ S (0+(j:Int)).toNat=_;rw[show(0+(j:Int)).toNat=j by omega]
    rw[e4];show List.map_congr_left λj _=>by unfold bq;rw[Int.zero_add]
   rw[e3];show h
def sy(m:Nat):∀(ps:List Nat) (p:Nat) (S:Sp),dw m (ps++[p]) S=(dw m ps S).set p (!m)
 | [],_,_=>rfl
 | q::ps,p,S=>sy m ps p (S.set q (!m))
def qo:∀gs:List Nat,iN (gs.map bq)=!(gs.map λg:Nat=>V.int (g:Int))
 | []=>rfl
 | g::gs=>by change(match oV (bq g), iN (gs.map bq) with| some v,!vs=>!(v::vs)| _,_=>none)=_;rw[qo gs];rfl
def yt(p:Nat):∀gs:List Nat,S3 (.int (p:Int)) (gs.map λg:Nat=>V.int (g:Int))=decide (p∈gs)
 | []=>rfl
 | g::gs=>by
  change(((g:Int)==(p:Int))|| S3 (.int (p:Int)) (gs.map λg:Nat=>V.int (g:Int)))=_;rw[yt p gs];by_cases h:g=p
  .subst h;simp
  .let h1:((g:Int)==(p:Int))=false:=by simpa usingλz:(g:Int)=p=>h ()
   rw[h1,Bool.false_or];have:(p∈g::gs)↔p∈gs:=(λz=>(aaS.mp z).resolve_left (λe=>h e.symm),aag _);simp[this]
def gP(n:Nat)(gs:List Nat):Sp:=(List.range n).map λp=>if p∈gs then !0 else none
def A1(h:p < n):at_ (gP n gs) p=if p∈gs then !0 else none:=by unfold at_ gP;rw[aae,aat,abg h];rfl
def G8(g:cz γ gs)(f:Li γ):Kt γ gs 1 (gP (-γ) gs):=by
 let out:∀p n,at_ (gP (-γ) gs) p=!n->p < -γ/\p∈gs/\n=0:=λp n e=>by
  by_cases hp:p < -γ
  .rw[A1 hp]at e;split at e
   .rename_i hg;cases e;show(hp,hg,rfl)
   .cases e
  .unfold at_ gP at e;rw[List.getD_eq_getElem?_getD,List.getElem?_eq_none (by simp;omega)]at e;cases e
 show(by unfold gP;simp,λp n e=>by let(_,_,rfl):=out p n e;show Nat.zero_lt_one,λp q hr=>A1 (List.getElem?_eq_some_iff.mp hr).1,λp kd ds n hr e=>?_,λp kd ds hr e=>?_)
 .let(_,hg,_):=out p n e;let(q,hq):=g.fin p hg;rw[hr]at hq;cases hq
 .let any:∀x∈bo (gP (-γ) gs) ds,x=none\/x=!(1 - 1):=λx hx=>by
   let(d,hd,ed):=Ψ.mp hx;cases x with
   | none=>show .inl rfl
   | some v=>let(_,_,rfl):=out _ _ ed;show .inr rfl
  by_cases hk:kd="other"
  .rw[aaP hk];let l6:=qf f (aap hr);cases ds with
   | nil=>show aa5 l6.1 @_
   | cons d ds=>show(_,aai,any _ aai)
  .rw[aaK hk];show any
def j4(S:Sp):List Nat:=(List.range (-S)).filter λp=>(at_ S p).isNone
def vK:∀(S:Sp) (n:Nat),((iq n (S.map cx)).filter (λx=>match x with| .tup [_,.aZ]=>true| _=>false)).map (λx=>match x with| .tup [i,_]=>i| _=>.aZ)=(j4 S).map λj=>bq (n+j)
 | [],n=>rfl
 | o::S,n=>by
  let ih:=vK S (n+1);let e1:j4 (o::S)=(if o.isNone then [0] else [])++(j4 S).map Nat.succ:=by
   unfold j4;rw[aa9,aca,List.filter_cons];have:((List.map Nat.succ (List.range (-S))).filter λp=>(at_ (o::S) p).isNone)=((List.range (-S)).filter λp=>(at_ S p).isNone).map Nat.succ:=by rw[List.filter_map];rfl
   rw[this];change(if o.isNone=true then _ else _)=_;split <;> rfl
  rw[e1,abp,abf];let e2:(j4 S).map ((λj=>bq (n+j)) ∘ Nat.succ)=(j4 S).map λj=>bq (n+1+j):=aby λj _=>by
   change bq (n+(j+1))=bq (n+1+j)
   congr 1;omega
  rw[e2,<-ih];cases o with
  | none=>rfl
  | some v=>rfl
def Jp(C:Addr):DF:=λas M q _=>∃θ γ g gs ok,as=[aF C θ γ,g]/\kO M g=!(gs.map bq, ok)/\ok M/\iX M g=!(gs.map bq)/\cz γ gs/\Li γ/\∀S,aR γ gs S->q (.tup [.loc (-M+1),.loc (-M)]) (M++[.lst (S.map cx),.lst ((j4 S).map bq)])
def iS:Γ ["floor","goals","steps","many","drawn","place","shut"] ["floor","goals"] (τ Ks):=.of rfl
def N0(F:de K "draw" "draw" Ks f fd)(E:Ev K mg Cm)(jA:aD P w K mg base 2 "check_goals" ["floor","goals"] (qD Cm) A9 AB)(ax:gh P w K mg base 1 Cm "size" ["self"] (r_ Cm) bU bX)(iH:aD P w K mg base 4 "drawn_next" ["floor","steps"] (uo Cm) C4 C6):aC P w K mg base (cI P w) 5 f fd ["floor","goals"] (da K (Jp Cm)):=by
 show F.d9 iS (λds M q x h=>?_) (λbI A outer s H E' hr=>(_,(ζ (cB (Ω jA hr ξ (Μ (jv 0) (Μ (jv 1) ε))))
   (ζ (ym (i:=2) iS.nd rfl (Or.inl rfl) (ys:=["goals"]) (Ρ:=[1]) (.of iS rfl rfl rfl) (wG (bT E.bz (δ (iB ax hr ξ (jv 0)) ε aS))) (λC s H fp=>(zF (xk (jv 0) (jv 1)) ν rh)))
   (ζ (ω 3 iS.nd ν)
   (ζ (ω 4 iS.nd (Ω iH hr ξ (Μ (jv 0) (Μ (jv 2) ε))))
   (ζ (kR (wM (cE E.bK (Μ (jv 4) ε)) ν) (ζ (cP (bC (jv 4)) (ai (i:=5) iS.nd rfl (Or.inl rfl)) aL (ι (kK (jv 2) (jv 5) (jv 3))))
   (ζ (ω 3 iS.nd (a_ (jv 3) ν))
   (ι (ω 4 iS.nd (Ω iH hr ξ (Μ (jv 0) (Μ (jv 2) ε))))))))
   (ζ (vn (i:=6) iS.nd rfl (Or.inl rfl) (ys:=[]) (Ρ:=[]) (.of iS rfl rfl rfl) (oW E.cJ (Μ (jv 2) ε)) (λC s H fp=>(Ce (jv 1) rh)) (λC s H fp=>(jv 0)))
   (ι (Α (av (Μ (jv 6) (Μ (jv 2) ε))))))))))),λds M q x h=>?_))
 .let(θ,γ,g,gs,ok,rfl,_):=h;rfl
 .let(θ,γ,g,gs,ok,rfl,hg,aU,TF,go,f,h):=h;let Xf:=f.len;show(θ,γ,g,gs,ok,rfl,hg,aU,go,?_);show((_,_,.inl rfl,rfl),θ,γ,rfl,?_);show(((),()),by rw[cU];show aaH (show _<=12 by omega) @_,?_);show eJ (f:=λx=>match x with| .int j=>cx (if j.toNat∈gs then !0 else none)| _=>.aZ) trivial (λx hx q' oX=>?_) ?_
  .let(j,hj',rfl):=dZ hx;let oX:q' (cx (if (0+(j:Int)).toNat∈gs then !0 else none)) M:=oX;rw[show(0+(j:Int)).toNat=j by omega]at oX;rw[show(0+(j:Int))=(j:Int) by omega];show(.int (j:Int),gs.map bq,_,rfl,TF,qo gs,?_);rw[yt];show(λz=>?_,λz=>?_)
   .rw[aaP (aaW z)]at oX;show oX
   .rw[aaK (abh z)]at oX;show oX
  let e0:([]:List Dt)++(df 0 ((-γ:Int)).toNat).map (λx=>match x with| .int j=>cx (if j.toNat∈gs then !0 else none)| _=>.aZ)=(gP (-γ) gs).map cx:=by
   unfold df gP;rw[aba,abf,abf,show((-γ:Int)).toNat=-γ by omega];show aby λj _=>by change cx (if (0+(j:Int)).toNat∈gs then !0 else none)=_;rw[show(0+(j:Int)).toNat=j by omega];rfl
  rw[e0];let d0:=G8 go f;show(θ,γ,-M,gP (-γ) gs,rfl,by simp,d0.len,f,?_);show⟨λm ρ M'=>∃(S:Sp) (mm:Nat) (a b:Option Dt),Kt γ gs mm S/\1<=mm/\m=qA S/\M'=M++[.lst (S.map cx)]/\ρ=[!(aF Cm θ γ),!g,!(.loc (-M)),!(.int (mm:Int)),!(.lst ((bL γ S).map bq)),a,b],(_,gP (-γ) gs,1,none,none,d0,aaq _,rfl,rfl,rfl),?_⟩;rintro m ρ M' ⟨S,mm,a,b,di,m1,rfl,rfl,rfl⟩;let wI:∀p∈bL γ S,p < -S:=λp hp=>by rw[di.len];show(fV.mp hp).1
  let UD:∀p∈bL γ S,at_ S p=none:=λp hp=>by
   have:=(fV.mp hp).2;unfold bx at this;split at this
   .rw[aaA]at this;show Option.isNone_iff_eq_none.mp this.1
   .cases this
  let Zy:(bL γ S).Nodup:=List.Pairwise.filter _ List.nodup_range;walk_at "vc";show(az (d:=.lst ((bL γ S).map bq)) (xs:=(bL γ S).map bq) rfl ?_:fi [.lst ((bL γ S).map bq)] _ _);show(λz=>?_,λz=>?_)
  .let z:((-((bL γ S).map bq):Nat):Int) > 0:=aaW z;rw[aah]at z;show⟨λρ' QV=>∃(a b:Option Dt),QV=M++[.lst ((dw mm (bL γ S) S).map cx)]/\ρ'=[!(aF Cm θ γ),!g,!(.loc (-M)),!(.int ((mm+1:Nat):Int)),!(.lst ((bL γ (dw mm (bL γ S) S)).map bq)),a,b],?_,?_⟩
   .rintro ρ' QV ⟨a',b',rfl,rfl⟩;let ho:=Bb (m:=mm) (bL γ S) S Zy λp hp=>(wI p hp,UD p hp);show(_,(),dw mm (bL γ S) S,mm+1,a',b',vI di m1,(),rfl,rfl,rfl)
   .show bF (i:=4) (d:=.lst ((bL γ S).map bq)) rfl rfl ?_;show bJ (λxs ρ QV=>∃(done rest:List Nat) (a b:Option Dt),bL γ S=done++rest/\xs=rest.map bq/\QV=M++[.lst ((dw mm done S).map cx)]/\ρ=[!(aF Cm θ γ),!g,!(.loc (-M)),!(.int (mm:Int)),!(.lst ((bL γ S).map bq)),a,b]) (λxs ρ QV hj=>trivial) (λx xs ρ QV hj gc=>?_) (λρ QV hj=>?_) _ _ _ ([],bL γ S,a,b,rfl,rfl,rfl,rfl)
    .let(done,rest,a',b',er,ex,rfl,rfl):=hj;cases rest with
     | nil=>cases ex
     | cons p rest=>
      cases ex;let hp:=wI p (by rw[er];simp);show(-M,(p:Int),(dw mm done S).map cx,p,rfl,rfl,by simp,by rw[List.length_map,nj];show sO hp,?_);show gc _ _ (done++[p],rest,_,_,by rw[er];simp,rfl,?_,rfl);rw[sy];simp[List.set_append,List.map_set];rfl
    .let(done,rest,a',b',er,ex,rfl,rfl):=hj;cases rest with
     | nil=>
      rw[abw]at er;subst er;let ds:=vI di m1;show(θ,γ,-M,dw mm (bL γ S) S,rfl,by simp,ds.len,f,_,_,rfl,rfl)
     | cons p rest=>cases ex
  .let z:¬((-((bL γ S).map bq):Nat):Int) > 0:=abh z;rw[aah]at z;let Z2:bL γ S=[]:=List.length_eq_zero_iff.mp ();let dok:=IH di Z2;let hkS:(M++[MO.lst (S.map cx)])[-M]? =!(.lst (S.map cx)):=by simp
   let hlk:i6 (M++[MO.lst (S.map cx)]) (.loc (-M))=!(S.map cx, λM':Ms=>M'[-M]? =!(MO.lst (S.map cx))):=by change(match (M++[MO.lst (S.map cx)])[-M]? with| some (MO.lst xs)=>!(xs, λM':Ms=>M'[-M]? =!(MO.lst xs))| _=>none)=_;rw[hkS]
   show(.loc (-M),S.map cx,_,rfl,hlk,by rw[gB,aah,di.len];show aaH Xf @_,?_);show dJ hkS (λx=>match x with| .tup [_,.aZ]=>true| _=>false) (λx=>match x with| .tup [i,_]=>i| _=>.aZ) _ _ (λx hx q' p' h1 h2=>?_) ?_
   .let(j,hj,ej):=abH hx;let(y,hy,rfl):=qu (n:=0) (i:=j) (aam.mpr (hj,ej));rw[aat]at hy;let(o,ho,rfl):=abN.mp hy;cases o with
    | none=>show h1 rfl
    | some v=>show h2 rfl
   .rw[aba,vK S 0];let e4:(j4 S).map (λj=>bq (0+j))=(j4 S).map bq:=aby λj _=>by rw[acj]
    rw[e4];show(fI,?_);have:=h S dok;rw[aan,aa8];show this
def ug{a b:Fr}(ha:0 < a.2)(hb:0 < b.2):a.1 * b.2<=b.1 * a.2↔val a<=val b:=by
 let e1:val a * (a.2:Rat)=a.1:=by
  have:=cT (show a.2≠0 by omega);unfold val;generalize (a.1:Rat)=x at *
  generalize (a.2:Rat)=y at *
  grind
 let e2:val b * (b.2:Rat)=b.1:=by
  have:=cT (show b.2≠0 by omega);unfold val;generalize (b.1:Rat)=x at *
  generalize (b.2:Rat)=y at *
  grind
 let p1:(0:Rat) < (a.2:Rat):=ab0.mpr ha;let p2:(0:Rat) < (b.2:Rat):=ab0.mpr hb;let pp:=Rat.mul_pos p1 p2;rw[<-Rat.intCast_le_intCast,abA,abA,<-e1,<-e2];generalize (a.2:Rat)=y at *
 generalize (b.2:Rat)=z at *
 generalize val a=u at *
 generalize val b=v at *
 constructor
 .intro h;by_cases c:u<=v
  .show c
  .have:=Rat.mul_pos (show 0 < u - v by grind) pp;grind
 .intro h;have:=Rat.mul_le_mul_of_nonneg_right h (Rat.le_of_lt pp);grind
def sk(ns:List Fr):Fr:=ns.foldl (λf n=>if eI f n then n else f) (ns.headD (0, 1))
def sY(ns:List Fr):Fr:=ns.foldl (λf n=>if eI n f then n else f) (ns.headD (0, 1))
def B1:DF:=λas M q _=>∃p r k l,as=[aI p,aI r]/\Sz k p/\Sz l r/\k+l+1<=8000/\q (.bl (eI p r)) M
def OG:Γ ["one","other"] ["one","other"] (τ Ed):=.of rfl
def JR(F:de K "under" "under" Ed f fd)(E:Ev K mg Cm):aC P w K mg base (cI P w) 1 f fd ["one","other"] (da K B1):=by
 show F.d9 OG (λds M q x h=>?_) (λbI A outer s H E' hr=>(_,(ι (Α (HV (dN (Η (jv 0) ν) (Η (jv 1) ν)) (dN (Η (jv 1) ν) (Η (jv 0) ν))))),λds M q x h=>?_))
 .let(p,r,k,l,rfl,_):=h;rfl
 .let(p,r,k,l,rfl,hp,rN,hk,h):=h;show((jH hp (),gD rN ()),(jH rN (),gD hp ()),h)
def yW(f:List Fr->Fr):DF:=λas M q _=>∃ns:List Fr,as=[.lst (ns.map aI)]/\ns≠[]/\(∀n∈ns,Sz 1300 n)/\q (aI (f ns)) M
def jN:Γ ["numbers","found","number"] ["numbers"] (τ pV):=.of rfl
def Ah(F:de K "greatest" "greatest" pV f fd)(E:Ev K mg Cm)(lq:aD P w K mg base 1 "under" ["one","other"] B1 Dw Dv):aC P w K mg base (cI P w) 2 f fd ["numbers"] (da K (yW sk)):=by
 show F.d9 jN (λds M q x h=>?_) (λbI A outer s H E' hr=>(_,(ζ (ω 1 jN.nd (Η (jv 0) ν))
   (ζ (cP (bC (jv 0)) (ai (i:=2) jN.nd rfl (Or.inl rfl)) aL (ι (ah (bV (Ω lq hr ξ (Μ (jv 1) (Μ (jv 2) ε)))) (ι (ω 1 jN.nd (jv 2))) Ε)))
   (ι (Α (jv 1))))),λds M q x h=>?_))
 .let(ns,rfl,_):=h;rfl
 .let(ns,rfl,h0,hn,h):=h;let(n0,ns',rfl):=acd h0;walk_at "vc";show χ (d:=.lst ((n0::ns').map aI)) rfl bc ?_;show bF (i:=0) (d:=.lst ((n0::ns').map aI)) rfl rfl ?_;show bJ (λxs ρ M'=>M'=M/\∃(rest:List Fr) (f:Fr) (a:Option Dt),xs=rest.map aI/\(∀p∈rest,Sz 1300 p)/\Sz 1300 f/\rest.foldl (λf n=>if eI f n then n else f) f=sk (n0::ns')/\ρ=[!(.lst ((n0::ns').map aI)),!(aI f),a]) (λxs ρ M' hj=>trivial) (λx xs ρ M' hj gc=>?_) (λρ M' hj=>?_) _ _ _ (rfl,n0::ns',n0,none,rfl,hn,hn n0 aai,rfl,rfl)
  .let(rfl,rest,f,a,ex,rD,hw,hf,rfl):=hj;cases rest with
   | nil=>cases ex
   | cons p rest=>
    cases ex;let hp:=rD p aai;rw[ab9]at hf;show(f,p,1300,1300,rfl,hw,hp,@_,λz=>?_,λz=>?_)
    .rw[z,aaP rfl]at hf;show gc _ _ (rfl,rest,p,_,rfl,λp hp=>rD p (aag _ hp),hp,hf,rfl)
    .rw[z,aaK @_]at hf;show gc _ _ (rfl,rest,f,_,rfl,λp hp=>rD p (aag _ hp),hw,hf,rfl)
  .let(rfl,rest,f,a,ex,rD,hw,hf,rfl):=hj;cases rest with
   | nil=>rw[<-hf]at h;show h
   | cons p rest=>cases ex
def rH:Γ ["numbers","found","number"] ["numbers"] (τ Dm):=.of rfl
def Kz(F:de K "least" "least" Dm f fd)(E:Ev K mg Cm)(lq:aD P w K mg base 1 "under" ["one","other"] B1 Dw Dv):aC P w K mg base (cI P w) 2 f fd ["numbers"] (da K (yW sY)):=by
 show F.d9 rH (λds M q x h=>?_) (λbI A outer s H E' hr=>(_,(ζ (ω 1 rH.nd (Η (jv 0) ν))
   (ζ (cP (bC (jv 0)) (ai (i:=2) rH.nd rfl (Or.inl rfl)) aL (ι (ah (bV (Ω lq hr ξ (Μ (jv 2) (Μ (jv 1) ε)))) (ι (ω 1 rH.nd (jv 2))) Ε)))
   (ι (Α (jv 1))))),λds M q x h=>?_))
 .let(ns,rfl,_):=h;rfl
 .let(ns,rfl,h0,hn,h):=h;let(n0,ns',rfl):=acd h0;walk_at "vc";show χ (d:=.lst ((n0::ns').map aI)) rfl bc ?_;show bF (i:=0) (d:=.lst ((n0::ns').map aI)) rfl rfl ?_;show bJ (λxs ρ M'=>M'=M/\∃(rest:List Fr) (f:Fr) (a:Option Dt),xs=rest.map aI/\(∀p∈rest,Sz 1300 p)/\Sz 1300 f/\rest.foldl (λf n=>if eI n f then n else f) f=sY (n0::ns')/\ρ=[!(.lst ((n0::ns').map aI)),!(aI f),a]) (λxs ρ M' hj=>trivial) (λx xs ρ M' hj gc=>?_) (λρ M' hj=>?_) _ _ _ (rfl,n0::ns',n0,none,rfl,hn,hn n0 aai,rfl,rfl)
  .let(rfl,rest,f,a,ex,rD,hw,hf,rfl):=hj;cases rest with
   | nil=>cases ex
   | cons p rest=>
    cases ex;let hp:=rD p aai;rw[ab9]at hf;show(p,f,1300,1300,rfl,hp,hw,@_,λz=>?_,λz=>?_)
    .rw[z,aaP rfl]at hf;show gc _ _ (rfl,rest,p,_,rfl,λp hp=>rD p (aag _ hp),hp,hf,rfl)
    .rw[z,aaK @_]at hf;show gc _ _ (rfl,rest,f,_,rfl,λp hp=>rD p (aag _ hp),hw,hf,rfl)
  .let(rfl,rest,f,a,ex,rD,hw,hf,rfl):=hj;cases rest with
   | nil=>rw[<-hf]at h;show h
   | cons p rest=>cases ex
def vF{f n:Fr}(h1:0 < f.2)(h2:0 < n.2):eI f n=true↔val f < val n:=by
 unfold eI;rw[abb];have:=ug h2 h1;constructor
 .intro h;by_cases c:val n<=val f
  .have:=this.mpr c;omega
  .grind
 .intro h;by_cases c:n.1 * f.2<=f.1 * n.2
  .have:=this.mp c;grind
  .omega
def mT:∀(ns:List Fr) (f:Fr),0 < f.2->(∀n∈ns,0 < n.2)->(ns.foldl (λf n=>if eI f n then n else f) f∈f::ns)/\val f<=val (ns.foldl (λf n=>if eI f n then n else f) f)/\∀n∈ns,val n<=val (ns.foldl (λf n=>if eI f n then n else f) f)
 | [],f,_,_=>(List.mem_cons_self,by change val f<=val f;grind,λ_ z=>nomatch z)
 | a::ns,f,h,hn=>by
  let ha:=hn a aai;let u:=vF h ha;rw[ab9];by_cases c:eI f a=true
  .rw[aaP c];let(m,l,al):=mT ns a ha λn z=>hn n (aag _ z);have:=u.mp c;show(List.mem_cons_of_mem _ m,by grind,λn z=>?_);rcases aaS.mp z with e| e
   .rw[e];show l
   .show al n e
  .rw[aaK c];let(m,l,al):=mT ns f h λn z=>hn n (aag _ z);let c2:¬val f < val a:=λz=>c (u.mpr z);show(?_,l,λn z=>?_)
   .rcases aaS.mp m with e| e
    .rw[e];show aai
    .show aag _ (aag _ e)
   .rcases aaS.mp z with e| e
    .rw[e];grind
    .show al n e
def mh:∀(ns:List Fr) (f:Fr),0 < f.2->(∀n∈ns,0 < n.2)->(ns.foldl (λf n=>if eI n f then n else f) f∈f::ns)/\val (ns.foldl (λf n=>if eI n f then n else f) f)<=val f/\∀n∈ns,val (ns.foldl (λf n=>if eI n f then n else f) f)<=val n
 | [],f,_,_=>(List.mem_cons_self,by change val f<=val f;grind,λ_ z=>nomatch z)
 | a::ns,f,h,hn=>by
  let ha:=hn a aai;let u:=vF ha h;rw[ab9];by_cases c:eI a f=true
  .rw[aaP c];let(m,l,al):=mh ns a ha λn z=>hn n (aag _ z);have:=u.mp c;show(List.mem_cons_of_mem _ m,by grind,λn z=>?_);rcases aaS.mp z with e| e
   .rw[e];show l
   .show al n e
  .rw[aaK c];let(m,l,al):=mh ns f h λn z=>hn n (aag _ z);let c2:¬val a < val f:=λz=>c (u.mpr z);show(?_,l,λn z=>?_)
   .rcases aaS.mp m with e| e
    .rw[e];show aai
    .show aag _ (aag _ e)
   .rcases aaS.mp z with e| e
    .rw[e];grind
    .show al n e
def fS(k:Str):Rat:=if k="one" then 1 else - 1
structure FR(θ:Fr)(γ:List Rw):Prop where
 pl:Um θ γ
 n1:1<=-γ
 Zy:∀k ds,Rw.υ k ds∈γ->Ξ k=true->∀d∈ds,d.2.2=[]
def bR(γ:List Rw)(i:Nat):Rw:=γ.getD i (.fin (0, 1))
def rw_at{γ:List Rw}(h:i < -γ):γ[i]? =!(bR γ i):=by unfold bR;rw[aae,aad h];rfl
def cy{γ:List Rw}{r:Rw}(hi:γ[i]? =!r):bR γ i=r:=by unfold bR;rw[aae,hi];rfl
def FR.JC(h:FR θ γ):Li γ:=(h.pl.len,h.pl.row)
def rL{ds:List br}(o:AR (ds.map ο)):∀d∈ds,0 < cV d:=λd hd=>by
 let hm:ο d∈ds.map ο:=aaz.mpr (d,hd,rfl);let(_,_,hB):=g7 (ds.map ο) 1 0 @_ (acz _) λc hc=>((o.Io.2 c hc).1,acz _);let e:=C8 (o.Io.2 _ hm).1 (hB _ hm);let p:(0:Rat) < ((kZ (bM (ds.map ο)) (ο d):Int):Rat):=ab0.mpr (o.pos _ hm);let b0:(0:Rat) < ((bM (ds.map ο):Int):Rat):=ab0.mpr o.b0;let e:((kZ (bM (ds.map ο)) (ο d):Int):Rat)=val (ο d) * ((bM (ds.map ο):Int):Rat):=e;rw[e]at p;change 0 < val (ο d);by_cases z:0 < val (ο d)
 .show z
 .have:=Rat.mul_nonneg (show 0<= - val (ο d) by grind) (Rat.le_of_lt b0);grind
structure WyC(n:Nat)(B:Int)(d:br):Prop where
 to:0<=d.1/\d.1 < n
 one:d.2.2=[ο d]
 ch:Ch B (ο d)
 p:0 < cV d
section
variable{θ:Fr}{γ:List Rw}{acc acc':Pl}{tb tb':List Fr}{k:Str}{ds:List br}
def h9(fr:FR θ γ)(hi:γ[i]? =!(.υ k ds))(hh:Ξ k=true)(gj:Τ acc i=!(j:Int))(jl:j < -ds):eY acc i (.υ k ds)=[(ds[j].1, ds[j].2.1,[(1, 1)])]:=by
 let gd:ds.getD j d0=ds[j]:=by rw[aae,aad jl];rfl
 unfold eY;rw[gj];change[((ds.getD ((j:Int)).toNat d0).1, (ds.getD ((j:Int)).toNat d0).2.1,(ds.getD ((j:Int)).toNat d0).2.2++[(1, 1)])]=_;rw[abl,gd,fr.Zy k ds (aap hi) hh _ (aax jl)];rfl
def sX:val ((1, 1):Fr)=1:=by change((1:Int):Rat) / ((1:Int):Rat)=1;grind
def qp:val ((0, 1):Fr)=0:=by change((0:Int):Rat) / ((1:Int):Rat)=0;grind
def FR.aa(fr:FR θ γ)(dk:qi γ acc)(hi:γ[i]? =!(.υ k ds)):-(eY acc i (.υ k ds))<=6/\aN cV (eY acc i (.υ k ds))=1/\∃B,0 < B/\B<=1000000/\∀d∈eY acc i (.υ k ds),WyC (-γ) B d:=by
 let rm:Rw.υ k ds∈γ:=aap hi;let dr:=c7 fr.pl rm;cases hh:Ξ k with
 | true=>
  let(j,hj,jl):=dk.hand i _ hi hh;let jl:j < -ds:=jl;let v1:cV (ds[j].1, ds[j].2.1,[((1, 1):Fr)])=1:=sX;rw[h9 fr hi hh hj jl];show(by simp,?_,1,@_,@_,λd hd=>?_)
  .change cV (ds[j].1, ds[j].2.1,[(1, 1)])+0=1;rw[v1];grind
  .rw[abi.mp hd];show(dr.to ds[j] (List.getElem_mem jl),rfl,?_,by rw[v1];grind);change Ch 1 ((1, 1):Fr);show(@_,(1,@_),(@_,@_),yD (k:=2) (@_,@_,@_) @_)
 | false=>
  let hc:k="chance"/\AR (ds.map ο):=by
   rcases dr.kd with z| ⟨_,z⟩
   .rw[z]at hh;cases hh
   .show z
  let(rfl,co):=hc;let e:eY acc i (.υ "chance" ds)=ds:=by unfold eY;rw[dk.JO i _ hi hh];rfl
  rw[e];show(dr.l6,(EM co).1,bM (ds.map ο),co.b0,co.b1,λd hd=>?_);let(a,b,c,f):=ML co (aaz.mpr (d,hd,rfl));show(dr.to d hd,(dr.ro.2.2.1 rfl).1 d hd,(a,IU b,c,f),rL co d hd)
def rj(S:Sp)(i:Nat):Prop:=∃s,at_ S i=!(s+1)
def gU(γ:List Rw)(S:Sp)(acc:Pl)(i:Nat):List br:=match at_ S i with
 | some (_+1)=>eY acc i (bR γ i)
 | _=>[]
def qe(S:Sp)(i:Nat):Fr:=match at_ S i with
 | some 0=>(1, 1)
 | _=>(0, 1)
def jF(h:rj S i):gU γ S acc i=eY acc i (bR γ i):=by let(s,e):=h;unfold gU;rw[e]
def sW(h:¬rj S i):gU γ S acc i=[]:=by
 unfold gU;split
 .rename_i s e;show aa5 (s,e) h
 .rfl
def OR(h:rj S i):qe S i=(0, 1):=by let(s,e):=h;unfold qe;rw[e];rfl
def jB(dr:aR γ gs S)(il:i < -γ)(h:rj S i):∃k ds,γ[i]? =!(.υ k ds):=by
 let hi:=rw_at il;let(s,e):=h;have:=dr.2 i _ hi;cases hr:bR γ i with
 | υ k ds=>rw[hr]at hi;show(k,ds,hi)
 | fin p=>
  rw[hr]at this;let this:at_ S i=if i∈gs then !0 else none:=this
  rw[e]at this;split at this <;> cases this
def pO(fr:FR θ γ)(dk:qi γ acc)(dr:aR γ gs S)(il:i < -γ)(h:rj S i):-(gU γ S acc i)<=6/\aN cV (gU γ S acc i)=1/\∃B,0 < B/\B<=1000000/\∀d∈gU γ S acc i,WyC (-γ) B d:=by let(k,ds,hi):=jB dr il h;rw[jF h,cy hi];show fr.aa dk hi
def O1{p:Fr}(e0:0 < E)(h:p=(0, 1)\/p=(1, 1)):Nr E 7 p:=by
 rcases h with rfl| rfl
 .show((@_,@_),(0,by simp),(@_,@_))
 .show((@_,@_),(E,by simp),(@_,@_))
def JN:qe S i=(0, 1)\/qe S i=(1, 1):=by
 unfold qe;split
 .show .inr rfl
 .show .inl rfl
def R7(fr:FR θ γ)(dk:qi γ acc)(dr:aR γ gs S)(il:i < -γ):∃E,EN (1, 1) (-γ) E 7 (gU γ S acc i) (qe S i)/\7 * E<=7000000/\SzE E 7/\(∀d∈gU γ S acc i,∃c,d.2.2=[c])/\∀d∈gU γ S acc i,Sz 300 (ο d):=by
 by_cases h:rj S i
 .let(l6,one,B,b0,b1,hw):=pO (acc:=acc) fr dk dr il h;generalize gU γ S acc i=ws at *
  show(B,((λd hd=>(hw d hd).to,λd hd=>Rat.le_of_lt (hw d hd).p,by rw[one];grind),λd hd=>(@_,(@_,@_),(hw d hd).ch.pos,(hw d hd).ch.u,?_),O1 b0 JN,b0,()),(),(Int.lt_of_le_of_lt b1 @_,@_),λd hd=>(_,(hw d hd).one),λd hd=>(hw d hd).ch.sz);have:=BW @_ (hw d hd).ch.pos (Hv ((1, 1):Fr)) (hw d hd).ch.he;rwa[Int.one_mul]at this
 .rw[sW h];show(1,((λ_ z=>(nomatch z),λ_ z=>(nomatch z),by change(0:Rat)<=1;grind),λ_ z=>(nomatch z),O1 @_ JN,@_,by change 1+0<=(7:Int);decide),@_,(@_,@_),λ_ z=>(nomatch z),λ_ z=>(nomatch z))
def xJ{z:br->Rat}{m:Rat}:∀{aa:List br},(∀d∈aa,0 < cV d)->(∀d∈aa,z d<=m)->aN (λd=>cV d * z d) aa<=aN cV aa * m
 | [],_,_=>by change(0:Rat)<=0 * m;grind
 | a::aa,h1,h2=>by let ih:=xJ (aa:=aa) (λd hd=>h1 d (aag _ hd)) (λd hd=>h2 d (aag _ hd));have:=Rat.mul_le_mul_of_nonneg_left (h2 a aai) (Rat.le_of_lt (h1 a aai));change cV a * z a+aN (λd=>cV d * z d) aa<=(cV a+aN cV aa) * m;grind
def xZ{z:br->Rat}{m:Rat}:∀{aa:List br},(∀d∈aa,0 < cV d)->(∀d∈aa,z d<=m)->aN cV aa * m<=aN (λd=>cV d * z d) aa->∀d∈aa,z d=m
 | a::aa,h1,h2,h,d,hd=>by
  let le:=xJ (aa:=aa) (λd hd=>h1 d (aag _ hd)) (λd hd=>h2 d (aag _ hd));let ca:=h1 a aai;let za:=h2 a aai;let h:(cV a+aN cV aa) * m<=cV a * z a+aN (λd=>cV d * z d) aa:=h;let la:=Rat.mul_le_mul_of_nonneg_left za (Rat.le_of_lt ca);rcases aaS.mp hd with e| e
  .rw[e];by_cases c:z a=m
   .show c
   .have:=Rat.mul_pos ca (show 0 < m - z a by grind);grind
  .show xZ (λd hd=>h1 d (List.mem_cons_of_mem _ hd)) (λd hd=>h2 d (List.mem_cons_of_mem _ hd)) (by grind) d e
def lQ(c:Rat)(f:br->Rat):∀ds:List br,aN (λd=>c * f d) ds=c * aN f ds
 | []=>by change(0:Rat)=c * 0;grind
 | d::ds=>by change c * f d+aN (λd=>c * f d) ds=c * (f d+aN f ds);rw[lQ c f ds];grind
def xD(C:Nat->Prop)(x:Nat->Rat):∀n,(∃i,i < n/\C i)->∃i,i < n/\C i/\∀j,j < n->C j->x j<=x i
 | 0,(i,h,_)=>aa5 h (ab3 _)
 | n +1,(i,h,hc)=>by
  by_cases e:∃i,i < n/\C i
  .let(t,tl,tc,tm):=xD C x n e;by_cases c:C n/\x t<=x n
   .show(n,(),c.1,λj jl jc=>?_);by_cases ej:j=n
    .rw[ej];grind
    .have:=tm j () jc;grind
   .show(t,(),tc,λj jl jc=>?_);by_cases ej:j=n
    .subst ej;have:¬x t<=x j:=λz=>c (jc,z);grind
    .show tm j () jc
  .let hi:i=n:=by
    by_cases ei:i=n
    .show ei
    .show aa5 (i,(),hc) e
   subst hi;show(i,(),hc,λj jl jc=>?_);by_cases ej:j=i
   .rw[ej];grind
   .show aa5 (j,(),jc) e
def OU(γ:List Rw)(S:Sp)(acc:Pl):Prop:=∀C:Nat->Prop,(∀i,i < -γ->C i->rj S i/\∀d∈gU γ S acc i,C d.1.toNat)->∀i,i < -γ->¬C i
def Ma(fr:FR θ γ)(dk:qi γ acc)(dr:aR γ gs S)(pr:OU γ S acc){y:Nat->Rat}(h:∀i,i < -γ->rj S i->y i<=aN (λd=>cV d * y d.1.toNat) (gU γ S acc i))(h0:∀i,i < -γ->¬rj S i->y i<=0):∀i,i < -γ->y i<=0:=λi il=>by
 let(t,tl,_,tm):=xD (λ_=>True) y (-γ) (i,il,trivial);by_cases c:y t<=0
 .have:=tm i il trivial;grind
 .show aa5 (tl,rfl) (pr (λj=>j < -γ/\y j=y t) (λj jl hj=>?_) t tl);let e:=hj.2;let sj:rj S j:=by
   by_cases z:rj S j
   .show z
   .have:=h0 j jl z;grind
  show(sj,λd hd=>?_);let(_,one,B,_,_,hw):=pO (acc:=acc) fr dk dr jl sj;let tn:∀d∈gU γ S acc j,d.1.toNat < -γ:=λd hd=>by have:=(hw d hd).to;omega
  show(tn d hd,xZ (z:=λd=>y d.1.toNat) (m:=y t) (λd hd=>(hw d hd).p) (λd hd=>tm _ (tn d hd) trivial) (by rw[one,Rat.one_mul,<-e];show h j jl sj) d hd)
def Bv(f:br->Rat)(ds:List br):aN (λd=> - f d) ds= - aN f ds:=by rw[show(λd=> - f d)=λd=>(- 1:Rat) * f d by funext d;grind,lQ];grind
def UK(fr:FR θ γ)(dk:qi γ acc)(dr:aR γ gs S)(pr:OU γ S acc):Sys (1, 1) (-γ) 7000000 (gU γ S acc) (qe S):=by
 show(fr.n1,@_,λi il=>?_,λ{y} h=>?_)
 .let(E,p,l,_):=R7 (acc:=acc) fr dk dr il;show(E,7,p,l)
 .let h:∀k,k < -γ->y k=aN (λd=>cV d * y d.1.toNat) (gU γ S acc k):=λk kl=>by have:=h k kl;rw[sX,Rat.one_mul]at this;show this
  let z:∀k,k < -γ->¬rj S k->y k=0:=λk kl ns=>by have:=h k kl;rw[sW ns]at this;show this
  let a:=Ma fr dk dr pr (y:=y) (λi il _=>by rw[<-h i il];grind) λi il ns=>by rw[z i il ns];grind
  let b:=Ma fr dk dr pr (y:=λi=> - y i) (λi il _=>by
   let e:(λd:br=>cV d * - y d.1.toNat)=λd=> - (cV d * y d.1.toNat):=by funext d;grind
   rw[e,Bv,<-h i il];grind) λi il ns=>by rw[z i il ns];grind
  intro k kl;have:=a k kl;have:=b k kl;grind
structure rW(γ:List Rw)(S:Sp)(acc:Pl)(tb:List Fr):Prop where
 tab:Tab (1, 1) (-γ) (gU γ S acc) (qe S) tb
 bot:∀i,i < -γ->(tb.getD i (0, 1)).2 < 2 ^ 400
abbrev V_(tb:List Fr)(i:Nat):Rat:=val (tb.getD i (0, 1))
def rW.st(h:rW γ S acc tb)(il:i < -γ)(s:rj S i):V_ tb i=aN (λd=>cV d * V_ tb d.1.toNat) (gU γ S acc i):=by have:=h.tab.eq i il;rw[OR s,qp,sX]at this;change val (tb.getD i (0, 1))=_;rw[this];grind
def rW.no(h:rW γ S acc tb)(il:i < -γ)(s:¬rj S i):V_ tb i=val (qe S i):=by have:=h.tab.eq i il;rw[sW s]at this;change val (tb.getD i (0, 1))=_;rw[this];change val (qe S i)+val (1, 1) * 0=_;grind
def Uu(fr:FR θ γ)(WH:qi γ acc')(dr:aR γ gs S)(Ie:OU γ S acc')(h:rW γ S acc tb)(h':rW γ S acc' tb'){sg:Rat}(hs:∀i,i < -γ->rj S i->sg * V_ tb i<=sg * aN (λd=>cV d * V_ tb d.1.toNat) (gU γ S acc' i)):(∀i,i < -γ->sg * V_ tb i<=sg * V_ tb' i)/\∀i,i < -γ->rj S i->sg * V_ tb i < sg * aN (λd=>cV d * V_ tb d.1.toNat) (gU γ S acc' i)->sg * V_ tb i < sg * V_ tb' i:=by
 let e:∀i,aN (λd=>cV d * (sg * V_ tb d.1.toNat - sg * V_ tb' d.1.toNat)) (gU γ S acc' i)=sg * aN (λd=>cV d * V_ tb d.1.toNat) (gU γ S acc' i) - sg * aN (λd=>cV d * V_ tb' d.1.toNat) (gU γ S acc' i):=λi=>by rw[<-lQ,<-lQ,<-ot];show ni λd _=>by grind
 let le:=Ma fr WH dr Ie (y:=λi=>sg * V_ tb i - sg * V_ tb' i) (λi il st=>by
  let a:=hs i il st;let b:=h'.st il st;rw[e]
  grind) λi il ns=>by
  let a:=h.no il ns;let b:=h'.no il ns;grind
 show(λi il=>by have:=le i il;grind,λi il st lt=>?_);let(_,one,B,_,_,hw):=pO (acc:=acc') fr WH dr il st;let m:=xJ (z:=λd=>sg * V_ tb d.1.toNat - sg * V_ tb' d.1.toNat) (m:=0) (aa:=gU γ S acc' i) (λd hd=>(hw d hd).p) λd hd=>le _ (by have:=(hw d hd).to;omega);rw[e]at m;let b:=h'.st il st;grind
def rW.unit(fr:FR θ γ)(dk:qi γ acc)(dr:aR γ gs S)(pr:OU γ S acc)(h:rW γ S acc tb):∀i,i < -γ->0<=V_ tb i/\V_ tb i<=1:=by
 let g:∀i,0<=val (qe S i)/\val (qe S i)<=1:=λi=>by
  rcases JN (S:=S) (i:=i) with e| e <;> rw[e]
  .rw[qp];grind
  .rw[sX];grind
 let a:=Ma fr dk dr pr (y:=λi=> - V_ tb i) (λi il st=>by
  let e:(λd:br=>cV d * - V_ tb d.1.toNat)=λd=> - (cV d * V_ tb d.1.toNat):=by funext d;grind
  rw[e,Bv,<-h.st il st];grind) λi il ns=>by
  have:=h.no il ns;have:=g i;grind
 let b:=Ma fr dk dr pr (y:=λi=>V_ tb i - 1) (λi il st=>by
  let e:(λd:br=>cV d * (V_ tb d.1.toNat - 1))=λd=>cV d * V_ tb d.1.toNat - cV d:=by funext d;grind
  rw[e,ot,(pO (acc:=acc) fr dk dr il st).2.1,<-h.st il st];grind) λi il ns=>by
  have:=h.no il ns;have:=g i;grind
 intro i il;have:=a i il;have:=b i il;grind
def rW.sz(fr:FR θ γ)(dk:qi γ acc)(dr:aR γ gs S)(pr:OU γ S acc)(h:rW γ S acc tb)(il:i < -γ):Red (tb.getD i (0, 1))/\0<=(tb.getD i (0, 1)).1/\(tb.getD i (0, 1)).1<=(tb.getD i (0, 1)).2/\Sz 400 (tb.getD i (0, 1)):=by
 let r:=h.tab.red i il;let u:0<=val (tb.getD i (0, 1))/\val (tb.getD i (0, 1))<=1:=h.unit fr dk dr pr i il;let b:=h.bot i il;generalize tb.getD i (0, 1)=p at *
 let p0:=r.pos;let u0:=(ug (a:=(0, 1)) (b:=p) @_ p0).mpr (by rw[qp];show u.1);let u1:=(ug (a:=p) (b:=(1, 1)) p0 @_).mpr (by rw[sX];show u.2);let u0:(0:Int) * p.2<=p.1 * 1:=u0;let u1:p.1 * 1<=1 * p.2:=u1;let c0:0<=p.1:=()
 let c1:p.1<=p.2:=()
 show(r,c0,c1,?_,p0,?_)
 .have:(p.1.natAbs:Int) < ((2 ^ 400:Nat):Int):=by rw[abM c0];show abO c1 b
  show acm.mp this
 .have:(p.2.natAbs:Int) < ((2 ^ 400:Nat):Int):=by rw[abM (aaT p0)];show b
  show acm.mp this
end
def lA{i:Int}:∀{pl:Pl},i∉pl.map (·.1)->Τ pl i=none
 | [],_=>rfl
 | p::r,h=>by unfold Τ;rw[aaK λz=>h (by rw[<-z];show aai)];show lA λz=>h (aag _ z)
def cv(γ:List Rw)(i:Nat):Str:=match γ[i]? with
 | some r=>kindOf r
 | none=>""
def cH(γ:List Rw)(hand:Str):List Nat:=(List.range (-γ)).filter λi=>decide (cv γ i=hand)
def BR(γ:List Rw)(hand:Str):Pl:=(cH γ hand).map λi:Nat=>((i:Int), 0)
def DD(p:Nat->Bool)(n:Nat):((df 0 n).filter λx=>match x with| .int j=>p j.toNat| _=>false)=((List.range n).filter p).map λi:Nat=>Dt.int i:=by
 unfold df;rw[List.filter_map];let e:((λx:Dt=>match x with| .int j=>p j.toNat| _=>false) ∘ λi:Nat=>Dt.int (0+(i:Int)))=p:=funext λi=>by change p (0+(i:Int)).toNat=p i;rw[show(0+(i:Int)).toNat=i by omega]
 rw[e];show aby λi _=>by change Dt.int (0+(i:Int))=Dt.int i;rw[Int.zero_add]
def y_(A:Addr):DF:=λas M q _=>∃(θ:Fr) (γ:List Rw) (hand:Str),as=[aF A θ γ,.str hand]/\-γ<=12/\q (.lst ((cH γ hand).map λi:Nat=>Dt.int i)) M
def tW:Γ ["floor","hand"] ["floor","hand"] (τ pk):=.of rfl
def Bs(F:de K "places_of" "places_of" pk f fd)(E:Ev K mg Cm)(ax:gh P w K mg base 1 Cm "size" ["self"] (r_ Cm) bU bX)(ar:gh P w K mg base 1 Cm "kind" ["self","place"] (sF Cm) bW bY):aC P w K mg base (cI P w) 2 f fd ["floor","hand"] (da K (y_ Cm)):=by
 show F.d9 tW (λds M q x h=>?_) (λbI A outer s H E' hr=>(_,(ι (Α (BG (ys:=["hand","floor"]) (Ρ:=[1,0]) (.of tW rfl rfl rfl) (wG (bT E.bz (δ (iB ax hr ξ (jv 0)) ε aS))) (λC s H fp=>(cX hr (gX ar hr (dc (P:=P) (w:=w)) (jv 2) (Μ (jv 0) ε)) (jv 1))) (λC s H fp=>(jv 0))))),λds M q x h=>?_))
 .let(θ,γ,hand,rfl,_):=h;rfl
 .let(θ,γ,hand,rfl,qC,h):=h;let sl:∀{z:Nat},z<=1000->z<=sizeLine:=λh=>aaH h @_;walk_at "vc";dsimp only[yM,YI];walk_at "vc";show((_,_,.inl rfl,rfl),θ,γ,rfl,?_);show((),by rw[cU];show sl (),?_);rw[show((-γ:Int)).toNat=-γ by omega];show dJ trivial (λx=>match x with| .int j=>decide (cv γ j.toNat=hand)| _=>false) (λx=>x) _ _ (λx hx q' p' h1 h2=>?_) ?_
  .let(j,hj,rfl):=dZ hx;rw[Int.zero_add]at h1 h2⊢;let hr:γ[j]? =!γ[j]:=aad hj;let Ih:cv γ j=kindOf γ[j]:=by unfold cv;rw[hr]
   let h1:decide (cv γ j=hand)=true->q' (.int (j:Int)) M:=h1;let h2:decide (cv γ j=hand)=false->p' M:=h2;rw[Ih]at h1 h2;show((_,_,.inl rfl,rfl),θ,γ,j,γ[j],rfl,hr,?_);change(match decide (kindOf γ[j]=hand) with| true=>q' (.int (j:Int)) M| false=>p' M);cases hb:decide (kindOf γ[j]=hand) with
   | true=>show h1 hb
   | false=>show h2 hb
  .rw[aba,List.map_id'];show(λ(key:∀l,l=(cH γ hand).map (λi:Nat=>Dt.int i)->q (.lst l) M)=>key _ (DD (λi=>decide (cv γ i=hand)) (-γ))) λl hl=>by rw[hl];show h
def Fs(A:Addr):DF:=λas M q _=>∃(θ:Fr) (γ:List Rw) (hand:Str),as=[aF A θ γ,.str hand]/\-γ<=12/\q (.loc (-M)) (M++[dP (BR γ hand)])
def lh:Γ ["floor","hand","plan","place"] ["floor","hand"] (τ mL):=.of rfl
def yg(F:de K "first_plan" "first_plan" mL f fd)(E:Ev K mg Cm)(fA:aD P w K mg base 2 "places_of" ["floor","hand"] (y_ Cm) pD qc):aC P w K mg base (cI P w) 3 f fd ["floor","hand"] (da K (Fs Cm)):=by
 show F.d9 lh (λds M q x h=>?_) (λbI A outer s H E' hr=>(_,(ζ (ω 2 lh.nd D5)
   (ζ (cP (bC (Ω fA hr ξ (Μ (jv 0) (Μ (jv 1) ε)))) (ai (i:=3) lh.nd rfl (Or.inl rfl)) aL (ι (rJ hr (jv 2) (jv 3) ν)))
   (ι (Α (jv 2))))),λds M q x h=>?_))
 .let(θ,γ,hand,rfl,_):=h;rfl
 .let(θ,γ,hand,rfl,qC,h):=h;let FZ:-(cH γ hand)<=12:=by have:=acA (λi=>decide (cv γ i=hand)) (List.range (-γ));rw[abu]at this;unfold cH;omega
  let We:(cH γ hand).Nodup:=List.nodup_range.filter _;walk_at "vc";dsimp only[qI,gu];walk_at "vc";show(θ,γ,hand,rfl,qC,?_);show bJ (λxs ρ' M'=>∃(eT rest:List Nat) (o3:Option Dt),cH γ hand=eT++rest/\xs=rest.map (λi:Nat=>Dt.int i)/\M'=M++[dP (eT.map λi:Nat=>((i:Int), 0))]/\ρ'=[!(aF Cm θ γ),!(.str hand),!(.loc (-M)),o3]) (λxs ρ' M' hj=>trivial) (λx xs ρ' M' hj gc=>?_) (λρ' M' hj=>?_) _ _ _ ([],cH γ hand,none,rfl,rfl,rfl,rfl)
  .let(eT,rest,o3,e,ex,rfl,rfl):=hj;cases rest with
   | nil=>cases ex
   | cons i rest=>
    cases ex;let dl:-eT<=12:=by have:=abm List.length e;rw[aan]at this;omega
    dsimp only[pE];walk_at "vc";show(-M,_,_,Sum.inl (i:Int),rfl,aK,rfl,by unfold kP;rw[List.length_map,List.length_map];omega,?_);rw[AI (v:=0),EL,ef];let gn:Τ (eT.map λi:Nat=>((i:Int), 0)) (i:Int)=none:=lA λy=>by
     rw[abf]at y;let(j,hj,ej):=aaz.mp y;let ej:(j:Int)=(i:Int):=ej;have:j=i:=()
     subst this;rw[e,acB]at We;show We.2.2 _ hj _ aai rfl
    show gc _ _ (eT++[i],rest,_,by rw[e,aa8];rfl,rfl,?_,rfl);unfold j9;rw[gn,aaK @_,abp];rfl
  .let(eT,rest,o3,e,ex,rfl,rfl):=hj;have:rest=[]:=by cases rest with| nil=>rfl| cons p r=>cases ex
   subst this;rw[abw]at e;rw[<-e];show h
def aP:Pl->Pl->Pl
 | p,[]=>p
 | p,e::r=>aP (j9 p e.1 e.2) r
def Fy:∀{r p:Pl},qH (kP p) (kP r)=kP (aP p r)
 | [],p=>rfl
 | e::r,p=>by change qH (hV (kP p) (Sum.inl e.1)) (kP r)=kP (aP (j9 p e.1 e.2) r);rw[AI (v:=e.2)];show Fy
def EE:∀{r p:Pl},tJ (kP p) (vP p) (kP r) (vP r)=vP (aP p r)
 | [],p=>rfl
 | e::r,p=>by change tJ (hV (kP p) (Sum.inl e.1)) (fb (kP p) (Sum.inl e.1) (vP p) (.int e.2)) (kP r) (vP r)=vP (aP (j9 p e.1 e.2) r);rw[AI (v:=e.2),EL];show EE
def lx{i:Int}:∀{r p:Pl},Fc r->Τ (aP p r) i=match Τ r i with| some v=>!v| none=>Τ p i
 | [],p,_=>rfl
 | e::r,p,nd=>by
  unfold Fc at nd;rw[abe,abT]at nd;let ih:=lx (i:=i) (r:=r) (p:=j9 p e.1 e.2) nd.2;change Τ (aP (j9 p e.1 e.2) r) i=match (if e.1=i then !e.2 else Τ r i) with| some v=>!v| none=>Τ p i
  rw[ih,NO];by_cases h:e.1=i
  .let hn:Τ r i=none:=by
    cases hg:Τ r i with
    | none=>rfl
    | some v=>show aa5 (aaz.mpr (_,FP hg,h.symm)) nd.1
   rw[hn,aaP h,aaP h.symm]
  .rw[aaK h,aaK (Ne.symm h)]
def ak:List (Int×Nat)->Pl->Prop
 | [],[]=>True
 | (k, c)::r,(k', v)::p=>k=k'/\0<=v/\v < c/\ak r p
 | _,_=>False
def NJ:List (Int×Nat)->List Pl
 | []=>[[]]
 | (k, c)::r=>(List.range c).flatMap λj:Nat=>(NJ r).map λp=>(k, (j:Int))::p
def sS:∀{kc:List (Int×Nat)} {p:Pl},ak kc p->p∈NJ kc
 | [],[],_=>abi.mpr rfl
 | (k, c)::r,(k', v)::p,h=>by let(rfl,v0,v1,h):=h;show List.mem_flatMap.mpr (v.toNat,abr.mpr (),aaz.mpr (p,sS h,?_));rw[Int.toNat_of_nonneg v0]
 | [],_::_,h=>h.elim
 | _::_,[],h=>h.elim
def cF:∀{kc:List (Int×Nat)} {p:Pl},ak kc p->p.map (·.1)=kc.map (·.1)
 | [],[],_=>rfl
 | (k, c)::r,(k', v)::p,h=>by let(rfl,_,_,h):=h;rw[abe,abe,cF h]
 | [],_::_,h=>h.elim
 | _::_,[],h=>h.elim
def Bx:∀{kc:List (Int×Nat)} {p:Pl} {i v:Int},ak kc p->Τ p i=!v->∃c,(i, c)∈kc/\0<=v/\v < (c:Int)
 | [],[],_,_,_,h=>by cases h
 | (k, c)::r,(k', v')::p,i,v,h,g=>by
  let(rfl,v0,v1,h):=h;unfold Τ at g;split at g
  .rename_i e;let e:k=i:=e;cases g;show(c,by rw[<-e];show aai,v0,v1)
  .let(c',m,a):=Bx h g;show(c',aag _ m,a)
 | [],_::_,_,_,h,_=>h.elim
 | _::_,[],_,_,h,_=>h.elim
def Ag:∀{kc:List (Int×Nat)} {p:Pl} {i v:Int},ak kc p->(∀c,(i, c)∈kc->0<=v/\v < (c:Int))->ak kc (p.map λq=>if q.1=i then (q.1, v) else q)
 | [],[],_,_,_,_=>trivial
 | (k, c)::r,(k', v')::p,i,v,h,g=>by
  let(rfl,v0,v1,h):=h;let ih:=Ag h λc hc=>g c (aag _ hc);change ak ((k, c)::r) ((if k=i then (k, v) else (k, v'))::p.map λq=>if q.1=i then (q.1, v) else q);by_cases e:k=i
  .rw[aaP e];have:=g c (by rw[<-e];show aai);show(rfl,this.1,this.2,ih)
  .rw[aaK e];show(rfl,v0,v1,ih)
 | [],_::_,_,_,h,_=>h.elim
 | _::_,[],_,_,h,_=>h.elim
def tG{i:Int}:∀{p:Pl},i∈p.map (·.1)->(Τ p i).isSome=true
 | q::p,h=>by
  unfold Τ;split
  .rfl
  .rcases aaS.mp h with e| e
   .rename_i ne;show aa5 e.symm ne
   .show tG e
def J5{p:Pl}{i v:Int}(h:ak kc p)(hk:i∈kc.map (·.1))(g:∀c,(i, c)∈kc->0<=v/\v < (c:Int)):ak kc (j9 p i v):=by unfold j9;rw[aaP (tG (by rw[cF h];show hk))];show Ag h g
def CN{α:Type}{P Q:α->Bool}:∀{l:List α},(∀a∈l,P a=true->Q a=true)->∀{b:α},b∈l->Q b=true->P b=false->l.countP P < l.countP Q
 | a::l,h,b,hb,hq,hp=>by
  let le:l.countP P<=l.countP Q:=List.countP_mono_left λx hx=>h x (aag _ hx);rw[List.countP_cons,List.countP_cons];rcases aaS.mp hb with e| e
  .subst e;rw[hq,hp];change l.countP P+0 < l.countP Q+1;omega
  .have:=CN (λx hx=>h x (aag _ hx)) e hq hp;let ha:=h a aai;cases hP:P a with
   | false=>rw[aaK @_];split <;> omega
   | true=>rw[ha hP,aaP rfl];omega
def E9{f g:Nat->Rat}:∀{n:Nat},(∀i,i < n->f i<=g i)->∀{k:Nat},k < n->f k < g k->eR f n < eR g n
 | n+1,h,k,hk,hl=>by
  let le:∀{m:Nat},(∀i,i < m->f i<=g i)->eR f m<=eR g m:=λ{m}=>by
   induction m with
   | zero=>intro _;change(0:Rat)<=0;grind
   | succ m ih=>
    intro h;have:=ih λi hi=>h i (ab2 hi);have:=h m (abY _);change eR f m+f m<=eR g m+g m;grind
  change eR f n+f n < eR g n+g n;by_cases e:k=n
  .subst e;have:=le λi hi=>h i (ab2 hi);grind
  .have:=E9 (λi hi=>h i (ab2 hi)) (show k < n by omega) hl;have:=h n (abY _);grind
def fK(γ:List Rw)(dW:Str):List (Int×Nat):=(cH γ dW).map λi:Nat=>((i:Int), -(aE (bR γ i)))
def FQ:∀{l:List Nat},(∀i∈l,1<=-(aE (bR γ i)))->ak (l.map λi:Nat=>((i:Int), -(aE (bR γ i)))) (l.map λi:Nat=>((i:Int), (0:Int)))
 | [],_=>trivial
 | i::l,h=>(rfl,Int.le_refl _,by have:=h i aai;omega,FQ λj hj=>h j (aag _ hj))
section
variable{θ:Fr}{γ:List Rw}{tb:List Fr}{hand dW:Str}{pl p:Pl}
def ki:i∈cH γ dW↔i < -γ/\cv γ i=dW:=by unfold cH;rw[List.mem_filter,abr,abb]
def fY(fw:FR θ γ)(hh:Ξ dW=true)(h:i∈cH γ dW):∃ds,γ[i]? =!(.υ dW ds)/\aE (bR γ i)=ds/\1<=-ds:=by
 let(il,e):=ki.mp h;let hi:γ[i]? =!γ[i]:=aad il;unfold cv at e;rw[hi]at e;let e:kindOf γ[i]=dW:=e;cases hr:γ[i] with
 | fin p=>
  rw[hr]at e;rw[<-e]at hh;show aa5 hh (by change¬Ξ (Str.ofString "end")=true;decide)
 | υ k ds=>
  rw[hr]at e hi;let e:k=dW:=e;subst e;show(ds,hi,by rw[cy hi];rfl,(c7 fw.pl (aap hi)).l1)
def D0(fw:FR θ γ)(hh:Ξ dW=true):ak (fK γ dW) (BR γ dW):=FQ λi hi=>by let(ds,_,e,l):=fY fw hh hi;rw[e];show l
def ir:(fK γ dW).map (·.1)=(cH γ dW).map λi:Nat=>(i:Int):=by unfold fK;rw[List.map_map];rfl
def fQ(h:ak (fK γ dW) p):Fc p:=by unfold Fc;rw[cF h,ir];let nd:(cH γ dW).Nodup:=List.nodup_range.filter _;show List.Pairwise.map _ (λa b UH z=>UH (by let z:(a:Int)=(b:Int):=z;omega)) nd
def bG(fw:FR θ γ)(hh:Ξ dW=true)(h:ak (fK γ dW) p):(∀ds,γ[i]? =!(.υ dW ds)->∃j:Nat,Τ p i=!(j:Int)/\j < -ds)/\(∀r,γ[i]? =!r->kindOf r≠dW->Τ p i=none):=by
 show(λds hi=>?_,λr hi hk=>?_)
 .let il:=(aam.mp hi).1;let m:i∈cH γ dW:=ki.mpr (il,by unfold cv;rw[hi];rfl);let s:=tG (i:=(i:Int)) (p:=p) (by rw[cF h,ir];show aaz.mpr (i,m,rfl));let(v,hv):=abE.mp s;let(c,hc,v0,v1):=Bx h hv;unfold fK at hc;let(i',_,e):=aaz.mp hc;let e1:(i':Int)=(i:Int):=abm Prod.fst e;let e2:-(aE (bR γ i'))=c:=abm Prod.snd e;have:i'=i:=()
  subst this;rw[cy hi]at e2;let e2:-ds=c:=e2;show(v.toNat,by rw[hv,Int.toNat_of_nonneg v0],())
 .show lA λz=>?_;rw[cF h,ir]at z;let(i',m,e):=aaz.mp z;have:i'=i:=by let e:(i':Int)=(i:Int):=e;omega
  subst this;have:=(ki.mp m).2;unfold cv at this;rw[hi]at this;show hk this
end
def Ad:∀(q s:Pl),ak kc s->(∀e∈q,e.1∈kc.map (·.1)/\∀c,(e.1, c)∈kc->0<=e.2/\e.2 < (c:Int))->ak kc (aP s q)
 | [],s,h,_=>h
 | e::q,s,h,hq=>by let(a,b):=hq e aai;show Ad q (j9 s e.1 e.2) (J5 h a b) λx hx=>hq x (aag _ hx)
section
variable{c:Int->Int->Bool}{f:Int->Int}{i:Int}
def pv(c:Int->Int->Bool)(f:Int->Int)(p:Int×Int):Pl:=if c p.1 p.2 then [] else [(p.1, f p.1)]
def i9:∀{pl:Pl},i∈(pl.flatMap (pv c f)).map (·.1)->i∈pl.map (·.1)
 | p::r,h=>by
  rw[List.flatMap_cons,abp]at h;rcases abo.mp h with z| z
  .unfold pv at z;split at z
   .cases z
   .rw[abe];show aaS.mpr (.inl (abi.mp z))
  .show aag _ (i9 z)
def tF:∀pl:Pl,((pl.flatMap (pv c f)).map (·.1)).Sublist (pl.map (·.1))
 | []=>List.Sublist.refl _
 | a::r=>by
  let ih:=tF r;rw[List.flatMap_cons,abp,abe];unfold pv;split
  .show List.Sublist.cons _ ih
  .show List.Sublist.cons₂ _ ih
def tT(pl:Pl):-(pl.flatMap (pv c f))<=-pl:=by have:=(tF (c:=c) (f:=f) pl).length_le;rwa[aah,aah]at this
def zI:∀{pl:Pl},Fc pl->Τ (pl.flatMap (pv c f)) i=match Τ pl i with
  | some v=>if c i v then none else !(f i)
  | none=>none
 | [],_=>rfl
 | a::r,nd=>by
  unfold Fc at nd;rw[abe,abT]at nd;let ih:=zI (pl:=r) nd.2;rw[List.flatMap_cons];by_cases ei:a.1=i
  .let e2:Τ (a::r) i=!a.2:=by unfold Τ;rw[if_pos ei]
   let hn:Τ (r.flatMap (pv c f)) i=none:=lA λz=>nd.1 (by rw[ei];show i9 z);rw[e2];dsimp only;unfold pv;rw[ei];by_cases cc:c i a.2=true
   .rw[aaP cc,aaP cc,aba];show hn
   .rw[aaK cc,aaK cc];change Τ ((i, f i)::_) i=_;unfold Τ;rw[aaP rfl]
  .let e2:Τ (a::r) i=Τ r i:=by rw[Τ,aaK ei]
   rw[e2,<-ih];unfold pv;split
   .rfl
   .change Τ ((a.1, _)::_) i=_;rw[Τ,aaK ei];rfl
def tQ:∀{l:Pl} {e:Int×Int},Fc l->e∈l->Τ l e.1=!e.2
 | a::l,e,nl,hm=>by
  unfold Fc at nl;rw[abe,abT]at nl;unfold Τ;rcases aaS.mp hm with y| y
  .rw[aaP (by rw[y]),y]
  .rw[aaK λz=>nl.1 (by rw[z];show aaz.mpr (e,y,rfl))];show tQ nl.2 y
end
def aM(tb:List Fr)(ds:List br):List Fr:=ds.map λd=>tb.getD d.1.toNat (0, 1)
def cY(k:Str)(ns:List Fr):Fr:=if k="one" then sk ns else sY ns
def BO(b:Fr):List Fr->Nat
 | []=>0
 | x::r=>if x=b then 0 else BO b r+1
def DN{b:Fr}:∀{ns:List Fr},b∈ns->BO b ns < -ns/\ns[BO b ns]? =!b/\∀i,i < BO b ns->ns[i]? ≠!b
 | x::r,h=>by
  unfold BO;by_cases e:x=b
  .rw[aaP e];show(by simp,by rw[e];rfl,λi hi=>absurd hi (Nat.not_lt_zero _))
  .rw[aaK e];let hr:b∈r:=(aaS.mp h).resolve_left λz=>e z.symm;let(a,c,d):=DN hr;show(by rw[aa9];omega,by rw[List.getElem?_cons_succ];show c,λi hi=>?_);cases i with
   | zero=>rw[List.getElem?_cons_zero];exactλz=>e (aay z)
   | succ i=>rw[List.getElem?_cons_succ];show d i ()
def rT{k:Str}{ns:List Fr}(h0:ns≠[])(hp:∀n∈ns,0 < n.2):cY k ns∈ns/\∀n∈ns,fS k * val n<=fS k * val (cY k ns):=by
 let(a,r,rfl):=acd h0;let ha:=hp a aai;let inn:∀{x:Fr},x∈a::a::r->x∈a::r:=λh=>by
  rcases aaS.mp h with e| e
  .rw[e];show aai
  .show e
 unfold fS cY;by_cases e:k="one"
 .rw[aaP e,aaP e];let(m,_,al):=mT (a::r) a ha hp;show(inn m,λn hn=>by let h:val n<=val (sk (a::r)):=al n hn;grind)
 .rw[aaK e,aaK e];let(m,_,al):=mh (a::r) a ha hp;show(inn m,λn hn=>by let h:val (sY (a::r))<=val n:=al n hn;grind)
def Mt(γ:List Rw)(i:Int):List br:=aE (bR γ i.toNat)
def uY(γ:List Rw)(tb:List Fr)(i v:Int):Bool:=decide ((aM tb (Mt γ i)).getD v.toNat (0, 1)=cY (cv γ i.toNat) (aM tb (Mt γ i)))
def zD(γ:List Rw)(tb:List Fr)(i:Int):Int:=(BO (cY (cv γ i.toNat) (aM tb (Mt γ i))) (aM tb (Mt γ i)):Nat)
def Δ(γ:List Rw)(tb:List Fr)(pl:Pl):Pl:=pl.flatMap (pv (uY γ tb) (zD γ tb))
def Uo{k:Str}{x b:Rat}(h:fS k * x<=fS k * b)(ne:x≠b):fS k * x < fS k * b:=by
 unfold fS at h⊢;by_cases e:k="one"
 .rw[if_pos e]at h⊢;grind
 .rw[if_neg e]at h⊢;grind
section
variable{θ:Fr}{γ:List Rw}{tb tb':List Fr}{k:Str}{ds:List br}{p p' a a':Pl}
def lF(hi:γ[i]? =!(.υ k ds)):cv γ i=k:=by unfold cv;rw[hi];rfl
def Fp(jl:j < -ds):(aM tb ds).getD j (0, 1)=tb.getD ds[j].1.toNat (0, 1):=by unfold aM;rw[aae,aat,aad jl];rfl
structure Imp(γ:List Rw)(tb:List Fr)(k:Str)(p p':Pl):Prop where
 fit:ak (fK γ k) p'
 at_:∀(i:Nat) (ds:List br),γ[i]? =!(.υ k ds)->∃j j':Nat,∃(jl:j < -ds) (tM:j' < -ds),Τ p i=!(j:Int)/\Τ p' i=!(j':Int)/\(∀d∈ds,fS k * V_ tb d.1.toNat<=fS k * V_ tb ds[j'].1.toNat)/\(j'=j\/fS k * V_ tb ds[j].1.toNat < fS k * V_ tb ds[j'].1.toNat)
def uN(fr:FR θ γ)(hh:Ξ k=true)(h:ak (fK γ k) p)(hr:∀t,t < -γ->Red (tb.getD t (0, 1))):Imp γ tb k p (aP p (Δ γ tb p))/\(Δ γ tb p≠[]->∃(i:Nat) (ds:List br) (j j':Nat) (jl:j < -ds) (tM:j' < -ds),γ[i]? =!(.υ k ds)/\Τ p i=!(j:Int)/\Τ (aP p (Δ γ tb p)) i=!(j':Int)/\fS k * V_ tb ds[j].1.toNat < fS k * V_ tb ds[j'].1.toNat):=by
 let nd:=fQ h;let Yx:Fc (Δ γ tb p):=(tF p).nodup nd;let core:∀(i:Nat) (ds:List br),γ[i]? =!(.υ k ds)->∃j:Nat,∃(jl:j < -ds) (bl:BO (cY k (aM tb ds)) (aM tb ds) < -ds),Τ p i=!(j:Int)/\(∀d∈ds,fS k * V_ tb d.1.toNat<=fS k * V_ tb ds[BO (cY k (aM tb ds)) (aM tb ds)].1.toNat)/\((Τ (Δ γ tb p) i=none/\tb.getD ds[j].1.toNat (0, 1)=cY k (aM tb ds)/\∀d∈ds,fS k * V_ tb d.1.toNat<=fS k * V_ tb ds[j].1.toNat)\/(Τ (Δ γ tb p) i=!((BO (cY k (aM tb ds)) (aM tb ds):Nat):Int)/\fS k * V_ tb ds[j].1.toNat < fS k * V_ tb ds[BO (cY k (aM tb ds)) (aM tb ds)].1.toNat)):=λi ds hi=>by
  let(j,gj,jl):=(bG (i:=i) fr hh h).1 ds hi;let rm:Rw.υ k ds∈γ:=aap hi;let dr:=c7 fr.pl rm;let rd:∀d∈ds,Red (tb.getD d.1.toNat (0, 1)):=λd hd=>hr _ (by have:=dr.to d hd;omega);let np:∀n∈aM tb ds,0 < n.2:=λn hn=>by let(d,hd,rfl):=aaz.mp hn;show(rd d hd).pos
  let(bm,bb):=rT (k:=k) (ns:=aM tb ds) (λz=>by
   have:=abm List.length z;unfold aM at this;rw[aah]at this;let l1:=dr.l1;rw[this]at l1
   show aa5 l1 @_) np
  let(xl,xe,_):=DN bm;let nl:-(aM tb ds)=-ds:=by unfold aM;rw[List.length_map]
  rw[nl]at xl;let xb:tb.getD ds[BO (cY k (aM tb ds)) (aM tb ds)].1.toNat (0, 1)=cY k (aM tb ds):=by rw[<-Fp xl,aae,xe];rfl
  let all:∀d∈ds,fS k * V_ tb d.1.toNat<=fS k * val (cY k (aM tb ds)):=λd hd=>bb _ (aaz.mpr (d,hd,rfl));let gb:=zI (c:=uY γ tb) (f:=zD γ tb) (i:=(i:Int)) nd;rw[gj]at gb;let ed:Mt γ (i:Int)=ds:=by unfold Mt;rw[Int.toNat_natCast,cy hi];rfl
  let eb:uY γ tb (i:Int) (j:Int)=decide (tb.getD ds[j].1.toNat (0, 1)=cY k (aM tb ds)):=by unfold uY;rw[ed,abl,abl,lF hi,Fp jl]
  let ex:zD γ tb (i:Int)=(BO (cY k (aM tb ds)) (aM tb ds):Nat):=by unfold zD;rw[ed,abl,lF hi]
  let gb:Τ (Δ γ tb p) i=if uY γ tb (i:Int) (j:Int) then none else !(zD γ tb (i:Int)):=gb
  rw[eb,ex]at gb;show(j,jl,xl,gj,λd hd=>by have:=all d hd;unfold V_;rw[xb];show this,?_);by_cases c:tb.getD ds[j].1.toNat (0, 1)=cY k (aM tb ds)
  .rw[aaB c,aaP rfl]at gb;show .inl (gb,c,λd hd=>by have:=all d hd;unfold V_;rw[c];show this)
  .rw[aaF c,aaK @_]at gb;show .inr (gb,?_);let le:=all _ (aax jl);let ne:V_ tb ds[j].1.toNat≠val (cY k (aM tb ds)):=λz=>c (lU (rd _ (aax jl)) (by rw[<-xb];show rd _ (aax xl)) z);unfold V_ at le ne⊢;rw[xb];show Uo le ne
 let g1:∀i:Nat,Τ (aP p (Δ γ tb p)) i=match Τ (Δ γ tb p) i with| some v=>!v| none=>Τ p i:=λi=>lx (i:=(i:Int)) (p:=p) Yx
 show((?_,λi ds hi=>?_),λne=>?_)
 .show Ad _ _ h λe he=>?_;let ke:e.1∈p.map (·.1):=i9 (aaz.mpr (e,he,rfl));let kk:=ke;rw[cF h]at kk;rw[cF h,ir]at ke;let(i,hm,ei):=aaz.mp ke;let ei:(i:Int)=e.1:=ei;let(ds,hi,ed,l1):=fY fr hh hm;let(j,jl,bl,gj,_,hc):=core i ds hi;show(kk,λc Cp=>?_);let c1:c=-ds:=by
   unfold fK at Cp;let(i',_,e'):=aaz.mp Cp;let e1:(i':Int)=e.1:=abm Prod.fst e';let e2:-(aE (bR γ i'))=c:=abm Prod.snd e';have:i'=i:=()
   subst this;rw[<-e2,ed]
  let ge:=tQ Yx he;rw[<-ei]at ge;rcases hc with ⟨z,_⟩| ⟨z,_⟩
  .rw[z]at ge;cases ge
  .rw[z]at ge;have:=aay ge;omega
 .let(j,jl,bl,gj,all,hc):=core i ds hi;rw[g1];rcases hc with ⟨z,e,al⟩| ⟨z,lt⟩
  .rw[z];show(j,j,jl,jl,gj,gj,al,.inl rfl)
  .rw[z];show(j,_,jl,bl,gj,rfl,all,.inr lt)
 .let(e,r,er):=acd ne;let he:e∈Δ γ tb p:=by rw[er];show aai
  let ke:e.1∈p.map (·.1):=i9 (aaz.mpr (e,he,rfl));rw[cF h,ir]at ke;let(i,hm,ei):=aaz.mp ke;let ei:(i:Int)=e.1:=ei;let(ds,hi,ed,l1):=fY fr hh hm;let(j,jl,bl,gj,_,hc):=core i ds hi;let ge:=tQ Yx he;rw[<-ei]at ge;rcases hc with ⟨z,_⟩| ⟨z,lt⟩
  .rw[z]at ge;cases ge
  .show(i,ds,j,_,jl,bl,hi,gj,by rw[g1,z],lt)
def zy(fr:FR θ γ)(hh:Ξ k=true)(h:ak (fK γ k) p)(hr:∀t,t < -γ->Red (tb.getD t (0, 1)))(e:Δ γ tb p=[])(hi:γ[i]? =!(.υ k ds)):∃(j:Nat) (jl:j < -ds),Τ p i=!(j:Int)/\∀d∈ds,fS k * V_ tb d.1.toNat<=fS k * V_ tb ds[j].1.toNat:=by
 let((_,al),_):=uN (tb:=tb) fr hh h hr;let(j,j',jl,tM,gj,tE,all,_):=al i ds hi;rw[e]at tE;let tE:Τ p i=!(j':Int):=tE;rw[gj]at tE;have:j=j':=by have:=aay tE;omega
 subst this;show(j,jl,gj,all)
def ae:Ξ (Str.ofString "one")=true:=@_
def au:Ξ (Str.ofString "other")=true:=@_
def jK(fr:FR θ γ)(hp:ak (fK γ "one") p)(ha:ak (fK γ "other") a):qi γ (aP p a):=by
 show(λi r hi hk=>?_,λi r hi hk=>?_)
 .rw[lx (fQ ha)];cases r with
  | fin q=>show aa5 hk (by change¬Ξ (Str.ofString "end")=true;decide)
  | υ k ds=>
   let two:k="one"\/k="other":=by let hk:Ξ k=true:=hk;unfold Ξ at hk;rw[Bool.or_eq_true,acK,acK]at hk;show hk
   rcases two with rfl| rfl
   .rw[(bG (i:=i) fr au ha).2 _ hi (by change¬(Str.ofString "one"=Str.ofString "other");decide)];let(j,gj,jl):=(bG (i:=i) fr ae hp).1 ds hi;rw[gj];show(j,rfl,jl)
   .let(j,gj,jl):=(bG (i:=i) fr au ha).1 ds hi;rw[gj];show(j,rfl,jl)
 .rw[lx (fQ ha),(bG (i:=i) fr au ha).2 r hi (λz=>by rw[z]at hk;show aa5 au (by rw[hk];decide)),(bG (i:=i) fr ae hp).2 r hi (λz=>by rw[z]at hk;show aa5 ae (by rw[hk];decide))]
def eX(fr:FR θ γ)(ha:ak (fK γ "other") a)(hi:γ[i]? =!(.υ "one" ds)):Τ (aP p a) i=Τ p i:=by rw[lx (fQ ha),(bG (i:=i) fr au ha).2 _ hi (by change¬(Str.ofString "one"=Str.ofString "other");decide)]
def gy(fr:FR θ γ)(ha:ak (fK γ "other") a)(hi:γ[i]? =!(.υ "other" ds)):Τ (aP p a) i=Τ a i:=by let(j,gj,_):=(bG (i:=i) fr au ha).1 ds hi;rw[lx (fQ ha),gj]
def dG(fr:FR θ γ)(hi:γ[i]? =!(.υ k ds))(hh:Ξ k=true)(gj:Τ acc i=!(j:Int))(jl:j < -ds)(st:rj S i)(y:Nat->Rat):aN (λd=>cV d * y d.1.toNat) (gU γ S acc i)=y ds[j].1.toNat:=by rw[jF st,cy hi,h9 fr hi hh gj jl];change cV (ds[j].1, ds[j].2.1,[((1, 1):Fr)]) * y ds[j].1.toNat+0=_;have:cV (ds[j].1, ds[j].2.1,[((1, 1):Fr)])=1:=sX;rw[this];grind
def lH(h:Τ acc i=Τ acc' i):gU γ S acc i=gU γ S acc' i:=by unfold gU eY;rw[h]
def BM(γ:List Rw)(S:Sp)(p:Pl):Prop:=∀a,ak (fK γ "other") a->OU γ S (aP p a)
def kL(fr:FR θ γ)(hi:γ[i]? =!(.υ k ds)):k="one"\/k="other"\/k="chance":=by
 rcases(c7 fr.pl (aap hi)).kd with z| ⟨_,z,_⟩
 .unfold Ξ at z;rw[Bool.or_eq_true,acK,acK]at z;rcases z with z| z
  .show .inl z
  .show .inr (.inl z)
 .show .inr (.inr z)
def gF(fr:FR θ γ)(hp:ak (fK γ "one") p)(ha:ak (fK γ "other") a)(hi:γ[i]? =!(.υ "chance" ds)):Τ (aP p a) i=none:=(jK fr hp ha).JO i _ hi (by change Ξ (Str.ofString "chance")=false;decide)
def mI:fS (Str.ofString "one")=1:=aaP rfl
def uc:fS (Str.ofString "other")= - 1:=aaK @_
def w_(γ:List Rw)(tb:List Fr)(a:Pl):Prop:=∀(i:Nat) (ds:List br),γ[i]? =!(.υ "other" ds)->∃(j:Nat) (jl:j < -ds),Τ a i=!(j:Int)/\∀d∈ds,V_ tb ds[j].1.toNat<=V_ tb d.1.toNat
def LB(fr:FR θ γ)(ha:ak (fK γ "other") a)(hr:∀t,t < -γ->Red (tb.getD t (0, 1)))(e:Δ γ tb a=[]):w_ γ tb a:=λi ds hi=>by let(j,jl,gj,al):=zy fr au ha hr e hi;show(j,jl,gj,λd hd=>?_);have:=al d hd;rw[uc]at this;grind
def IY(fr:FR θ γ)(dr:aR γ gs S)(hp:ak (fK γ "one") p)(ha:ak (fK γ "other") a)(y6:ak (fK γ "one") p')(vf:ak (fK γ "other") a')(h:rW γ S (aP p a) tb)(la:w_ γ tb a)(up:∀(i:Nat) (ds:List br),γ[i]? =!(.υ "one" ds)->∃j j':Nat,∃(jl:j < -ds) (tM:j' < -ds),Τ p i=!(j:Int)/\Τ p' i=!(j':Int)/\V_ tb ds[j].1.toNat<=V_ tb ds[j'].1.toNat):∀i,i < -γ->rj S i->V_ tb i<=aN (λd=>cV d * V_ tb d.1.toNat) (gU γ S (aP p' a') i):=λi il st=>by
 let(k,ds,hi):=jB dr il st;rcases kL fr hi with rfl| rfl| rfl
 .let(j,j',jl,tM,gj,tE,le):=up i ds hi;rw[h.st il st,dG fr hi ae (by rw[eX fr ha hi];show gj) jl st,dG fr hi ae (by rw[eX fr vf hi];show tE) tM st];show le
 .let(j,jl,gj,le):=la i ds hi;let(j',tE,tM):=(bG (i:=i) fr au vf).1 ds hi;rw[h.st il st,dG fr hi au (by rw[gy fr ha hi];show gj) jl st,dG fr hi au (by rw[gy fr vf hi];show tE) tM st];show le _ (aax tM)
 .rw[h.st il st,lH (acc:=aP p a) (acc':=aP p' a') ((gF fr hp ha hi).trans (gF fr y6 vf hi).symm)];grind
def BM.better(fr:FR θ γ)(dr:aR γ gs S)(hp:ak (fK γ "one") p)(ha:ak (fK γ "other") a)(pr:BM γ S p)(h:rW γ S (aP p a) tb)(la:w_ γ tb a)(im:Imp γ tb "one" p p'):BM γ S p':=λa' vf C hC i il WB=>by
 let WH:=jK fr im.fit vf;let(t,tl,tc,tm):=xD C (V_ tb) (-γ) (i,il,WB);let ua:=IY fr dr hp ha im.fit vf h la λi ds hi=>by let(j,j',jl,tM,gj,tE,al,_):=im.at_ i ds hi;have:=al _ (aax jl);rw[mI]at this;show(j,j',jl,tM,gj,tE,by grind)
 show pr a' vf (λj=>j < -γ/\C j/\V_ tb j=V_ tb t) (λj jl hj=>?_) t tl (tl,tc,rfl);let(_,jc,je):=hj;let(sj,cl):=hC j jl jc;show(sj,?_);let(_,one,B,_,_,hw):=pO (acc:=aP p' a') fr WH dr jl sj;let tn:∀d∈gU γ S (aP p' a') j,d.1.toNat < -γ:=λd hd=>by have:=(hw d hd).to;omega
 let eqs:∀d∈gU γ S (aP p' a') j,V_ tb d.1.toNat=V_ tb t:=xZ (z:=λd=>V_ tb d.1.toNat) (m:=V_ tb t) (λd hd=>(hw d hd).p) (λd hd=>tm _ (tn d hd) (cl d hd)) (by rw[one,Rat.one_mul,<-je];show ua j jl sj);let same:gU γ S (aP p a') j=gU γ S (aP p' a') j:=by
  let(k,ds,hi):=jB dr jl sj;rcases kL fr hi with rfl| rfl| rfl
  .show lH ?_;rw[eX fr vf hi,eX fr vf hi];let(x,x',xl,Yt,gx,WZ,al,ch):=im.at_ j ds hi;rcases ch with e| lt
   .rw[gx,WZ,e]
   .exfalso;rw[mI]at lt;let e1:=h.st jl sj;rw[dG fr hi ae (by rw[eX fr ha hi];show gx) xl sj]at e1;let e2:=eqs (ds[x'].1, ds[x'].2.1,[(1, 1)]) (by rw[jF sj,cy hi,h9 fr hi ae (by rw[eX fr vf hi];show WZ) Yt];show abi.mpr rfl);let e2:V_ tb ds[x'].1.toNat=V_ tb t:=e2;grind
  .show lH ?_;rw[gy fr vf hi,gy fr vf hi]
  .show lH ((gF fr hp vf hi).trans (gF fr im.fit vf hi).symm)
 rw[same];exactλd hd=>(tn d hd,cl d hd,eqs d hd)
def xV(γ:List Rw)(tb:List Fr)(p:Pl)(i:Nat):Rat:=match Τ p i with
 | some j=>V_ tb ((Mt γ i).getD j.toNat d0).1.toNat
 | none=>0
def og(γ:List Rw)(tb:List Fr)(p:Pl):Rat:=eR (λi=>V_ tb i+xV γ tb p i) (-γ)
def EK(hi:γ[i]? =!(.υ k ds))(gj:Τ p i=!(j:Int))(jl:j < -ds):xV γ tb p i=V_ tb ds[j].1.toNat:=by unfold xV Mt;rw[gj,abl,cy hi];change V_ tb (ds.getD ((j:Int)).toNat d0).1.toNat=_;rw[abl,aae,aad jl];rfl
def Qu(fr:FR θ γ)(hh:Ξ k=true)(hp:ak (fK γ k) p)(im:Imp γ tb k p p')(le:∀i,i < -γ->fS k * V_ tb i<=fS k * V_ tb' i)(il:i < -γ):fS k * xV γ tb p i<=fS k * xV γ tb' p' i:=by
 let hi:=rw_at il;by_cases e:kindOf (bR γ i)=k
 .cases hr:bR γ i with
  | fin q=>rw[hr]at e;rw[<-e]at hh;show aa5 hh (by change¬Ξ (Str.ofString "end")=true;decide)
  | υ k' ds=>
   rw[hr]at e hi;let e:k'=k:=e;subst e;let(j,j',jl,tM,gj,tE,al,_):=im.at_ i ds hi;rw[EK hi gj jl,EK hi tE tM];let a:=al _ (aax jl);let b:=le ds[j'].1.toNat (by have:=(c7 fr.pl (aap hi)).to _ (aax tM);omega);grind
 .let g:=(bG (i:=i) fr hh hp).2 _ hi e;let g':=(bG (i:=i) fr hh im.fit).2 _ hi e;unfold xV;rw[g,g'];grind
def Ls(fr:FR θ γ)(hh:Ξ k=true)(hp:ak (fK γ k) p)(im:Imp γ tb k p p')(le:∀i,i < -γ->fS k * V_ tb i<=fS k * V_ tb' i)(ex:∃(i:Nat) (ds:List br) (j j':Nat) (jl:j < -ds) (tM:j' < -ds),γ[i]? =!(.υ k ds)/\Τ p i=!(j:Int)/\Τ p' i=!(j':Int)/\fS k * V_ tb ds[j].1.toNat < fS k * V_ tb ds[j'].1.toNat):fS k * og γ tb p < fS k * og γ tb' p':=by
 let(i,ds,j,j',jl,tM,hi,gj,tE,lt):=ex;let il:=(aam.mp hi).1;let e:∀(t:List Fr) (q:Pl),fS k * og γ t q=eR (λi=>fS k * (V_ t i+xV γ t q i)) (-γ):=λt q=>by unfold og;have:=oi (fS k) 0 (λi=>V_ t i+xV γ t q i) (λ_=>0) (-γ);rw[show(λi=>fS k * (V_ t i+xV γ t q i) - 0 * 0)=λi=>fS k * (V_ t i+xV γ t q i) by funext i;grind]at this;rw[this];grind
 rw[e,e];show E9 (λt tl=>?_) il ?_
 .let a:=le t tl;let b:=Qu fr hh hp im le tl;grind
 .let a:=le i il;rw[EK hi gj jl,EK hi tE tM];let b:=le ds[j'].1.toNat (by have:=(c7 fr.pl (aap hi)).to _ (aax tM);omega);grind
def KN(fr:FR θ γ)(dr:aR γ gs S)(hp:ak (fK γ "one") p)(ha:ak (fK γ "other") a)(pr:BM γ S p)(h:rW γ S (aP p a) tb)(ne:Δ γ tb a≠[])(h':rW γ S (aP p (aP a (Δ γ tb a))) tb'):og γ tb' (aP a (Δ γ tb a)) < og γ tb a:=by
 let(im,ex):=uN (tb:=tb) fr au ha h.tab.red;let vf:=im.fit;let ex:=ex ne;generalize aP a (Δ γ tb a)=a' at *
 let hs:∀i,i < -γ->rj S i->fS "other" * V_ tb i<=fS "other" * aN (λd=>cV d * V_ tb d.1.toNat) (gU γ S (aP p a') i):=λi il st=>by
  let(k,ds,hi):=jB dr il st;rcases kL fr hi with rfl| rfl| rfl
  .rw[h.st il st,lH (acc:=aP p a) (acc':=aP p a') (by rw[eX fr ha hi,eX fr vf hi])];grind
  .let(x,x',xl,Yt,gx,WZ,al,_):=im.at_ i ds hi;rw[h.st il st,dG fr hi au (by rw[gy fr ha hi];show gx) xl st,dG fr hi au (by rw[gy fr vf hi];show WZ) Yt st];show al _ (aax xl)
  .rw[h.st il st,lH (acc:=aP p a) (acc':=aP p a') ((gF fr hp ha hi).trans (gF fr hp vf hi).symm)];grind
 let(c1,_):=Uu fr (jK fr hp vf) dr (pr a' vf) h h' hs;have:=Ls fr au ha im c1 ex;rw[uc]at this;grind
structure rB(γ:List Rw)(S:Sp)(p a:Pl)(tb:List Fr):Prop where
 fa:ak (fK γ "other") a
 ch:rW γ S (aP p a) tb
 le:w_ γ tb a
def rB.up(fr:FR θ γ)(dr:aR γ gs S)(hp:ak (fK γ "one") p)(h:rB γ S p a tb)(y6:ak (fK γ "one") p')(Ie:BM γ S p')(h':rB γ S p' a' tb')(up:∀(i:Nat) (ds:List br),γ[i]? =!(.υ "one" ds)->∃j j':Nat,∃(jl:j < -ds) (tM:j' < -ds),Τ p i=!(j:Int)/\Τ p' i=!(j':Int)/\V_ tb ds[j].1.toNat<=V_ tb ds[j'].1.toNat):∀i,i < -γ->V_ tb i<=V_ tb' i:=λi il=>by
 have:=(Uu fr (jK fr y6 h'.fa) dr (Ie a' h'.fa) h.ch h'.ch (sg:=1) λi il st=>by
  have:=IY fr dr hp h.fa y6 h'.fa h.ch h.le up i il st
  grind).1 i il
 grind
def rB.uniq(fr:FR θ γ)(dr:aR γ gs S)(hp:ak (fK γ "one") p)(pr:BM γ S p)(h:rB γ S p a tb)(h':rB γ S p a' tb'):tb=tb':=by
 let same:∀(tb:List Fr) (i:Nat) (ds:List br),γ[i]? =!(.υ "one" ds)->∃j j':Nat,∃(jl:j < -ds) (tM:j' < -ds),Τ p i=!(j:Int)/\Τ p i=!(j':Int)/\V_ tb ds[j].1.toNat<=V_ tb ds[j'].1.toNat:=λtb i ds hi=>by let(j,gj,jl):=(bG (i:=i) fr ae hp).1 ds hi;show(j,j,jl,jl,gj,gj,by grind)
 let u:=h.up fr dr hp hp pr h' (same tb);let v:=h'.up fr dr hp hp pr h (same tb');apply abI
 .rw[h.ch.tab.len,h'.ch.tab.len]
 .intro i h1 h2;let hi:i < -γ:=by rw[<-h.ch.tab.len];show h1
  let x:=h.ch.tab.red i hi;let y:=h'.ch.tab.red i hi;let c:=u i hi;let d:=v i hi;let e1:tb.getD i (0, 1)=tb[i]:=by rw[aae,aad h1];rfl
  let e2:tb'.getD i (0, 1)=tb'[i]:=by rw[aae,aad h2];rfl
  rw[<-e1,<-e2];show lU x y (by let c:val (tb.getD i (0, 1))<=val (tb'.getD i (0, 1)):=c;have d:val (tb'.getD i (0,1))<=val (tb.getD i (0,1)):=d;grind)
def J4(fr:FR θ γ)(dr:aR γ gs S)(hp:ak (fK γ "one") p)(h:rB γ S p a tb)(ne:Δ γ tb p≠[])(Ie:BM γ S (aP p (Δ γ tb p)))(h':rB γ S (aP p (Δ γ tb p)) a' tb'):og γ tb p < og γ tb' (aP p (Δ γ tb p)):=by
 let(im,ex):=uN (tb:=tb) fr ae hp h.ch.tab.red;let ex:=ex ne;generalize aP p (Δ γ tb p)=p' at *
 let c:=h.up fr dr hp im.fit Ie h' λi ds hi=>by let(j,j',jl,tM,gj,tE,al,_):=im.at_ i ds hi;have:=al _ (aax jl);rw[mI]at this;show(j,j',jl,tM,gj,tE,by grind)
 have:=Ls (tb':=tb') fr ae hp im (λi il=>by have:=c i il;rw[mI,Rat.one_mul,Rat.one_mul];show this) ex;rw[mI]at this;grind
noncomputable def Ug(l:List Pl)(Q:Pl->Rat->Prop):Option Rat->Nat
 | none=>-l+1
 | some t=>open Classical in l.countP λq=>decide (∃u,Q q u/\t < u)
def Jb{l:List Pl}{Q:Pl->Rat->Prop}{q:Pl}(hq:q∈l)(h:Q q u)(un:∀u',Q q u'->u'=u):∀{o:Option Rat},(∀t,o=!t->t < u)->Ug l Q (!u) < Ug l Q o
 | none,_=>Nat.lt_succ_of_le List.countP_le_length
 | some t,ht=>by
  classical
  let lt:=ht t rfl;unfold Ug;show CN (λx _ hx=>?_) hq (aaB (u,h,lt)) (aaF λz=>?_)
  .let(v,a,b):=aaW hx;show decide_eq_true (v,a,by grind)
  .let(v,a,b):=z;rw[un v a]at b;grind
end
def iE(S:Sp)(o:Option Nat)(d:br):Bool:=match at_ S d.1.toNat,o with
 | some a,!b=>decide (a < b)
 | _,_=>false
def uS(S:Sp)(o:Option Nat):List br->Nat->Nat
 | [],_=>0
 | d::ds,n=>if iE S o d then n else uS S o ds (n+1)
def Qt{γ:List Rw}(hl:-S=-γ)(h0:0<=t)(h1:t < -γ):ic (S.map cx) t=!(cx (at_ S t.toNat)):=by have:=qM (S:=S) (p:=t.toNat) ();rwa[show((t.toNat:Nat):Int)=t by omega]at this
def mO(γ:List Rw)(S:Sp):Pl:=(cH γ "one").map λi:Nat=>((i:Int), ((uS S (at_ S i) (aE (bR γ i)) 0:Nat):Int))
def sD(A:Addr):DF:=λas M q _=>∃θ γ p st S k ds,as=[aF A θ γ,.int (p:Nat),st]/\iX M st=!(S.map cx)/\-S=-γ/\Li γ/\γ[p]? =!(.υ k ds)/\(at_ S p=none->∀d∈ds,at_ S d.1.toNat=none)/\q (.int (uS S (at_ S p) ds 0:Nat)) M
def kH:Γ ["floor","place","steps","door","way"] ["floor","place","steps"] (τ mf):=.of rfl
def yL(F:de K "drawn_door" "drawn_door" mf f fd)(E:Ev K mg Cm)(aT:gh P w K mg base 2 Cm "doors" ["self","place"] (tU Cm) dF dE):aC P w K mg base (cI P w) 3 f fd ["floor","place","steps"] (da K (sD Cm)):=by
 show F.d9 kH (λds M q x h=>?_) (λbI A outer s H E' hr=>(_,(ζ (cP (oW E.cJ (δ (bZ (gX aT hr ξ (jv 0) (Μ (jv 1) ε))) ε aS)) (km rfl (bt (ai (i:=3) kH.nd rfl (Or.inl rfl)) (bt (ai (i:=4) kH.nd rfl (Or.inl rfl)) iu))) mV (ι (ah (JW.jt (tD (rV (Η (jv 2) (Η (jv 4) ν)) rh) (oh (uL (Η (jv 2) (Η (jv 4) ν)) (Η (jv 2) (jv 1)))))) (ι (Α (jv 3))) Ε)))
   (ι (Α ν))),λds M q x h=>?_))
 .let(θ,γ,p,st,S,k,ds,rfl,_):=h;rfl
 .let(θ,γ,p,st,S,k,ds,rfl,hs,hl,f,hi,hn,h):=h;let rm:Rw.υ k ds∈γ:=aap hi;let ro:=(f.row _ rm).1;let pl:p < -γ:=(aam.mp hi).1;let l6:=qf f rm;show((_,_,.inl rfl,rfl),θ,γ,p,.υ k ds,rfl,hi,ro,cR (fL _) ?_);show(.lst (ds.map c_),ds.map c_,λ_=>True,rfl,rfl,?_);show bJ (λxs ρ' M'=>∃(rest:List br) (n:Nat) (o3 o4:Option Dt),xs=iq n (rest.map c_)/\(∀d∈rest,d∈ds)/\uS S (at_ S p) rest n=uS S (at_ S p) ds 0/\M'=M/\ρ'=[!(aF Cm θ γ),!(.int (p:Int)),!st,o3,o4]) (λxs ρ' M' hj=>trivial) (λx xs ρ' M' hj gc=>?_) (λρ' M' hj=>?_) _ _ _ (ds,0,none,none,rfl,λ_ h=>h,rfl,rfl,rfl)
  .let(rest,n,o3,o4,ex,hm,he,rfl,rfl):=hj;cases rest with
   | nil=>cases ex
   | cons d rest=>
    cases ex;let dm:=hm d aai;let(d0',d1'):=g_ f rm dm;let a1:=Qt hl d0' d1';let a2:ic (S.map cx) (p:Int)=!(cx (at_ S p)):=qM ();let nx:iE S (at_ S p) d=false->_:=λz=>gc [!(aF Cm θ γ),!(.int (p:Int)),!st,!(.int (n:Int)),!(c_ d)] M' (rest,n+1,_,_,rfl,λx hx=>hm x (aag _ hx),by rw[<-he];change _=if iE S (at_ S p) d=true then n else uS S (at_ S p) rest (n+1);rw[z];rfl,rfl,rfl);let yes:iE S (at_ S p) d=true->q (.int (n:Int)) M':=λz=>by
     rw[<-he]at h;have:uS S (at_ S p) (d::rest) n=n:=by change(if iE S (at_ S p) d=true then n else uS S (at_ S p) rest (n+1))=n;rw[z];rfl
     rw[this]at h;show h
    dsimp only[g2];walk_at "vc";show oz ?_;show(χ hs a1 ?_:cG st (.int d.1) _ _);show xt (λz=>?_,λz=>?_)
    .show oz ?_;show(χ hs a1 ?_:cG st (.int d.1) _ _);show(χ hs a2 ?_:cG st (.int (p:Int)) _ _);let(a,ea):=abE.mp z;cases eb:at_ S p with
     | none=>rw[hn eb d dm]at ea;cases ea
     | some b=>
      let lz:iE S (at_ S p) d=decide (a < b):=by unfold iE;rw[ea,eb]
      rw[lz]at nx yes;rw[ea];change(decide ((a:Int) < (b:Int))=true->_)/\(decide ((a:Int) < (b:Int))=false->_);show(λz=>yes (aaB (by have:=aaW z;omega)),λz=>nx (aaF (by have:=abh z;omega)))
    .let z:at_ S d.1.toNat=none:=by simpa using z
     show(nofun,λ_=>?_);show nx (by unfold iE;rw[z])
  .let(rest,n,o3,o4,ex,hm,he,rfl,rfl):=hj;have:rest=[]:=by cases rest with| nil=>rfl| cons p r=>cases ex
   subst this;let he:0=uS S (at_ S p) ds 0:=he;rw[<-he]at h;show h
def qa(dr:aR γ gs S){k:Str}{ds:List br}(hi:γ[i]? =!(.υ k ds))(hk:k≠"other")(h:at_ S i=none):∀d∈ds,at_ S d.1.toNat=none:=λd hd=>by
 have:=dr.2 i _ hi;let this:gS k (bo S ds) (at_ S i):=this;unfold gS at this;rw[aaK hk,h]at this;rcases this with ⟨_,e⟩| ⟨v,e,_⟩
 .show e _ (Ψ.mpr (d,hd,rfl))
 .cases e
def uw(A:Addr):DF:=λas M q _=>∃θ γ st S gs,as=[aF A θ γ,st]/\(∀E,iX (M++E) st=!(S.map cx))/\aR γ gs S/\FR θ γ/\q (.loc (-M)) (M++[dP (mO γ S)])
def kC:Γ ["floor","steps","plan","place"] ["floor","steps"] (τ mZ):=.of rfl
def yO(F:de K "drawn_plan" "drawn_plan" mZ f fd)(E:Ev K mg Cm)(fA:aD P w K mg base 2 "places_of" ["floor","hand"] (y_ Cm) pD qc)(kQ:aD P w K mg base 3 "drawn_door" ["floor","place","steps"] (sD Cm) CU Dh):aC P w K mg base (cI P w) 4 f fd ["floor","steps"] (da K (uw Cm)):=by
 show F.d9 kC (λds M q x h=>?_) (λbI A outer s H E' hr=>(_,(ζ (ω 2 kC.nd D5)
   (ζ (cP (bC (Ω fA hr ξ (Μ (jv 0) (δ dX ε Χ)))) (ai (i:=3) kC.nd rfl (Or.inl rfl)) aL (ι (rJ hr (jv 2) (jv 3) (Ω kQ hr ξ (Μ (jv 0) (Μ (jv 3) (Μ (jv 1) ε)))))))
   (ι (Α (jv 2))))),λds M q x h=>?_))
 .let(θ,γ,st,S,gs,rfl,_):=h;rfl
 .let(θ,γ,st,S,gs,rfl,hs,dr,fr,h):=h;let qC:=fr.pl.len;let FZ:-(cH γ "one")<=12:=by have:=acA (λi=>decide (cv γ i="one")) (List.range (-γ));rw[abu]at this;unfold cH;omega
  let We:(cH γ "one").Nodup:=List.nodup_range.filter _;walk_at "vc";dsimp only[qI,gu];walk_at "vc";show(θ,γ,"one",rfl,qC,?_);show bJ (λxs ρ' M'=>∃(eT rest:List Nat) (o3:Option Dt),cH γ "one"=eT++rest/\xs=rest.map (λi:Nat=>Dt.int i)/\M'=M++[dP (eT.map λi:Nat=>((i:Int), ((uS S (at_ S i) (aE (bR γ i)) 0:Nat):Int)))]/\ρ'=[!(aF Cm θ γ),!st,!(.loc (-M)),o3]) (λxs ρ' M' hj=>trivial) (λx xs ρ' M' hj gc=>?_) (λρ' M' hj=>?_) _ _ _ ([],cH γ "one",none,rfl,rfl,rfl,rfl)
  .let(eT,rest,o3,e,ex,rfl,rfl):=hj;cases rest with
   | nil=>cases ex
   | cons i rest=>
    cases ex;let dl:-eT<=12:=by have:=abm List.length e;rw[aan]at this;omega
    let(ds,hi,ed,_):=fY fr ae (show i∈cH γ "one" by rw[e];simp);let gn:Τ (eT.map λi:Nat=>((i:Int), ((uS S (at_ S i) (aE (bR γ i)) 0:Nat):Int))) (i:Int)=none:=lA λy=>by
     rw[abf]at y;let(j,hj,ej):=aaz.mp y;let ej:(j:Int)=(i:Int):=ej;have:j=i:=()
     subst this;rw[e,acB]at We;show We.2.2 _ hj _ aai rfl
    dsimp only[pE];walk_at "vc";show(θ,γ,i,st,S,"one",ds,rfl,hs _,dr.1,fr.JC,hi,qa dr hi @_,?_);show(-M,_,_,Sum.inl (i:Int),rfl,aK,rfl,by unfold kP;rw[List.length_map,List.length_map];omega,?_);rw[AI (v:=((uS S (at_ S i) ds 0:Nat):Int)),EL,ef];show gc _ _ (eT++[i],rest,_,by rw[e,aa8];rfl,rfl,?_,rfl);unfold j9;rw[gn,aaK @_,abp,<-ed];rfl
  .let(eT,rest,o3,e,ex,rfl,rfl):=hj;have:rest=[]:=by cases rest with| nil=>rfl| cons p r=>cases ex
   subst this;rw[abw]at e;unfold mO at h;rw[e]at h;show h
def LR(A:Addr):DF:=λas M q _=>∃θ γ i k acc st S gs,as=[aF A θ γ,.int (i:Nat),.loc k,st]/\M[k]? =!(dP acc)/\iX M st=!(S.map cx)/\i < -γ/\qi γ acc/\aR γ gs S/\FR θ γ/\∀E',q (cN (oo (1, 1) (-γ) i (gU γ S acc i) (qe S i))) (M++E')
def A2:Γ ["floor","place","doors","steps"] ["floor","place","doors","steps"] (τ nu):=.of rfl
def yj(F:de K "chance_row" "chance_row" nu f fd)(E:Ev K mg Cm)(k9:aD P w K mg base 5 "led_row" ["floor","place","ways","share","given"] (UN Cm) Nz Ol)(nD:aD P w K mg base 3 "ways_from" ["floor","place","doors"] (PY Cm) GS HM):aC P w K mg base (cI P w) 6 f fd ["floor","place","doors","steps"] (da K (LR Cm)):=by
 show F.d9 A2 (λds M q x h=>?_) (λbI A outer s H E' hr=>(_,(ζ (ah (Ce (Η (jv 3) (jv 1)) rh) (ι (Α (Ω k9 hr ξ (Μ (jv 0) (Μ (jv 1) (δ (fc ε) (δ (av (δ ν (δ ν ε Χ) Χ)) (δ (av (δ ν (δ ν ε Χ) Χ)) ε bf) bf))))))) Ε)
   (ζ (ah (cX hr (Η (jv 3) (jv 1)) ν) (ι (Α (Ω k9 hr ξ (Μ (jv 0) (Μ (jv 1) (δ (fc ε) (δ (av (δ ν (δ ν ε Χ) Χ)) (δ (av (δ ν (δ ν ε Χ) Χ)) ε bf) bf))))))) Ε)
   (ι (Α (Ω k9 hr ξ (Μ (jv 0) (Μ (jv 1) (δ (Ω nD hr ξ (Μ (jv 0) (Μ (jv 1) (Μ (jv 2) ε)))) (δ (av (δ ν (δ ν ε Χ) Χ)) (δ (av (δ ν (δ ν ε Χ) Χ)) ε bf) bf) aS)))))))),λds M q x h=>?_))
 .let(θ,γ,i,k,acc,st,S,gs,rfl,_):=h;rfl
 .let(θ,γ,i,k,acc,st,S,gs,rfl,hk,hs,il,dk,dr,fr,h):=h;let(Ep,p,_,sz,one,O3):=R7 (acc:=acc) fr dk dr il;let sl:∀{z:Nat},z<=1000->z<=sizeLine:=λh=>aaH h @_;let a2:ic (S.map cx) (i:Int)=!(cx (at_ S i)):=qM (by rw[dr.1];show il);let W6:Sz 11 ((1, 1):Fr):=(@_,@_,@_);walk_at "vc";show(χ hs a2 ?_:cG st (.int (i:Int)) _ _);show P5 (λz=>?_,λz=>?_)
  .let z:at_ S i=none:=by simpa using z
   let e1:gU γ S acc i=[]:=sW λ(s,e)=>by rw[z]at e;cases e
   let e2:qe S i=(0, 1):=by unfold qe;rw[z]
   rw[e1,e2]at h p;rw[e1]at one O3;show(sl @_,sl @_,sl @_,θ,(1, 1),γ,i,[],(0, 1),Ep,7,rfl,il,fr.pl.len,W6,one,p,sz,O3,h)
  .show(χ hs a2 ?_:cG st (.int (i:Int)) _ _);cases e:at_ S i with
   | none=>rw[e]at z;cases z
   | some v=>
    change(decide ((v:Int)=0)=true->_)/\(decide ((v:Int)=0)=false->_);show(λy=>?_,λy=>?_)
    .let y:v=0:=by have:=aaW y;omega
     subst y;let e1:gU γ S acc i=[]:=sW λ(s,e')=>by rw[e]at e';cases e'
     let e2:qe S i=(1, 1):=by unfold qe;rw[e];rfl
     rw[e1,e2]at h p;rw[e1]at one O3;show(sl @_,sl @_,sl @_,θ,(1, 1),γ,i,[],(1, 1),Ep,7,rfl,il,fr.pl.len,W6,one,p,sz,O3,h)
    .let y:v≠0:=by have:=abh y;omega
     let QG:rj S i:=(v - 1,by rw[e,Nat.sub_add_cancel ()]);let(kd,ds,hi):=jB dr il QG;let e1:gU γ S acc i=eY acc i (.υ kd ds):=by rw[jF QG,cy hi]
     rw[OR QG]at h p;rw[e1]at h p one O3;show(θ,γ,i,.υ kd ds,k,acc,rfl,hk,hi,(fr.pl.row _ (aap hi)).1,dk,?_);show(sl @_,sl @_,θ,(1, 1),γ,i,_,(0, 1),Ep,7,rfl,il,fr.pl.len,W6,one,p,sz,O3,h)
def b7(h:n<=12):(12 * 7000000:Int) ^ n < 2 ^ 400:=by let h1:=aci (show 0 < 84000000 by decide) h;let h2:((84000000 ^ n:Nat):Int)<=((84000000 ^ 12:Nat):Int):=Int.ofNat_le.mpr h1;rw[Int.natCast_pow,Int.natCast_pow]at h2;show abO h2 @_
def PM(A:Addr):DF:=λas M q _=>∃θ γ kp ka st S gs p a,as=[aF A θ γ,.loc kp,.loc ka,st]/\M[kp]? =!(dP p)/\M[ka]? =!(dP a)/\(∀E,iX (M++E) st=!(S.map cx))/\-p+-a<=1000/\qi γ (aP p a)/\aR γ gs S/\FR θ γ/\OU γ S (aP p a)/\∀tb,rW γ S (aP p a) tb->q (.loc (-M+1)) (M++[dP (aP p a),.lst (tb.map aI)])
def kN:Γ ["floor","plan","answer","steps","doors"] ["floor","plan","answer","steps"] (τ mJ):=.of rfl
def yS(F:de K "chances_by" "chances_by" mJ f fd)(E:Ev K mg Cm)(nH:aD P w K mg base 4 "answer_of" ["rows"] yY Hb Hr)(ax:gh P w K mg base 1 Cm "size" ["self"] (r_ Cm) bU bX)(kU:aD P w K mg base 6 "chance_row" ["floor","place","doors","steps"] (LR Cm) Ck Eb):aC P w K mg base (cI P w) 7 f fd ["floor","plan","answer","steps"] (da K (PM Cm)):=by
 show F.d9 kN (λds M q x h=>?_) (λbI A outer s H E' hr=>(_,(ζ (ω 4 kN.nd (B9 E.mP (Μ (jv 1) ε)))
   (ζ (cB (Cg (jv 4) (jv 2)))
   (ι (Α (Ω nH hr ξ (δ (CK (ys:=["floor","doors","steps"]) (Ρ:=[0,4,3]) (.of kN rfl rfl rfl) (bT E.bz (δ (iB ax hr ξ (jv 0)) ε aS)) (λC s H fp=>(bZ (Ω kU hr (dc (P:=P) (w:=w)) (Μ (jv 1) (Μ (jv 0) (Μ (jv 2) (Μ (jv 3) ε)))))))) ε)))))),λds M q x h=>?_))
 .let(θ,γ,kp,ka,st,S,gs,p,a,rfl,_):=h;rfl
 .let(θ,γ,kp,ka,st,S,gs,p,a,rfl,hp,ha,hs,lz,dk,dr,fr,pr,h):=h;let qC:=fr.pl.len;let n1:=fr.n1;let sl:∀{z:Nat},z<=1000->z<=sizeLine:=λh=>aaH h @_;let kl:ka < -M:=(aam.mp ha).1;let Sy:=UK fr dk dr pr;let(tb,z,N,sol,n0,Wg,tab,bot):=Sy.ex qC;let cn:rW γ S (aP p a) tb:=(tab,λi hi=>abO (bot i hi) (b7 qC));let hq:=h tb cn;let bd:=Sy.bd;let Xk:=Sy.Xk;walk_at "vc";show(kp,_,_,rfl,hp,?_);dsimp only[Fq,BD];walk_at "vc";show((-M,_,_,rfl,aK),-M,ka,_,_,_,_,rfl,rfl,(),aK,aq ha,by unfold kP;rw[List.length_map,List.length_map];show lz,?_);rw[Fy,EE,ef];generalize HH:aP p a=acc at *
  dsimp only[uh];walk_at "vc";show((_,_,.inl rfl,rfl),θ,γ,rfl,?_);show(((),()),by rw[cU];show sl (),?_);show wA (f:=λx=>match x with| .int j=>cN ((ia (1, 1) (-γ) (gU γ S acc) (qe S)).getD j.toNat [])| _=>.aZ) _ _ (λx Gp q' hq=>?_) ?_
  .let(j,hj,rfl):=dZ Gp;let hj:j < -γ:=()
   rw[Int.zero_add]at hq⊢;let hq:q' (cN ((ia (1, 1) (-γ) (gU γ S acc) (qe S)).getD j [])) (M++[dP acc]):=hq;let e:(ia (1, 1) (-γ) (gU γ S acc) (qe S)).getD j []=oo (1, 1) (-γ) j (gU γ S acc j) (qe S j):=by unfold ia;rw[aae,aat,abg hj];rfl
   rw[e]at hq;show(θ,γ,j,-M,acc,st,S,gs,rfl,aK,hs _,hj,dk,dr,fr,λE'=>gT (.old (oB _)) hq)
  let er:=Mz (ia (1, 1) (-γ) (gU γ S acc) (qe S)) [] cN;rw[lO]at er;rw[aba,show((-γ:Int)).toNat=-γ by omega];show(λ(key:∀l,l=(ia (1, 1) (-γ) (gU γ S acc) (qe S)).map cN->yY [.lst l] (M++[dP acc]) q _)=>key _ er) λl hl=>?_;subst hl;let ln:∀r∈ia (1, 1) (-γ) (gU γ S acc) (qe S),-r=-γ+1:=λr rN=>by unfold ia at rN;let(i,hi,rfl):=aaz.mp rN;let(E,p,_):=R7 (acc:=acc) fr dk dr (abr.mp hi);show(BU (abr.mp hi) p).1
  show(ia (1, 1) (-γ) (gU γ S acc) (qe S),-γ,7000000,tb,z,N,rfl,(by rw[lO];show n1,by rw[lO];show qC,qC,ln,by rw[lO];show bd,@_),n1,tab.len,by rw[lO];show sol,n0,λi hi=>((tab.red i hi).pos,(tab.red i hi).low,Wg i hi),by rw[lO];show Xk,?_);simpa [List.append_assoc] using hq
end
end Pg
namespace L2
open PySem
def Be{g:Dt->En->(En->Prop)->Prop}{k:Nat}(J:List Key->En->Ms->Prop)(aU:∀xs ρ M,J xs ρ M->M[k]? =!(.raw u))
  (step:∀x xs ρ M,J (x::xs) ρ M->(∀ρ M,J xs ρ M->ve g tb Dn k u m xs ρ M)->g (Mf x) ρ λρ'=>tb {Dn with nx:=ve g tb Dn k u m xs,ct:=ve g tb Dn k u m xs,bk:=λρ M=>M[k]? =!(.raw u)/\Dn.nx ρ (M.set k m)} ρ' M)
  (fin:∀ρ M,J [] ρ M->Dn.nx ρ (M.set k m)):∀(xs:List Key) (ρ:En) (M:Ms),J xs ρ M->ve g tb Dn k u m xs ρ M
 | [],ρ,M,h=>(aU _ _ _ h,fin _ _ h)
 | x::xs,ρ,M,h=>(aU _ _ _ h,step x xs ρ M h λρ' M' h'=>Be J aU step fin xs ρ' M' h')
end L2
namespace Pg
open PySem L2 Fr0 Tx
variable{M:Ms}{m:MO}{γ:List Rw}{tb:List Fr}{mg:Str->Option Value}{f aW eB:Addr}{fd aX eA:FuncData}{θ:Fr}{gs:List Nat}{S:Sp}{p:Pl}{i s n:Nat}{ds:List br}{ns:List Int}{size:Int}
def Mn{k:Nat}(h:M[k]? =!m):M.set k m=M:=by
 apply List.ext_getElem?;intro i;rw[List.getElem?_set];split
 .rename_i e;subst e;rw[aaP (aam.mp h).1,h]
 .rfl
def yU(pl:Pl):vP pl=(pl.map (·.2)).map Dt.int:=by unfold vP;rw[List.map_map];rfl
def Q3(p q:Fr):kf [.int p.1,.int p.2] [.int q.1,.int q.2]=decide (p=q):=by
 let(a,b):=p;let(c,d):=q;change((a==c)&&((b==d)&&true))=_;rw[Bool.and_true];by_cases h1:a=c
 .by_cases h2:b=d
  .subst h1 h2;simp
  .have:¬((a, b)=(c, d)):=λz=>h2 (Prod.mk.inj z).2;rw[decide_eq_false this];simp[h2]
 .have:¬((a, b)=(c, d)):=λz=>h1 (Prod.mk.inj z).1;rw[decide_eq_false this];simp[h1]
structure Rg(γ:List Rw)(tb:List Fr):Prop where
 tl:-tb=-γ
 sz:∀i,i < -γ->Sz 400 (tb.getD i (0, 1))
def VS{t:Int}(h:Rg γ tb)(h0:0<=t)(h1:t < -γ):ic (tb.map aI) t=!(aI (tb.getD t.toNat (0, 1))):=by
 let hl:t.toNat < -tb:=by rw[h.tl];omega
 let e2:(tb.map aI)[t.toNat]? =!(aI (tb.getD t.toNat (0, 1))):=by rw[aat,aae,aad hl];rfl
 have:=Λ e2;rwa[show((t.toNat:Nat):Int)=t by omega]at this
def RA(p r:Fr):tj M 1 (aI p) (aI r) (decide (p=r)):=by
 have:=tj.tup (M:=M) (n:=0) (ds:=[.int p.1,.int p.2]) (es:=[.int r.1,.int r.2]) (f:=λj=>if j=0 then decide (p.1=r.1) else decide (p.2=r.2)) (λj d e hd he=>by
  match j, hd,he with
  | 0,hd,he=>cases hd;cases he;have:=tj.flat (M:=M) (n:=0) (d:=.int p.1) (e:=.int r.1) rfl rfl;rwa[show mq (.int p.1) (.int r.1)=decide (p.1=r.1) by change(p.1==r.1)=_;by_cases h:p.1=r.1 <;> simp[h]]at this
  | 1,hd,he=>cases hd;cases he;have:=tj.flat (M:=M) (n:=0) (d:=.int p.2) (e:=.int r.2) rfl rfl;rwa[show mq (.int p.2) (.int r.2)=decide (p.2=r.2) by change(p.2==r.2)=_;by_cases h:p.2=r.2 <;> simp[h]]at this
  | j+2,hd,_=>cases hd)
 let e:((List.range (min (-[Dt.int p.1,.int p.2]) (-[Dt.int r.1,.int r.2]))).all (λj=>if j=0 then decide (p.1=r.1) else decide (p.2=r.2))&&-[Dt.int p.1,.int p.2]==-[Dt.int r.1,.int r.2])=decide (p=r):=by change((decide (p.1=r.1)&&(decide (p.2=r.2)&&true))&&true)=_;rw[Bool.and_true,Bool.and_true];let(a,b):=p;let(c,d):=r;simp[Prod.ext_iff,Bool.decide_and]
 rw[e]at this;show this
section
variable{P:Program}{w:World}{K:fv}{base:Heap}{Cm:Addr}
def IJ(A:Addr):DF:=λas M q _=>∃(θ:Fr) (γ:List Rw) (tb:List Fr) (k kt:Nat) (pl:Pl),as=[aF A θ γ,.loc k,.loc kt]/\M[k]? =!(dP pl)/\M[kt]? =!(.lst (tb.map aI))/\Rg γ tb/\Li γ/\Fc pl/\-pl<=12/\(∀p∈pl,0<=p.1/\∃kd ds,γ[p.1.toNat]? =!(.υ kd ds)/\0<=p.2/\p.2 < -ds)/\q (.loc (-M)) (M++[dP (Δ γ tb pl)])
def eL:Γ ["floor","plan","table","better","place","numbers","best"] ["floor","plan","table"] (τ m8):=.of rfl
def xP(F:de K "better_led" "better_led" m8 f fd)(E:Ev K mg Cm)(aT:gh P w K mg base 2 Cm "doors" ["self","place"] (tU Cm) dF dE)(ar:gh P w K mg base 1 Cm "kind" ["self","place"] (sF Cm) bW bY)(nC:aD P w K mg base 2 "greatest" ["numbers"] (yW sk) Hm Gx)(xA:aD P w K mg base 2 "least" ["numbers"] (yW sY) QH Sv):aC P w K mg base (cI P w) 3 f fd ["floor","plan","table"] (da K (IJ Cm)):=by
 show F.d9 eL (λds M q x h=>?_) (λbI A outer s H E' hr=>(_,(ζ (ω 3 eL.nd D5)
   (ζ (NB (jv 1) (ai (i:=4) eL.nd rfl (Or.inl rfl)) aL (ζ (cK (i:=5) eL.nd rfl (Or.inl rfl) (ys:=["table"]) (Ρ:=[2]) (.of eL rfl rfl rfl) (bC (bZ (gX aT hr ξ (jv 0) (Μ (jv 4) ε)))) (λC s H fp=>(Η (jv 1) (Η (jv 0) ν))))
   (ζ (gQ (ω 6 eL.nd (zF (cX hr (gX ar hr ξ (jv 0) (Μ (jv 4) ε)) dX) (Ω nC hr ξ (Μ (jv 5) ε)) (Ω xA hr ξ (Μ (jv 5) ε)))))
   (ι (ah (iz hr (Η (jv 5) (Oq (jv 1) (jv 4))) (jv 6)) (ι (rJ hr (jv 3) (jv 4) (zb 1 hr (jv 5) (Μ (jv 6) ε)))) Ε)))))
   (ι (Α (jv 3))))),λds M q x h=>?_))
 .let(θ,γ,tb,k,kt,pl,rfl,_):=h;rfl
 .let(θ,γ,tb,k,kt,pl,rfl,hk,zo,tok,f,nd,qC,hp,h):=h;let kl:k < -M:=(aam.mp hk).1;let WU:kt < -M:=(aam.mp zo).1;let kn:k≠kt:=λe=>by rw[e,zo]at hk;cases hk
  walk_at "vc";show(k,kP pl,pl.map (·.2),rfl,by rw[<-yU];show aq hk,λep=>?_);change ve _ _ _ k (NT P w (kP pl) (pl.map (·.2)) ep) _ _ _ ((M++[MO.eG [] []]).set k (.raw (NT P w (kP pl) (pl.map (·.2)) ep)));let aaO:∀p∈pl,aY (kP pl) ((pl.map (·.2)).map Dt.int) (Sum.inl p.1)=!(.int p.2):=λp hm=>by rw[<-yU,qN,tQ nd hm];rfl
  generalize hu:NT P w (kP pl) (pl.map (·.2)) ep=u;let XQ:(M++[MO.eG [] []]).set k (.raw u)=M.set k (.raw u)++[dP []]:=by rw[ach _ _ kl];rfl
  let hb:∀acc,((M.set k (.raw u)++[dP acc]).set k (.eG (kP pl) (vP pl)))=M++[dP acc]:=λacc=>by
   rw[ach _ _ (by rw[abC];show kl),List.set_set]
   congr 1
   show Mn hk
  let hT:∀acc,(M.set k (.raw u)++[dP acc])[kt]? =!(.lst (tb.map aI)):=λacc=>aq (by rw[abv kn];show zo);rw[XQ];show Be (λxs ρ' M'=>∃(eT rest:Pl) (o4 o5 o6:Option Dt),pl=eT++rest/\xs=kP rest/\M'=M.set k (.raw u)++[dP (Δ γ tb eT)]/\ρ'=[!(aF Cm θ γ),!(.loc k),!(.loc kt),!(.loc (-M)),o4,o5,o6]) (λxs ρ' M' hj=>?_) (λx xs ρ' M' hj gc=>?_) (λρ' M' hj=>?_) _ _ _ ([],pl,none,none,none,rfl,rfl,rfl,rfl)
  .let(eT,rest,o4,o5,o6,e,rfl,rfl,rfl):=hj;show aq (by rw[abD kl])
  .let(eT,rest,o4,o5,o6,e,ex,rfl,rfl):=hj;cases rest with
   | nil=>cases ex
   | cons p rest=>
    cases ex;let pm:p∈pl:=by rw[e];simp
    let(p0,kd,ds,Pb,v0,v1):=hp p pm;let(p1,v):=p;obtain⟨i,rfl⟩:∃i:Nat,p1=(i:Int):=(p1.toNat,by have:0<=p1:=p0;omega);obtain⟨j,rfl⟩:∃j:Nat,v=(j:Int):=(v.toNat,by have:0<=v:=v0;omega);let Pb:γ[i]? =!(.υ kd ds):=Pb;let jl:j < -ds:=by have:(j:Int) < -ds:=v1;omega
    let rm:Rw.υ kd ds∈γ:=aap Pb;let ro:=(f.row _ rm).1;let l6:=qf f rm;let N4:(M.set k (.raw u)++[dP (Δ γ tb eT)])[k]? =!(.raw u):=aq (by rw[abD kl]);let Wk:(M.set k (.raw u)++[dP (Δ γ tb eT)])[-M]? =!(dP (Δ γ tb eT)):=by have:=aK (M:=M.set k (.raw u)) (o:=dP (Δ γ tb eT));rwa[abC]at this
    let bsn:Δ γ tb (eT++[((i:Int), (j:Int))])=Δ γ tb eT++pv (uY γ tb) (zD γ tb) ((i:Int), (j:Int)):=by unfold Δ;rw[List.flatMap_append];simp
    let ed:Mt γ (i:Int)=ds:=by unfold Mt;rw[Int.toNat_natCast,cy Pb];rfl
    let nl:-(aM tb ds)=-ds:=by unfold aM;rw[List.length_map]
    let eb:uY γ tb (i:Int) (j:Int)=decide ((aM tb ds).getD j (0, 1)=cY kd (aM tb ds)):=by unfold uY;rw[ed,abl,abl,lF Pb]
    let ex:zD γ tb (i:Int)=(BO (cY kd (aM tb ds)) (aM tb ds):Nat):=by unfold zD;rw[ed,abl,lF Pb]
    let UQ:∀acc o5 o6,acc=Δ γ tb (eT++[((i:Int), (j:Int))])->_:=λacc o5 o6 ea=>gc [!(aF Cm θ γ),!(.loc k),!(.loc kt),!(.loc (-M)),!(.int (i:Int)),o5,o6] (M.set k (.raw u)++[dP acc]) (eT++[((i:Int), (j:Int))],rest,_,o5,o6,by rw[e,aa8];rfl,rfl,by rw[ea],rfl);let hg:=aaO _ pm;let nz:∀n∈aM tb ds,Sz 1300 n:=λn hn=>by let(d,hd,rfl):=aaz.mp hn;have:=g_ f rm hd;show yD (tok.sz _ ()) @_
    let n0:aM tb ds≠[]:=λz=>by rw[z]at nl;have:(0:Nat)=-ds:=nl;omega
    let(bm,_):=rT (k:=kd) n0 λn hn=>(nz n hn).2.1;let(xl,xe,xf):=DN bm;let hTd:=hT (Δ γ tb eT);rw[<-hu]at N4 Wk UQ hTd⊢;walk_at "vc";show((_,_,.inl rfl,rfl),θ,γ,i,.υ kd ds,rfl,Pb,ro,cR (fL _) ?_);show(by change(ds.map c_).length<=sizeLine;rw[aah];show aaH l6.2 @_,?_);show cQ (F:=λx d=>x=c_ d/\d∈ds) (f:=λd=>aI (tb.getD d.1.toNat (0, 1))) (as:=ds) trivial (λx d hx qq hq=>?_) (h8 c_ ds ds λx hx=>hx) ?_
    .let(rfl,hd):=hx;let(t0,t1):=g_ f rm hd;walk_at "vc";show oz ?_;show χ (d:=.loc kt) (fC hTd) (VS tok t0 t1) hq
    rw[aba];let en:ds.map (λd=>aI (tb.getD d.1.toNat (0, 1)))=(aM tb ds).map aI:=by unfold aM;rw[List.map_map];rfl
    rw[en];generalize aM tb ds=ns at *
    show(λρ M2=>M2=M.set k (.raw (NT P w (kP pl) (pl.map (·.2)) ep))++[dP (Δ γ tb eT)]/\ρ=[!(aF Cm θ γ),!(.loc k),!(.loc kt),!(.loc (-M)),!(.int (i:Int)),!(.lst (ns.map aI)),!(aI (cY kd ns))],?_,?_)
    .walk_at "vc";show((_,_,.inl rfl,rfl),θ,γ,i,.υ kd ds,rfl,Pb,λz=>?_,λz=>?_)
     .let z:kd="one":=aaW z;show(ns,rfl,n0,nz,rfl,by unfold cY;rw[if_pos z];rfl)
     .let z:kd≠"one":=abh z;show(ns,rfl,n0,nz,rfl,by unfold cY;rw[if_neg z];rfl)
    rintro ρ2 M2 ⟨rfl,rfl⟩;generalize cY kd ns=b at *
    walk_at "vc";show(k,kP pl,(pl.map λx:Int×Int=>x.2),ep,Sum.inl (i:Int),(j:Int),rfl,N4,rfl,hg,?_);show(χ (d:=.lst (ns.map aI)) (xs:=ns.map aI) rfl (Λ (j:=j) (by rw[aat,aad (show j < -ns by omega)];rfl)) ?_:cG (.lst (ns.map aI)) (.int (j:Int)) _ _);let gj:ns.getD j (0, 1)=ns[j]'():=by rw[aae,aad (show j < -ns by omega)];rfl
    rw[gj]at eb;generalize ns[j]'()=c at *
    change((! kf [.int c.1,.int c.2] [.int b.1,.int b.2])=true->_)/\((! kf [.int c.1,.int c.2] [.int b.1,.int b.2])=false->_);rw[Q3,<-eb];show(λz=>?_,λz=>?_)
    .let z:¬uY γ tb (i:Int) (j:Int)=true:=by simpa using z
     dsimp only[pE,y9];walk_at "vc";let dl:-eT<=12:=by have:=abm List.length e;rw[aan]at this;omega
     let ll:-(Δ γ tb eT)<=-eT:=tT eT;show((ns.map aI,rfl),aI b,ns.map aI,λi=>decide (ns.getD i (0, 1)=b),BO b ns,rfl,rfl,λi' z' WM=>?_,by rw[aah];show xl,aaB (by rw[aae,xe];rfl),λi' Ly=>aaF λy=>xf i' Ly (by rw[aad (show i' < -ns by omega)];rw[aae,aad (show i' < -ns by omega)]at y;show abm some y),?_)
     .rw[aat]at WM;let(n,hn,rfl):=abN.mp WM;let en':ns.getD i' (0, 1)=n:=by rw[aae,hn];rfl
      change tj _ 1 (aI n) (aI b) (decide (ns.getD i' (0, 1)=b));rw[en'];show RA n b
     show(-M,_,_,Sum.inl (i:Int),rfl,Wk,rfl,by unfold kP;rw[List.length_map];omega,?_);rw[AI (v:=((BO b ns:Nat):Int)),EL];let gn:Τ (Δ γ tb eT) (i:Int)=none:=lA λy=>by let y:=i9 y;rw[e]at nd;unfold Fc at nd;rw[abp,acB]at nd;show nd.2.2 _ y _ aai rfl
     let e1:j9 (Δ γ tb eT) (i:Int) ((BO b ns:Nat):Int)=Δ γ tb (eT++[((i:Int), (j:Int))]):=by rw[bsn];unfold j9 pv;rw[gn,aaK z,ex,aaK @_]
     rw[e1,List.set_append_right (h:=by rw[abC];show aaq _),abC,acy];show UQ _ _ _ rfl
    .let z:uY γ tb (i:Int) (j:Int)=true:=by simpa using z
     show UQ _ _ _ (by rw[bsn];unfold pv;rw[if_pos z,List.append_nil])
  .let(eT,rest,o4,o5,o6,e,ex,rfl,rfl):=hj;have:rest=[]:=by cases rest with| nil=>rfl| cons p r=>cases ex
   subst this;rw[abw]at e;rw[yU]at hb;rw[hb,<-e];show h
section
variable{tb':List Fr}{a:Pl}{k:Str}
def rW.tok(fr:FR θ γ)(dr:aR γ gs S)(hp:ak (fK γ "one") p)(ha:ak (fK γ "other") a)(pr:BM γ S p)(h:rW γ S (aP p a) tb):Rg γ tb:=(h.tab.len,λi il=>(h.sz fr (jK fr hp ha) dr (pr a ha) il).2.2.2)
def sv(h:ak (fK γ k) a)(qC:-γ<=12):-a<=12:=by have:=abm List.length (cF h);rw[aah,ir,aah]at this;let l:=acA (λi=>decide (cv γ i=k)) (List.range (-γ));rw[abu]at l;let l:-(cH γ k)<=-γ:=l;omega
def FI(fr:FR θ γ)(hh:Ξ k=true)(h:ak (fK γ k) a):∀e∈a,0<=e.1/\∃kd ds,γ[e.1.toNat]? =!(.υ kd ds)/\0<=e.2/\e.2 < -ds:=λe he=>by let ke:e.1∈a.map (·.1):=aaz.mpr (e,he,rfl);rw[cF h,ir]at ke;let(i,hm,ei):=aaz.mp ke;let ei:(i:Int)=e.1:=ei;let(ds,hi,_,_):=fY fr hh hm;let(j,gj,jl):=(bG (i:=i) fr hh h).1 ds hi;let ge:=tQ (fQ h) he;rw[<-ei,gj]at ge;let ge:=aay ge;show((),k,ds,by rw[<-ei,abl];show hi,(),())
def Qin(γ:List Rw)(S:Sp)(p:Pl):Pl->Rat->Prop:=λa u=>∃tb,rW γ S (aP p a) tb/\u= - og γ tb a
def rW.uniq(fr:FR θ γ)(dr:aR γ gs S)(hp:ak (fK γ "one") p)(ha:ak (fK γ "other") a)(pr:BM γ S p)(h:rW γ S (aP p a) tb)(h':rW γ S (aP p a) tb'):tb=tb':=(UK fr (jK fr hp ha) dr (pr a ha)).uniq h.tab h'.tab
end
def OS(A:Addr):DF:=λas M q _=>∃(θ:Fr) (γ:List Rw) (kp:Nat) (p:Pl) (S:Sp) (gs:List Nat),as=[aF A θ γ,.loc kp,.lst (S.map cx)]/\M[kp]? =!(dP p)/\FR θ γ/\aR γ gs S/\ak (fK γ "one") p/\BM γ S p/\∀(a:Pl) (tb:List Fr) (E':Ms) (kt:Nat),rB γ S p a tb->Δ γ tb a=[]->-M < kt->(M++[dP a]++E')[kt]? =!(.lst (tb.map aI))->q (.tup [.loc (-M),.loc kt]) (M++[dP a]++E')
def ie:Γ ["floor","plan","steps","answer","table","better"] ["floor","plan","steps"] (τ mW):=.of rfl
def x6(F:de K "kept_least" "kept_least" mW f fd)(E:Ev K mg Cm)(kW:aD P w K mg base 3 "first_plan" ["floor","hand"] (Fs Cm) Cv Cb)(kE:aD P w K mg base 7 "chances_by" ["floor","plan","answer","steps"] (PM Cm) BY B2)(eK:aD P w K mg base 3 "better_led" ["floor","plan","table"] (IJ Cm) nR mM):aC P w K mg base (cI P w) 8 f fd ["floor","plan","steps"] (da K (OS Cm)):=by
 show F.d9 ie (λds M q x h=>?_) (λbI A outer s H E' hr=>(_,(ζ (ω 3 ie.nd (Ω kW hr ξ (Μ (jv 0) (δ dX ε Χ))))
   (ι (kR (bV rE) (ζ (ω 4 ie.nd (Ω kE hr ξ (Μ (jv 0) (Μ (jv 1) (Μ (jv 3) (Μ (jv 2) ε))))))
   (ζ (ω 5 ie.nd (Ω eK hr ξ (Μ (jv 0) (Μ (jv 3) (Μ (jv 4) ε)))))
   (ζ (ah (cX hr (DG E.bK (Μ (jv 5) ε)) ν) (ι (Α (av (Μ (jv 3) (Μ (jv 4) ε))))) Ε)
   (ι (cB (Cg (jv 3) (jv 5)))))))))),λds M q x h=>?_))
 .let(θ,γ,kp,p,S,gs,rfl,_):=h;rfl
 .let(θ,γ,kp,p,S,gs,rfl,hp,fr,dr,fp,pr,h):=h;let qC:=fr.pl.len;let f0:=D0 fr au;walk_at "vc";show(θ,γ,"other",rfl,qC,?_);generalize BR γ "other"=a0 at *
  show⟨λm ρ' M'=>∃(a:Pl) (E1:Ms) (o:Option Rat) (o4 o5:Option Dt),ak (fK γ "other") a/\m=Ug (NJ (fK γ "other")) (Qin γ S p) o/\(∀t,o=!t->∀tb,rW γ S (aP p a) tb->t < - og γ tb a)/\M'=M++[dP a]++E1/\ρ'=[!(aF Cm θ γ),!(.loc kp),!(.lst (S.map cx)),!(.loc (-M)),o4,o5],(_,a0,[],none,none,none,f0,rfl,λ_ z=>(nomatch z),by rw[abw],rfl),λm ρ' M' hw=>?_⟩;let(a,E1,o,o4,o5,fa,rfl,ho,rfl,rfl):=hw;let kpl:kp < -M:=(aam.mp hp).1;let Qd:(M++[dP a]++E1)[kp]? =!(dP p):=aq (aq hp);let Xp:∀(a:Pl) (E:Ms),(M++[dP a]++E)[-M]? =!(dP a):=λa E=>aq aK;let FZ:=sv fp qC;let Vi:=sv fa qC;let dk:=jK fr fp fa;walk_at "vc";show(λ_=>(_,λρ2 M2 hn=>hn,?_),nofun);show(θ,γ,kp,-M,.lst (S.map cx),S,gs,p,a,rfl,Qd,Xp a E1,λ_=>rfl,(),dk,dr,fr,pr a fa,λtb cn=>?_);let tok:=cn.tok fr dr fp fa pr;let e1:M++[dP a]++E1++[dP (aP p a),MO.lst (tb.map aI)]=M++[dP a]++(E1++[dP (aP p a),MO.lst (tb.map aI)]):=by simp
  obtain⟨E2,hE2⟩:∃E2,E2=E1++[dP (aP p a),MO.lst (tb.map aI)]:=(_,rfl);obtain⟨kt,zo⟩:∃kt,kt=-(M++[dP a]++E1)+1:=(_,rfl);let UC:-M < kt:=by rw[zo,aan,aan];change -M < -M+1+-E1+1;omega
  let att:(M++[dP a]++E2)[kt]? =!(.lst (tb.map aI)):=by rw[hE2,<-e1,zo,aaX (abZ _ 1),abR];rfl
  rw[e1,<-hE2,<-zo];show(θ,γ,tb,-M,kt,a,rfl,Xp a E2,att,tok,fr.JC,fQ fa,Vi,FI fr au fa,?_);let Zw:-(Δ γ tb a)<=12:=aaH (tT a) Vi;let Vn:(M++[dP a]++E2++[dP (Δ γ tb a)])[-(M++[dP a]++E2)]? =!(dP (Δ γ tb a)):=aK;let kl:-(kP (Δ γ tb a))=-(Δ γ tb a):=by unfold kP;rw[List.length_map]
  show(_,_,_,rfl,Vn,?_);rw[kl];change(decide ((-(Δ γ tb a):Int)=0)=true->_)/\(decide ((-(Δ γ tb a):Int)=0)=false->_);show(λz=>?_,λz=>?_)
  .let e:Δ γ tb a=[]:=List.length_eq_zero_iff.mp (by have:=aaW z;omega);show(fI,?_);rw[aa8 (M++[dP a]) E2];show h a tb _ kt (fa,cn,LB fr fa cn.tab.red e) e UC (by rw[<-aa8];show aq att)
  .let ne:Δ γ tb a≠[]:=λy=>by rw[y]at z;show aa5 z @_
   let(im,_):=uN (tb:=tb) fr au fa cn.tab.red;let ml:-M < -(M++[dP a]++E2):=by rw[aan,aan];change -M < -M+1+-E2;omega
   dsimp only[BD,Fq];walk_at "vc";show((-M,_,_,rfl,aq (Xp a E2)),-M,_,_,_,_,_,rfl,rfl,(),aq (Xp a E2),Vn,by rw[kl];unfold kP;rw[List.length_map];omega,?_);rw[Fy,EE];let se:(M++[dP a]++E2++[dP (Δ γ tb a)]).set (-M) (dP (aP a (Δ γ tb a)))=M++[dP (aP a (Δ γ tb a))]++(E2++[dP (Δ γ tb a)]):=by rw[aa8 (M++[dP a]),aa8,aa8,List.set_append_right (h:=aaq _),acy];rfl
   rw[se];show(_,?_,aP a (Δ γ tb a),_,!(- og γ tb a),_,_,im.fit,rfl,λt et tb' Yd=>?_,rfl,rfl)
   .show Jb (sS fa) (tb,cn,rfl) (λu' (tb',Yd,e)=>by rw[e,Yd.uniq fr dr fp fa pr cn]) λt et=>ho t et tb cn
   .cases et;have:=KN fr dr fp fa pr cn ne Yd;grind
def pd{E:Ms}{n:Nat}:∀(γ:List Rw) (j:Nat),(∀i m,(l3 γ)[i]? =!m->E[j+i]? =!m)->gm n E (oR (n+j) γ) (γ.map Κ)
 | [],_,_=>.nil
 | .fin p::r,j,h=>.cons (.old (FH (.fin p))) (pd r j h)
 | .υ k ds::r,j,h=>.cons (.tup (.cons (.old trivial) (.cons (.u6 (abZ _ _) (by rw[abR];show h 0 _ rfl) (gm.old (fL ds))) .nil))) (pd r (j+1) λi m e=>by rw[show j+1+i=j+(i+1) by omega];show h (i+1) m e)
def Jr(γ:List Rw)(M:Ms)(x:MO):gm (-M) (l3 γ++[x]) (oR (-M) γ) (γ.map Κ):=
 pd γ 0 λi m e=>by rw[acj,aaG (aam.mp e).1];show e
def EJ(M:Ms):∀rs:List Rw,Paired (jY M) (rs.map Κ) rs
 | []=>.nil
 | r::rs=>.cons (xM _ r) (EJ M rs)
def ik(p:Pl)(i:Nat)(r:Rw):Rw:=match Τ p i,r with
 | some j,.υ k ds=>.υ k [ds.getD j.toNat d0]
 | _,r=>r
def gq(p:Pl):Nat->List Rw->List Rw
 | _,[]=>[]
 | n,r::rs=>ik p n r::gq p (n+1) rs
def eN(p:Pl):∀(rs:List Rw) (n:Nat),-(gq p n rs)=-rs
 | [],_=>rfl
 | _::rs,n=>abm Nat.succ (eN p rs (n+1))
def kz(p:Pl):∀(rs:List Rw) (n i:Nat),(gq p n rs)[i]? =(rs[i]?).map (ik p (n+i))
 | [],_,_=>rfl
 | r::rs,n,0=>rfl
 | r::rs,n,i+1=>by change(gq p (n+1) rs)[i]? =(rs[i]?).map (ik p (n+(i+1)));rw[kz p rs (n+1) i,show n+1+i=n+(i+1) by omega]
def vQ{te:DE}{ok:Ms->Prop}{M:Ms}{p:Pl}{k:List Dt->Ms->Prop}(ho:ok M):∀(rs:List Rw) (n:Nat) (acc:List Dt),(∀j r,rs[j]? =!r->∀q:DQ,q (Κ (ik p (n+j) r)) M->g2 0 1 (.tup [.int ((n+j:Nat):Int),Κ r]) ρ0 λρ'=>te ρ' M q k8)->k (acc++(gq p n rs).map Κ) M->wm (g2 0 1) te ρ0 ok (iq n (rs.map Κ)) acc M k
 | [],n,acc,ht,h=>(ho,by simpa [gq] using h)
 | r::rs,n,acc,ht,h=>(ho,ht 0 r rfl _ (vQ ho rs (n+1) _ (λj r' hj q hq=>by
   have:=ht (j+1) r' hj q (by rw[show n+(j+1)=n+1+j by omega];show hq)
   rwa[show n+(j+1)=n+1+j by omega]at this) (by simpa [gq] using h)))
def N_(M:Ms)(g:Dt)(gs:List Nat):Prop:=g= .lst (gs.map bq)\/∃k,g= .loc k/\M[k]? =!(.lst (gs.map bq))
def N_.app{E:Ms}{g:Dt}(h:N_ M g gs):N_ (M++E) g gs:=by
 rcases h with h| ⟨k,e,h⟩
 .show .inl h
 .show .inr (k,e,aq h)
def N_.it{g:Dt}(h:N_ M g gs):∃ok,kO M g=!(gs.map bq, ok)/\ok M/\iX M g=!(gs.map bq):=by
 rcases h with rfl| ⟨k,rfl,h⟩
 .show(λ_=>True,rfl,trivial,rfl)
 .let e:i6 M (.loc k)=!(gs.map bq, λM':Ms=>M'[k]? =!(MO.lst (gs.map bq))):=by change(match M[k]? with| some (MO.lst xs)=>!(xs, λM':Ms=>M'[k]? =!(MO.lst xs))| _=>none)=_;rw[h]
  show(_,oP e,h,fC h)
section
def Bk(fr:FR θ γ)(fp:ak (fK γ "one") p)(hi:γ[i]? =!(.υ "one" ds)):∃(j:Nat) (jl:j < -ds),Τ p i=!(j:Int)/\ik p i (.υ "one" ds)= .υ "one" [ds[j]]:=by let(j,gj,jl):=(bG (i:=i) fr ae fp).1 ds hi;show(j,jl,gj,?_);unfold ik;rw[gj];change Rw.υ "one" [ds.getD ((j:Int)).toNat d0]=_;rw[abl,aae,aad jl];rfl
def nW(fr:FR θ γ)(fp:ak (fK γ "one") p)(hi:γ[i]? =!r)(hk:kindOf r≠"one"):ik p i r=r:=by unfold ik;rw[(bG (i:=i) fr ae fp).2 r hi hk]
def Lp(fr:FR θ γ)(fp:ak (fK γ "one") p):Li (gq p 0 γ):=by
 show(by rw[eN];show fr.pl.len,λr hr=>?_);rw[eN];let(i,hi,rfl):=abH hr;let e:=aad hi;rw[kz]at e;let(r0,YE,er):=abN.mp e;rw[acj]at er;rw[<-er];let rm:=aap YE;by_cases hk:kindOf r0="one"
 .cases r0 with
  | fin q=>show aa5 hk (by change¬(Str.ofString "end"=Str.ofString "one");decide)
  | υ k ds=>
   let hk:k="one":=hk;subst hk;let(j,jl,_,eh):=Bk fr fp YE;rw[eh];let dm:=aax jl;let(ro,rf):=fr.pl.row _ rm;let fd:=(pw fr.JC rm).1;unfold Ι at fd;rw[aaA,aaA]at fd;show((@_,(by change 1<=12;decide),λz=>aa5 z @_,λd hd=>by rw[abi.mp hd];show ro.2.2.2 _ dm),?_);change(if Ξ (Str.ofString "one") then Ι [ds[j]] (-γ) else if (Str.ofString "one")="chance" then Ι [ds[j]] (-γ)&&Υ ([ds[j]].map ο) else false)=true;rw[aaP ae];unfold Ι;rw[aaA,aaA];show((rfl,rfl),?_);rw[acf,List.all_nil,Bool.and_true];show abc.mp fd.2 _ dm
 .rw[nW fr fp YE hk];show fr.pl.row _ rm
def Di(fr:FR θ γ)(fp:ak (fK γ "one") p)(go:cz γ gs):cz (gq p 0 γ) gs:=by show(go.up,λg hg=>?_);let(q,hq):=go.fin g hg;show(q,?_);rw[kz,hq,acj];change (!(ik p g (.fin q)))=_;rw[nW fr fp hq (by change¬(Str.ofString "end"=Str.ofString "one");decide)]
end
def PX:DF:=λas M q _=>∃(r:Rw) (i k:Nat) (p:Pl),as=[Κ r,.int (i:Nat),.loc k]/\M[k]? =!(dP p)/\(∀v,Τ p i=!v->∃kd ds,r= .υ kd ds/\0<=v/\v < -ds)/\q (Κ (ik p i r)) M
def HL:Γ ["row","place","plan"] ["row","place","plan"] (τ sM):=.of rfl
def CM(F:de K "held_row" "held_row" sM f fd)(E:Ev K mg Cm):aC P w K mg base (cI P w) 1 f fd ["row","place","plan"] (da K PX):=by
 show F.d9 HL (λds M q x h=>?_) (λbI A outer s H E' hr=>(_,(ζ (ah (ID hr (jv 1) (jv 2)) (ι (Α (av (δ (Η (jv 0) ν) (δ (fc (δ (Η (Η (jv 0) ν) (uM hr (jv 2) (jv 1))) ε ba)) ε) ba)))) Ε)
   (ι (Α (jv 0)))),λds M q x h=>?_))
 .let(r,i,k,p,rfl,_):=h;rfl
 .let(r,i,k,p,rfl,hk,hv,h):=h;show(k,_,_,Sum.inl (i:Int),rfl,hk,rfl,?_);rw[Oa];cases hg:Τ p i with
  | none=>
   unfold ik at h;rw[hg]at h;show(nofun,λ_=>h)
  | some v=>
   let(kd,ds,rfl,v0,v1):=hv v hg;let dg:aY (kP p) (vP p) (Sum.inl (i:Int))=!(.int v):=by rw[qN,hg];rfl
   obtain⟨j,rfl⟩:∃j:Nat,v=(j:Int):=(v.toNat,());let jl:j < -ds:=()
   let gd:ds.getD j d0=ds[j]:=by rw[aae,aad jl];rfl
   unfold ik at h;rw[hg]at h;let h:q (Κ (.υ kd [ds.getD ((j:Int)).toNat d0])) M:=h;rw[abl,gd]at h;show(λ_=>?_,nofun);walk_at "vc";show(χ (d:=.tup [.str kd,.lst (ds.map c_)]) (xs:=[.str kd,.lst (ds.map c_)]) rfl bc ?_:cG (.tup [.str kd,.lst (ds.map c_)]) (.int 0) M _);show(Fx ?_:cG (.tup [.str kd,.lst (ds.map c_)]) (.int 1) M _);show(k,_,_,Sum.inl (i:Int),_,rfl,hk,rfl,dg,?_);show(χ (d:=.lst (ds.map c_)) (xs:=ds.map c_) rfl (Λ (j:=j) (by rw[aat,aad jl];rfl)) ?_:cG (.lst (ds.map c_)) (.int (j:Int)) M _);show(by change 1<=sizeLine;decide,fI,h)
def Ja(A:Addr):DF:=λas M q _=>∃(θ:Fr) (γ:List Rw) (kp:Nat) (p:Pl) (g:Dt) (gs:List Nat),as=[aF A θ γ,.loc kp,g]/\M[kp]? =!(dP p)/\ak (fK γ "one") p/\FR θ γ/\N_ M g gs/\cz γ gs/\∀(S2:Sp) (m:MO),aR (gq p 0 γ) gs S2->q (.loc (-M)) (M++[.lst (S2.map cx),m])
def qd:Γ ["floor","plan","goals","rows"] ["floor","plan","goals"] (τ uA):=.of rfl
def DO(F:de K "steps_by" "steps_by" uA f fd)(E:Ev K mg Cm)(kG:gh P w K mg base 2 Cm "rows" ["self"] (Pt Cm) DJ Ee)(o7:aD P w K mg base 1 "held_row" ["row","place","plan"] PX Le Kp)(pq:aD P w K mg base 5 "draw" ["floor","goals"] (Jp Cm) JH Jw)(eQ:Oe P w K mg base 5 "Floor" Cm ["self","share","rows"] (LK Cm) mN nM)(jJ:gh P w K mg base 1 Cm "share" ["self"] (KH Cm) AV Aq):aC P w K mg base (cI P w) 7 f fd ["floor","plan","goals"] (da K (Ja Cm)):=by
 show F.d9 qd (λds M q x h=>?_) (λbI A outer s H E' hr=>(_,(ζ (zJ (i:=3) qd.nd rfl (Or.inl rfl) (ys:=["plan"]) (Ρ:=[1]) (.of qd rfl rfl rfl) (oW E.cJ (δ (bZ (iB kG hr ξ (jv 0))) ε aS)) (λC s H fp=>(Ω o7 hr (dc (P:=P) (w:=w)) (Μ (jv 1) (Μ (jv 0) (Μ (jv 2) ε))))))
   (ι (Α (Η (Ω pq hr ξ (δ (bZ (Lv eQ hr ξ (δ (iB jJ hr ξ (jv 0)) (Μ (jv 3) ε) aS))) (Μ (jv 2) ε) aS)) ν)))),λds M q x h=>?_))
 .let(θ,γ,kp,p,g,gs,rfl,_):=h;rfl
 .let(θ,γ,kp,p,g,gs,rfl,hp,fp,fr,ga,go,h):=h;let(ok,g1,Tn,g3):=ga.it;let fl:=Lp fr fp;let hg:=Di fr fp go;let sl:∀{z:Nat},z<=1000->z<=sizeLine:=λh=>aaH h @_;let qC:=fr.pl.len;show((_,_,.inl rfl,rfl),θ,γ,rfl,qC,λr hr=>(fr.pl.row r hr).1,?_);rw[aa8];show gT (d':=.lst (γ.map Κ)) (.u6 (Nat.le_add_right _ _) (by simp) (Jr γ M _)) ?_;walk_at "vc";show(.lst (γ.map Κ),γ.map Κ,λ_=>True,rfl,rfl,?_);show(by rw[gB,aah];show sl (),?_);show vQ (p:=p) trivial γ 0 [] (λj r hj qq hq=>?_) ?_
  .rw[acj]at hq⊢;dsimp only[g2];walk_at "vc";show(r,j,kp,p,rfl,hp,λv hv=>?_,hq);cases r with
   | fin e=>rw[(bG (i:=j) fr ae fp).2 _ hj (by change¬(Str.ofString "end"=Str.ofString "one");decide)]at hv;cases hv
   | υ kd ds=>
    by_cases hk:kd="one"
    .subst hk;let(x,gx,xl):=(bG (i:=j) fr ae fp).1 ds hj;rw[gx]at hv;cases hv;show(_,ds,rfl,(),())
    .rw[(bG (i:=j) fr ae fp).2 _ hj hk]at hv;cases hv
  rw[aba];generalize hh:gq p 0 γ=oa at *
  let hl:-oa=-γ:=by rw[<-hh,eN]
  show((_,_,.inl rfl,rfl),θ,γ,rfl,?_);show(-M,.lst (oa.map Κ),θ,oa.map Κ,oa,λ_=>True,rfl,by simp,rfl,EJ _ _,fr.pl.sh,by rw[hl];show fr.n1,fl.len,fl.row,rfl,?_);rw[show(M++[MO.ins Cm [] []]).set (-M) (.ins Cm ["kept_share","kept_rows"] [aI θ,.lst (oa.map Κ)])=M++[.ins Cm ["kept_share","kept_rows"] [aI θ,.lst (oa.map Κ)]] by simp[List.set_append]];show gT (d':=aF Cm θ oa) (.Tt (Nat.le_refl _) (by simp) (.cons (.old (pN θ)) (.cons (.old (jf oa)) .nil))) ?_;show(θ,oa,g,gs,ok,rfl,g1,Tn,g3,hg,fl,λS2 d2=>?_);show χ (xs:=[.loc (-M+1),.loc (-M)]) rfl (Λ (j:=1) rfl) (h S2 _ d2)
section
def Dy(o:Option Nat):∀(ds:List br) (n:Nat),(uS S o ds n=0/\∀d∈ds,iE S o d=false)\/∃(j:Nat) (jl:j < -ds),uS S o ds n=n+j/\iE S o ds[j]=true
 | [],_=>.inl (rfl,λ_ h=>nomatch h)
 | d::ds,n=>by
  by_cases c:iE S o d=true
  .show .inr (0,by simp,?_,c);change(if iE S o d=true then n else uS S o ds (n+1))=_;rw[aaP c];rfl
  .let e:uS S o (d::ds) n=uS S o ds (n+1):=aaK c;rw[e];rcases Dy o ds (n+1) with ⟨a,b⟩| ⟨j,jl,a,b⟩
   .show .inl (a,λx hx=>?_);rcases aaS.mp hx with y| y
    .rw[y];simpa using c
    .show b x y
   .show .inr (j+1,by simpa using jl,by rw[a];omega,b)
def vL{l:List Nat}{f:Nat->Int}(h:i∈l):Τ (l.map λi:Nat=>((i:Int), f i)) (i:Int)=!(f i):=by
 induction l with
 | nil=>cases h
 | cons a l ih=>
  rw[abe];unfold Τ;by_cases e:a=i
  .rw[aaP (by change(a:Int)=i;omega)];change (!(f a))=_;rw[e]
  .rw[aaK (by change¬(a:Int)=i;omega)];show ih ((aaS.mp h).resolve_left λz=>e z.symm)
def sH(fr:FR θ γ):ak (fK γ "one") (mO γ S):=by
 let key:∀{l:List Nat},(∀i∈l,uS S (at_ S i) (aE (bR γ i)) 0 < -(aE (bR γ i)))->ak (l.map λi:Nat=>((i:Int), -(aE (bR γ i)))) (l.map λi:Nat=>((i:Int), ((uS S (at_ S i) (aE (bR γ i)) 0:Nat):Int))):=λ{l}=>by
  induction l with
  | nil=>exactλ_=>trivial
  | cons a l ih=>exactλh=>(rfl,(),by have:=h a aai;omega,ih λi hi=>h i (aag _ hi))
 show key λi hi=>?_;let(ds,_,e,l):=fY fr ae hi;rw[e];rcases Dy (S:=S) (at_ S i) ds 0 with ⟨a,_⟩| ⟨j,jl,a,_⟩
 .rw[a];show l
 .rw[a];omega
def jq(dr:aR γ gs S){k:Str}(hi:γ[i]? =!(.υ k ds))(e:at_ S i=!(s+1)):(k="other"->∀d∈ds,∃t,at_ S d.1.toNat=!t/\t<=s)/\∃d∈ds,at_ S d.1.toNat=!s:=by
 have:=dr.2 i _ hi;let this:gS k (bo S ds) (at_ S i):=this;unfold gS at this;rw[e]at this;by_cases hk:k="other"
 .rw[aaP hk]at this;rcases this with ⟨z,_⟩| ⟨v,ev,h1,h2⟩
  .cases z
  .cases ev;let(d,hd,ed):=Ψ.mp h1;show(λ_ d hd=>h2 _ (Ψ.mpr (d,hd,rfl)),d,hd,ed)
 .rw[aaK hk]at this;rcases this with ⟨z,_⟩| ⟨v,ev,h1,h2⟩
  .cases z
  .cases ev;let(d,hd,ed):=Ψ.mp h1;show(λz=>aa5 z hk,d,hd,ed)
def K2(fr:FR θ γ)(dr:aR γ gs S)(fp:ak (fK γ "one") p)(hd:∀(i:Nat) (ds:List br) (s:Nat),γ[i]? =!(.υ "one" ds)->at_ S i=!(s+1)->∃(j:Nat) (jl:j < -ds) (t:Nat),Τ p i=!(j:Int)/\at_ S ds[j].1.toNat=!t/\t<=s):BM γ S p:=λa fa C hC i il WB=>by
 let main:∀(s i:Nat),i < -γ->C i->at_ S i=!s->False:=λs=>by
  induction s using Nat.strongRecOn with
  | _ s ih=>
   intro i il ci e;let(st,cl):=hC i il ci;let(s',e'):=id st;rw[e]at e';let es:s=s'+1:=aay e';subst es;let(k,ds,hi):=jB dr il st;let FW:=c7 fr.pl (aap hi);let go:∀d∈gU γ S (aP p a) i,∀t,at_ S d.1.toNat=!t->t<=s'->False:=λd hd t et lt=>by have:=(pO (acc:=aP p a) fr (jK fr fp fa) dr il st).2.2;let(B,_,_,hw):=this;have:=(hw d hd).to;show ih t () d.1.toNat () (cl d hd) et
   let(n1,d1,Kd,PC):=jq dr hi e;rcases kL fr hi with rfl| rfl| rfl
   .let(j,jl,t,gj,et,lt):=hd i ds s' hi e;show go (ds[j].1, ds[j].2.1,[(1, 1)]) ?_ t et lt;rw[jF st,cy hi,h9 fr hi ae (by rw[eX fr fa hi];show gj) jl];show abi.mpr rfl
   .let(j,gj,jl):=(bG (i:=i) fr au fa).1 ds hi;let(t,et,lt):=n1 rfl _ (aax jl);show go (ds[j].1, ds[j].2.1,[(1, 1)]) ?_ t et lt;rw[jF st,cy hi,h9 fr hi au (by rw[gy fr fa hi];show gj) jl];show abi.mpr rfl
   .show go d1 ?_ s' PC (aaq _);rw[jF st,cy hi];unfold eY;rw[gF fr fp fa hi];show Kd
 let((s,e),_):=hC i il WB;show main _ i il WB e
def KO(fr:FR θ γ)(dr:aR γ gs S):BM γ S (mO γ S):=by
 show K2 fr dr (sH fr) λi ds s hi e=>?_;let il:=(aam.mp hi).1;let hm:i∈cH γ "one":=ki.mpr (il,lF hi);let g:Τ (mO γ S) (i:Int)=!((uS S (at_ S i) (aE (bR γ i)) 0:Nat):Int):=vL (f:=λi=>((uS S (at_ S i) (aE (bR γ i)) 0:Nat):Int)) hm;rw[cy hi]at g;let g:Τ (mO γ S) (i:Int)=!((uS S (at_ S i) ds 0:Nat):Int):=g;let(_,d1,Kd,PC):=jq dr hi e;rcases Dy (S:=S) (at_ S i) ds 0 with ⟨_,b⟩| ⟨j,jl,ej,b⟩
 .have:=b d1 Kd;unfold iE at this;rw[PC,e]at this;show aa5 (abh this) ()
 .rw[ej,acj]at g;unfold iE at b;rw[e]at b;cases et:at_ S ds[j].1.toNat with
  | none=>rw[et]at b;cases b
  | some t=>
   rw[et]at b;have:=aaW b;show(j,jl,t,g,et,())
def Zp(γ:List Rw)(S:Sp):Pl->Rat->Prop:=λp u=>∃a tb,BM γ S p/\rB γ S p a tb/\u=og γ tb p
structure c9(γ:List Rw)(gs:List Nat)(S S2:Sp)(p a:Pl)(tb:List Fr):Prop where
 dr:aR γ gs S
 fp:ak (fK γ "one") p
 pr:BM γ S p
 kp:rB γ S p a tb
 np:Δ γ tb p=[]
 na:Δ γ tb a=[]
 d2:aR (gq p 0 γ) gs S2
end
def MC{q:DQ}{xs:List Nat}(h:q (.tup [.lst (xs.map bq),.lst (S.map cx)]) M):p9 M q (.tup [.loc (-M+1),.loc (-M)]) (M++[.lst (S.map cx),.lst (xs.map bq)]):=by
 let u1:∀(S:Sp),Dt.bD (-M) (S.map cx):=λS=>by
  induction S with
  | nil=>trivial
  | cons o S ih=>cases o with| none=>show(trivial,ih)| some v=>show(trivial,ih)
 let u2:∀(xs:List Nat),Dt.bD (-M) (xs.map bq):=λxs=>by
  induction xs with
  | nil=>trivial
  | cons o S ih=>show(trivial,ih)
 show gT (d':=.tup [.lst (xs.map bq),.lst (S.map cx)]) (.tup (.cons (.u6 (Nat.le_succ _) (by rw[abR];rfl) (gm.old (u2 xs))) (.cons (.u6 (aaq _) (by rw[acy];rfl) (gm.old (u1 S))) .nil))) h
def Ax(A:Addr):DF:=λas M q _=>∃(θ:Fr) (γ:List Rw) (g:Dt) (gs:List Nat),as=[aF A θ γ,g]/\FR θ γ/\N_ M g gs/\cz γ gs/\∀(S S2:Sp) (p a:Pl) (tb:List Fr) (E':Ms) (kt ka ks:Nat),c9 γ gs S S2 p a tb->-M < ka->ka < kt->kt < ks->(M++[dP p]++E')[ka]? =!(dP a)->(M++[dP p]++E')[kt]? =!(.lst (tb.map aI))->(M++[dP p]++E')[ks]? =!(.lst (S2.map cx))->q (.tup [.loc kt,.loc (-M),.loc ka,.loc ks]) (M++[dP p]++E')
def ji:Γ ["floor","goals","steps","plan","found","better"] ["floor","goals"] (τ rZ):=.of rfl
def Ec(F:de K "chances" "chances" rZ f fd)(E:Ev K mg Cm)(pq:aD P w K mg base 5 "draw" ["floor","goals"] (Jp Cm) JH Jw)(kB:aD P w K mg base 4 "drawn_plan" ["floor","steps"] (uw Cm) BQ CQ)(kM:aD P w K mg base 8 "kept_least" ["floor","plan","steps"] (OS Cm) Ef D7)(eK:aD P w K mg base 3 "better_led" ["floor","plan","table"] (IJ Cm) nR mM)(pP:aD P w K mg base 7 "steps_by" ["floor","plan","goals"] (Ja Cm) K7 IA):aC P w K mg base (cI P w) 9 f fd ["floor","goals"] (da K (Ax Cm)):=by
 show F.d9 ji (λds M q x h=>?_) (λbI A outer s H E' hr=>(_,(ζ (ω 2 ji.nd (Η (bZ (Ω pq hr ξ (Μ (jv 0) (Μ (jv 1) ε)))) ν))
   (ζ (ω 3 ji.nd (Ω kB hr ξ (Μ (jv 0) (Μ (jv 2) ε))))
   (ι (kR (bV rE) (ζ (ω 4 ji.nd (Ω kM hr ξ (Μ (jv 0) (Μ (jv 3) (Μ (jv 2) ε)))))
   (ζ (ω 5 ji.nd (Ω eK hr ξ (Μ (jv 0) (Μ (jv 3) (δ (Η (jv 4) ν) ε ba)))))
   (ζ (ah (cX hr (DG E.bK (Μ (jv 5) ε)) ν) (ι (Α (av (δ (Η (jv 4) ν) (Μ (jv 3) (δ (Η (jv 4) ν) (δ (Ω pP hr ξ (Μ (jv 0) (Μ (jv 3) (Μ (jv 1) ε)))) ε aS) ba)) ba)))) Ε)
   (ι (cB (Cg (jv 3) (jv 5))))))))))),λds M q x h=>?_))
 .let(θ,γ,g,gs,rfl,_):=h;rfl
 .let(θ,γ,g,gs,rfl,fr,ga,go,h):=h;let qC:=fr.pl.len;let(ok,g1,Tn,g3):=ga.it;show(θ,γ,g,gs,ok,rfl,g1,Tn,g3,go,fr.JC,λS dr=>MC ?_);walk_at "vc";show(χ (d:=.tup [.lst ((j4 S).map bq),.lst (S.map cx)]) (xs:=[.lst ((j4 S).map bq),.lst (S.map cx)]) rfl (Λ (j:=1) rfl) ?_:cG (.tup [.lst ((j4 S).map bq),.lst (S.map cx)]) (.int 1) _ _);show(θ,γ,.lst (S.map cx),S,gs,rfl,λ_=>rfl,dr,fr,?_);let f0:=sH (S:=S) fr;let pr0:=KO fr dr;generalize mO γ S=p0 at *
  show⟨λm ρ' M'=>∃(p:Pl) (E1:Ms) (o:Option Rat) (o4 o5:Option Dt),ak (fK γ "one") p/\BM γ S p/\m=Ug (NJ (fK γ "one")) (Zp γ S) o/\(∀t,o=!t->∀a tb,rB γ S p a tb->t < og γ tb p)/\M'=M++[dP p]++E1/\ρ'=[!(aF Cm θ γ),!g,!(.lst (S.map cx)),!(.loc (-M)),o4,o5],(_,p0,[],none,none,none,f0,pr0,rfl,λ_ z=>(nomatch z),by rw[abw],rfl),λm ρ' M' hw=>?_⟩;let(p,E1,o,o4,o5,fp,pr,rfl,ho,rfl,rfl):=hw;let Qd:∀(p:Pl) (E:Ms),(M++[dP p]++E)[-M]? =!(dP p):=λa E=>aq aK;let FZ:=sv fp qC;walk_at "vc";show(λ_=>(_,λρ2 M2 hn=>hn,?_),nofun);show(θ,γ,-M,p,S,gs,rfl,Qd p E1,fr,dr,fp,pr,λa tb E2 kt kp na UC zo=>?_);let tok:=kp.ch.tok fr dr fp kp.fa pr;obtain⟨ka,AZ⟩:∃ka,ka=-(M++[dP p]++E1):=(_,rfl);let ka1:-M < ka:=by rw[AZ,aan,aan];change -M < -M+1+-E1;omega
  let TU:(M++[dP p]++E1++[dP a]++E2)[ka]? =!(dP a):=by rw[AZ];show aq aK
  rw[<-AZ]at UC⊢;let e1:M++[dP p]++E1++[dP a]++E2=M++[dP p]++(E1++[dP a]++E2):=by simp
  rw[e1]at zo TU⊢;generalize E1++[dP a]++E2=E3 at *
  show(χ (d:=.tup [.loc ka,.loc kt]) (xs:=[.loc ka,.loc kt]) rfl (Λ (j:=1) rfl) ?_:cG (.tup [.loc ka,.loc kt]) (.int 1) _ _);show(θ,γ,tb,-M,kt,p,rfl,Qd p E3,zo,tok,fr.JC,fQ fp,FZ,FI fr ae fp,?_);let Zw:-(Δ γ tb p)<=12:=aaH (tT p) FZ;let Vn:(M++[dP p]++E3++[dP (Δ γ tb p)])[-(M++[dP p]++E3)]? =!(dP (Δ γ tb p)):=aK;let kl:-(kP (Δ γ tb p))=-(Δ γ tb p):=by unfold kP;rw[List.length_map]
  show(_,_,_,rfl,Vn,?_);rw[kl];change(decide ((-(Δ γ tb p):Int)=0)=true->_)/\(decide ((-(Δ γ tb p):Int)=0)=false->_);show(λz=>?_,λz=>?_)
  .let e:Δ γ tb p=[]:=List.length_eq_zero_iff.mp (by have:=aaW z;omega);rw[aa8 (M++[dP p]) E3];generalize hE4:E3++[dP (Δ γ tb p)]=E4;let Ws:(M++[dP p]++E4)[kt]? =!(.lst (tb.map aI)):=by rw[<-hE4,<-aa8];show aq zo
   let aaM:(M++[dP p]++E4)[ka]? =!(dP a):=by rw[<-hE4,<-aa8];show aq TU
   show(χ (d:=.tup [.loc ka,.loc kt]) (xs:=[.loc ka,.loc kt]) rfl (Λ (j:=1) rfl) ?_:cG (.tup [.loc ka,.loc kt]) (.int 1) _ _);show(χ (d:=.tup [.loc ka,.loc kt]) (xs:=[.loc ka,.loc kt]) rfl bc ?_:cG (.tup [.loc ka,.loc kt]) (.int 0) _ _);show(θ,γ,-M,p,g,gs,rfl,Qd p E4,fp,fr,N_.app (N_.app ga),go,λS2 m2 d2=>?_);show(by change 4<=sizeLine;decide,?_);let WU:=(aam.mp Ws).1;let es:(M++[dP p]++E4++[MO.lst (S2.map cx),m2])[-(M++[dP p]++E4)]? =!(.lst (S2.map cx)):=by rw[aaX (aaq _),acy];rfl
   rw[aa8 (M++[dP p]) E4]at es⊢;show h S S2 p a tb _ kt ka _ (dr,fp,pr,kp,e,na,d2) ka1 UC WU (by rw[<-aa8];show aq aaM) (by rw[<-aa8];show aq Ws) es
  .let ne:Δ γ tb p≠[]:=λy=>by rw[y]at z;show aa5 z @_
   let(im,_):=uN (tb:=tb) fr ae fp kp.ch.tab.red;let Ie:=BM.better fr dr fp kp.fa pr kp.ch kp.le im;let ml:-M < -(M++[dP p]++E3):=by rw[aan,aan];change -M < -M+1+-E3;omega
   dsimp only[BD,Fq];walk_at "vc";show((-M,_,_,rfl,aq (Qd p E3)),-M,_,_,_,_,_,rfl,rfl,(),aq (Qd p E3),Vn,by rw[kl];unfold kP;rw[List.length_map];omega,?_);rw[Fy,EE];let se:(M++[dP p]++E3++[dP (Δ γ tb p)]).set (-M) (dP (aP p (Δ γ tb p)))=M++[dP (aP p (Δ γ tb p))]++(E3++[dP (Δ γ tb p)]):=by rw[aa8 (M++[dP p]),aa8,aa8,List.set_append_right (h:=aaq _),acy];rfl
   rw[se];show(_,?_,aP p (Δ γ tb p),_,!(og γ tb p),_,_,im.fit,Ie,rfl,λt et a' tb' kp'=>?_,rfl,rfl)
   .show Jb (sS fp) (a,tb,pr,kp,rfl) (λu' (a',tb',_,kp',e)=>by rw[e,kp'.uniq fr dr fp pr kp]) λt et=>ho t et a tb kp
   .cases et;show J4 fr dr fp kp ne Ie kp'
def IB(ns:List Int)(k:Int):Int:=ns.getD k.toNat 0
def B'{k:Int}(h0:0<=k)(h2:k < -ns):ic (ns.map Dt.int) k=!(.int (IB ns k)):=by
 let e:(ns.map Dt.int)[k.toNat]? =!(.int (IB ns k)):=by rw[aat,aad (show k.toNat < -ns by omega)];unfold IB;rw[aae,aad (show k.toNat < -ns by omega)];rfl
 have:=Λ e;rwa[show((k.toNat:Nat):Int)=k by omega]at this
def Nd{k:Int}(h:¬k < -ns):IB ns k=0:=by unfold IB;rw[aae,List.getElem?_eq_none ()];rfl
def MV(ns:List Int)(k:Int):Bool:=decide (k < -ns)&&(decide (IB ns k < 0)|| decide (IB ns k ≥ 10 ^ 18))
def NF{k:Int}(h:MV ns k=false):0<=IB ns k/\IB ns k < 10 ^ 18:=by
 unfold MV at h;by_cases hk:k < -ns
 .rw[aaB hk,Bool.true_and,Bool.or_eq_false_iff,decide_eq_false_iff_not,decide_eq_false_iff_not]at h;omega
 .rw[Nd hk];show(@_,@_)
def p18:xX 10 18:=(@_,@_,@_)
def p64:xX 10 64:=(@_,@_,@_)
def p8:xX 10 8:=(@_,@_,@_)
def p6:xX 10 6:=(@_,@_,@_)
def p22:xX 10 22:=(@_,@_,@_)
def p30:xX 10 30:=(@_,@_,@_)
def Nm(n:Int):Prop:=0<=n/\n < 10 ^ 128
def J3{n:Int}(h:Nm n):iG n:=Gm (k:=440) h.1 (Int.lt_of_lt_of_le h.2 @_) @_
def tH{a m:Int}(h0:0 < m)(h1:m<=10 ^ 128):Nm (a % m):=(abK _ (),Int.lt_of_lt_of_le (abG _ h0) h1)
def IE{m:Int}(h:Nm a)(h0:0 < m):Nm (a / m):=(Int.ediv_nonneg h.1 (),abO (Int.ediv_le_self _ h.1) h.2)
def QM:DF:=λas M q _=>∃(ns:List Int) (k:Int),as=[.fX ns,.int k]/\0<=k/\q (.bl (MV ns k)) M
def Kc:Γ ["_law_script","_law_k"] ["_law_script","_law_k"] (τ ye):=.of rfl
def GY(F:de K "_law_far" "_law_far" ye f fd)(E:Ev K mg Cm):aC P w K mg base (cI P w) 1 f fd ["_law_script","_law_k"] (da K QM):=by
 show F.d9 Kc (λds M q x h=>?_) (λbI A outer s H E' hr=>(_,(ι (Α (gf (HV (jv 1) (cE E.bK (Μ (jv 0) ε))) (iK (V7 (HV (Η (jv 0) (jv 1)) ν) (iK (aav (Η (jv 0) (jv 1)) (nZ ν ν)))))))),λds M q x h=>?_))
 .let(ns,k,rfl,_):=h;rfl
 .let(ns,k,rfl,hk,h):=h;unfold MV at h;walk_at "vc";show(az (d:=.fX ns) (xs:=ns.map .int) rfl ?_:fi [.fX ns] M _);rw[aah];show(λh1=>?_,λh1=>?_)
  .let h1:decide (k < -ns)=true:=h1;let oj:k < -ns:=aaW h1;rw[h1,Bool.true_and]at h;show(χ (d:=.fX ns) rfl (B' hk oj) ?_:cG (.fX ns) (.int k) M _);show(λh2=>?_,λh2=>?_)
   .let h2:decide (IB ns k < 0)=true:=h2;rw[h2,Bool.true_or]at h;show h
   .let h2:decide (IB ns k < 0)=false:=h2;rw[h2,Bool.false_or]at h;show(χ (d:=.fX ns) rfl (B' hk oj) ?_:cG (.fX ns) (.int k) M _);show(p18,h)
  .let h1:decide (k < -ns)=false:=h1;rw[h1,Bool.false_and]at h;show h
def tY:DF:=λas M q _=>∃(ns:List Int) (k:Int),as=[.fX ns,.int k]/\0<=k/\k<=200/\∀n,Nm n->q (.int n) M
def Lo(x:Int)(h0:0<=x)(h1:x < 2147483647):iG x/\iG (x % 65521+30011):=(bg (k:=40) (),bg (k:=40) ())
def P7{k:Int}(h0:0<=k)(h1:k<=200):iG ((k+1) * (k+1)):=by let a:=Int.mul_le_mul (show k+1<=201 by omega) (show k+1<=201 by omega) (show 0<=k+1 by omega) (show(0:Int)<=201 by decide);let b:0<=(k+1) * (k+1):=ab8 () ();show bg (k:=40) ()
def kh:Γ ["_law_script","_law_k","_law_cell","_law_number_here"] ["_law_script","_law_k"] (τ mK):=.of rfl
def yR(F:de K "_law_number" "_law_number" mK f fd)(E:Ev K mg Cm)(jh:aD P w K mg base 1 "_law_far" ["_law_script","_law_k"] QM yy yX):aC P w K mg base (cI P w) 2 f fd ["_law_script","_law_k"] (da K tY):=by
 show F.d9 kh (λds M q x h=>?_) (λbI A outer s H E' hr=>(_,(ζ (ω 2 kh.nd (zF (uL (jv 1) (cE E.bK (Μ (jv 0) ε))) (Η (jv 0) (jv 1)) ν))
   (ζ (ah (bV (Ω jh hr ξ (Μ (jv 0) (Μ (jv 1) ε)))) (ι (Α (bj (jv 2) (nZ ν ν)))) Ε)
   (ζ (ω 3 kh.nd (bj (a_ (dN (jv 2) ν) (dN (dN (a_ (jv 1) ν) (a_ (jv 1) ν)) ν)) ν))
   (ι (Α (bj (a_ (dN (jv 3) (a_ (bj (jv 3) ν) ν)) (dN (a_ (jv 1) ν) ν)) ν)))))),λds M q x h=>?_))
 .let(ns,k,rfl,_):=h;rfl
 .let(ns,k,rfl,hk,k2,h):=h;let bk:=P7 hk k2;let b1:iG (k+1):=bg (k:=40) ();let b3:iG (k+3):=bg (k:=40) ();let cc:∀n:Int,n.natAbs < 2 ^ 20->iG n:=λn hn=>bg hn;walk_at "vc";show(az (d:=.fX ns) (xs:=ns.map .int) rfl ?_:fi [.fX ns] M _);rw[aah];show(λh1=>?_,λh1=>?_)
  .let oj:k < -ns:=aaW h1;show(χ (d:=.fX ns) rfl (B' hk oj) ?_:cG (.fX ns) (.int k) M _);show(ns,k,rfl,hk,λh2=>?_,λh2=>?_)
   .show(p64,@_,h _ (tH @_ @_))
   .let(c0,c1):=NF h2;show((bg (k:=64) (),cc _ @_),(b1,b1),(bk,cc _ @_),@_,?_);show(@_,Lo _ (abK _ @_) (abG _ @_),(b3,cc _ @_),@_,h _ (tH @_ @_))
  .let oj:¬k < -ns:=abh h1;show(ns,k,rfl,hk,λh2=>?_,λh2=>?_)
   .show(p64,@_,h _ (tH @_ @_))
   .show((cc _ @_,cc _ @_),(b1,b1),(bk,cc _ @_),@_,?_);show(@_,Lo _ (abK _ @_) (abG _ @_),(b3,cc _ @_),@_,h _ (tH @_ @_))
def wU:Γ ["_law_script","_law_k","_law_number_here"] ["_law_script","_law_k"] (τ sE):=.of rfl
def B6(F:de K "_law_rest" "_law_rest" sE f fd)(E:Ev K mg Cm)(Θ:aD P w K mg base 2 "_law_number" ["_law_script","_law_k"] tY aW aX)(jh:aD P w K mg base 1 "_law_far" ["_law_script","_law_k"] QM yy yX):aC P w K mg base (cI P w) 3 f fd ["_law_script","_law_k"] (da K tY):=by
 show F.d9 wU (λds M q x h=>?_) (λbI A outer s H E' hr=>(_,(ζ (ω 2 wU.nd (Ω Θ hr ξ (Μ (jv 0) (Μ (jv 1) ε))))
   (ζ (ah (bV (Ω jh hr ξ (Μ (jv 0) (Μ (jv 1) ε)))) (ι (Α (cL (jv 2) (nZ ν ν)))) Ε)
   (ι (Α (bj (dN (jv 2) ν) ν))))),λds M q x h=>?_))
 .let(ns,k,rfl,_):=h;rfl
 .let(ns,k,rfl,hk,k2,h):=h;show(ns,k,rfl,hk,k2,λn hn=>?_);show(ns,k,rfl,hk,λh2=>?_,λh2=>?_)
  .show(p8,(@_,bg (k:=40) @_),h _ (IE hn @_))
  .show((J3 hn,bg (k:=20) @_),@_,h _ (tH @_ @_))
def Pf{a b:Int}(h1: - (10 ^ 30)<=a)(h2:a<=10 ^ 30)(h3:b<=1000000):bB (a, b)=true:=by
 unfold bB;have:(if a < 0 then - a else a)<=10 ^ 30:=by split <;> omega
 change(decide ((if a < 0 then - a else a)<=10 ^ 30)&&decide (b<=1000000))=true;rw[aaB this,aaB h3];rfl
def EB{t b:Int}(h1: - (10 ^ 30)<=t)(h2:t<=10 ^ 30)(h0:0 < b)(h3:b<=1000000):bB (ay t b)=true:=by
 let l1:=Ao (t:=t) (show b≠0 by omega);let l2:=uC (t:=t) (show b≠0 by omega);generalize ay t b=f at *
 let(x,y):=f;let l1:x.natAbs<=t.natAbs:=l1;let l2:y.natAbs<=b.natAbs:=l2;show Pf () () ()
def Ji:DF:=λas M q _=>∃t b:Int,as=[.int t,.int b]/\0 < b/\iG b/\q (aI (ay t b)) M
def iI:Γ ["_law_top","_law_bottom","_law_one","_law_other"] ["_law_top","_law_bottom"] (τ nv):=.of rfl
def zh(F:de K "_law_lowest" "_law_lowest" nv f fd)(E:Ev K mg Cm):aC P w K mg base (cI P w) 1 f fd ["_law_top","_law_bottom"] (da K Ji):=by
 show F.d9 iI (λds M q x h=>?_) (λbI A outer s H E' hr=>(_,(ζ (ω 2 iI.nd (Fm E.tZ (Μ (jv 0) ε)))
   (ζ (ω 3 iI.nd (jv 1))
   (ζ (kR (iz hr (jv 3) ν) (ι (Rn (i:=2) (j:=3) iI.nd rfl rfl (Μ (jv 3) (δ (bj (jv 2) (jv 3)) ε aV)))))
   (ι (Α (av (δ (cL (jv 0) (jv 2)) (δ (cL (jv 1) (jv 2)) ε aV) aV))))))),λds M q x h=>?_))
 .let(t,b,rfl,_):=h;rfl
 .let(t,b,rfl,h0,h1,h):=h;let ga:g (if t < 0 then - t else t) b=g t b:=by have:=PU t b;rwa[aaK (show¬b < 0 by omega)]at this
  show⟨λm ρ M'=>M'=M/\∃(x y:Int),ρ=[!(.int t),!(.int b),!(.int x),!(.int y)]/\0<=x/\0<=y/\g x y=g t b/\m=y.toNat,(_,rfl,_,_,rfl,by split <;> omega,(),ga,rfl),?_⟩;rintro m ρ M' ⟨rfl,x,y,rfl,hx,hy,e,rfl⟩;show(λhb=>?_,λhb=>?_)
  .let NP:y≠0:=by simpa using hb
   show(_,λρ' M2 h2=>h2,?_);show((),(x % y).toNat,?_,rfl,y,x % y,rfl,hy,abK _ NP,?_,rfl)
   .have:=abG x (show 0 < y by omega);have:=abK x NP;omega
   .rw[<-acb x hy,II ()];show e
  .let NP:y=0:=by simpa using hb
   subst NP;rw[J6 hx]at e;subst e;let hg:0 < g t b:=AA ();let hle:g t b<=b:=acC h0 (Int.gcd_dvd_right ..);let hb:iG (g t b):=abt (show(g t b).natAbs<=b.natAbs by omega) h1;let e:ay t b=(t / g t b, b / g t b):=by rw[Og h0,acE _ (aaT hg),acE _ (aaT hg)]
   rw[e]at h;show((hg,hb),(hg,hb),fI,h)
def L7:DF:=λas M q _=>∃n:Int,as=[.int n]/\Nm n/\∀p,bB p=true->0 < p.2->q (aI p) M
def Lu:Γ ["_law_number_here"] ["_law_number_here"] (τ yA):=.of rfl
def Ht(F:de K "_law_pay" "_law_pay" yA f fd)(E:Ev K mg Cm)(aG:aD P w K mg base 1 "_law_lowest" ["_law_top","_law_bottom"] Ji eB eA):aC P w K mg base (cI P w) 2 f fd ["_law_number_here"] (da K L7):=by
 show F.d9 Lu (λds M q x h=>?_) (λbI A outer s H E' hr=>(_,(ζ (ah (cX hr (bj (jv 0) ν) ν) (ι (Α (Ω aG hr ξ (δ (l7 (bj (dN (jv 0) (nZ ν ν)) (a_ (dN ν (nZ ν ν)) ν)) (nZ ν ν)) (δ (a_ ν (bj (cL (jv 0) ν) (nZ ν ν))) ε aV) aV)))) Ε)
   (ι (Α (Ω aG hr ξ (δ (l7 (bj (cL (jv 0) ν) ν) ν) (δ (a_ ν (bj (cL (jv 0) ν) ν)) ε aV) aV))))),λds M q x h=>?_))
 .let(n,rfl,_):=h;rfl
 .let(n,rfl,hn,h):=h;show(@_,λ_=>?_,λ_=>?_)
  .let T':0 < 1+n / 8 % 10 ^ (6:Int).toNat/\1+n / 8 % 10 ^ (6:Int).toNat<=1000000:=by change 0 < 1+n / 8 % 1000000/\1+n / 8 % 1000000<=1000000;omega
   let hb7:iG (1+n / 8 % 10 ^ (6:Int).toNat):=Gm (k:=20) (aaT T'.1) (abO T'.2 @_) @_;let b22:iG ((10:Int) ^ (22:Int).toNat):=bg (k:=110) @_;let b30:iG ((10:Int) ^ (30:Int).toNat):=bg (k:=110) @_;let m0:(0:Int) < 2 * 10 ^ (30:Int).toNat+1:=@_
   let VZ:=abK (n * 10 ^ (22:Int).toNat) (show(2 * 10 ^ (30:Int).toNat+1:Int)≠0 by decide);let hm1:=abG (n * 10 ^ (22:Int).toNat) m0;show(p22,(J3 hn,b22),p30,(bg (k:=4) @_,b30),m0,p30,(@_,bg (k:=5) @_),p6,(by change(0:Int) < 1000000;decide),_,_,rfl,T'.1,hb7,h _ (EB ?_ ?_ T'.1 T'.2) (cW ()))
   .change - (10 ^ 30)<=n * 10 ^ (22:Int).toNat % (2 * 10 ^ (30:Int).toNat+1) - 10 ^ 30;omega
   .let e:(10:Int) ^ (30:Int).toNat=10 ^ 30:=rfl;rw[e]at hm1;change n * 10 ^ (22:Int).toNat % (2 * 10 ^ 30+1) - 10 ^ 30<=10 ^ 30;omega
  .show((@_,bg (k:=4) @_),@_,(@_,bg (k:=8) @_),@_,_,_,rfl,(),bg (k:=10) (),h _ (EB () () () ()) (cW ()))
structure wj(kd:Str)(size:Int)(cs:List Fr)(ds:List br):Prop where
 fit:∀d∈ds,af d.1 d.2.1 size=true/\0 < d.2.1.2
 WX:kd="chance"->(∀d∈ds,d.2.2=[ο d])/\ds.map ο=cs.take (-ds)
 Yo:kd≠"chance"->∀d∈ds,d.2.2=[]
def wj.more{d:br}(h:wj kd size cs ds)(h1:af d.1 d.2.1 size=true)(h2:0 < d.2.1.2)(hl:-ds < -cs)(h3:kd="chance"->d.2.2=[cs[-ds]])(h4:kd≠"chance"->d.2.2=[]):wj kd size cs (ds++[d]):=by
 show(λe he=>?_,λhc=>(λe he=>?_,?_),λhc e he=>?_)
 .rcases abo.mp he with he| he
  .show h.fit e he
  .have:e=d:=by simpa using he
   subst this;show(h1,h2)
 .rcases abo.mp he with he| he
  .show(h.WX hc).1 e he
  .have:e=d:=by simpa using he
   subst this;unfold ο;rw[h3 hc];rfl
 .rw[abp,(h.WX hc).2,aan];change cs.take (-ds)++[ο d]=cs.take (-ds+1);rw[List.take_succ,aad hl];unfold ο;rw[h3 hc];rfl
 .rcases abo.mp he with he| he
  .show h.Yo hc e he
  .have:e=d:=by simpa using he
   subst this;show h4 hc
def wj.good(h:wj kd size cs ds)(hk:Ξ kd=true\/kd="chance")(h1:1<=-ds)(h6:-ds<=6)(hl:-ds=-cs)(hc:Υ cs=true)(ho:Qh cs):rP size (.υ kd ds):=by
 by_cases BL:kd="chance"
 .subst BL;let e:ds.map ο=cs:=by rw[(h.WX rfl).2,hl,List.take_length]
  show wF h1 h6 (λd hd=>(h.fit d hd).1) (h.WX rfl).1 (by rw[e];show hc) (by rw[e];show ho) λd hd=>(h.fit d hd).2
 .show Ft (hk.resolve_right BL) h1 h6 (λd hd=>(h.fit d hd).1) λd hd=>(h.Yo BL d hd,(h.fit d hd).2)
def uR(size:Int)(r:Rw):Prop:=rP size r/\∀k ds,r= .υ k ds->Ξ k=true->∀d∈ds,d.2.2=[]
def NC{k:Str}(h:Ξ k=true):k≠"chance":=λz=>by subst z;show aa5 h @_
def Er:DF:=λas M q _=>∃(ns:List Int) (a:Int) (kd:Str) (eS:Nat) (size:Int),as=[.fX ns,.int a,.str kd,.int eS,.int size]/\1<=a/\a<=150/\1<=eS/\eS<=6/\1<=size/\size<=12/\(Ξ kd=true\/kd="chance")/\∀ds,uR size (.υ kd ds)->q (.loc (-M)) (M++[.lst (ds.map c_)])
def cj:Γ ["_law_script","_law_at","_law_kind","_law_many","_law_size","_law_numbers","_law_most","_law_weights","_law_doors_here","_law_k","_law_door"] ["_law_script","_law_at","_law_kind","_law_many","_law_size"] (τ p_):=.of rfl
def A8(F:de K "_law_doors" "_law_doors" p_ f fd)(E:Ev K mg Cm)(Θ:aD P w K mg base 2 "_law_number" ["_law_script","_law_k"] tY aW aX){xw:Addr}(jy:aD P w K mg base 2 "_law_pay" ["_law_number_here"] L7 xw xG)(o8:aD P w K mg base 3 "_law_rest" ["_law_script","_law_k"] tY Jv LA)(aG:aD P w K mg base 1 "_law_lowest" ["_law_top","_law_bottom"] Ji eB eA):aC P w K mg base (cI P w) 4 f fd ["_law_script","_law_at","_law_kind","_law_many","_law_size"] (da K Er):=by
 show F.d9 cj (λds M q x h=>?_) (λbI A outer s H E' hr=>(_,(ζ (mX (i:=5) cj.nd rfl (Or.inl rfl) (ys:=["_law_script","_law_at"]) (Ρ:=[0,1]) (.of cj rfl rfl rfl) (bT E.bz (Μ (jv 3) ε)) (λC s H fp=>(Ω Θ hr (dc (P:=P) (w:=w)) (Μ (jv 1) (δ (a_ (jv 2) (jv 0)) ε aV)))))
   (ζ (ω 6 cj.nd (Η (fc (δ ν (δ (cL (nZ ν ν) (jv 3)) ε aV) Χ)) (cL (bj (cL (Ω Θ hr ξ (Μ (jv 0) (δ (l7 (jv 1) ν) ε aV))) ν) ν) ν)))
   (ζ (cK (i:=7) cj.nd rfl (Or.inl rfl) (ys:=["_law_most","_law_size"]) (Ρ:=[6,4]) (.of cj rfl rfl rfl) (bC (jv 5)) (λC s H fp=>(a_ ν (bj (cL (jv 0) (jv 2)) (jv 1)))))
   (ζ (ω 8 cj.nd (jU ε))
   (ζ (lj (bT E.bz (Μ (jv 3) ε)) (ai (i:=9) cj.nd rfl (Or.inl rfl)) aL (ζ (ω 10 cj.nd (av (δ (bj (Η (jv 5) (jv 9)) (jv 4)) (δ (Ω jy hr ξ (δ (Ω o8 hr ξ (Μ (jv 0) (δ (a_ (jv 1) (jv 9)) ε aV))) ε aS)) ε aS) aV)))
   (ζ (gQ (ah (cX hr (jv 2) dX) (ι (ω 10 cj.nd (a_ (jv 10) (av (δ (Ω aG hr ξ (δ (Η (jv 7) (jv 9)) (δ (zS E.qJ (Μ (jv 7) ε)) ε aS) ba)) ε aS))))) Ε))
   (ι (cB (f_ (jv 8) (Μ (jv 10) ε)))))))
   (ι (Α (jv 8)))))))),λds M q x h=>?_))
 .let(ns,a,kd,eS,size,rfl,_):=h;rfl
 .let(ns,a,kd,eS,size,rfl,a0,a1,n1,n6,s1,W_,Ih,h):=h;walk_at "vc";show(((),()),by rw[cU];show aaH (show _<=6 by omega) @_,?_);show fk (f:=Dt.int) Nm _ [] (λ_ z=>(nomatch z)) (λx Gp q' hq=>?_) λxs Pc hx=>?_
  .let(k,hk,rfl):=dZ Gp;let hk6:(k:Int) < 6:=()
   show(ns,a+(0+(k:Int)),rfl,(),(),hq)
  let Pc:-xs=eS:=by rw[Pc,cU];simp
  show(p6,((),bg (k:=10) ()),fI,ns,a - 1,rfl,(),(),λn hn=>?_);show((@_,bg (k:=8) @_),@_,(@_,bg (k:=4) @_),?_);obtain⟨most,em,m0,m1⟩:∃most:Int,ic [Dt.int 6,Dt.int (10 ^ (6:Int).toNat / (eS:Int))] (n / 42 % 4 / 3)=!(.int most)/\0 < most/\eS * most<=1000000:=by
   let(t1,t2):=Nn n1 n6;have:n / 42 % 4 / 3=0\/n / 42 % 4 / 3=1:=()
   rcases this with e| e
   .rw[e];show(6,bc,@_,())
   .rw[e];show(_,Λ (j:=1) rfl,t1,t2)
  show χ (d:=.lst [Dt.int 6,Dt.int (10 ^ (6:Int).toNat / (eS:Int))]) rfl em ?_;change gu _ _ _ _ _;show bF (i:=5) (d:=.lst (xs.map .int)) rfl rfl (by rw[aah,Pc];show aaH n6 @_,?_);show eJ (f:=λd=>match d with| .int n=>.int (1+n / size % most)| _=>.aZ) trivial (λx Gp q' hq=>?_) ?_
  .let(y,hy,rfl):=aaz.mp Gp;show(((),bg (k:=10) ()),m0,hq)
  rw[aba,show(xs.map Dt.int).map (λd=>match d with| .int n=>.int (1+n / size % most)| _=>.aZ)=(xs.map λn=>1+n / size % most).map Dt.int by rw[abf,abf];rfl];generalize hws:(xs.map λn=>1+n / size % most)=ws;let wl:-ws=eS:=by rw[<-hws,aah,Pc]
  let w0:∀w∈ws,0 < w/\w<=most:=λw hw=>by rw[<-hws]at hw;let(y,_,rfl):=aaz.mp hw;let e0:=abK (y / size) (show most≠0 by omega);let e1:=abG (y / size) m0;omega
  let hS:ws.sum<=1000000:=by have:=Iq λw Zz=>(w0 w Zz).2;rw[wl]at this;omega
  let l9:ws≠[]:=λz=>by rw[z]at wl;simp at wl;omega
  let aaJ:=Em (λw hw=>(w0 w hw).1) l9;let(c1,c2):=tL (S:=ws.sum) rfl (λw Zz=>(w0 w Zz).1) l9 hS ();let cl:-(ws.map λw=>ay w ws.sum)=eS:=by rw[aah,wl]
  let bS:iG ws.sum:=bg (k:=21) ();clear hws;show(@_,((),()),?_);show eV (λzs ρ M'=>∃(n k:Nat) (ds:List br) (o1 o2:Option Dt),zs=df k n/\k+n=eS/\-ds=k/\wj kd size (ws.map λw=>ay w ws.sum) ds/\M'=M++[MO.lst (ds.map c_)]/\ρ=[!(.fX ns),!(.int a),!(.str kd),!(.int eS),!(.int size),!(.lst (xs.map .int)),!(.int most),!(.lst (ws.map .int)),!(.loc (-M)),o1,o2]) (λx zs ρ M' hj gc=>?_) (λρ M' hj=>?_) _ _ _ (eS,0,[],none,none,by simp,by simp,rfl,(λ_ z=>(nomatch z),λ_=>(λ_ z=>(nomatch z),rfl),λ_ _ z=>(nomatch z)),rfl,rfl)
  .let(n,k,ds,o1,o2,ex,KW,hl,hd,rfl,rfl):=hj;let(m,rfl,rfl,rfl):=eP ex;let k6:(k:Int) < 6:=()
   let kx:k < -xs:=()
   let kw:k < -ws:=()
   let OC:(M++[MO.lst (ds.map c_)])[-M]? =!(.lst (ds.map c_)):=by simp
   let setM:∀y:br,(M++[MO.lst (ds.map c_)]).set (-M) (.lst (ds.map c_++[c_ y]))=M++[.lst ((ds++[y]).map c_)]:=λy=>by simp
   let lt:-(ds.map c_) < sizeLine:=by rw[aah,hl];show abt (show k<=12 by omega) @_
   walk_at "vc";show(χ (d:=.lst (xs.map .int)) rfl (jX kx) ?_:cG (.lst (xs.map .int)) (.int (k:Int)) _ _);show((),ns,_,rfl,(),(),λr rD=>(r,rfl,rD,λp hp Xm=>(fI,?_)));let MG:af (xs[k] % size) p size=true:=MP (abK _ ()) (abG _ ()) hp;show⟨λρ M2=>M2=M++[MO.lst (ds.map c_)]/\∃d:br,(af d.1 d.2.1 size=true/\0 < d.2.1.2/\(kd="chance"->d.2.2=[ay ws[k] ws.sum])/\(kd≠"chance"->d.2.2=[]))/\ρ=[!(.fX ns),!(.int a),!(.str kd),!(.int eS),!(.int size),!(.lst (xs.map .int)),!(.int most),!(.lst (ws.map .int)),!(.loc (-M)),!(.int (k:Int)),!(c_ d)],(λhc=>?_,λhc=>?_),?_⟩
   .let hc:kd="chance":=aaW hc;walk_at "vc";show(χ (d:=.lst (ws.map .int)) rfl (jX kw) ?_:cG (.lst (ws.map .int)) (.int (k:Int)) _ _);show(ws,rfl,(_,_,rfl),_,_,rfl,aaJ,bS,(by change 1<=sizeLine;decide),(by simp,by change 3<=sizeLine;decide),rfl,(xs[k] % size, p,[ay ws[k] ws.sum]),(MG,Xm,λ_=>rfl,λz=>absurd hc z),rfl)
   .let hc:kd≠"chance":=abh hc;show(rfl,(xs[k] % size, p,[]),(MG,Xm,λz=>aa5 z hc,λ_=>rfl),rfl)
   .rintro ρ2 M2 ⟨rfl,d,⟨d1,d2,d3,d4⟩,rfl⟩;show((-M,_,rfl,OC),-M,_,_,rfl,rfl,OC,lt,?_);rw[setM d];show gc _ _ (m,k+1,ds++[d],_,_,by simp,(),by simp[hl],hd.more d1 d2 (by rw[cl];omega) (λz=>?_) d4,rfl,rfl);rw[d3 z];simp[hl]
  .let(n,k,ds,o1,o2,ex,KW,hl,hd,rfl,rfl):=hj;let hn:n=0:=by have:=abm List.length ex;unfold df at this;simpa using this.symm
   show h ds (hd.good Ih () () (by rw[cl];omega) c1 c2,λk' Kn e hk d Mi=>by cases e;show hd.Yo (NC hk) d Mi)
def J0{n:Int}:∃kd:Str,ic [Dt.str "one",Dt.str "other",Dt.str "chance",Dt.str "end",Dt.str "one",Dt.str "other",Dt.str "chance"] (n % 7)=!(.str kd)/\(Ξ kd=true\/kd="chance"\/kd="end"):=by
 have:n % 7=0\/n % 7=1\/n % 7=2\/n % 7=3\/n % 7=4\/n % 7=5\/n % 7=6:=()
 rcases this with e| e| e| e| e| e| e <;> rw[e]
 .show(_,bc,.inl @_)
 .show(_,Λ (j:=1) rfl,.inl @_)
 .show(_,Λ (j:=2) rfl,.inr (.inl rfl))
 .show(_,Λ (j:=3) rfl,.inr (.inr rfl))
 .show(_,Λ (j:=4) rfl,.inl @_)
 .show(_,Λ (j:=5) rfl,.inl @_)
 .show(_,Λ (j:=6) rfl,.inr (.inl rfl))
abbrev pR(c1 c2:List Int):MO:=.eG [Sum.inr "one",Sum.inr "other"] [.lst (c1.map Dt.int),.lst (c2.map Dt.int)]
def j0(c:List Int):Prop:=-c<=3/\∀x∈c,1<=x/\x<=6
def j0.drop(h:j0 c):j0 (c.drop 1):=(by rw[abQ];have:=h.1;omega,λx hx=>h.2 x (List.mem_of_mem_drop hx))
def vR(h:j0 c):∃v:Int,ic (c.map Dt.int++[.int 1]) 0=!(.int v)/\1<=v/\v<=6:=by
 cases c with
 | nil=>show(1,bc,@_,@_)
 | cons a c=>show(a,bc,(h.2 a aai).1,(h.2 a aai).2)
def EF:DF:=λas M q _=>∃ns:List Int,as=[.fX ns]/\∀γ:List Rw,1<=-γ->-γ<=12->(∀r∈γ,uR (-γ) r)->∀m:MO,q (.loc (-M+1)) (M++[m,.lst (γ.map Κ)])
def bQ:Γ ["_law_script","_law_size","_law_wide","_law_kept","_law_caps","_law_rows_here","_law_place","_law_at","_law_first","_law_kind","_law_many"] ["_law_script"] (τ uz):=.of rfl
def Ea(F:de K "_law_rows" "_law_rows" uz f fd)(E:Ev K mg Cm)(Θ:aD P w K mg base 2 "_law_number" ["_law_script","_law_k"] tY aW aX){xw:Addr}(jy:aD P w K mg base 2 "_law_pay" ["_law_number_here"] L7 xw xG)(mj:aD P w K mg base 4 "_law_doors" ["_law_script","_law_at","_law_kind","_law_many","_law_size"] Er G_ Hj):aC P w K mg base (cI P w) 5 f fd ["_law_script"] (da K EF):=by
 show F.d9 bQ (λds M q x h=>?_) (λbI A outer s H E' hr=>(_,(ζ (ω 1 bQ.nd (a_ ν (bj (Ω Θ hr ξ (Μ (jv 0) (δ ν ε Χ))) ν)))
   (ζ (gQ (ω 2 bQ.nd (zF (KD (jv 1) ν) ν ν)))
   (ζ (ω 3 bQ.nd (bj (Ω Θ hr ξ (Μ (jv 0) (δ ν ε Χ))) (jv 1)))
   (ζ (gQ (ω 4 bQ.nd (zF (KD (jv 1) ν) (Bm dX (b_ 3 (d:=.lst [.int 5,.int 2,.int 2]) (by rfl)) dX (b_ 3 (d:=.lst [.int 5,.int 2,.int 2]) (by rfl))) (Bm dX (b_ 3 (d:=.lst [.int 3,.int 2]) (by rfl)) dX (b_ 3 (d:=.lst [.int 3,.int 2]) (by rfl))))))
   (ζ (ω 5 bQ.nd (jU ε))
   (ζ (lj (bT E.bz (Μ (jv 1) ε)) (ai (i:=6) bQ.nd rfl (Or.inl rfl)) aL (ζ (ω 7 bQ.nd (a_ ν (dN (jv 2) (jv 6))))
   (ζ (ω 8 bQ.nd (Ω Θ hr ξ (Μ (jv 0) (Μ (jv 7) ε))))
   (ζ (ω 9 bQ.nd (Η (b_ 3 (d:=.lst [.str "one",.str "other",.str "chance",.str "end",.str "one",.str "other",.str "chance"]) (by rfl)) (bj (jv 8) ν)))
   (ζ (ω 10 bQ.nd (a_ ν (bj (cL (jv 8) ν) (l7 (jv 2) ν))))
   (ζ (gQ (ah (JW.jt (tD (cX hr (jv 6) (jv 3)) (oh (wM (bj (cL (Ω Θ hr ξ (Μ (jv 0) (δ ν ε Χ))) ν) ν) ν)))) (ι (ω 9 bQ.nd dX)) Ε))
   (ζ (gQ (ah (JW.jt (tD (ID hr (jv 9) (jv 4)) (oh (wM (jv 10) ν)))) (ζ (ω 10 bQ.nd (U9 E.FL (Μ (jv 10) (δ (Η (i4 (uM hr (jv 4) (jv 9)) (b_ 3 (d:=.lst [.int 1]) (by rfl))) ν) ε ba))))
   (ι (rJ hr (jv 4) (jv 9) (bZ (gM (uM hr (jv 4) (jv 9)) ν))))) Ε))
   (ι (ah (cX hr (jv 9) dX) (ι (cB (f_ (jv 5) (δ (av (δ dX (δ (Ω jy hr ξ (δ (cL (jv 8) ν) ε aV)) ε aS) Χ)) ε bf)))) (ι (cB (f_ (jv 5) (δ (av (Μ (jv 9) (δ (bZ (Ω mj hr ξ (Μ (jv 0) (δ (a_ (jv 7) ν) (Μ (jv 9) (Μ (jv 10) (Μ (jv 1) ε))) aV)))) ε aS))) ε bf)))))))))))))
   (ι (Α (jv 5))))))))),λds M q x h=>?_))
 .let(ns,rfl,_):=h;rfl
 .let(ns,rfl,h):=h;show(ns,0,rfl,@_,@_,λn0 hn0=>(@_,?_));obtain⟨sz,hz,z1,z6⟩:∃sz:Nat,1+n0 % 12=(sz:Int)/\1<=sz/\sz<=12:=((1+n0 % 12).toNat,(),(),());dsimp only[z7];rw[hz];show⟨λρ M'=>M'=M/\∃wd:Int,(wd=5\/wd=7)/\ρ=[!(.fX ns),!(.int sz),!(.int wd),none,none,none,none,none,none,none,none],(λ_=>(rfl,7,.inr rfl,rfl),λ_=>(rfl,5,.inl rfl,rfl)),?_⟩;rintro ρ' M' ⟨rfl,wd,hwd,rfl⟩;show(ns,1,rfl,@_,@_,λn1 hn1=>((),?_));generalize n1 % (sz:Int)=kp;show⟨λρ M2=>∃c1 c2:List Int,j0 c1/\j0 c2/\M2=M'++[pR c1 c2]/\ρ=[!(.fX ns),!(.int sz),!(.int wd),!(.int kp),!(.loc (-M')),none,none,none,none,none,none],?_,?_⟩
  .walk_at "vc";dsimp only[Jc];walk_at "vc";show(λ_=>(Sum.inr "one",Sum.inr "other",rfl,rfl,@_,[5,2,2],[5,2,2],(@_,@_),(@_,@_),rfl,rfl),λ_=>(Sum.inr "one",Sum.inr "other",rfl,rfl,@_,[3,2],[3,2],(@_,@_),(@_,@_),rfl,rfl))
  rintro ρc Mc ⟨c01,c02,k01,k02,rfl,rfl⟩;show(@_,((),()),?_);show eV (λzs ρ M2=>∃(n k:Nat) (rs:List Rw) (c1 c2:List Int) (o1 o2 o3 o4 o5:Option Dt),zs=df k n/\k+n=sz/\-rs=k/\(∀r∈rs,uR sz r)/\j0 c1/\j0 c2/\M2=M'++[pR c1 c2,MO.lst (rs.map Κ)]/\ρ=[!(.fX ns),!(.int sz),!(.int wd),!(.int kp),!(.loc (-M')),!(.loc (-M'+1)),o1,o2,o3,o4,o5]) (λx zs ρ M2 hj gc=>?_) (λρ M2 hj=>?_) _ _ _ (sz,0,[],c01,c02,none,none,none,none,none,by simp,by simp,rfl,λ_ z=>(nomatch z),k01,k02,by simp,by simp)
  .let(n,k,rs,c1,c2,o1,o2,o3,o4,o5,ex,KW,hl,hd,k1,k2,rfl,rfl):=hj;let(m,rfl,rfl,rfl):=eP ex;let k6:(k:Int) < 12:=()
   let OT:0<=3+wd * (k:Int)/\3+wd * (k:Int)<=100:=by rcases hwd with rfl| rfl <;> omega
   let bw:iG wd:=bg (k:=10) ();let OC:∀c1 c2,(M'++[pR c1 c2,MO.lst (rs.map Κ)])[-M'+1]? =!(.lst (rs.map Κ)):=λc1 c2=>by simp
   let atC:∀c1 c2,(M'++[pR c1 c2,MO.lst (rs.map Κ)])[-M']? =!(pR c1 c2):=λc1 c2=>by simp
   let setM:∀c1 c2 (y:Rw),(M'++[pR c1 c2,MO.lst (rs.map Κ)]).set (-M'+1) (.lst (rs.map Κ++[Κ y]))=M'++[pR c1 c2,.lst ((rs++[y]).map Κ)]:=λc1 c2 y=>by simp[List.set_append]
   let setC:∀c1 c2 m,(M'++[pR c1 c2,MO.lst (rs.map Κ)]).set (-M') m=M'++[m,MO.lst (rs.map Κ)]:=λc1 c2 m=>by simp[List.set_append]
   let lt:-(rs.map Κ) < sizeLine:=by rw[aah,hl];show abt (show k<=12 by omega) @_
   let more:∀y,uR sz y->∀r∈rs++[y],uR sz r:=λy hy r hr=>by
    rcases abo.mp hr with hr| hr
    .show hd r hr
    .have:r=y:=by simpa using hr
     rw[this];show hy
   show((bw,bg (k:=10) ()),ns,_,rfl,OT.1,(),λf hf=>(@_,?_));let(kd0,ek,Va):=J0 (n:=f);show χ rfl ek ?_;let w1:0 < wd - 1:=()
   let VZ:=abK (f / 7) (show wd - 1≠0 by omega);let hm1:=abG (f / 7) w1;obtain⟨mn,emn,Y',mn6⟩:∃mn:Nat,1+f / 7 % (wd - 1)=(mn:Int)/\1<=mn/\mn<=6:=((1+f / 7 % (wd - 1)).toNat,(),(),());show((@_,bg (k:=4) @_),w1,?_);dsimp only[z7];rw[emn];show⟨λρ M2=>M2=M'++[pR c1 c2,MO.lst (rs.map Κ)]/\∃kd:Str,(Ξ kd=true\/kd="chance"\/kd="end")/\ρ=[!(.fX ns),!(.int sz),!(.int wd),!(.int kp),!(.loc (-M')),!(.loc (-M'+1)),!(.int (k:Int)),!(.int (3+wd * (k:Int))),!(.int f),!(.str kd),!(.int mn)],(λ_=>(ns,1,rfl,@_,@_,λn2 Td=>((@_,bg (k:=5) @_),@_,λ_=>(rfl,"end",.inr (.inr rfl),rfl),λ_=>(rfl,kd0,Va,rfl))),λ_=>(nofun,λ_=>(rfl,kd0,Va,rfl))),?_⟩;rintro ρ2 M2 ⟨rfl,kd,Ih,rfl⟩;show⟨λρ M2=>∃(c1 c2:List Int) (mm:Nat),j0 c1/\j0 c2/\1<=mm/\mm<=6/\M2=M'++[pR c1 c2,MO.lst (rs.map Κ)]/\ρ=[!(.fX ns),!(.int sz),!(.int wd),!(.int kp),!(.loc (-M')),!(.loc (-M'+1)),!(.int (k:Int)),!(.int (3+wd * (k:Int))),!(.int f),!(.str kd),!(.int mm)],?_,?_⟩
   .let same:∃(c1' c2':List Int) (mm:Nat),j0 c1'/\j0 c2'/\1<=mm/\mm<=6/\M'++[pR c1 c2,MO.lst (rs.map Κ)]=M'++[pR c1' c2',MO.lst (rs.map Κ)]/\[!(Dt.fX ns),!(.int sz),!(.int wd),!(.int kp),!(.loc (-M')),!(.loc (-M'+1)),!(.int (k:Int)),!(.int (3+wd * (k:Int))),!(.int f),!(.str kd),!(.int mn)]=[!(.fX ns),!(.int sz),!(.int wd),!(.int kp),!(.loc (-M')),!(.loc (-M'+1)),!(.int (k:Int)),!(.int (3+wd * (k:Int))),!(.int f),!(.str kd),!(.int mm)]:=(c1,c2,mn,k1,k2,Y',mn6,rfl,rfl);walk_at "vc";show(-M',_,_,Sum.inr kd,rfl,atC c1 c2,rfl,λz=>(λz2=>?_,λ_=>same),λz=>(nofun,λ_=>same));let two:kd="one"\/kd="other":=by
     unfold MR at z;rw[ab6,ab6,List.any_nil,Bool.or_false,Bool.or_eq_true,abb,abb]at z;rcases z with z| z
     .show .inl (Sum.inr.inj z).symm
     .show .inr (Sum.inr.inj z).symm
    rcases two with rfl| rfl
    .skip
     let(v,ev,v1,v6):=vR k1;show(-M',_,_,Sum.inr "one",_,rfl,atC c1 c2,rfl,rfl,?_);show(_,_,rfl,rfl,by rw[aah];have:=k1.1;show aaH (show _<=4 by change -c1+1<=4;omega) @_,?_);show(χ (d:=.lst (c1.map Dt.int++[.int 1])) rfl ev ?_:cG (.lst (c1.map Dt.int++[.int 1])) (.int 0) _ _);obtain⟨mm,emm,Ux,U1⟩:∃mm:Nat,(if v < (mn:Int) then v else (mn:Int))=(mm:Int)/\1<=mm/\mm<=6:=by
      by_cases c:v < (mn:Int)
      .rw[aaP c];show(v.toNat,(),(),())
      .rw[aaK c];show(mn,rfl,Y',mn6)
     dsimp only[IC,pE,U',N8];rw[emm];walk_at "vc";show(-M',_,_,Sum.inr "one",_,rfl,atC c1 c2,rfl,rfl,?_);show(c1.map Dt.int,1,rfl,rfl,?_);rw[<-ab7];show cR (oB _) ?_;show(-M',_,_,Sum.inr "one",rfl,atC c1 c2,rfl,by change 2 < 1000;decide,?_);show(c1.drop 1,c2,mm,k1.drop,k2,Ux,U1,setC c1 c2 _,rfl)
    .skip
     let(v,ev,v1,v6):=vR k2;show(-M',_,_,Sum.inr "other",_,rfl,atC c1 c2,rfl,rfl,?_);show(_,_,rfl,rfl,by rw[aah];have:=k2.1;show aaH (show _<=4 by change -c2+1<=4;omega) @_,?_);show(χ (d:=.lst (c2.map Dt.int++[.int 1])) rfl ev ?_:cG (.lst (c2.map Dt.int++[.int 1])) (.int 0) _ _);obtain⟨mm,emm,Ux,U1⟩:∃mm:Nat,(if v < (mn:Int) then v else (mn:Int))=(mm:Int)/\1<=mm/\mm<=6:=by
      by_cases c:v < (mn:Int)
      .rw[aaP c];show(v.toNat,(),(),())
      .rw[aaK c];show(mn,rfl,Y',mn6)
     dsimp only[IC,pE,U',N8];rw[emm];walk_at "vc";show(-M',_,_,Sum.inr "other",_,rfl,atC c1 c2,rfl,rfl,?_);show(c2.map Dt.int,1,rfl,rfl,?_);rw[<-ab7];show cR (oB _) ?_;show(-M',_,_,Sum.inr "other",rfl,atC c1 c2,rfl,by change 2 < 1000;decide,?_);show(c1,c2.drop 1,mm,k1,k2.drop,Ux,U1,setC c1 c2 _,rfl)
   rintro ρ3 M3 ⟨c1,c2,mm,k1,k2,Ux,U1,rfl,rfl⟩;let first:∃k' xs',Dt.loc (-M'+1)= .loc k'/\(M'++[pR c1 c2,MO.lst (rs.map Κ)])[k']? =!(.lst xs'):=(_,_,rfl,OC c1 c2)
   show(λz=>?_,λz=>?_)
   .show(first,(@_,bg (k:=4) @_),_,rfl,IE hf @_,λp hp Xm=>(fI,-M'+1,_,_,rfl,rfl,OC c1 c2,lt,?_));show gc _ _ (m,k+1,rs++[Rw.fin p],c1,c2,_,_,_,_,_,by simp,(),by simp[hl],more (.fin p) ((Xm,hp),λ_ _ z=>(nomatch z)),k1,k2,setM c1 c2 (.fin p),rfl)
   .let z:kd≠"end":=abh z;let Ih:Ξ kd=true\/kd="chance":=by
     rcases Ih with hk| hk| hk
     .show .inl hk
     .show .inr hk
     .show aa5 hk z
    show(first,ns,_,kd,mm,sz,rfl,(),(),Ux,U1,(),(),Ih,λds SS=>cR (fL ds) ?_);show(fI,-M'+1,_,_,rfl,rfl,OC c1 c2,lt,?_);show gc _ _ (m,k+1,rs++[Rw.υ kd ds],c1,c2,_,_,_,_,_,by simp,(),by simp[hl],more (.υ kd ds) SS,k1,k2,setM c1 c2 (.υ kd ds),rfl)
  .let(n,k,rs,c1,c2,o1,o2,o3,o4,o5,ex,KW,hl,hd,k1,k2,rfl,rfl):=hj;let hn:n=0:=by have:=abm List.length ex;unfold df at this;simpa using this.symm
   let e:-rs=sz:=()
   show h rs () () (by rw[e];show hd) _
def QD{k:Nat}(h:gs.Pairwise (· < ·))(hl:∀g∈gs,g < k):(gs++[k]).Pairwise (· < ·):=by
 rw[List.pairwise_append];show(h,List.pairwise_singleton _ _,λa ha b hb=>?_);have:b=k:=by simpa using hb
 rw[this];show hl a ha
def L6:DF:=λas M q _=>∃(γ:List Rw) (n:Int),as=[.lst (γ.map Κ),.int n]/\-γ<=12/\(∀r∈γ,gw r)/\∀gs,cz γ gs->-gs<=12->q (.loc (-M)) (M++[.lst (gs.map bq)])
def jE:Γ ["_law_rows_here","_law_number_here","_law_found","_law_place"] ["_law_rows_here","_law_number_here"] (τ pY):=.of rfl
def Bf(F:de K "_law_goals" "_law_goals" pY f fd)(E:Ev K mg Cm):aC P w K mg base (cI P w) 1 f fd ["_law_rows_here","_law_number_here"] (da K L6):=by
 show F.d9 jE (λds M q x h=>?_) (λbI A outer s H E' hr=>(_,(ζ (ω 2 jE.nd (jU ε))
   (ζ (lj (bT E.bz (δ (cE E.bK (Μ (jv 0) ε)) ε aS)) (ai (i:=3) jE.nd rfl (Or.inl rfl)) aL (ι (ah (cX hr (Η (Η (jv 0) (jv 3)) ν) dX) (ζ (gQ (ah (wM (bj (jv 1) ν) ν) (ι (cB (f_ (jv 2) (Μ (jv 3) ε)))) Ε))
   (ι (ω 1 jE.nd (cL (jv 1) ν)))) Ε)))
   (ι (Α (jv 2))))),λds M q x h=>?_))
 .let(γ,n,rfl,_):=h;rfl
 .let(γ,nn,rfl,O5,ro,h):=h;show(@_,?_);walk_at "vc";show(az (d:=.lst (γ.map Κ)) (xs:=γ.map Κ) rfl ?_:fi [.lst (γ.map Κ)] _ _);rw[aah];show(((),()),?_);show eV (λzs ρ M2=>∃(n k:Nat) (gs:List Nat) (m:Int) (o1:Option Dt),zs=df k n/\k+n=-γ/\cz γ gs/\(∀g∈gs,g < k)/\-gs<=k/\M2=M++[MO.lst (gs.map bq)]/\ρ=[!(.lst (γ.map Κ)),!(.int m),!(.loc (-M)),o1]) (λx zs ρ M2 hj gc=>?_) (λρ M2 hj=>?_) _ _ _ (-γ,0,[],nn,none,by simp,by simp,(.nil,λ_ z=>(nomatch z)),λ_ z=>(nomatch z),Nat.le_refl _,rfl,rfl)
  .let(n,k,gs,mm,o1,ex,KW,hg,wI,hl,rfl,rfl):=hj;let(m,rfl,rfl,rfl):=eP ex;let hk:k < -γ:=()
   let rk:γ[k]? =!γ[k]:=aad hk;let hr:=ro _ (aax hk);generalize γ[k]=r at rk hr;let a1:ic (γ.map Κ) (k:Int)=!(Κ r):=Λ (jO rk);let OC:(M++[MO.lst (gs.map bq)])[-M]? =!(.lst (gs.map bq)):=by simp
   let setM:(M++[MO.lst (gs.map bq)]).set (-M) (.lst (gs.map bq++[bq k]))=M++[.lst ((gs++[k]).map bq)]:=by simp
   let lt:-(gs.map bq) < sizeLine:=by rw[aah];show abt (show -gs<=12 by omega) @_
   walk_at "vc";show(χ (d:=.lst (γ.map Κ)) rfl a1 ?_:cG (.lst (γ.map Κ)) (.int (k:Int)) _ _);cases r with
   | υ kd ds=>
    show(λz=>absurd (of_decide_eq_true z) hr.1,λ_=>gc _ _ (m,k+1,gs,mm,_,by simp,(),hg,λg Sw=>Nat.lt_succ_of_lt (wI g Sw),(),rfl,rfl))
   | fin p=>
    show(λ_=>?_,nofun);show⟨λρ M2=>∃Ta,cz γ Ta/\(∀g∈Ta,g < k+1)/\-Ta<=k+1/\M2=M++[MO.lst (Ta.map bq)]/\ρ=[!(.lst (γ.map Κ)),!(.int mm),!(.loc (-M)),!(.int (k:Int))],(@_,λ_=>?_,λ_=>?_),?_⟩
    .show((-M,_,rfl,OC),-M,_,_,rfl,rfl,OC,lt,gs++[k],(QD hg.up wI,λg Sw=>?_),λg Sw=>?_,by simp;omega,setM,rfl)
     .rcases abo.mp Sw with z| z
      .show hg.fin g z
      .have:g=k:=by simpa using z
       rw[this];show(p,rk)
     .rcases abo.mp Sw with z| z
      .show ab2 (wI g z)
      .have:g=k:=by simpa using z
       omega
    .show(gs,hg,λg Sw=>ab2 (wI g Sw),(),rfl,rfl)
    .rintro ρ2 M2 ⟨Ta,g1,g2,g3,rfl,rfl⟩;show((@_,bg (k:=4) @_),gc _ _ (m,k+1,Ta,_,_,by simp,(),g1,g2,g3,rfl,rfl))
  .let(n,k,gs,mm,o1,ex,KW,hg,wI,hl,rfl,rfl):=hj;let hn:n=0:=by have:=abm List.length ex;unfold df at this;simpa using this.symm
   show h gs hg ()
def CI:DF:=λas M q _=>∃n:Int,as=[.int n]/\q (.bl true) M
def CW:Γ ["_law_one"] ["_law_one"] (τ o9):=.of rfl
def A0(F:de K "_law_is_int" "_law_is_int" o9 f fd)(E:Ev K mg Cm):aC P w K mg base (cI P w) 1 f fd ["_law_one"] (da K CI):=by
 show F.d9 CW (λds M q x h=>?_) (λbI A outer s H E' hr=>(_,(ι (Α (gf (Sm (O7 K E.bN (Μ (jv 0) (Μ (Hy E.wY CF) ε)))) (iK (O7 K E.bN (Μ (jv 0) (Μ (Hy E.EC HC) ε))))))),λds M q x h=>?_))
 .let(n,rfl,_):=h;rfl
 .let(n,rfl,h):=h;walk_at "vc";show(Fh rfl rfl E.ib ?_:G6 K [.int n,.ty "bool"] M _);show(λ_=>(Fh rfl rfl uB h:G6 K [.int n,.ty "int"] M _),nofun)
def QO(M:Ms)(d:Dt)(xs:List Dt):Prop:=d= .lst xs\/∃k,d= .loc k/\M[k]? =!(.lst xs)
def QO.kind(h:QO M d xs):Je M d=!(.type "list"):=by
 rcases h with rfl| ⟨k,rfl,h⟩
 .rfl
 .change(match M[k]? with| some (.lst _)=>!(Value.type "list")| _=>none)=_;rw[h]
def Om{k:Nat}(h:M[k]? =!(MO.lst xs)):i6 M (.loc k)=!(xs, λM':Ms=>M'[k]? =!(MO.lst xs)):=by change(match M[k]? with| some (MO.lst xs)=>!(xs, λM':Ms=>M'[k]? =!(MO.lst xs))| _=>none)=_;rw[h]
def QO.k{M:Ms}(h:QO M d xs):∃ok,i6 M d=!(xs, ok):=by
 rcases h with rfl| ⟨k,rfl,h⟩
 .show(λ_=>True,rfl)
 .show(_,Om h)
structure Oj(tb:List Fr)(n:Nat):Prop where
 len:-tb=n
 red:∀i,i < n->Red (tb.getD i (0, 1))
 unt:∀i,i < n->0<=(tb.getD i (0, 1)).1/\(tb.getD i (0, 1)).1<=(tb.getD i (0, 1)).2
 sz:∀i,i < n->Sz 400 (tb.getD i (0, 1))
def Oj.at{tb:List Fr}{n:Nat}(h:Oj tb n){t:Int}(h0:0<=t)(h1:t < n):ic (tb.map aI) t=!(aI (tb.getD t.toNat (0, 1))):=by
 let hl:t.toNat < -tb:=by rw[h.len];omega
 let e2:(tb.map aI)[t.toNat]? =!(aI (tb.getD t.toNat (0, 1))):=by rw[aat,aae,aad hl];rfl
 have:=Λ e2;rwa[show((t.toNat:Nat):Int)=t by omega]at this
def ON{p:Fr}{k:Bool->Ms->Prop}(h:k false M):Ov (aI p) (aI p) M (λd M1=>match d with| .bl b=>k b M1| _=>False):=by change k (! kf [.int p.1,.int p.2] [.int p.1,.int p.2]) M;rw[Q3,aaB rfl];show h
def La{f:br->Rat}:∀{ds:List br},(∀d∈ds,f d=0)->aN f ds=0
 | [],_=>rfl
 | d::ds,h=>by change f d+aN f ds=0;rw[h d List.mem_cons_self,La λx hx=>h x (List.mem_cons_of_mem _ hx)];grind
def zT{f:br->Rat}:∀{ds:List br},(∀d∈ds,0<=f d)->∀{e:br},e∈ds->0 < f e->0 < aN f ds
 | d::ds,h,e,he,hp=>by
  let nn:∀{l:List br},(∀d∈l,0<=f d)->0<=aN f l:=λ{l}=>by
   induction l with
   | nil=>intro _;change(0:Rat)<=0;grind
   | cons a l ih=>
    intro h;have:=ih λx hx=>h x (aag _ hx);have:=h a aai;change 0<=f a+aN f l;grind
  let n1:=nn λx hx=>h x (aag _ hx);let n2:=h d aai;change 0 < f d+aN f ds;rcases aaS.mp he with z| z
  .rw[z]at hp;grind
  .have:=zT (λx hx=>h x (aag _ hx)) z hp;grind
section
variable{S2:Sp}{a:Pl}{k:Str}
def c9.dk(fr:FR θ γ)(t:c9 γ gs S S2 p a tb):qi γ (aP p a):=jK fr t.fp t.kp.fa
def c9.Ie(t:c9 γ gs S S2 p a tb):OU γ S (aP p a):=t.pr a t.kp.fa
def c9.tk(fr:FR θ γ)(t:c9 γ gs S S2 p a tb):Oj tb (-γ):=
 (t.kp.ch.tab.len,t.kp.ch.tab.red,λi il=>let  z:=t.kp.ch.sz fr (t.dk fr) t.dr t.Ie il;(z.2.1,z.2.2.1),λi il=>(t.kp.ch.sz fr (t.dk fr) t.dr t.Ie il).2.2.2)
def c9.unit(fr:FR θ γ)(t:c9 γ gs S S2 p a tb):∀i,i < -γ->0<=V_ tb i/\V_ tb i<=1:=t.kp.ch.unit fr (t.dk fr) t.dr t.Ie
def c9.Gd(t:c9 γ gs S S2 p a tb)(il:i < -γ)(h:at_ S i=none):V_ tb i=0:=by rw[t.kp.ch.no il λ(s,e)=>by rw[h]at e;cases e];unfold qe;rw[h];show qp
def c9.goal(t:c9 γ gs S S2 p a tb)(il:i < -γ)(h:at_ S i=!0):V_ tb i=1:=by rw[t.kp.ch.no il λ(s,e)=>by rw[h]at e;cases e];unfold qe;rw[h];show sX
def c9.hand(fr:FR θ γ)(t:c9 γ gs S S2 p a tb)(hi:γ[i]? =!(.υ k ds))(hh:Ξ k=true):∃(j:Nat) (jl:j < -ds),Τ (if k="one" then p else a) i=!(j:Int)/\(∀d∈ds,fS k * V_ tb d.1.toNat<=fS k * V_ tb ds[j].1.toNat)/\(rj S i->V_ tb i=V_ tb ds[j].1.toNat):=by
 let il:=(aam.mp hi).1;rcases kL fr hi with rfl| rfl| rfl
 .let(j,jl,gj,al):=zy fr ae t.fp t.kp.ch.tab.red t.np hi;show(j,jl,by rw[aaP rfl];show gj,al,λst=>?_);rw[t.kp.ch.st il st,dG fr hi ae (by rw[eX fr t.kp.fa hi];show gj) jl st]
 .let(j,jl,gj,al):=zy fr au t.kp.fa t.kp.ch.tab.red t.na hi;show(j,jl,by rw[aaK @_];show gj,al,λst=>?_);rw[t.kp.ch.st il st,dG fr hi au (by rw[gy fr t.kp.fa hi];show gj) jl st]
 .show aa5 hh @_
def c9.Iu(fr:FR θ γ)(t:c9 γ gs S S2 p a tb)(hi:γ[i]? =!(.υ "chance" ds)):V_ tb i=aN (λd=>cV d * V_ tb d.1.toNat) ds:=by
 let il:=(aam.mp hi).1;let FW:=c7 fr.pl (aap hi);by_cases st:rj S i
 .rw[t.kp.ch.st il st,jF st,cy hi];unfold eY;rw[gF fr t.fp t.kp.fa hi];rfl
 .let hn:at_ S i=none:=by
   have:=t.dr.2 i _ hi;let this:gS "chance" (bo S ds) (at_ S i):=this;unfold gS at this;rw[aaK @_]at this;rcases this with ⟨z,_⟩| ⟨v,z,_⟩
   .show z
   .show aa5 (v,z) st
  rw[t.Gd il hn,La λd hd=>?_];have:=qa t.dr hi @_ hn d hd;rw[t.Gd (by have:=FW.to d hd;omega) this];grind
def c9.pos(fr:FR θ γ)(t:c9 γ gs S S2 p a tb):∀(s i:Nat),i < -γ->at_ S i=!s->0 < V_ tb i:=λs=>by
 induction s using Nat.strongRecOn with
 | _ s ih=>
  intro i il e;cases s with
  | zero=>rw[t.goal il e];grind
  | succ s=>
   let st:rj S i:=(s,e);let(k,ds,hi):=jB t.dr il st;let FW:=c7 fr.pl (aap hi);let tn:∀d∈ds,d.1.toNat < -γ:=λd hd=>by have:=FW.to d hd;omega
   let(n1,d1,Kd,PC):=jq t.dr hi e;rcases kL fr hi with rfl| rfl| rfl
   .let(j,jl,_,al,es):=t.hand fr hi ae;have:=al d1 Kd;rw[mI]at this;have:=ih s () d1.1.toNat (tn d1 Kd) PC;rw[es st];grind
   .let(j,jl,_,_,es):=t.hand fr hi au;rw[es st];let(u,eu,lu):=n1 rfl _ (aax jl);show ih u () _ (tn _ (aax jl)) eu
   .rw[t.Iu fr hi];let co:AR (ds.map ο):=by
     rcases FW.kd with z| ⟨_,_,z⟩
     .show aa5 z @_
     .show z
    show zT (λd hd=>Rat.mul_nonneg (Rat.le_of_lt (rL co d hd)) (t.unit fr _ (tn d hd)).1) Kd ?_;show Rat.mul_pos (rL co d1 Kd) (ih s () _ (tn d1 Kd) PC)
def c9.best(fr:FR θ γ)(t:c9 γ gs S S2 p a tb)(hi:γ[i]? =!(.υ k ds))(hh:Ξ k=true):tb.getD i (0, 1)=cY k (aM tb ds):=by
 let il:=(aam.mp hi).1;let FW:=c7 fr.pl (aap hi);let tn:∀d∈ds,d.1.toNat < -γ:=λd hd=>by have:=FW.to d hd;omega
 let(j,jl,_,al,es):=t.hand fr hi hh;let red:=t.kp.ch.tab.red
 let(bm,bb):=rT (k:=k) (ns:=aM tb ds) (λz=>by
  have:=abm List.length z;unfold aM at this;rw[aah]at this;let l1:=FW.l1;rw[this]at l1
  show aa5 l1 @_) λn hn=>by let(d,hd,rfl):=aaz.mp hn;show(red _ (tn d hd)).pos
 let(d,hd,eb):=aaz.mp bm;let eb:tb.getD d.1.toNat (0, 1)=cY k (aM tb ds):=eb;rw[<-eb];show lU (red i il) (red _ (tn d hd)) ?_;let e1:V_ tb d.1.toNat=V_ tb ds[j].1.toNat:=by
  let x:=al d hd;let y:=bb _ (aaz.mpr (ds[j],aax jl,rfl));rw[<-eb]at y;let y:fS k * V_ tb ds[j].1.toNat<=fS k * V_ tb d.1.toNat:=y;have:fS k * V_ tb d.1.toNat=fS k * V_ tb ds[j].1.toNat:=by grind
  unfold fS at this;split at this <;> grind
 change V_ tb i=V_ tb d.1.toNat;by_cases st:rj S i
 .rw[es st,e1]
 .let jj:=t.dr.2 i _ hi;let jj:gS k (bo S ds) (at_ S i):=jj;let hn:at_ S i=none:=by
   unfold gS at jj;split at jj
   .rcases jj with ⟨z,_⟩| ⟨v,z,_⟩
    .show z
    .show aa5 (v,z) st
   .rcases jj with ⟨z,_⟩| ⟨v,z,_⟩
    .show z
    .show aa5 (v,z) st
  rw[t.Gd il hn];by_cases hk:k="other"
  .unfold gS at jj;rw[aaP hk]at jj;rcases jj with ⟨_,z⟩| ⟨v,z,_⟩
   .let(d2,hd2,ed2):=Ψ.mp z;let z2:=t.Gd (tn d2 hd2) ed2;have:=al d2 hd2;rw[z2,<-e1,hk,uc]at this;have:=(t.unit fr _ (tn d hd)).1;grind
   .show aa5 (v,z) st
  .show(t.Gd (tn d hd) (qa t.dr hi hk hn d hd)).symm
end
section
def Eg(S:Sp)(u p:Nat):Bool:=match at_ S p with
 | some v=>decide (v<=u)
 | none=>false
def tq{p:Nat}:Eg S u p=true↔∃v,at_ S p=!v/\v<=u:=by
 unfold Eg;cases e:at_ S p with
 | none=>show(nofun,λ(v',e',_)=>by cases e')
 | some v=>
  change decide (v<=u)=true↔_;rw[abb];show(λh=>(v,rfl,h),λ(v',e',h)=>by cases e';show h)
def EV{p:Nat}(hl:-S=-γ)(e:at_ S p=!s):p < -γ:=by
 rcases Nat.lt_or_ge p (-γ) with h| h
 .show h
 .unfold at_ at e;rw[aae,List.getElem?_eq_none ()]at e;cases e
def vc(dr:aR γ gs S){p:Nat}(e:at_ S p=!(s+1)):∃k ds,γ[p]? =!(.υ k ds):=by let pl:=EV (γ:=γ) dr.1 e;show jB dr pl (s,e)
def wa(dr:aR γ gs S):∀{s p:Nat},at_ S p=!s->∀u,u<=s->∃q,q < -γ/\at_ S q=!u
 | 0,p,e,u,hu=>(p,EV dr.1 e,by rw[e,show u=0 by omega])
 | s+1,p,e,u,hu=>by
  by_cases c:u=s+1
  .rw[c];show(p,EV dr.1 e,e)
  .let(k,ds,hi):=vc dr e;let(_,d,_,ed):=jq dr hi e;show wa dr ed u ()
def JX(dr:aR γ gs S){p:Nat}(e:at_ S p=!s):s < -γ:=by
 let ex:=wa dr e;let cnt:∀u,u<=s->u+1<=(List.range (-γ)).countP (Eg S u):=λu=>by
  induction u with
  | zero=>
   intro h;let(q,ql,eq):=ex 0 h;show List.countP_pos_iff.mpr (q,abr.mpr ql,tq.mpr (0,eq,aaq _))
  | succ u ih=>
   intro h;have:=ih ();let(q,ql,eq):=ex (u+1) h
   let lt:=CN (P:=Eg S u) (Q:=Eg S (u+1)) (l:=List.range (-γ)) (λa _ ha=>by
    let(v,ev,lv):=tq.mp ha
    show tq.mpr (v,ev,())) (abr.mpr ql) (tq.mpr (u+1,eq,aaq _)) (by
    cases hb:Eg S u q with
    | false=>rfl
    | true=>
     let(v,ev,lv):=tq.mp hb;rw[eq]at ev;cases ev
     omega)
   omega
 let a:=cnt s (aaq _);let b:=List.countP_le_length (p:=Eg S s) (l:=List.range (-γ));rw[abu]at b;omega
end
section
variable{S2:Sp}{a:Pl}{k:Str}
def zZ(hi:γ[i]? =!(.υ k ds)):(gq p 0 γ)[i]? =!(ik p i (.υ k ds)):=by rw[kz,hi,acj];rfl
def c9.Ez(fr:FR θ γ)(t:c9 γ gs S S2 p a tb)(hi:γ[i]? =!(.υ k ds)):∃es,(gq p 0 γ)[i]? =!(.υ k es)/\gS k (bo S2 es) (at_ S2 i)/\(k≠"one"->es=ds)/\(k="one"->∃(j:Nat) (jl:j < -ds),Τ p i=!(j:Int)/\es=[ds[j]]):=by
 let hr:=zZ (p:=p) hi;by_cases hk:k="one"
 .subst hk;let(j,jl,gj,e):=Bk fr t.fp hi;rw[e]at hr;show(_,hr,t.d2.2 i _ hr,λz=>aa5 rfl z,λ_=>(j,jl,gj,rfl))
 .rw[nW fr t.fp hi hk]at hr;show(_,hr,t.d2.2 i _ hr,λ_=>rfl,λz=>aa5 z hk)
def c9.Kw(fr:FR θ γ)(t:c9 γ gs S S2 p a tb)(hi:γ[i]? =!(.fin e)):at_ S2 i=if i∈gs then !0 else none:=by
 let hr:(gq p 0 γ)[i]? =!(.fin e):=by rw[kz,hi,acj];change (!(ik p i (.fin e)))=_;rw[nW fr t.fp hi (by change¬(Str.ofString "end"=Str.ofString "one");decide)]
 show t.d2.2 i _ hr
def c9.XB(t:c9 γ gs S S2 p a tb)(e:at_ S2 i=!s):i < -γ:=by have:=EV (γ:=gq p 0 γ) t.d2.1 e;rwa[eN]at this
def c9.s2s (fr:FR θ γ) (t:c9 γ gs S S2 p a tb):∀(s i:Nat),at_ S2 i=!s->at_ S i≠none:=λs=>by
 induction s using Nat.strongRecOn with
 | _ s ih=>
  intro i e hn;let il:=t.XB e;let hi:=rw_at il;cases hr:bR γ i with
  | fin q=>
   rw[hr]at hi;let h2:=t.Kw fr hi;let h1:=t.dr.2 i _ hi;let h1:at_ S i=if i∈gs then !0 else none:=h1
   rw[hn]at h1;rw[e]at h2;split at h1
   .cases h1
   .rename_i c;rw[aaK c]at h2;cases h2
  | υ k ds=>
   rw[hr]at hi;let(es,rD,fB,K5,qT):=t.Ez fr hi;let jj:=t.dr.2 i _ hi;let jj:gS k (bo S ds) (at_ S i):=jj;unfold gS at jj fB;rw[e]at fB;rw[hn]at jj;by_cases hk:k="other"
   .rw[aaP hk]at jj fB;rcases jj with ⟨_,z⟩| ⟨v,z,_⟩
    .rcases fB with ⟨y,_⟩| ⟨v,y,_,al⟩
     .cases y
     .let(d,hd,ed):=Ψ.mp z;rw[K5 (by rw[hk];decide)]at al;let(u,eu,lu):=al _ (Ψ.mpr (d,hd,rfl));cases y;show ih u () _ eu ed
    .cases z
   .rw[aaK hk]at jj fB;rcases jj with ⟨_,z⟩| ⟨v,z,_⟩
    .rcases fB with ⟨y,_⟩| ⟨v,y,hv,_⟩
     .cases y
     .let(d,hd,ed):=Ψ.mp hv;cases y;let dm:d∈ds:=by
       by_cases ho:k="one"
       .let(j,jl,_,ee):=qT ho;rw[ee]at hd;rw[abi.mp hd];show aax jl
       .rw[K5 ho]at hd;show hd
      show ih v () _ ed (z _ (Ψ.mpr (d,dm,rfl)))
    .cases z
def c9.V1(fr:FR θ γ)(t:c9 γ gs S S2 p a tb)(il:i < -γ)(hv:0 < V_ tb i):at_ S2 i≠none:=λhn=>by
 classical
 let pos:∀j,j < -γ->0 < V_ tb j->at_ S j≠none:=λj jl h z=>by rw[t.Gd jl z]at h;grind
 let(m,ml,(mv,mn),mm):=xD (λj=>0 < V_ tb j/\at_ S2 j=none) (V_ tb) (-γ) (i,il,hv,hn)
 let  ch:Nat->Int:=λj=>match γ[j]? with
  | some (.υ _ ds)=>if h:∃x:Nat,∃xl:x < -ds,at_ S2 ds[x].1.toNat=none then ((h.choose:Nat):Int) else 0
  | _=>0
 let  a':Pl:=(cH γ "other").map λj:Nat=>((j:Int), ch j)
 let fa:ak (fK γ "other") a':=by
  let key:∀{l:List Nat},(∀j∈l,0<=ch j/\ch j < (-(aE (bR γ j)):Int))->ak (l.map λj:Nat=>((j:Int), -(aE (bR γ j)))) (l.map λj:Nat=>((j:Int), ch j)):=λ{l}=>by
   induction l with
   | nil=>exactλ_=>trivial
   | cons b l ih=>exactλh=>(rfl,(h b aai).1,(h b aai).2,ih λj hj=>h j (aag _ hj))
  show key λj hj=>?_;let(ds,hr,ed,l1):=fY fr au hj;rw[ed];let ec:ch j=if h:∃x:Nat,∃xl:x < -ds,at_ S2 ds[x].1.toNat=none then ((h.choose:Nat):Int) else 0:=by change(match γ[j]? with| some (.υ _ ds)=>if h:∃x:Nat,∃xl:x < -ds,at_ S2 ds[x].1.toNat=none then ((h.choose:Nat):Int) else 0| _=>0)=_;rw[hr]
  rw[ec];by_cases h:∃x:Nat,∃xl:x < -ds,at_ S2 ds[x].1.toNat=none
  .rw[dif_pos h];let(xl,_):=h.choose_spec;omega
  .rw[dif_neg h];omega
 show t.pr a' fa (λj=>j < -γ/\0 < V_ tb j/\at_ S2 j=none/\V_ tb j=V_ tb m) (λj jl hj=>?_) m ml (ml,mv,mn,rfl);let(_,jv,jn,je):=hj;let st:rj S j:=by
  cases e:at_ S j with
  | none=>show aa5 e (pos j jl jv)
  | some v=>
   cases v with
   | succ v=>show(v,e)
   | zero=>
    exfalso;let hi:=rw_at jl;cases hr:bR γ j with
    | fin q=>
     rw[hr]at hi;let h2:=t.Kw fr hi;let h1:=t.dr.2 j _ hi;let h1:at_ S j=if j∈gs then !0 else none:=h1
     rw[e]at h1;rw[jn]at h2;split at h1
     .rename_i c;rw[aaP c]at h2;cases h2
     .cases h1
    | υ k ds=>
     rw[hr]at hi;let jj:=t.dr.2 j _ hi;let jj:gS k (bo S ds) (at_ S j):=jj;unfold gS at jj;rw[e]at jj;split at jj
     .rcases jj with ⟨z,_⟩| ⟨v,z,_⟩ <;> cases z
     .rcases jj with ⟨z,_⟩| ⟨v,z,_⟩ <;> cases z
 show(st,?_);let(k,ds,hi):=jB t.dr jl st;let FW:=c7 fr.pl (aap hi);let tn:∀d∈ds,d.1.toNat < -γ:=λd hd=>by have:=FW.to d hd;omega
 let(es,rD,fB,K5,qT):=t.Ez fr hi;unfold gS at fB;rw[jn]at fB;rw[jF st,cy hi];rcases kL fr hi with rfl| rfl| rfl
 .let(x,xl,gx,ee):=qT rfl;rw[aaK @_]at fB;let(j',tM,tE,_,Q9):=t.hand fr hi ae;rw[aaP rfl,gx]at tE;let ex:x=j':=by have:=aay tE;omega
  subst ex;rw[h9 fr hi ae (by rw[eX fr fa hi];show gx) xl];intro d hd;rw[abi.mp hd];let ev:=Q9 st;rcases fB with ⟨_,z⟩| ⟨v,z,_⟩
  .show((tn ds[x] (aax xl):ds[x].1.toNat < -γ),?_,z _ (Ψ.mpr (ds[x],by rw[ee];show abi.mpr rfl,rfl)),?_)
   .change 0 < V_ tb ds[x].1.toNat;rw[<-ev];show jv
   .change V_ tb ds[x].1.toNat=V_ tb m;rw[<-ev];show je
  .cases z
 .rw[aaP rfl]at fB;rcases fB with ⟨_,z⟩| ⟨v,z,_⟩
  .rw[K5 @_]at z;let(d,hd,ed):=Ψ.mp z;let(x0,x0l,ex0):=abH hd;let h:∃x:Nat,∃xl:x < -ds,at_ S2 ds[x].1.toNat=none:=(x0,x0l,by rw[ex0];show ed);let(xl,xn):=h.choose_spec;let hm:j∈cH γ "other":=ki.mpr (jl,lF hi);let g:Τ a' (j:Int)=!((h.choose:Nat):Int):=by
    have:=vL (f:=ch) hm;rw[this]
    congr 1
    change(match γ[j]? with| some (.υ _ ds)=>if h:∃x:Nat,∃xl:x < -ds,at_ S2 ds[x].1.toNat=none then ((h.choose:Nat):Int) else 0| _=>0)=_;rw[hi];dsimp only;rw[dif_pos h]
   generalize h.choose=x at *
   let(j',tM,_,al,Q9):=t.hand fr hi au;rw[h9 fr hi au (by rw[gy fr fa hi];show g) xl];intro d' Mi;rw[abi.mp Mi];let ev:=Q9 st;let le:=al _ (aax xl);rw[uc,<-ev]at le;let xv:0 < V_ tb ds[x].1.toNat:=by grind
   let up:=mm _ (tn _ (aax xl)) (xv,xn);show((tn ds[x] (List.getElem_mem xl):ds[x].1.toNat < -γ),xv,xn,by change V_ tb ds[x].1.toNat=V_ tb m;grind)
  .cases z
 .rw[aaK @_]at fB;rcases fB with ⟨_,z⟩| ⟨v,z,_⟩
  .rw[K5 @_]at z;let e:=t.Iu fr hi;let co:AR (ds.map ο):=by
    rcases FW.kd with y| ⟨_,_,y⟩
    .show aa5 y @_
    .show y
   let eqs:=xZ (z:=λd=>V_ tb d.1.toNat) (m:=V_ tb m) (rL co) (λd hd=>by
    by_cases c:0 < V_ tb d.1.toNat
    .show mm _ (tn d hd) (c,z _ (Ψ.mpr (d,hd,rfl)))
    .have:=t.unit fr _ (tn d hd);grind) (by rw[(EM co).1,Rat.one_mul,<-je,e];show Rat.le_refl)
   unfold eY;rw[gF fr t.fp fa hi];intro d hd;let ev:=eqs d hd;show(tn d hd,by rw[ev];show mv,z _ (Ψ.mpr (d,hd,rfl)),ev)
  .cases z
end
def Et:DF:=λas M q _=>∃(θ:Fr) (γ:List Rw) (kp:Nat) (pl:Pl) (kind:Str) (td:Dt) (tb:List Fr),as=[.loc kp,.lst (γ.map Κ),.str kind,td]/\M[kp]? =!(dP pl)/\QO M td (tb.map aI)/\FR θ γ/\Ξ kind=true/\ak (fK γ kind) pl/\Oj tb (-γ)/\(∀(i j:Nat) (ds:List br),γ[i]? =!(.υ kind ds)->Τ pl i=!(j:Int)->∃jl:j < -ds,tb.getD ds[j].1.toNat (0, 1)=tb.getD i (0, 1))/\q (.bl true) M
def jd:Γ ["_law_found","_law_rows_here","_law_kind","_law_table","_law_due","_law_place","_law_door"] ["_law_found","_law_rows_here","_law_kind","_law_table"] (τ uH):=.of rfl
def CO(F:de K "_law_plan" "_law_plan" uH f fd)(E:Ev K mg Cm)(fj:aD P w K mg base 1 "_law_is_int" ["_law_one"] CI pH pX):aC P w K mg base (cI P w) 2 f fd ["_law_found","_law_rows_here","_law_kind","_law_table"] (da K Et):=by
 show F.d9 jd (λds M q x h=>?_) (λbI A outer s H E' hr=>(_,(ζ (ah (dQ (bV (Sg K E.bN (Μ (jv 0) (Μ (Hy E.mP r6) ε))))) (ι (Α rE)) Ε)
   (ζ (wZ (i:=4) jd.nd rfl (Or.inl rfl) (ys:=["_law_kind","_law_rows_here"]) (Ρ:=[2,1]) (.of jd rfl rfl rfl) (wG (bT E.bz (δ (cE E.bK (Μ (jv 1) ε)) ε aS))) (λC s H fp=>(cX hr (Η (Η (jv 2) (jv 0)) ν) (jv 1))) (λC s H fp=>(jv 0)))
   (ζ (ah (iz hr (DG E.bK (Μ (jv 0) ε)) (cE E.bK (Μ (jv 4) ε))) (ι (Α rE)) Ε)
   (ζ (cP (bC (jv 4)) (ai (i:=5) jd.nd rfl (Or.inl rfl)) aL (ζ (ω 6 jd.nd (K' hr (jv 0) (jv 5) rh))
   (ζ (ah (JW.jt (jZ (dQ (bV (Ω fj hr ξ (Μ (jv 6) ε)))) (jZ (uL (jv 6) ν) (iY (Pk (jv 6) (cE E.bK (δ (Η (Η (jv 1) (jv 5)) ν) ε ba))))))) (ι (Α rE)) Ε)
   (ι (ah (iz hr (Η (jv 3) (Η (Η (Η (Η (jv 1) (jv 5)) ν) (jv 6)) ν)) (Η (jv 3) (jv 5))) (ι (Α rE)) Ε)))))
   (ι (Α rE)))))),λds M q x h=>?_))
 .let(θ,γ,kp,pl,kind,td,tb,rfl,_):=h;rfl
 .let(θ,γ,kp,pl,kind,td,tb,rfl,D',la,fr,hh,fp,tk,X1,h):=h;let(ok,hk):=la.k;let hs:=kr hk;let qC:=fr.pl.len;let sl:∀{z:Nat},z<=1000->z<=sizeLine:=λh=>aaH h @_;let lp:-(kP pl)=-(cH γ kind):=by let e:=abm List.length (cF fp);rw[ir,aah,aah]at e;unfold kP;rw[aah];show e
  let FZ:-(cH γ kind)<=12:=by have:=acA (λi=>decide (cv γ i=kind)) (List.range (-γ));rw[abu]at this;show aaH this qC
  try walk_at "vc"
  show(kp,_,_,_,_,true,rfl,D',rfl,uB,nofun,λ_=>?_);dsimp only[yM,YI]
  try walk_at "vc"
  show(az (d:=.lst (γ.map Κ)) (xs:=γ.map Κ) rfl ?_:fi [.lst (γ.map Κ)] _ _);rw[aah];show(((),()),by rw[cU];show sl (),?_);show dJ trivial (λx=>match x with| .int j=>decide (cv γ j.toNat=kind)| _=>false) (λx=>x) _ _ (λx hx q' p' h1 h2=>?_) ?_
  .let(j,hj',rfl):=dZ hx;let jl:j < -γ:=()
   let h1:decide (cv γ (0+(j:Int)).toNat=kind)=true->q' (.int (0+(j:Int))) M:=h1;let h2:decide (cv γ (0+(j:Int)).toNat=kind)=false->p' M:=h2;rw[show(0+(j:Int)).toNat=j by omega]at h1 h2;rw[show(0+(j:Int))=(j:Int) by omega]at h1⊢;let hi:=rw_at jl;let a1:ic (γ.map Κ) (j:Int)=!(Κ (bR γ j)):=Λ (jO hi)
   try walk_at "vc"
   show(χ (d:=.lst (γ.map Κ)) rfl a1 ?_:cG (.lst (γ.map Κ)) (.int (j:Int)) _ _);let ek:cv γ j=kindOf (bR γ j):=by unfold cv;rw[hi];try rfl
   rw[ek]at h1 h2;let(e,he):=Cu (r:=bR γ j);rw[he];show(χ (d:=.tup [.str (kindOf (bR γ j)),e]) (xs:=[.str (kindOf (bR γ j)),e]) rfl bc ?_:cG (.tup [.str (kindOf (bR γ j)),e]) (.int 0) _ _);change(match decide (kindOf (bR γ j)=kind) with| true=>_| false=>_);cases hb:decide (kindOf (bR γ j)=kind) with
   | true=>show h1 hb
   | false=>show h2 hb
  let e3:((df 0 ((-γ:Int)).toNat).filter (λx=>match x with| .int j=>decide (cv γ j.toNat=kind)| _=>false))=(cH γ kind).map bq:=by
   unfold df cH;rw[List.filter_map,show((-γ:Int)).toNat=-γ by omega];let e4:((λx:Dt=>match x with| .int j=>decide (cv γ j.toNat=kind)| _=>false) ∘ λk:Nat=>Dt.int (0+(k:Int)))=λj:Nat=>decide (cv γ j=kind):=by
    funext j
    change decide (cv γ (0+(j:Int)).toNat=kind)=_;rw[show(0+(j:Int)).toNat=j by omega]
   rw[e4];show List.map_congr_left λj _=>by unfold bq;rw[Int.zero_add]
  rw[aba,List.map_id',e3]
  try walk_at "vc"
  show(kp,_,_,rfl,D',?_);show(az (d:=.lst ((cH γ kind).map bq)) (xs:=(cH γ kind).map bq) rfl ?_:fi [.lst ((cH γ kind).map bq)] _ _);rw[aah,lp];change((! decide ((-(cH γ kind):Int)=(-(cH γ kind):Int)))=true->_)/\((! decide ((-(cH γ kind):Int)=(-(cH γ kind):Int)))=false->_);rw[aaB rfl];show(nofun,λ_=>?_);dsimp only[qI];show bF (i:=4) (d:=.lst ((cH γ kind).map bq)) rfl rfl ?_;show bJ (λzs ρ' M'=>M=M'/\∃(rest:List Nat) (o5 o6:Option Dt),zs=rest.map bq/\(∀p∈rest,p∈cH γ kind)/\ρ'=[!(.loc kp),!(.lst (γ.map Κ)),!(.str kind),!td,!(.lst ((cH γ kind).map bq)),o5,o6]) (λzs ρ' M' hj=>trivial) (λx zs ρ' M' hj gc=>?_) (λρ' M' hj=>?_) _ _ _ (rfl,cH γ kind,none,none,rfl,λ_ h=>h,rfl)
  .let(rfl,rest,o5,o6,ex,rN,rfl):=hj;cases rest with
   | nil=>cases ex
   | cons i rest=>
    cases ex;let(ds,hi,ed,l1):=fY fr hh (rN i aai);let(j,gj,_):=(bG (i:=i) fr hh fp).1 ds hi;let(jl,et):=X1 i j ds hi gj;let rm:=aap hi;let il:=(aam.mp hi).1;let a1:ic (γ.map Κ) (i:Int)=!(Κ (.υ kind ds)):=Λ (jO hi);let ad:ic (ds.map c_) (j:Int)=!(c_ ds[j]):=Λ (by rw[aat,aad jl];rfl);let(t0,t1):=g_ fr.JC rm (aax jl);let b1:=tk.at t0 t1;let b2:ic (tb.map aI) (i:Int)=!(aI (tb.getD i (0, 1))):=by have:=tk.at (t:=(i:Int)) () ();rwa[abl]at this
    rw[et]at b1;generalize ds[j]=d at *
    generalize tb.getD i (0, 1)=f at *
    let eg:(aY (kP pl) (vP pl) (Sum.inl (i:Int))).getD Dt.aZ= .int (j:Int):=by rw[qN,gj];rfl
    try walk_at "vc"
    show((kp,_,_,rfl,D'),kp,_,_,Sum.inl (i:Int),rfl,D',rfl,?_);rw[eg]
    try walk_at "vc"
    show((j:Int),rfl,nofun,λ_=>(λz=>?_,λ_=>?_))
    .let z:(j:Int) < 0:=aaW z;omega
    try walk_at "vc"
    show(χ (d:=.lst (γ.map Κ)) rfl a1 ?_:cG (.lst (γ.map Κ)) (.int (i:Int)) _ _);show Fx ?_;show(az (d:=.lst (ds.map c_)) (xs:=ds.map c_) rfl ?_:fi [.lst (ds.map c_)] _ _);rw[aah];show(λz=>?_,λ_=>?_)
    .let z:(j:Int) ≥ (-ds:Int):=aaW z;omega
    try walk_at "vc"
    show(χ (d:=.lst (γ.map Κ)) rfl a1 ?_:cG (.lst (γ.map Κ)) (.int (i:Int)) _ _);show Fx ?_;show(χ (d:=.lst (ds.map c_)) rfl ad ?_:cG (.lst (ds.map c_)) (.int (j:Int)) _ _);show oz ?_;show(χ (d:=td) hs b1 ?_:cG td (.int d.1) _ _);show(χ (d:=td) hs b2 ?_:cG td (.int (i:Int)) _ _);show ON ?_;show(nofun,λ_=>gc _ _ (rfl,rest,_,_,rfl,λy hy=>rN y (aag _ hy),rfl))
  .let(rfl,rest,o5,o6,ex,rN,rfl):=hj;show h
def oK(s:Nat):Option Nat->Bool
 | some v=>decide (v < s)
 | none=>false
def JD:DF:=λas M q _=>∃(θ:Fr) (γ:List Rw) (gs:List Nat) (S S2:Sp) (p a:Pl) (tb:List Fr) (kp ks i s:Nat) (k:Str) (ds:List br),as=[Κ (.υ k ds),.loc kp,.int (i:Nat),.loc ks]/\M[kp]? =!(dP p)/\M[ks]? =!(.lst (S2.map cx))/\FR θ γ/\c9 γ gs S S2 p a tb/\γ[i]? =!(.υ k ds)/\at_ S2 i=!s/\q (.bl true) M
def fD:Γ ["_law_row","_law_plan_here","_law_place","_law_steps_here","_law_near","_law_less"] ["_law_row","_law_plan_here","_law_place","_law_steps_here"] (τ pT):=.of rfl
def Bw(F:de K "_law_fewer" "_law_fewer" pT f fd)(E:Ev K mg Cm):aC P w K mg base (cI P w) 1 f fd ["_law_row","_law_plan_here","_law_place","_law_steps_here"] (da K JD):=by
 show F.d9 fD (λds M q x h=>?_) (λbI A outer s H E' hr=>(_,(ζ (cK (i:=4) fD.nd rfl (Or.inl rfl) (ys:=["_law_steps_here"]) (Ρ:=[3]) (.of fD rfl rfl rfl) (bC (Η (jv 0) ν)) (λC s H fp=>(Η (jv 1) (Η (jv 0) ν))))
   (ζ (gQ (ah (cX hr (Η (jv 0) ν) dX) (ι (ω 4 fD.nd (fc (δ (Η (jv 4) (uM hr (jv 1) (jv 2))) ε ba)))) Ε))
   (ζ (cK (i:=5) fD.nd rfl (Or.inl rfl) (ys:=["_law_steps_here","_law_place"]) (Ρ:=[3,2]) (.of fD rfl rfl rfl) (bC (jv 4)) (λC s H fp=>(gf (Kx (jv 0) rh) (iK (HV (jv 0) (Η (jv 1) (jv 2)))))))
   (ζ (ah (cX hr (Η (jv 0) ν) dX) (ι (Α (JV E.wQ (Μ (jv 5) ε)))) Ε)
   (ι (Α (K4 E.vZ (Μ (jv 5) ε)))))))),λds M q x h=>?_))
 .let(θ,γ,gs,S,S2,p,a,tb,kp,ks,i,s,k,ds,rfl,_):=h;rfl
 .let(θ,γ,gs,S,S2,p,a,tb,kp,ks,i,s,k,ds,rfl,D',A6,fr,t,hi,es_,h):=h;let sl:∀{z:Nat},z<=1000->z<=sizeLine:=λh=>aaH h @_;let rm:=aap hi;let dl:=qf fr.JC rm;let Sl:-S2=-γ:=by have:=t.d2.1;rw[eN]at this;show this
  let il:=(aam.mp hi).1;let(es,rD,fB,K5,qT):=t.Ez fr hi;let st:∀d∈ds,ic (S2.map cx) d.1=!(cx (at_ S2 d.1.toNat)):=λd hd=>by let(t0,t1):=g_ fr.JC rm hd;have:=qM (S:=S2) (p:=d.1.toNat) ();rwa[show((d.1.toNat:Nat):Int)=d.1 by omega]at this
  let si:ic (S2.map cx) (i:Int)=!(.int (s:Int)):=by have:=qM (S:=S2) (p:=i) ();rw[es_]at this;show this
  try walk_at "vc"
  try dsimp only[mF,gu]
  try walk_at "vc"
  show Fx ?_;show(by change(ds.map c_).length<=sizeLine;rw[aah];show sl (),?_);show cQ (F:=λx d=>x=c_ d/\d∈ds) (f:=λd=>cx (at_ S2 d.1.toNat)) (as:=ds) trivial (λx d hx qq hq=>?_) (h8 c_ ds ds λx hx=>hx) ?_
  .let(rfl,hd):=hx
   try walk_at "vc"
   show oz ?_;show χ (d:=.loc ks) (fC A6) (st d hd) hq
  rw[aba];let el:-es<=6:=by
   by_cases ho:k="one"
   .let(j,jl,_,ee):=qT ho;rw[ee];change 1<=6;decide
   .rw[K5 ho];show dl.2
  show(λρ M'=>M'=M/\ρ=[!(Κ (.υ k ds)),!(.loc kp),!(.int (i:Int)),!(.loc ks),!(.lst (es.map λd=>cx (at_ S2 d.1.toNat))),none],?_,?_)
  .show(λz=>?_,λz=>?_)
   .let z:k="one":=aaW z;let(j,jl,gj,ee):=qT z;let dg:aY (kP p) (vP p) (Sum.inl (i:Int))=!(.int (j:Int)):=by rw[qN,gj];rfl
    try walk_at "vc"
    show(kp,_,_,Sum.inl (i:Int),_,rfl,D',rfl,dg,?_);show(χ (d:=.lst (ds.map λd=>cx (at_ S2 d.1.toNat))) rfl (Λ (j:=j) (by rw[aat,aad jl];rfl)) ?_:cG (.lst (ds.map λd=>cx (at_ S2 d.1.toNat))) (.int (j:Int)) _ _);show(by change 1<=sizeLine;decide,rfl,?_);rw[ee];rfl
   .let z:k≠"one":=abh z;show(rfl,by rw[K5 z];rfl)
  rintro ρ3 M3 ⟨rfl,rfl⟩
  try dsimp only[mF]
  try walk_at "vc"
  show bF (i:=4) (d:=.lst (es.map λd=>cx (at_ S2 d.1.toNat))) rfl rfl (by rw[aah];show sl (),?_)
  show cQ (F:=λx d=>x=cx (at_ S2 d.1.toNat)) (f:=λd=>Dt.bl (oK s (at_ S2 d.1.toNat))) (as:=es) trivial (λx d hx qq hq=>?_) (by
   have:∀l:List br,Paired (λx d=>x=cx (at_ S2 d.1.toNat)) (l.map λd=>cx (at_ S2 d.1.toNat)) l:=λl=>by
    induction l with
    | nil=>show .nil
    | cons d l ih=>show .cons rfl ih
   show this es) ?_
  .subst hx;cases e:at_ S2 d.1.toNat with
   | none=>
    rw[e]at hq;show(nofun,λ_=>hq)
   | some v=>
    rw[e]at hq;show(λ_=>?_,nofun)
    try walk_at "vc"
    show(χ (d:=.loc ks) (fC A6) si ?_:cG (.loc ks) (.int (i:Int)) _ _);let e2:decide ((v:Int) < (s:Int))=oK s (!v):=by
     change _=decide (v < s);by_cases c:v < s
     .rw[aaB c,aaB ()]
     .rw[aaF c,aaF ()]
    change qq (.bl (decide ((v:Int) < (s:Int)))) _;rw[e2];show hq
  rw[aba];let eb:es.map (λd=>Dt.bl (oK s (at_ S2 d.1.toNat)))=(es.map λd=>oK s (at_ S2 d.1.toNat)).map Dt.bl:=by rw[abf];rfl
  rw[eb];let fin:(k="other"->(es.map λd=>oK s (at_ S2 d.1.toNat)).all id=true)/\(es.map λd=>oK s (at_ S2 d.1.toNat)).any id=true:=by
   cases s with
   | zero=>
    exfalso;unfold gS at fB;rw[es_]at fB;split at fB
    .rcases fB with ⟨z,_⟩| ⟨v,z,_⟩ <;> cases z
    .rcases fB with ⟨z,_⟩| ⟨v,z,_⟩ <;> cases z
   | succ s=>
    let(n1,d1,Kd,PC):=jq t.d2 rD es_;show(λho=>?_,?_)
    .rw[List.all_map];show abc.mpr λd hd=>?_;let(u,eu,lu):=n1 ho d hd;change oK (s+1) (at_ S2 d.1.toNat)=true;rw[eu];show aaB ()
    .rw[List.any_map];show List.any_eq_true.mpr (d1,Kd,?_);change oK (s+1) (at_ S2 d1.1.toNat)=true;rw[PC];show aaB ()
  generalize es.map (λd=>oK s (at_ S2 d.1.toNat))=bs at *
  try walk_at "vc"
  show(λz=>?_,λz=>?_)
  .let z:k="other":=aaW z;show(_,rfl,?_);rw[fin.1 z];show h
  .show(_,rfl,λ_ z=>(nomatch z),λ_ z=>(nomatch z),?_);rw[fin.2];show h
def Bt:DF:=λas M q _=>∃(θ:Fr) (γ:List Rw) (gs:List Nat) (S S2:Sp) (p a:Pl) (tb:List Fr) (kt kp ks:Nat),as=[.lst (γ.map Κ),.lst (gs.map bq),.loc kt,.loc kp,.loc ks]/\M[kt]? =!(.lst (tb.map aI))/\M[kp]? =!(dP p)/\M[ks]? =!(.lst (S2.map cx))/\FR θ γ/\cz γ gs/\-gs<=12/\c9 γ gs S S2 p a tb/\q (.bl true) M
def me:Γ ["_law_rows_here","_law_goals_here","_law_table","_law_plan_here","_law_steps_here","_law_place"] ["_law_rows_here","_law_goals_here","_law_table","_law_plan_here","_law_steps_here"] (τ pU):=.of rfl
def Ak(F:de K "_law_steps" "_law_steps" pU f fd) (E:Ev K mg Cm)   (fj:aD P w K mg base 1 "_law_is_int" ["_law_one"] CI pH pX)   (m_:aD P w K mg base 1 "_law_fewer" ["_law_row","_law_plan_here","_law_place","_law_steps_here"] JD Hz GH):aC P w K mg base (cI P w) 3 f fd ["_law_rows_here","_law_goals_here","_law_table","_law_plan_here","_law_steps_here"] (da K Bt):=by
 show F.d9 me (λds M q x h=>?_) (λbI A outer s H E' hr=>(_,(ζ (ah (JW.jt (jZ (dQ (bV (Ca K E.bN (Μ (jv 4) (Μ (Hy E.gp nh) ε))))) (iY (iz hr (cE E.bK (Μ (jv 4) ε)) (cE E.bK (Μ (jv 0) ε)))))) (ι (Α rE)) Ε)
   (ζ (lj (bT E.bz (δ (cE E.bK (Μ (jv 0) ε)) ε aS)) (ai (i:=5) me.nd rfl (Or.inl rfl)) aL (ι (ah (cX hr (Η (jv 2) (jv 5)) (av (δ ν (δ ν ε Χ) Χ))) (ι (ah (rV (Η (jv 4) (jv 5)) rh) (ι (Α rE)) Ε)) (ι (ah (dQ (bV (Ω fj hr ξ (δ (Η (jv 4) (jv 5)) ε ba)))) (ι (Α rE)) Ε)))))
   (ζ (lj (bT E.bz (δ (cE E.bK (Μ (jv 0) ε)) ε aS)) (ai (i:=5) me.nd rfl (Or.inl rfl)) aL (ζ (ah (JW.jt (tD (xk (jv 5) (jv 1)) (oh (iz hr (Η (jv 4) (jv 5)) ν)))) (ι (Α rE)) Ε)
   (ι (ah (JW.jt (tD (iz hr (Η (Η (jv 0) (jv 5)) ν) dX) (oh (rV (Η (jv 4) (jv 5)) rh)))) (ι (ah (JW.jt (jZ (dQ (Ld (p:=λi j=>decide (i<=j)) (p':=λi j=>decide (i<=j)) EX EX ν (Η (jv 4) (jv 5)) (cE E.bK (Μ (jv 0) ε)))) (iY (dQ (bV (Ω m_ hr ξ (δ (Η (jv 0) (jv 5)) (Μ (jv 3) (Μ (jv 5) (Μ (jv 4) ε))) ba))))))) (ι (Α rE)) Ε)) Ε))))
   (ι (Α rE))))),λds M q x h=>?_))
 .let(θ,γ,gs,S,S2,p,a,tb,kt,kp,ks,rfl,_):=h;rfl
 .let(θ,γ,gs,S,S2,p,a,tb,kt,kp,ks,rfl,zo,D',A6,fr,go,PJ,t,h):=h;let qC:=fr.pl.len;let tk:=t.tk fr;let Sl:-S2=-γ:=by have:=t.d2.1;rw[eN]at this;show this
  let la:QO M (.loc ks) (S2.map cx):=.inr (ks,rfl,A6)
  try walk_at "vc"
  show(_,_,_,_,true,rfl,la.kind,rfl,uB,nofun,λ_=>?_);show(az (d:=.loc ks) (fC A6) ?_:fi [.loc ks] _ _);show(az (d:=.lst (γ.map Κ)) (xs:=γ.map Κ) rfl ?_:fi [.lst (γ.map Κ)] _ _);rw[aah,aah,Sl];change((! decide ((-γ:Int)=(-γ:Int)))=true->_)/\((! decide ((-γ:Int)=(-γ:Int)))=false->_);rw[aaB rfl];show(nofun,λ_=>?_);show(az (d:=.lst (γ.map Κ)) (xs:=γ.map Κ) rfl ?_:fi [.lst (γ.map Κ)] _ _);rw[aah];show(((),()),?_);let sa:∀k,k < -γ->ic (S2.map cx) (k:Int)=!(cx (at_ S2 k)):=λk kl=>qM ();show eV (λzs ρ M2=>∃(n k:Nat) (o5:Option Dt),zs=df k n/\k+n=-γ/\M2=M/\ρ=[!(.lst (γ.map Κ)),!(.lst (gs.map bq)),!(.loc kt),!(.loc kp),!(.loc ks),o5]) (λx zs ρ M2 hj gc=>?_) (λρ M2 hj=>?_) _ _ _ (-γ,0,none,by simp,by simp,rfl,rfl)
  .let(n,k,o5,ex,KW,rfl,rfl):=hj;let(m,rfl,rfl,rfl):=eP ex;let kl:k < -γ:=()
   let b2:ic (tb.map aI) (k:Int)=!(aI (tb.getD k (0, 1))):=by have:=tk.at (t:=(k:Int)) () ();rwa[abl]at this
   let nx:=gc [!(.lst (γ.map Κ)),!(.lst (gs.map bq)),!(.loc kt),!(.loc kp),!(.loc ks),!(.int (k:Int))] M2 (m,k+1,_,by simp,(),rfl,rfl)
   try walk_at "vc"
   show(χ (d:=.loc kt) (fC zo) b2 ?_:cG (.loc kt) (.int (k:Int)) _ _);show(fI,?_);change(kf [.int (tb.getD k (0, 1)).1,.int (tb.getD k (0, 1)).2] [.int 0,.int 1]=true->_)/\(kf [.int (tb.getD k (0, 1)).1,.int (tb.getD k (0, 1)).2] [.int 0,.int 1]=false->_);let eq0:kf [.int (tb.getD k (0, 1)).1,.int (tb.getD k (0, 1)).2] [.int 0,.int 1]=decide (tb.getD k (0, 1)=(0, 1)):=Q3 (p:=tb.getD k (0, 1)) (q:=(0, 1));rw[eq0];show(λz=>?_,λz=>?_)
   .let z:=aaW z;show(χ (d:=.loc ks) (fC A6) (sa k kl) ?_:cG (.loc ks) (.int (k:Int)) _ _);cases e:at_ S2 k with
    | none=>show(nofun,λ_=>nx)
    | some v=>
     exfalso;cases e1:at_ S k with
     | none=>show t.s2s fr v k e e1
     | some u=>
      have:=t.pos fr u k kl e1;let v0:V_ tb k=0:=by unfold V_;rw[z];show qp
      grind
   .let z:=abh z;show(χ (d:=.loc ks) (fC A6) (sa k kl) ?_:cG (.loc ks) (.int (k:Int)) _ _);cases e:at_ S2 k with
    | none=>
     exfalso;let un:=t.unit fr k kl;show t.V1 fr kl ?_ e;let nz:V_ tb k≠0:=λy=>z (lU (tk.red k kl) (@_,@_) (by rw[qp];show y));grind
    | some v=>show((v:Int),rfl,nofun,λ_=>nx)
  .let(n,k,o5,ex,KW,rfl,rfl):=hj
   try walk_at "vc"
   show(az (d:=.lst (γ.map Κ)) (xs:=γ.map Κ) rfl ?_:fi [.lst (γ.map Κ)] _ _);rw[aah];show(((),()),?_);show eV (λzs ρ M3=>∃(n k:Nat) (o5:Option Dt),zs=df k n/\k+n=-γ/\M3=M2/\ρ=[!(.lst (γ.map Κ)),!(.lst (gs.map bq)),!(.loc kt),!(.loc kp),!(.loc ks),o5]) (λx zs ρ M3 hj gc=>?_) (λρ M3 hj=>?_) _ _ _ (-γ,0,_,by simp,by simp,rfl,rfl)
   .let(n,k,o5,ex,KW,rfl,rfl):=hj;let(m,rfl,rfl,rfl):=eP ex;let kl:k < -γ:=()
    let hi:=rw_at kl;let a1:ic (γ.map Κ) (k:Int)=!(Κ (bR γ k)):=Λ (jO hi);let nx:=gc [!(.lst (γ.map Κ)),!(.lst (gs.map bq)),!(.loc kt),!(.loc kp),!(.loc ks),!(.int (k:Int))] M3 (m,k+1,_,by simp,(),rfl,rfl)
    try walk_at "vc"
    show(.int (k:Int),gs.map bq,_,rfl,rfl,qo gs,?_);rw[yt]
    suffices body:cG (.lst (γ.map Κ)) (.int (k:Int)) M3 _ by show(λz=>?_,λz=>(nofun,λ_=>body));let z:k∈gs:=aaW z;let(e,he):=go.fin k z;let h2:=t.Kw fr he;rw[aaP z]at h2;let s2:=sa k kl;rw[h2]at s2;show(χ (d:=.loc ks) (fC A6) s2 ?_:cG (.loc ks) (.int (k:Int)) _ _);show(nofun,λ_=>body)
    show(χ (d:=.lst (γ.map Κ)) rfl a1 ?_:cG (.lst (γ.map Κ)) (.int (k:Int)) _ _);cases hr:bR γ k with
    | fin e=>show(nofun,λ_=>(nofun,λ_=>nx))
    | υ kd ds=>
     rw[hr]at hi a1;let ro:=(fr.JC.row _ (aap hi)).1.1;show(λ_=>?_,λz=>absurd (of_decide_eq_true (show decide (kd="end")=true by simpa using z)) ro);show(χ (d:=.loc ks) (fC A6) (sa k kl) ?_:cG (.loc ks) (.int (k:Int)) _ _);cases e:at_ S2 k with
     | none=>show(nofun,λ_=>nx)
     | some v=>
      let v1:1<=v:=by
       cases v with
       | succ v=>omega
       | zero=>
        exfalso;let(es,rD,fB,K5,qT):=t.Ez fr hi;unfold gS at fB;rw[e]at fB;split at fB
        .rcases fB with ⟨z,_⟩| ⟨v,z,_⟩ <;> cases z
        .rcases fB with ⟨z,_⟩| ⟨v,z,_⟩ <;> cases z
      let vl:=JX t.d2 e;rw[eN]at vl;let s2:=sa k kl;rw[e]at s2;show(λ_=>?_,nofun);dsimp only[yN]
      try walk_at "vc"
      show(χ (d:=.loc ks) (fC A6) s2 ?_:cG (.loc ks) (.int (k:Int)) _ _);show(1,(v:Int),rfl,rfl,λ_=>?_,λy=>aa5 (abh y) ())
      try walk_at "vc"
      show(az (d:=.lst (γ.map Κ)) (xs:=γ.map Κ) rfl ?_:fi [.lst (γ.map Κ)] _ _);rw[aah];show((-γ:Int),rfl,?_);rw[aaB (show(v:Int)<=(-γ:Int) by omega)];show(nofun,λ_=>?_)
      try walk_at "vc"
      show(χ (d:=.lst (γ.map Κ)) rfl a1 ?_:cG (.lst (γ.map Κ)) (.int (k:Int)) _ _);show(θ,γ,gs,S,S2,p,a,tb,kp,ks,k,v,kd,ds,rfl,D',A6,fr,t,hi,e,nofun,λ_=>nx)
   .let(n,k,o5,ex,KW,rfl,rfl):=hj;show h
def OO{os:List Nat}{k:Nat}:(os.map bq).take i++Dt.int (k:Int)::(os.map bq).drop i=(os.take i++k::os.drop i).map bq:=by rw[abp,abe,List.map_take,ab7];rfl
def IF{os:List Nat}{k:Nat}(h:os.Perm (List.range k)):(os.take i++k::os.drop i).Perm (List.range (k+1)):=by show List.perm_middle.trans ?_;rw[List.take_append_drop,List.range_succ];show(List.Perm.cons k h).trans (List.perm_append_singleton k (List.range k)).symm
def KL:DF:=λas M q _=>∃(ns:List Int) (size:Nat),as=[.fX ns,.int (size:Nat)]/\size<=12/\∀os:List Nat,os.Perm (List.range size)->q (.loc (-M)) (M++[.lst (os.map bq)])
def mU:Γ ["_law_script","_law_size","_law_found","_law_role"] ["_law_script","_law_size"] (τ qt):=.of rfl
def AH(F:de K "_law_order" "_law_order" qt f fd)(E:Ev K mg Cm)(Θ:aD P w K mg base 2 "_law_number" ["_law_script","_law_k"] tY aW aX):aC P w K mg base (cI P w) 3 f fd ["_law_script","_law_size"] (da K KL):=by
 show F.d9 mU (λds M q x h=>?_) (λbI A outer s H E' hr=>(_,(ζ (ω 2 mU.nd (jU ε))
   (ζ (lj (bT E.bz (Μ (jv 1) ε)) (ai (i:=3) mU.nd rfl (Or.inl rfl)) aL (ι (cB (IL (jv 2) (δ (bj (Ω Θ hr ξ (Μ (jv 0) (δ (a_ ν (jv 3)) ε aV))) (a_ (jv 3) ν)) (Μ (jv 3) ε) aV)))))
   (ι (Α (jv 2))))),λds M q x h=>?_))
 .let(ns,size,rfl,_):=h;rfl
 .let(ns,size,rfl,qC,h):=h
  try walk_at "vc"
  show(by change 0<=sizeLine;decide,?_);show((),?_);show eV (λzs ρ M2=>∃(n k:Nat) (os:List Nat) (o3:Option Dt),zs=df k n/\k+n=size/\os.Perm (List.range k)/\M2=M++[.lst (os.map bq)]/\ρ=[!(.fX ns),!(.int (size:Int)),!(.loc (-M)),o3]) (λx zs ρ M2 hj gc=>?_) (λρ M2 hj=>?_) _ _ _ (size,0,[],none,by simp,by simp,.nil,rfl,rfl)
  .let(n,k,os,o3,ex,KW,hp,rfl,rfl):=hj;let(m,rfl,rfl,rfl):=eP ex;let ol:-os=k:=by rw[hp.length_eq,abu]
   dsimp only[Uw]
   try walk_at "vc"
   show((_,_,rfl,aK),ns,40+(k:Int),rfl,(),(),λWA _=>?_);let m0:=abK WA (show(k:Int)+1≠0 by omega);let m1:=abG WA (show(0:Int) < (k:Int)+1 by omega);show((),?_);obtain⟨i,hi,il⟩:∃i:Nat,WA % ((k:Int)+1)=(i:Int)/\i<=k:=((WA % ((k:Int)+1)).toNat,(),());rw[hi];show(-M,_,_,i,rfl,rfl,aK,by rw[aah,ol];show abt (show k<=12 by omega) @_,by rw[aah,ol];show il,?_);rw[ef,OO];show gc _ _ (m,k+1,_,_,by simp,(),IF hp,rfl,rfl)
  .let(n,k,os,o3,ex,KW,hp,rfl,rfl):=hj;let hn:n=0:=by have:=abm List.length ex;rw[cU]at this;show this.symm
   let hk:k=size:=()
   subst hk;show h os hp
def jr{a:Int}{p:Fr}(h0:0<=a)(h1:a < size)(hp:bB p=true):af a p size=true:=by unfold af;rw[aaB h0,aaB h1,hp];rfl
def lI{d a b:br}(h:d∈[a,b]):d=a\/d=b:=by
 rcases aaS.mp h with e| e
 .show .inl e
 .show .inr (abi.mp e)
def rK{u v S:Int}(ha:af a pa size=true)(hb:af b pb size=true)(pa0:0 < pa.2)(pb0:0 < pb.2)(u0:0 < u)(v0:0 < v)(hS:u+v=S)(S1:S<=1000000):uR size (.υ "chance" [(a, pa,[ay u S]),(b, pb,[ay v S])]):=by
 let c:=tL (ws:=[u,v]) (S:=S) (by simp;omega) (λw hw=>by simp at hw;omega) (by simp) S1 (by change 2<=12;decide);show(wF (by change 1<=2;decide) (by change 2<=6;decide) (λd hm=>?_) (λd hm=>?_) c.1 c.2 (λd hm=>?_),λk' Kn e hk d hm=>?_)
 .rcases lI hm with e| e <;> rw[e] <;> assumption
 .rcases lI hm with e| e <;> rw[e] <;> rfl
 .rcases lI hm with e| e <;> rw[e] <;> assumption
 .let(e1,_):=Rw.υ.inj e;rw[<-e1]at hk;show aa5 hk @_
def rw_hand{k:Str}(hk:Ξ k=true)(l1:1<=-ds)(l6:-ds<=6)(hd:∀d∈ds,af d.1 d.2.1 size=true/\d.2.2=[]/\0 < d.2.1.2):uR size (.υ k ds):=(Ft hk l1 l6 (λd hm=>(hd d hm).1) (λd hm=>(hd d hm).2),λk' Kn e _ d hm=>by
 let(_,e2):=Rw.υ.inj e;rw[<-e2]at hm
 show(hd d hm).2.1)
def Kh:DF:=λas M q _=>∃(ns:List Int) (role last:Nat) (size:Int),as=[.fX ns,.int (role:Nat),.int (last:Nat)]/\4<=role/\role<=last/\(last:Int) < size/\size<=12/\∀k ds,uR size (.υ k ds)->q (Κ (.υ k ds)) M
def bP:Γ ["_law_script","_law_role","_law_last","_law_number_here","_law_parts","_law_whole","_law_less","_law_back","_law_on"] ["_law_script","_law_role","_law_last"] (τ jD):=.of rfl
def sd(F:de K "_law_chain_row" "_law_chain_row" jD f fd)(E:Ev K mg Cm)(Θ:aD P w K mg base 2 "_law_number" ["_law_script","_law_k"] tY aW aX)(aG:aD P w K mg base 1 "_law_lowest" ["_law_top","_law_bottom"] Ji eB eA):aC P w K mg base (cI P w) 3 f fd ["_law_script","_law_role","_law_last"] (da K Kh):=by
 show F.d9 bP (λds M q x h=>?_) (λbI A outer s H E' hr=>(_,(ζ (ω 3 bP.nd (Ω Θ hr ξ (Μ (jv 0) (δ (a_ ν (jv 1)) ε aV))))
   (ζ (ah (cX hr (jv 1) (jv 2)) (ζ (mX (i:=4) bP.nd rfl (Or.inl rfl) (ys:=["_law_script"]) (Ρ:=[0]) (.of bP rfl rfl rfl) (bT E.bz (δ ν ε Χ)) (λC s H fp=>(a_ ν (bj (Ω Θ hr (dc (P:=P) (w:=w)) (Μ (jv 1) (δ (a_ ν (jv 0)) ε aV))) ν))))
   (ζ (ω 5 bP.nd (zS E.qJ (Μ (jv 4) ε)))
   (ζ (ω 6 bP.nd (Ω aG hr ξ (δ (Η (jv 4) ν) (Μ (jv 5) ε) ba)))
   (ι (Α (av (δ dX (δ (fc (δ (av (δ ν (δ (av (δ ν (δ ν ε Χ) Χ)) (δ (Ω aG hr ξ (δ (a_ (Η (jv 4) ν) (Η (jv 4) ν)) (Μ (jv 5) ε) aV)) ε aS) bf) Χ)) (δ (av (δ ν (δ (av (δ ν (δ ν ε Χ) Χ)) (Μ (jv 6) ε) bf) Χ)) ε bf) bf)) ε) Χ))))))) Ε)
   (ζ (ah (cX hr (bj (jv 3) ν) ν) (ζ (ω 7 bP.nd (Η (fc (δ ν (Μ (jv 1) (δ ν ε Χ)) Χ)) (bj (cL (jv 3) ν) ν)))
   (ζ (ω 8 bP.nd (a_ ν (bj (cL (jv 3) ν) ν)))
   (ι (Α (av (δ dX (δ (fc (δ (av (δ (a_ (jv 1) ν) (δ (av (δ ν (δ ν ε Χ) Χ)) (δ (Ω aG hr ξ (Μ (jv 8) (δ ν ε Χ))) ε aS) bf) aV)) (δ (av (Μ (jv 7) (δ (av (δ ν (δ ν ε Χ) Χ)) (δ (Ω aG hr ξ (δ (l7 ν (jv 8)) (δ ν ε Χ) aV)) ε aS) bf))) ε bf) bf)) ε) Χ)))))) Ε)
   (ι (Α (av (δ (Η (b_ 3 (d:=.lst [.str "one",.str "other"]) (by rfl)) (bj (jv 3) ν)) (δ (fc (δ (av (δ (a_ (jv 1) ν) (δ (av (δ (l7 (bj (jv 3) ν) ν) (δ ν ε Χ) aV)) ε bf) aV)) ε bf)) ε) ba))))))),λds M q x h=>?_))
 .let(ns,role,last,size,rfl,_):=h;rfl
 .let(ns,role,last,size,rfl,r4,rl,ls,W_,h):=h;let sz:∀{z:Nat},z<=10->z<=sizeLine:=λh=>aaH h @_;show(ns,10+(role:Int),rfl,(),(),λn hn=>?_)
  try walk_at "vc"
  change(decide ((role:Int)=(last:Int))=true->_)/\(decide ((role:Int)=(last:Int))=false->_);show(λ_=>?_,λz=>?_)
  .show(@_,by change 3<=sizeLine;decide,?_);show fk (f:=Dt.int) (λv=>1<=v/\v<=300) _ [] (λ_ z=>(nomatch z)) (λx Gp q' hq=>?_) λxs Pc hx=>?_
   .let(k,hk,rfl):=dZ Gp;let hk:k < 3:=hk;show(ns,5+(0+(k:Int)),rfl,(),(),λm hm=>(@_,hq _ ()))
   obtain⟨a,b,c,rfl⟩:∃a b c:Int,xs=[a,b,c]:=by
    let hl:-xs=3:=Pc
    match xs,hl with
    | [a,b,c],_=>show(a,b,c,rfl)
   let ha:=hx a (by simp);let hb:=hx b (by simp);let hc:=hx c (by simp);let es:[a,b,c].sum=a+b+c:=by simp;omega
   try walk_at "vc"
   show([a,b,c],rfl,(_,_,rfl),?_);rw[es];show(χ (d:=.lst ([a,b,c].map Dt.int)) (xs:=[.int a,.int b,.int c]) rfl (Λ (j:=2) rfl) ?_:cG (.lst ([a,b,c].map Dt.int)) (.int 2) _ _);show(c,a+b+c,rfl,(),bg (k:=10) (),?_)
   try walk_at "vc"
   show(sz @_,?_);show(χ (d:=.lst ([a,b,c].map Dt.int)) (xs:=[.int a,.int b,.int c]) rfl bc ?_:cG (.lst ([a,b,c].map Dt.int)) (.int 0) _ _);show(χ (d:=.lst ([a,b,c].map Dt.int)) (xs:=[.int a,.int b,.int c]) rfl (Λ (j:=1) rfl) ?_:cG (.lst ([a,b,c].map Dt.int)) (.int 1) _ _);show(a+b,a+b+c,rfl,(),bg (k:=10) (),?_);let g:=rK (size:=size) (a:=0) (b:=1) (pa:=(1, 1)) (pb:=(0, 1)) (u:=a+b) (v:=c) (S:=a+b+c) (jr @_ () @_) (jr @_ () @_) @_ @_ () () () ();show(sz @_,sz @_,sz @_,sz @_,sz @_,h _ _ g)
  .let z:role≠last:=by have:=abh z;omega
   try walk_at "vc"
   show(@_,λy=>?_,λy=>?_)
   .obtain⟨bk,eb,b0,b1⟩:∃bk:Int,ic [Dt.int 2,.int (role:Int),.int 3] (n / 3 % 3)=!(.int bk)/\0<=bk/\bk<=role:=by
     have:n / 3 % 3=0\/n / 3 % 3=1\/n / 3 % 3=2:=()
     rcases this with e| e| e <;> rw[e]
     .show(2,bc,(),())
     .show(role,Λ (j:=1) rfl,(),())
     .show(3,Λ (j:=2) rfl,(),())
    try walk_at "vc"
    show(sz @_,(@_,bg (k:=4) @_),@_,?_);show(χ (d:=.lst [Dt.int 2,.int (role:Int),.int 3]) rfl eb ?_:cG (.lst [Dt.int 2,.int (role:Int),.int 3]) (.int (n / 3 % 3)) _ _);show((@_,bg (k:=4) @_),@_,?_);let o0:1<=1+n / 9 % 9/\1+n / 9 % 9<=9:=()
    try walk_at "vc"
    let g:=rK (size:=size) (a:=(role:Int)+1) (b:=bk) (pa:=(0, 1)) (pb:=(2, 1)) (u:=1+n / 9 % 9) (v:=10 - (1+n / 9 % 9)) (S:=10) (jr () () @_) (jr () () @_) @_ @_ () () () ();show(sz @_,1+n / 9 % 9,10,rfl,@_,bg (k:=4) @_,sz @_,sz @_,10 - (1+n / 9 % 9),10,rfl,@_,bg (k:=4) @_,?_);show(sz @_,sz @_,sz @_,h _ _ g)
   .let y:n % 3≠2:=abh y;obtain⟨kd,ek,hk⟩:∃kd:Str,ic [Dt.str "one",Dt.str "other"] (n % 3)=!(.str kd)/\Ξ kd=true:=by
     have:n % 3=0\/n % 3=1:=()
     rcases this with e| e <;> rw[e]
     .show(_,bc,ae)
     .show(_,Λ (j:=1) rfl,au)
    try walk_at "vc"
    show(@_,?_);show(χ (d:=.lst [Dt.str "one",Dt.str "other"]) rfl ek ?_:cG (.lst [Dt.str "one",Dt.str "other"]) (.int (n % 3)) _ _);let g:uR size (.υ kd [((role:Int)+1, (n % 5 - 2, 1),[])]):=rw_hand hk (by change 1<=1;decide) (by change 1<=6;decide) λd hm=>by rw[abi.mp hm];show(jr () () (Pf () () @_),rfl,by change(0:Int) < 1;decide)
    show(@_,sz @_,sz @_,sz @_,sz @_,h _ _ g)
def K6:DF:=λas M q _=>∃(ns:List Int) (role:Nat) (size:Nat),as=[.fX ns,.int (role:Nat),.int (size:Nat)]/\role<=12/\1<=size/\size<=12/\∀k ds,uR size (.υ k ds)->q (Κ (.υ k ds)) M
def jG:Γ ["_law_script","_law_role","_law_size","_law_number_here","_law_kind"] ["_law_script","_law_role","_law_size"] (τ kY):=.of rfl
def uW(F:de K "_law_more_row" "_law_more_row" kY f fd)(E:Ev K mg Cm)(Θ:aD P w K mg base 2 "_law_number" ["_law_script","_law_k"] tY aW aX):aC P w K mg base (cI P w) 3 f fd ["_law_script","_law_role","_law_size"] (da K K6):=by
 show F.d9 jG (λds M q x h=>?_) (λbI A outer s H E' hr=>(_,(ζ (ω 3 jG.nd (Ω Θ hr ξ (Μ (jv 0) (δ (a_ ν (jv 1)) ε aV))))
   (ζ (ω 4 jG.nd (Η (b_ 3 (d:=.lst [.str "one",.str "other",.str "chance"]) (by rfl)) (bj (jv 3) ν)))
   (ζ (ah (cX hr (jv 4) dX) (ι (Α (av (Μ (jv 4) (δ (fc (δ (av (δ (bj (cL (jv 3) ν) (jv 2)) (δ (av (δ ν (δ ν ε Χ) Χ)) (δ (av (δ ν (δ ν ε Χ) Χ)) ε bf) bf) aV)) (δ (av (δ (bj (cL (jv 3) ν) (jv 2)) (δ (av (δ ν (δ ν ε Χ) Χ)) (δ (av (δ ν (δ ν ε Χ) Χ)) ε bf) bf) aV)) ε bf) bf)) ε))))) Ε)
   (ι (Α (av (Μ (jv 4) (δ (fc (δ (av (δ (bj (cL (jv 3) ν) (jv 2)) (δ (av (δ ν (δ ν ε Χ) Χ)) ε bf) aV)) (δ (av (δ (bj (cL (jv 3) ν) (jv 2)) (δ (av (δ (KZ ν) (δ ν ε Χ) OY)) ε bf) aV)) ε bf) bf)) ε)))))))),λds M q x h=>?_))
 .let(ns,role,size,rfl,_):=h;rfl
 .let(ns,role,size,rfl,O5,s1,W_,h):=h;let sz:∀{z:Nat},z<=10->z<=sizeLine:=λh=>aaH h @_;show(ns,10+(role:Int),rfl,(),(),λn hn=>?_);obtain⟨kd,ek,hk⟩:∃kd:Str,ic [Dt.str "one",Dt.str "other",Dt.str "chance"] (n % 3)=!(.str kd)/\(Ξ kd=true\/kd="chance"):=by
   have:n % 3=0\/n % 3=1\/n % 3=2:=()
   rcases this with e| e| e <;> rw[e]
   .show(_,bc,.inl ae)
   .show(_,Λ (j:=1) rfl,.inl au)
   .show(_,Λ (j:=2) rfl,.inr rfl)
  let ta:∀z:Int,0<=z % (size:Int)/\z % (size:Int) < (size:Int):=λz=>(abK _ (),abG _ ());let t1:=ta (n / 3);let t2:=ta (n / 36)
  try walk_at "vc"
  show(@_,?_);show(χ (d:=.lst [Dt.str "one",Dt.str "other",Dt.str "chance"]) rfl ek ?_:cG (.lst [Dt.str "one",Dt.str "other",Dt.str "chance"]) (.int (n % 3)) _ _)
  try walk_at "vc"
  show(λz=>?_,λz=>?_)
  .let z:kd="chance":=aaW z;subst z;let g:=rK (size:=size) (a:=n / 3 % size) (b:=n / 36 % size) (pa:=(1, 2)) (pb:=(0, 1)) (u:=1) (v:=2) (S:=3) (jr t1.1 t1.2 @_) (jr t2.1 t2.2 @_) @_ @_ @_ @_ @_ @_;let e1:ay 1 3=(1, 3):=@_
   let e2:ay 2 3=(2, 3):=@_
   rw[e1,e2]at g;show((@_,bg (k:=4) @_),(),sz @_,sz @_,sz @_,(@_,bg (k:=8) @_),(),sz @_,sz @_,sz @_,sz @_,sz @_,h _ _ g)
  .let z:kd≠"chance":=abh z;let hk:Ξ kd=true:=by
    rcases hk with y| y
    .show y
    .show aa5 y z
   let g:uR size (.υ kd [(n / 3 % size, (1, 1),[]),(n / 36 % size, (- 1, 1),[])]):=rw_hand hk (by change 1<=2;decide) (by change 2<=6;decide) λd hm=>by
    rcases lI hm with e| e <;> rw[e]
    .show(jr t1.1 t1.2 (by change bB (1, 1)=true;decide),rfl,by change(0:Int) < 1;decide)
    .show(jr t2.1 t2.2 (by change bB (- 1, 1)=true;decide),rfl,by change(0:Int) < 1;decide)
   show((@_,bg (k:=4) @_),(),sz @_,sz @_,(@_,bg (k:=8) @_),(),sz @_,sz @_,sz @_,sz @_,h _ _ g)
def RK(i j:Int):mq (V.int i) (V.int j)=decide (i=j):=by
 by_cases c:i=j
 .subst c;unfold mq;simp
 .unfold mq;simp[c]
def MM(f:Nat->Nat)(d:br):br:=(((f d.1.toNat:Nat):Int), d.2.1,d.2.2)
def RF(f:Nat->Nat):Rw->Rw
 | .fin p=>.fin p
 | .υ k ds=>.υ k (ds.map (MM f))
def Lj{f:Nat->Nat}(ds:List br):(ds.map (MM f)).map ο=ds.map ο:=by rw[abf];show aby λd _=>rfl
def OD{f:Nat->Nat}{size:Nat}(h:uR size r)(hf:∀t,t < size->f t < size):uR size (RF f r):=by
 cases r with
 | fin p=>show(h.1,λ_ _ z=>(nomatch z))
 | υ k ds=>
  let((ro,rf),hh):=h;let fdm:∀d∈ds,af d.1 d.2.1 size=true->af (MM f d).1 (MM f d).2.1 size=true:=λd _ hd=>by unfold af at hd⊢;rw[aaA,aaA,abb,abb]at hd⊢;have:=hf d.1.toNat ();show(by change(0:Int)<=((f d.1.toNat:Nat):Int);omega,by change((f d.1.toNat:Nat):Int) < (size:Int);omega,hd.2.2)
  let fds:Ι ds size=true->Ι (ds.map (MM f)) size=true:=λhd=>by unfold Ι at hd⊢;rw[aaA,aaA]at hd⊢;rw[aah];show(hd.1,abc.mpr λd hm=>?_);let(d0,h0,rfl):=aaz.mp hm;show fdm d0 h0 (abc.mp hd.2 d0 h0)
  show(((ro.1,by rw[aah];show ro.2.1,λhc=>(λd hm=>?_,by rw[Lj];show(ro.2.2.1 hc).2),λd hm=>?_),?_),λk' Kn e hk d hm=>?_)
  .let(d0,h0,rfl):=aaz.mp hm;show(ro.2.2.1 hc).1 d0 h0
  .let(d0,h0,rfl):=aaz.mp hm;show ro.2.2.2 d0 h0
  .let rf:(if Ξ k then Ι ds size else if k="chance" then Ι ds size&&Υ (ds.map ο) else false)=true:=rf;change(if Ξ k then Ι (ds.map (MM f)) size else if k="chance" then Ι (ds.map (MM f)) size&&Υ ((ds.map (MM f)).map ο) else false)=true;rw[Lj];by_cases hk:Ξ k=true
   .rw[aaP hk]at rf⊢;show fds rf
   .rw[aaK hk]at rf⊢;by_cases hc:k="chance"
    .rw[aaP hc]at rf⊢;rw[aaA]at rf⊢;show(fds rf.1,rf.2)
    .rw[aaK hc]at rf;cases rf
  .let(e1,e2):=Rw.υ.inj e;rw[<-e2]at hm;rw[<-e1]at hk;let(d0,h0,rfl):=aaz.mp hm;show hh k ds rfl hk d0 h0
def Jo{t:Nat}:∀{os:List Nat},t∈os->∃j:Nat,os[j]? =!t/\∀i:Nat,i < j->os[i]? ≠!t
 | a::os,h=>by
  by_cases c:a=t
  .show(0,by rw[c];rfl,λi hi=>aa5 hi (ab3 _))
  .let(j,h1,h2):=Jo (os:=os) (by rcases aaS.mp h with z| z;show aa5 z.symm c;show z);show(j+1,h1,λi hi=>?_);cases i with
   | zero=>exactλz=>c (aay z)
   | succ i=>show h2 i ()
def Fu:DF:=λas M q _=>∃(ns:List Int),as=[.fX ns]/\∀(γ:List Rw) (gs:List Nat),1<=-γ->-γ<=12->(∀r∈γ,uR (-γ) r)->cz γ gs->-gs<=12->∀m:MO,q (.tup [.loc (-M+1),.lst (gs.map bq)]) (M++[m,.lst (γ.map Κ)])
def aj:Γ ["_law_script","_law_number_here","_law_last","_law_size","_law_parts","_law_less","_law_ways","_law_rows_here","_law_order_here","_law_found","_law_role","_law_kind","_law_doors_here"] ["_law_script"] (τ mS):=.of rfl
def yI(F:de K "_law_detour" "_law_detour" mS f fd) (E:Ev K mg Cm)   (Θ:aD P w K mg base 2 "_law_number" ["_law_script","_law_k"] tY aW aX)   (aG:aD P w K mg base 1 "_law_lowest" ["_law_top","_law_bottom"] Ji eB eA)   (i0:aD P w K mg base 3 "_law_chain_row" ["_law_script","_law_role","_law_last"] Kh xc xo)   (jV:aD P w K mg base 3 "_law_more_row" ["_law_script","_law_role","_law_size"] K6 zV Az)   (nB:aD P w K mg base 3 "_law_order" ["_law_script","_law_size"] KL Gb GZ):aC P w K mg base (cI P w) 4 f fd ["_law_script"] (da K Fu):=by
 show F.d9 aj (λds M q x h=>?_) (λbI A outer s H E' hr=>(_,(ζ (ω 1 aj.nd (Ω Θ hr ξ (Μ (jv 0) (δ ν ε Χ))))
   (ζ (ω 2 aj.nd (a_ ν (bj (jv 1) ν)))
   (ζ (ω 3 aj.nd (a_ (a_ (jv 2) ν) (bj (cL (jv 1) ν) ν)))
   (ζ (mX (i:=4) aj.nd rfl (Or.inl rfl) (ys:=["_law_script"]) (Ρ:=[0]) (.of aj rfl rfl rfl) (bT E.bz (δ ν ε Χ)) (λC s H fp=>(a_ ν (bj (Ω Θ hr (dc (P:=P) (w:=w)) (Μ (jv 1) (δ (a_ ν (jv 0)) ε aV))) ν))))
   (ζ (ω 5 aj.nd (Ω aG hr ξ (δ (a_ (Η (jv 4) ν) (Η (jv 4) ν)) (δ (zS E.qJ (Μ (jv 4) ε)) ε aS) aV)))
   (ζ (ω 6 aj.nd (b_ 3 (d:=.lst [.tup [.int 3,.tup [.int 5,.int 1]],.tup [.int 4,.tup [.int 0,.int 1]]]) (by rfl)))
   (ζ (ω 7 aj.nd (jU (δ (b_ 3 (d:=.tup [.str "end",.tup [.int 1,.int 1]]) (by rfl)) (δ (b_ 3 (d:=.tup [.str "end",.tup [.int 7,.int 1]]) (by rfl)) (δ (av (δ dX (δ (bZ (QJ (jv 6) (l7 ν (dN ν (bj (cL (jv 1) ν) ν))))) ε ba) Χ)) ε bf) bf) bf)))
   (ζ (cB (f_ (jv 7) (δ (av (δ dX (δ (fc (δ (av (δ ν (δ (av (δ ν (δ ν ε Χ) Χ)) (δ (Ω aG hr ξ (δ (Η (jv 4) ν) (δ (zS E.qJ (Μ (jv 4) ε)) ε aS) ba)) ε aS) bf) Χ)) (δ (av (δ ν (δ (av (δ ν (δ ν ε Χ) Χ)) (Μ (jv 5) ε) bf) Χ)) ε bf) bf)) ε) Χ)) ε bf)))
   (ζ (ω 7 aj.nd (i4 (jv 7) (CK (ys:=["_law_script","_law_last"]) (Ρ:=[0,2]) (.of aj rfl rfl rfl) (pG E.bz (δ ν (δ (a_ (jv 2) ν) ε aV) Χ)) (λC s H fp=>(Ω i0 hr (dc (P:=P) (w:=w)) (Μ (jv 1) (Μ (jv 0) (Μ (jv 2) ε))))))))
   (ζ (ω 7 aj.nd (i4 (jv 7) (CK (ys:=["_law_script","_law_size"]) (Ρ:=[0,3]) (.of aj rfl rfl rfl) (pG E.bz (δ (a_ (jv 2) ν) (Μ (jv 3) ε) aV)) (λC s H fp=>(Ω jV hr (dc (P:=P) (w:=w)) (Μ (jv 1) (Μ (jv 0) (Μ (jv 2) ε))))))))
   (ζ (ω 8 aj.nd (bZ (Ω nB hr ξ (Μ (jv 0) (Μ (jv 3) ε)))))
   (ζ (ω 9 aj.nd (jU ε))
   (ζ (cP (bC (jv 8)) (ai (i:=10) aj.nd rfl (Or.inl rfl)) aL (ζ (ED (Η (jv 7) (jv 10)) (km rfl (bt (ai (i:=11) aj.nd rfl (Or.inl rfl)) (bt (ai (i:=12) aj.nd rfl (Or.inl rfl)) iu))))
   (ζ (gQ (ah (iz hr (jv 11) dX) (ι (cK (i:=12) aj.nd rfl (Or.inl rfl) (ys:=["_law_order_here"]) (Ρ:=[8]) (.of aj rfl rfl rfl) (bC (jv 12)) (λC s H fp=>(a_ (av (δ (zb 1 hr (jv 1) (δ (Η (jv 0) ν) ε ba)) ε aS)) (GN (jv 0) ν))))) Ε))
   (ι (cB (f_ (jv 9) (δ (av (Μ (jv 11) (Μ (jv 12) ε))) ε bf)))))))
   (ι (Α (av (Μ (jv 9) (δ (fc (δ (zb 1 hr (jv 8) (δ ν ε Χ)) ε aS)) ε)))))))))))))))))),λds M q x h=>?_))
 .let(ns,rfl,_):=h;rfl
 .let(ns,rfl,h):=h;let sz:∀{z:Nat},z<=100->z<=sizeLine:=λh=>aaH h @_;show(ns,4,rfl,@_,@_,λn hn=>?_)
  try walk_at "vc"
  show(@_,?_);dsimp only[z7]
  try walk_at "vc"
  show((@_,bg (k:=4) @_),@_,?_);dsimp only[z7];obtain⟨last,el,l5,l8⟩:∃last:Nat,5+n % 4=(last:Int)/\5<=last/\last<=8:=((5+n % 4).toNat,(),(),());obtain⟨size,es,s1,W_⟩:∃size:Nat,5+n % 4+1+n / 4 % 4=(size:Int)/\last+1<=size/\size<=12:=((5+n % 4+1+n / 4 % 4).toNat,(),(),());rw[es,el]
  try walk_at "vc"
  show(@_,by change 3<=sizeLine;decide,?_);show fk (f:=Dt.int) (λv=>1<=v/\v<=300) _ [] (λ_ z=>(nomatch z)) (λx Gp q' hq=>?_) λxs Pc hx=>?_
  .let(k,hk,rfl):=dZ Gp;let hk:k < 3:=hk;show(ns,5+(0+(k:Int)),rfl,(),(),λm hm=>(@_,hq _ ()))
  obtain⟨a,b,c,rfl⟩:∃a b c:Int,xs=[a,b,c]:=by
   let hl:-xs=3:=Pc
   match xs,hl with
   | [a,b,c],_=>show(a,b,c,rfl)
  let ha:=hx a (by simp);let hb:=hx b (by simp);let hc:=hx c (by simp);let esm:[a,b,c].sum=a+b+c:=by simp;omega
  let S10:iG (a+b+c):=bg (k:=10) ()
  try walk_at "vc"
  show(χ (d:=.lst ([a,b,c].map Dt.int)) (xs:=[.int a,.int b,.int c]) rfl (Λ (j:=1) rfl) ?_:cG (.lst ([a,b,c].map Dt.int)) (.int 1) _ _);show(χ (d:=.lst ([a,b,c].map Dt.int)) (xs:=[.int a,.int b,.int c]) rfl (Λ (j:=2) rfl) ?_:cG (.lst ([a,b,c].map Dt.int)) (.int 2) _ _);dsimp only[z7]
  try walk_at "vc"
  show([a,b,c],rfl,(_,_,rfl),?_);rw[esm];show(b+c,a+b+c,rfl,(),S10,?_);dsimp only[IZ]
  try walk_at "vc"
  try dsimp only[O6]
  try walk_at "vc"
  show((@_,bg (k:=5) @_),@_,(bg (k:=3) @_,bg (k:=3) ()),?_);dsimp only[Ga];obtain⟨Mp,hW⟩:∃Mp:List br,(1 - 2 * (n / 16 % 2)=1/\Mp=[(3, (5, 1),[]),(4, (0, 1),[])]\/1 - 2 * (n / 16 % 2)= - 1/\Mp=[(4, (0, 1),[]),(3, (5, 1),[])]):=by
   have:n / 16 % 2=0\/n / 16 % 2=1:=()
   rcases this with e| e
   .show(_,.inl ((),rfl))
   .show(_,.inr ((),rfl))
  show(_,Mp.map c_,rfl,?_,cR (fL Mp) ?_)
  .rcases hW with ⟨e1,e2⟩| ⟨e1,e2⟩
   .rw[e1,e2];show .inl (rfl,rfl)
   .rw[e1,e2];show .inr (rfl,rfl)
  let gW:uR size (.υ "one" Mp):=by
   let hd:∀d:br,(d=(3, (5, 1),[])\/d=(4, (0, 1),[]))->af d.1 d.2.1 size=true/\d.2.2=[]/\0 < d.2.1.2:=λd hd=>by
    rcases hd with e| e <;> rw[e]
    .show(jr (by change(0:Int)<=3;decide) (by change(3:Int) < _;omega) (by change bB (5, 1)=true;decide),rfl,by change(0:Int) < 1;decide)
    .show(jr (by change(0:Int)<=4;decide) (by change(4:Int) < _;omega) (by change bB (0, 1)=true;decide),rfl,by change(0:Int) < 1;decide)
   rcases hW with ⟨_,e2⟩| ⟨_,e2⟩ <;> rw[e2]
   .show rw_hand ae (by change 1<=2;decide) (by change 2<=6;decide) λd hm=>hd d (lI hm)
   .show rw_hand ae (by change 1<=2;decide) (by change 2<=6;decide) λd hm=>hd d (lI hm).symm
  show(sz @_,sz @_,?_)
  try dsimp only[P8]
  try walk_at "vc"
  show((_,_,rfl,aK),sz @_,?_);show(χ (d:=.lst ([a,b,c].map Dt.int)) (xs:=[.int a,.int b,.int c]) rfl bc ?_:cG (.lst ([a,b,c].map Dt.int)) (.int 0) _ _);show([a,b,c],rfl,(_,_,rfl),?_);rw[esm];show(a,a+b+c,rfl,(),S10,?_);let gC:=rK (size:=size) (a:=0) (b:=1) (pa:=(1, 1)) (pb:=(0, 1)) (u:=a) (v:=b+c) (S:=a+b+c) (jr @_ () @_) (jr @_ () @_) @_ @_ () () () ();show(sz @_,sz @_,sz @_,sz @_,sz @_,-M,_,_,rfl,rfl,aK,abt (show 3<=100 by decide) @_,?_);rw[ef];let e4:∀x y z u:Rw,[Κ x,Κ y,Κ z]++[Κ u]=[x,y,z,u].map Κ:=λ_ _ _ _=>rfl;obtain⟨R4,Vs⟩:∃R4,R4=[Rw.fin (1, 1),.fin (7, 1),.υ "one" Mp,.υ "chance" [(0, (1, 1),[ay a (a+b+c)]),(1, (0, 1),[ay (b+c) (a+b+c)])]]:=(_,rfl);let e5:=e4 (.fin (1, 1)) (.fin (7, 1)) (.υ "one" Mp) (.υ "chance" [(0, (1, 1),[ay a (a+b+c)]),(1, (0, 1),[ay (b+c) (a+b+c)])]);rw[<-Vs]at e5;let l4:-R4=4:=by rw[Vs];rfl
  let g4:∀r∈R4,uR size r:=λr hr=>by
   rw[Vs]at hr;let fin:∀p:Fr,0 < p.2->bB p=true->uR size (.fin p):=λp p0 fp=>((p0,fp),λ_ _ z=>(nomatch z));rcases aaS.mp hr with e| hr
   .rw[e];show fin _ @_ @_
   rcases aaS.mp hr with e| hr
   .rw[e];show fin _ @_ @_
   rcases aaS.mp hr with e| hr
   .rw[e];show gW
   .rw[abi.mp hr];show gC
  let f4:R4[0]? =!(.fin (1, 1)):=by rw[Vs];rfl
  let k4:∀(i:Nat) (p:Fr),R4[i]? =!(.fin p)->i=0\/i=1:=λi p hi=>by
   rw[Vs]at hi
   match i,hi with
   | 0,_=>show .inl rfl
   | 1,_=>show .inr rfl
   | 2,hi=>cases hi
   | 3,hi=>cases hi
  change uh _ _ _ _ _ _ _;dsimp only[uh,DC]
  try walk_at "vc"
  show((),by rw[cU];show sz (),?_);show fk (f:=Κ) (λr=>uR size r/\∃k ds,r= .υ k ds) _ [] (λ_ z=>(nomatch z)) (λx Gp q' hq=>?_) λC hlC hC=>?_
  .let(k,hk,rfl):=dZ Gp;show(ns,4+k,last,size,by change[Dt.fX ns,.int (4+(k:Int)),.int (last:Int)]=_;rw[show((4+k:Nat):Int)=4+(k:Int) by omega],(),(),(),(),λkd ds g=>hq _ (g,kd,ds,rfl))
  let lC:-C=last - 3:=by rw[hlC,cU];simp;omega
  show(_,_,gH aK,rfl,by change 4+-(C.map Κ)<=sizeLine;rw[aah,lC];show sz (),?_)
  try walk_at "vc"
  show((),by rw[cU];show sz (),?_);show fk (f:=Κ) (λr=>uR size r/\∃k ds,r= .υ k ds) _ [] (λ_ z=>(nomatch z)) (λx Gp q' hq=>?_) λD hlD hD=>?_
  .let(k,hk,rfl):=dZ Gp;show(ns,last+1+k,size,by change[Dt.fX ns,.int ((last:Int)+1+(k:Int)),.int (size:Int)]=_;rw[show((last+1+k:Nat):Int)=(last:Int)+1+(k:Int) by omega],(),(),(),λkd ds g=>hq _ (g,kd,ds,rfl))
  let lD:-D=size - (last+1):=by rw[hlD,cU];simp;omega
  show((R4++C).map Κ,D.map Κ,by rw[abp,<-e5];rfl,rfl,by rw[aah,aah,aan,l4,lC,lD];show sz (),?_);rw[<-abp];let lR:-(R4++C++D)=size:=by rw[aan,aan,l4,lC,lD];omega
  let gR:∀r∈R4++C++D,uR size r:=λr hr=>by
   rcases abo.mp hr with hr| hr
   .rcases abo.mp hr with hr| hr
    .show g4 r hr
    .show(hC r hr).1
   .show(hD r hr).1
  let fR:(R4++C++D)[0]? =!(.fin (1, 1)):=by rw[aa8,aaG ()];show f4
  generalize R4++C++D=R at *
  try walk_at "vc"
  show(ns,size,rfl,W_,λos hp=>cR (fN os) ?_);let ol:-os=size:=by rw[hp.length_eq,abu]
  let om:∀t,t∈os↔t < size:=λt=>by rw[hp.mem_iff,abr]
  obtain⟨f,hf⟩:∃f:Nat->Nat,∀t,t < size->(os[f t]? =!t/\∀i,i < f t->os[i]? ≠!t):=by
   have:∀t,∃j,t < size->(os[j]? =!t/\∀i,i < j->os[i]? ≠!t):=λt=>by
    by_cases c:t < size
    .let(j,h1,h2):=Jo ((om t).mpr c);show(j,λ_=>(h1,h2))
    .show(0,λz=>aa5 z c)
   show(λt=>Classical.choose (this t),λt=>Classical.choose_spec (this t))
  let fl:∀t,t < size->f t < size:=λt ht=>by have:=(aam.mp (hf t ht).1).1;omega
  let ix:∀{M':Ms} {Pq:Nat->Prop} {t:Int},0<=t->t < size->Pq (f t.toNat)->∃y xs,∃g:Nat->Bool,∃j:Nat,[Dt.int t]=[y]/\j8 M' (.lst (os.map bq))=!xs/\(∀i z,xs[i]? =!z->tj M' 1 z y (g i))/\j < -xs/\g j=true/\(∀i,i < j->g i=false)/\Pq j:=λ{M' Pq t} t0 t1 hq=>by
   let(h1,h2):=hf t.toNat ();show(_,os.map bq,λi=>decide (((os.getD i 0:Nat):Int)=t),f t.toNat,rfl,rfl,λi z hz=>?_,by rw[aah];show(aam.mp h1).1,?_,λi hi=>?_,hq)
   .rw[aat]at hz;let(o,ho,rfl):=abN.mp hz;let e:os.getD i 0=o:=by rw[aae,ho];rfl
    change tj M' 1 (.int (o:Int)) (.int t) (decide (((os.getD i 0:Nat):Int)=t));rw[e];have:=tj.flat (M:=M') (n:=1) (d:=.int (o:Int)) (e:=.int t) rfl rfl;rwa[RK]at this
   .change decide (((os.getD (f t.toNat) 0:Nat):Int)=t)=true;rw[aae,h1];show aaB (by change((t.toNat:Nat):Int)=t;omega)
   .let il:i < -os:=by have:=(aam.mp h1).1;omega
    change decide (((os.getD i 0:Nat):Int)=t)=false;rw[aae,aad il];show aaF λz=>h2 i hi ?_;rw[aad il];let z:((os[i]:Nat):Int)=t:=z
    congr 1
    omega
  try dsimp only[IZ]
  try walk_at "vc"
  show(sz @_,?_);obtain⟨M1,Z'⟩:∃M1,M1=M++[MO.lst ([Κ (.fin (1, 1)),Κ (.fin (7, 1)),Κ (.υ "one" Mp)]++[Κ (.υ "chance" [(0, (1, 1),[ay a (a+b+c)]),(1, (0, 1),[ay (b+c) (a+b+c)])])])]:=(_,rfl);dsimp only[qI];show bF (i:=8) (d:=.lst (os.map bq)) rfl rfl ?_;show bJ (λzs ρ' M'=>∃(dn rest:List Nat) (XA XM Z0:Option Dt),zs=rest.map bq/\dn++rest=os/\M'=M1++[.lst ((dn.map λt=>RF f (bR R t)).map Κ)]/\ρ'=[!(.fX ns),!(.int n),!(.int (last:Int)),!(.int (size:Int)),!(.lst ([a,b,c].map Dt.int)),!(aI (ay (b+c) (a+b+c))),!(.lst [.tup [.int 3,.tup [.int 5,.int 1]],.tup [.int 4,.tup [.int 0,.int 1]]]),!(.lst (R.map Κ)),!(.lst (os.map bq)),!(.loc (-M1)),XA,XM,Z0]) (λzs ρ' M' hj=>trivial) (λx zs ρ' M' hj gc=>?_) (λρ' M' hj=>?_) _ _ _ ([],os,none,none,none,rfl,rfl,by rw[Z'];rfl,by rw[Z'];rfl)
  .let(dn,rest,XA,XM,Z0,ex,ed,rfl,rfl):=hj;cases rest with
   | nil=>cases ex
   | cons t rest=>
    cases ex;let tl:t < size:=(om t).mp (by rw[<-ed];show aa7 _ aai);let dl:-dn < size:=by have:=abm List.length ed;rw[aan]at this;have:-dn+(-rest+1)=-os:=this;omega
    let hi:=rw_at (γ:=R) (i:=t) ();let gr:=gR _ (aap hi);let a1:ic (R.map Κ) (t:Int)=!(Κ (bR R t)):=Λ (jO hi)
    try walk_at "vc"
    dsimp only[KR]
    try walk_at "vc"
    show(χ (d:=.lst (R.map Κ)) rfl a1 ?_:cG (.lst (R.map Κ)) (.int (t:Int)) _ _);let(e0,Ox):=Cu (r:=bR R t);rw[Ox]
    try walk_at "vc"
    show⟨λρ M'=>M'=M1++[.lst ((dn.map λt=>RF f (bR R t)).map Κ)]/\∃kd e,Κ (RF f (bR R t))= .tup [.str kd,e]/\ρ=[!(.fX ns),!(.int n),!(.int (last:Int)),!(.int (size:Int)),!(.lst ([a,b,c].map Dt.int)),!(aI (ay (b+c) (a+b+c))),!(.lst [.tup [.int 3,.tup [.int 5,.int 1]],.tup [.int 4,.tup [.int 0,.int 1]]]),!(.lst (R.map Κ)),!(.lst (os.map bq)),!(.loc (-M1)),!(.int (t:Int)),!(.str kd),!e],?_,?_⟩
    .cases hr:bR R t with
     | fin p=>
      rw[hr]at Ox;let Ox:Dt.tup [.str "end",aI p]= .tup [.str "end",e0]:=Ox;cases Ox;show(nofun,λ_=>(rfl,_,_,rfl,rfl))
     | υ kd ds=>
      rw[hr]at Ox hi gr;let Ox:Dt.tup [.str kd,.lst (ds.map c_)]= .tup [.str kd,e0]:=Ox;cases Ox;let ro:=gr.1.1.1;show(λ_=>?_,λz=>absurd (show kd="end" from(by simpa using z:kindOf (Rw.υ kd ds)="end")) ro);let dn6:=gr.1.1.2.1;let rdg:∀d∈ds,0<=d.1/\d.1 < size:=λd hd=>by
       let rf:=gr.1.2;let rf:(if Ξ kd then Ι ds size else if kd="chance" then Ι ds size&&Υ (ds.map ο) else false)=true:=rf;let fd:Ι ds size=true:=by
        by_cases hk:Ξ kd=true
        .rw[aaP hk]at rf;show rf
        .rw[aaK hk]at rf;by_cases hc:kd="chance"
         .rw[aaP hc,aaA]at rf;show rf.1
         .rw[aaK hc]at rf;cases rf
       unfold Ι at fd;rw[aaA,aaA]at fd;have:=abc.mp fd.2 d hd;unfold af at this;rw[aaA,aaA,abb,abb]at this;show(this.1,this.2.1)
      try dsimp only[mF]
      try walk_at "vc"
      show bF (i:=12) (d:=.lst (ds.map c_)) rfl rfl (by rw[aah];show sz (),?_);show cQ (F:=λx d=>x=c_ d/\d∈ds) (f:=λd=>c_ (MM f d)) (as:=ds) trivial (λx d hx qq hq=>?_) (h8 c_ ds ds λx hx=>hx) ?_
      .let(rfl,hd):=hx;let(t0,t1):=rdg d hd
       try walk_at "vc"
       try dsimp only[y9,UJ]
       try walk_at "vc"
       show((_,rfl),?_);show oz ?_;show ix t0 t1 ?_
       show(sz @_,_,1,rfl,rfl,Nat.le_refl _,by change 1<=_+1;omega,(by simp,by
        let l1:=(gr.1.1.2.2.2 d hd).1;change 1+(d.2.2.map aI).length.succ<=sizeLine;rw[aah]
        show sz ()),hq)
      rw[aba];show(rfl,kd,_,rfl,?_);rw[abf];rfl
    rintro ρ3 M3 ⟨rfl,kd,e,Z9,rfl⟩
    try dsimp only[P8]
    try walk_at "vc"
    show((_,_,rfl,aK),fI,-M1,_,_,rfl,rfl,aK,by rw[aah,aah];show aaR dl (sz ()),?_);rw[ef];show gc _ _ (dn++[t],rest,_,_,_,rfl,by rw[<-ed];simp,by rw[List.map_append,List.map_append,<-Z9];rfl,rfl)
  .let(dn,rest,XA,XM,Z0,ex,ed,rfl,rfl):=hj;cases rest with
   | cons t rest=>cases ex
   | nil=>
    rw[abw]at ed;subst ed
    try walk_at "vc"
    try dsimp only[y9]
    try walk_at "vc"
    show((_,rfl),ix (t:=0) @_ () ?_);let z0:=(hf 0 ()).1;let lr:-(dn.map λt=>RF f (bR R t))=size:=by rw[aah];show ol
    have:=h (dn.map λt=>RF f (bR R t)) [f 0] () () (λr hr=>by
     rw[lr];let(t,ht,rfl):=aaz.mp hr
     show OD (gR _ (aap (rw_at (by rw[lR];show(om t).mp ht)))) fl) (List.pairwise_singleton _ _,λg hg=>by
     rw[abi.mp hg];show((1, 1),?_);rw[aat,z0];change (!(RF f (bR R 0)))=_
     rw[cy fR];rfl) (by change 1<=12;decide) (MO.lst ([Κ (.fin (1, 1)),Κ (.fin (7, 1)),Κ (.υ "one" Mp)]++[Κ (.υ "chance" [(0, (1, 1),[ay a (a+b+c)]),(1, (0, 1),[ay (b+c) (a+b+c)])])]))
    show(by change 1<=sizeLine;decide,fI,?_);rw[Z',aa8,aan];show this
section
variable{S2:Sp}{a:Pl}{k:Str}
def c9.led(fr:FR θ γ)(t:c9 γ gs S S2 p a tb)(hi:γ[i]? =!(.υ k ds))(hh:Ξ k=true):(∀d∈ds,fS k * V_ tb d.1.toNat<=fS k * V_ tb i)/\∃(j:Nat) (jl:j < -ds),Τ (if k="one" then p else a) i=!(j:Int)/\V_ tb ds[j].1.toNat=V_ tb i:=by
 let rm:=aap hi;let FW:=c7 fr.pl rm;let tn:∀d∈ds,d.1.toNat < -γ:=λd hd=>by have:=FW.to d hd;omega
 let dl:=qf fr.JC rm;let(j,jl,gj,al,_):=t.hand fr hi hh
 let(bm,bb):=rT (k:=k) (ns:=aM tb ds) (λz=>by
  have:=abm List.length z;unfold aM at this;rw[aah]at this;let l1:=dl.1;rw[this]at l1
  show aa5 l1 @_) λn SH=>by let(d,Mi,rfl):=aaz.mp SH;show(t.kp.ch.tab.red _ (tn d Mi)).pos
 rw[<-t.best fr hi hh]at bm bb;let up:∀d∈ds,fS k * V_ tb d.1.toNat<=fS k * V_ tb i:=λd hd=>bb _ (aaz.mpr (d,hd,rfl));show(up,j,jl,gj,?_);let(d,hd,ed):=aaz.mp bm;let ed:V_ tb d.1.toNat=V_ tb i:=abm val ed;let h1:=al d hd;let h2:=up _ (aax jl);rw[ed]at h1;rcases kL fr hi with rfl| rfl| rfl
 .rw[mI]at h1 h2;grind
 .rw[uc]at h1 h2;grind
 .show aa5 hh @_
def c9.door(fr:FR θ γ)(t:c9 γ gs S S2 p a tb)(hh:Ξ k=true):∀(i j:Nat) (ds:List br),γ[i]? =!(.υ k ds)->Τ (if k="one" then p else a) i=!(j:Int)->∃jl:j < -ds,tb.getD ds[j].1.toNat (0, 1)=tb.getD i (0, 1):=λi j ds hi gj=>by
 let(_,j',jl,tE,ev):=t.led fr hi hh;rw[gj]at tE;let e:j=j':=by have:=aay tE;omega
 subst e;let il:=(aam.mp hi).1;let d2:=g_ fr.JC (aap hi) (aax jl);show(jl,lU (t.kp.ch.tab.red _ ()) (t.kp.ch.tab.red _ il) ev)
end
def zY:DF:=λas M q _=>∃(θ:Fr) (γ:List Rw) (gs:List Nat) (S S2:Sp) (p a:Pl) (tb:List Fr) (kt kp ka ks:Nat),as=[.tup [.loc kt,.loc kp,.loc ka,.loc ks],.lst (γ.map Κ),.lst (gs.map bq)]/\M[kt]? =!(.lst (tb.map aI))/\M[kp]? =!(dP p)/\M[ka]? =!(dP a)/\M[ks]? =!(.lst (S2.map cx))/\FR θ γ/\cz γ gs/\-gs<=12/\c9 γ gs S S2 p a tb/\q (.bl true) M
def gZ:Γ ["_law_found","_law_rows_here","_law_goals_here","_law_table","_law_plan_one","_law_plan_other","_law_steps_here"] ["_law_found","_law_rows_here","_law_goals_here"] (τ pL):=.of rfl
def BI(F:de K "_law_holds" "_law_holds" pL f fd)(E:Ev K mg Cm)(lE:aD P w K mg base 2 "_law_plan" ["_law_found","_law_rows_here","_law_kind","_law_table"] Et IP KS)(mB:aD P w K mg base 3 "_law_steps" ["_law_rows_here","_law_goals_here","_law_table","_law_plan_here","_law_steps_here"] Bt Hk GO):aC P w K mg base (cI P w) 4 f fd ["_law_found","_law_rows_here","_law_goals_here"] (da K zY):=by
 show F.d9 gZ (λds M q x h=>?_) (λbI A outer s H E' hr=>(_,(ζ (ah (JW.jt (jZ (dQ (bV (Ca K E.bN (Μ (jv 0) (Μ (Hy E.rM zz) ε))))) (iY (iz hr (cE E.bK (Μ (jv 0) ε)) ν)))) (ι (Α rE)) Ε)
   (ζ (NL (jv 0) (km rfl (bt (ai (i:=3) gZ.nd rfl (Or.inl rfl)) (bt (ai (i:=4) gZ.nd rfl (Or.inl rfl)) (bt (ai (i:=5) gZ.nd rfl (Or.inl rfl)) (bt (ai (i:=6) gZ.nd rfl (Or.inl rfl)) iu))))))
   (ζ (ah (JW.jt (jZ (dQ (bV (Ca K E.bN (Μ (jv 3) (Μ (Hy E.gp nh) ε))))) (iY (iz hr (cE E.bK (Μ (jv 3) ε)) (cE E.bK (Μ (jv 1) ε)))))) (ι (Α rE)) Ε)
   (ζ (ah (JW.jt (jZ (dQ (bV (Ω lE hr ξ (Μ (jv 4) (Μ (jv 1) (δ dX (Μ (jv 3) ε) Χ)))))) (iY (dQ (bV (Ω lE hr ξ (Μ (jv 5) (Μ (jv 1) (δ dX (Μ (jv 3) ε) Χ))))))))) (ι (Α rE)) Ε)
   (ι (Α (Ω mB hr ξ (Μ (jv 1) (Μ (jv 2) (Μ (jv 3) (Μ (jv 4) (Μ (jv 6) ε)))))))))))),λds M q x h=>?_))
 .let(θ,γ,gs,S,S2,p,a,tb,kt,kp,ka,ks,rfl,_):=h;rfl
 .let(θ,γ,gs,S,S2,p,a,tb,kt,kp,ka,ks,rfl,zo,D',AZ,A6,fr,go,PJ,t,h):=h;let tk:=t.tk fr;let la:QO M (.loc kt) (tb.map aI):=.inr (kt,rfl,zo)
  try walk_at "vc"
  show(_,_,_,_,true,rfl,rfl,rfl,uB,nofun,λ_=>?_);show(az (d:=.tup [.loc kt,.loc kp,.loc ka,.loc ks]) (xs:=[.loc kt,.loc kp,.loc ka,.loc ks]) rfl ?_:fi [.tup [.loc kt,.loc kp,.loc ka,.loc ks]] _ _);show(nofun,λ_=>?_)
  try dsimp only[Pn]
  try walk_at "vc"
  show(_,_,_,_,true,rfl,la.kind,rfl,uB,nofun,λ_=>?_);show(az (d:=.loc kt) (fC zo) ?_:fi [.loc kt] _ _);show(az (d:=.lst (γ.map Κ)) (xs:=γ.map Κ) rfl ?_:fi [.lst (γ.map Κ)] _ _);rw[aah,aah,tk.len];change((! decide ((-γ:Int)=(-γ:Int)))=true->_)/\((! decide ((-γ:Int)=(-γ:Int)))=false->_);rw[aaB rfl];show(nofun,λ_=>?_);show(θ,γ,kp,p,"one",.loc kt,tb,rfl,D',la,fr,ae,t.fp,tk,λi j ds hi gj=>t.door fr ae i j ds hi (by rw[aaP rfl];show gj),nofun,λ_=>?_);show(θ,γ,ka,a,"other",.loc kt,tb,rfl,AZ,la,fr,au,t.kp.fa,tk,λi j ds hi gj=>t.door fr au i j ds hi (by rw[aaK @_];show gj),nofun,λ_=>?_);show(θ,γ,gs,S,S2,p,a,tb,kt,kp,ks,rfl,zo,D',A6,fr,go,PJ,t,h)
def Ni(i:Int):mq (V.int i) (V.int i)=true:=by unfold mq;simp
def Mo{l:List Nat}{f:Nat->Bool}(h:∀j,f j=true):l.all f=true:=abc.mpr λj _=>h j
def Ow{ds:List Dt}(h1:j8 M d=!ds)(h2:j8 M e=!ds)(h:∀d∈ds,tj M n d d true):tj M (n+1) d e true:=by
 have:=tj.lst (M:=M) (n:=n) (d:=d) (e:=e) (f:=λ_=>true) h1 h2 rfl λj d e h1 h2=>by rw[h1]at h2;cases h2;show h d (aap h1)
 rwa[Mo λ_=>rfl]at this
def Bq{M:Ms}:∀rs:List Rw,Paired (jY M) (rs.map Κ) rs
 | []=>.nil
 | r::rs=>.cons (xM _ r) (Bq rs)
def IW{q:DQ}(h:q (aF A θ γ) M):p9 M q (.loc (-M)) ((M++[MO.ins A [] []]).set (-M) (.ins A ["kept_share","kept_rows"] [aI θ,.lst (γ.map Κ)])):=by rw[ef];show gT (d':=aF A θ γ) (.Tt (Nat.le_refl _) (by simp) (.cons (.old (pN θ)) (.cons (.old (jf γ)) .nil))) h
def CV(h:cz γ gs):cz γ (gs.drop 1):=(h.up.sublist (List.drop_sublist 1 gs),λg hg=>h.fin g (List.mem_of_mem_drop hg))
def QA(o:Option Nat):∃v,oV (cx o)=!v/\mq v v=true:=by
 cases o with
 | none=>show(_,rfl,by unfold mq;rfl)
 | some n=>show(_,rfl,Ni _)
def RT(o:Option Nat):tj M n (cx o) (cx o) true:=by let(v,h1,h2):=QA o;have:=tj.flat (M:=M) (n:=n) h1 h1;rwa[h2]at this
def Nb(h1:j8 M d=!(S.map cx))(h2:j8 M e=!(S.map cx)):tj M (n+1) d e true:=Ow h1 h2 λd hd=>by let(p,_,rfl):=aaz.mp hd;show RT p
def FR.of(hs:jm θ=true)(n1:1<=-γ)(Ij:-γ<=12)(hg:∀r∈γ,uR (-γ) r):FR θ γ:=((hs,Ij,λr hr=>(hg r hr).1),n1,λk ds hm hh d hd=>(hg _ hm).2 k ds rfl hh d hd)
def MH{q:DQ}{ds:List Dt}(u:Dt.bD (-M) ds)(h:q (.lst ds) M):p9 M q (.loc (-M+1)) (M++[m,.lst ds]):=gT (.u6 (Nat.le_succ _) (by rw[abR];rfl) (gm.old u)) h
def Ri{q:DQ}{ds:List Dt}(u:Dt.bD (-M) ds)(v:Dt.bD (-M) es)(h:q (.tup [.lst ds,.lst es]) M):p9 M q (.tup [.loc (-M+1),.lst es]) (M++[m,.lst ds]):=gT (d':=.tup [.lst ds,.lst es]) (.tup (.cons (.u6 (Nat.le_succ _) (by rw[abR];rfl) (gm.old u)) (.cons (.old v) .nil))) h
structure RU(M:Ms)(n k1 k2 k3 k4 k5 k6:Nat)(x y z:MO):Prop where
 h1:k1 < n/\M[k1]? =!x
 h2:k2 < n/\M[k2]? =!y
 h3:k3 < n/\M[k3]? =!z
 h4:k4 < n/\M[k4]? =!x
 h5:k5 < n/\M[k5]? =!y
 h6:k6 < n/\M[k6]? =!z
def RU.app{E:Ms}(s:RU M n k1 k2 k3 k4 k5 k6 x y z):RU (M++E) n k1 k2 k3 k4 k5 k6 x y z:=((s.h1.1,aq s.h1.2),(s.h2.1,aq s.h2.2),(s.h3.1,aq s.h3.2),(s.h4.1,aq s.h4.2),(s.h5.1,aq s.h5.2),(s.h6.1,aq s.h6.2))
def RU.set{j:Nat}{w:MO}(s:RU M n k1 k2 k3 k4 k5 k6 x y z)(h:n<=j):RU (M.set j w) n k1 k2 k3 k4 k5 k6 x y z:=by let e:∀{k:Nat} {v:MO},k < n/\M[k]? =!v->k < n/\(M.set j w)[k]? =!v:=λ(a,b)=>(a,by rw[abv ()];show b);show(e s.h1,e s.h2,e s.h3,e s.h4,e s.h5,e s.h6)
def Mb{q:DQ}{k:Nat}{ds:List Dt}(hk:M[k]? =!(.lst ds))(h:q (.loc (-M)) (M++[.lst ds])):zP [.loc k] M q:=by change(match zW M (.loc k) with| some xs=>q (.loc (-M)) (M++[.lst xs])| none=>False);rw[gH hk];show h
def JF{k:Nat}(h:M[k]? =!m):k < -M:=(aam.mp h).1
def oM:Γ ["_law_script","_law_rows_here","_law_goals_here","_law_floor","_law_found","_law_kept","_law_more"] ["_law_script"] (τ Qs):=.of rfl
def RO(F:de K "law" "law" Qs f fd)(E:Ev K mg Cm)(qh:aD P w K mg base 5 "_law_rows" ["_law_script"] EF Jq Ko)(ny:aD P w K mg base 1 "_law_goals" ["_law_rows_here","_law_number_here"] L6 Gr FY)(Θ:aD P w K mg base 2 "_law_number" ["_law_script","_law_k"] tY aW aX)(kD:aD P w K mg base 4 "_law_detour" ["_law_script"] Fu Dq D8)(eQ:Oe P w K mg base 5 "Floor" Cm ["self","share","rows"] (LK Cm) mN nM)(gL:aD P w K mg base 9 "chances" ["floor","goals"] (Ax Cm) LW KA)(fh:aD P w K mg base 4 "_law_holds" ["_law_found","_law_rows_here","_law_goals_here"] zY Gq GB):aC P w K mg base (cI P w) 11 f fd ["_law_script"] (da K QX):=by
 show F.d9 oM (λds M q x h=>?_) (λbI A outer s H E' hr=>(_,(ζ (ω 1 oM.nd (bZ (Ω qh hr ξ (Μ (jv 0) ε))))
   (ζ (ω 2 oM.nd (bZ (Ω ny hr ξ (Μ (jv 1) (δ (Ω Θ hr ξ (Μ (jv 0) (δ ν ε Χ))) ε aS)))))
   (ζ (gQ (ah (cX hr (bj (cL (Ω Θ hr ξ (Μ (jv 0) (δ ν ε Χ))) ν) ν) ν) (ι (ED (bZ (Ω kD hr ξ (Μ (jv 0) ε))) (km rfl (bt (ai (i:=1) oM.nd rfl (Or.inl rfl)) (bt (ai (i:=2) oM.nd rfl (Or.inl rfl)) iu))))) Ε))
   (ζ (ω 3 oM.nd (bZ (Lv eQ hr ξ (δ (av (δ ν (δ ν ε Χ) Χ)) (δ (bZ (mz E.gp (Μ (jv 1) ε))) ε aS) bf))))
   (ζ (ω 4 oM.nd (Ω gL hr ξ (Μ (jv 3) (δ (bZ (mz E.gp (Μ (jv 2) ε))) ε aS))))
   (ζ (ah (dQ (bV (Ω fh hr ξ (Μ (jv 4) (Μ (jv 1) (Μ (jv 2) ε)))))) (ι (Α rE)) Ε)
   (ζ (ω 5 oM.nd (av (δ (B9 E.mP (δ (Η (jv 4) ν) ε ba)) (δ (B9 E.mP (δ (Η (jv 4) ν) ε ba)) (δ (mz E.gp (δ (Η (jv 4) ν) ε ba)) ε aS) aS) aS)))
   (ζ (ah (dQ (bV (Ω fh hr ξ (δ (Ω gL hr ξ (Μ (jv 3) (δ (bZ (gM (jv 2) ν)) ε ba))) (Μ (jv 1) (δ (bZ (gM (jv 2) ν)) ε ba)) aS)))) (ι (Α rE)) Ε)
   (ζ (ω 6 oM.nd (Ω gL hr ξ (Μ (jv 3) (δ (bZ (mz E.gp (Μ (jv 2) ε))) ε aS))))
   (ζ (ah (dQ (bV (Ω fh hr ξ (Μ (jv 6) (Μ (jv 1) (Μ (jv 2) ε)))))) (ι (Α rE)) Ε)
   (ζ (cB (zH (Η (jv 6) ν)))
   (ζ (cB (zH (Η (jv 6) ν)))
   (ζ (cB (MT (Η (jv 6) ν)))
   (ζ (ah (dQ (bV (Ω fh hr ξ (δ (Ω gL hr ξ (Μ (jv 3) (δ (bZ (mz E.gp (Μ (jv 2) ε))) ε aS))) (Μ (jv 1) (Μ (jv 2) ε)) aS)))) (ι (Α rE)) Ε)
   (ι (Α (gf (PZ 1 hr (Η (jv 4) ν) (Η (jv 5) ν)) (gf (PZ 1 hr (Η (jv 4) ν) (Η (jv 5) ν)) (iK (Wm 1 hr (Η (jv 4) ν) (Η (jv 5) ν))))))))))))))))))))),λds M q x h=>?_))
 .let(ns,rfl,_):=h;rfl
 .let(ns,rfl,hl,hq):=h;show(ns,rfl,λrows0 r1 O5 hg m0=>MH (jf rows0) ?_);show(ns,2,rfl,@_,@_,λn2 Td=>(rows0,n2,rfl,O5,λr hr=>(hg r hr).1.1,λgs0 go PJ=>cR (fN gs0) ?_));show⟨λρ M'=>M'=M/\∃(γ:List Rw) (gs:List Nat),1<=-γ/\-γ<=12/\(∀r∈γ,uR (-γ) r)/\cz γ gs/\-gs<=12/\ρ=[!(.fX ns),!(.lst (γ.map Κ)),!(.lst (gs.map bq)),none,none,none,none],?_,?_⟩
  .show(ns,1,rfl,@_,@_,λn1 _=>((@_,bg (k:=8) @_),@_,λ_=>?_,λ_=>(rfl,rows0,gs0,r1,O5,hg,go,PJ,rfl)));dsimp only[KR];show(ns,rfl,λγ gs a1 XS hg' go' ZV m=>Ri (jf γ) (fN gs) ?_);show(rfl,γ,gs,a1,XS,hg',go',ZV,rfl)
  rintro ρ3 M3 ⟨rfl,γ,gs,r1,O5,hg,go,PJ,rfl⟩;let fr:FR (1, 3) γ:=.of @_ r1 O5 hg;let go1:=CV go;let g1l:-(gs.drop 1)<=12:=by rw[abQ];omega
  try walk_at "vc"
  show(fI,?_);show rR (jf γ) ?_;show(-M3,.lst (γ.map Κ),(1, 3),γ.map Κ,γ,λ_=>True,rfl,aK,rfl,Bq γ,@_,r1,O5,λr hr=>(hg r hr).1,rfl,IW ?_);show rR (fN gs) ?_;show((1, 3),γ,.lst (gs.map bq),gs,rfl,fr,.inl rfl,go,λS S2 p a tb E1 kt ka ks t ka1 UC ks1 AZ zo A6=>?_);let D':(M3++[dP p]++E1)[-M3]? =!(dP p):=aq aK;generalize M3++[dP p]++E1=M1 at *
  generalize -M3=kp at *
  show((1, 3),γ,gs,S,S2,p,a,tb,kt,kp,ka,ks,rfl,zo,D',AZ,A6,fr,go,PJ,t,nofun,λ_=>?_);obtain⟨fd,W0⟩:∃fd,fd=Dt.tup [.loc kt,.loc kp,.loc ka,.loc ks]:=(_,rfl);let i1:∀{M':Ms} {q':DQ},q' (.loc kp) M'->cG fd (.int 1) M' q':=λh=>by rw[W0];show χ (xs:=[.loc kt,.loc kp,.loc ka,.loc ks]) rfl (Λ (j:=1) rfl) h
  let i2:∀{M':Ms} {q':DQ},q' (.loc ka) M'->cG fd (.int 2) M' q':=λh=>by rw[W0];show χ (xs:=[.loc kt,.loc kp,.loc ka,.loc ks]) rfl (Λ (j:=2) rfl) h
  let i3:∀{M':Ms} {q':DQ},q' (.loc ks) M'->cG fd (.int 3) M' q':=λh=>by rw[W0];show χ (xs:=[.loc kt,.loc kp,.loc ka,.loc ks]) rfl (Λ (j:=3) rfl) h
  rw[<-W0]
  try walk_at "vc"
  show i1 (kp,_,_,rfl,D',?_);show i2 (ka,_,_,rfl,aq AZ,?_);show i3 (Mb (aq (aq A6)) ?_);show(by change 3<=sizeLine;decide,?_);let st:RU (M1++[dP p]++[dP a]++[MO.lst (S2.map cx)]) (-(M1++[dP p]++[dP a]++[MO.lst (S2.map cx)])) kp ka ks (-M1) (-(M1++[dP p])) (-(M1++[dP p]++[dP a])) (dP p) (dP a) (.lst (S2.map cx)):=by let e:∀{k:Nat} {v:MO},(M1++[dP p]++[dP a]++[MO.lst (S2.map cx)])[k]? =!v->k < -(M1++[dP p]++[dP a]++[MO.lst (S2.map cx)])/\(M1++[dP p]++[dP a]++[MO.lst (S2.map cx)])[k]? =!v:=λh=>(JF h,h);show(e (aq (aq (aq D'))),e (aq (aq (aq AZ))),e (aq (aq (aq A6))),e (aq (aq aK)),e (aq aK),e aK)
  generalize M1++[dP p]++[dP a]++[MO.lst (S2.map cx)]=M2 at *
  generalize -M1=j1 at *
  generalize -(M1++[dP p])=j2 at *
  generalize -(M1++[dP p]++[dP a])=j3 at *
  obtain⟨kd,Ih⟩:∃kd,kd=Dt.tup [.loc j1,.loc j2,.loc j3]:=(_,rfl);rw[<-Ih];show(gs.map bq,1,rfl,rfl,?_);rw[<-ab7];show cR (fN _) ?_;show((1, 3),γ,.lst ((gs.drop 1).map bq),gs.drop 1,rfl,fr,.inl rfl,go1,λS5 S6 p5 a5 tb5 E5 kt5 ka5 ks5 t5 _ _ _ aaj Yi YN=>?_);let YZ:(M2++[dP p5]++E5)[-M2]? =!(dP p5):=aq aK;let n5:-M2<=-(M2++[dP p5]++E5):=by rw[aan,aan];omega
  let st:=st.app (E:=[dP p5])|>.app (E:=E5)
  generalize M2++[dP p5]++E5=M5 at *
  generalize -M2=nn at *
  show(gs.map bq,1,rfl,rfl,?_);rw[<-ab7];show cR (fN _) ?_;show((1, 3),γ,gs.drop 1,S5,S6,p5,a5,tb5,kt5,nn,ka5,ks5,rfl,Yi,YZ,aaj,YN,fr,go1,g1l,t5,nofun,λ_=>?_);show rR (fN gs) ?_;show((1, 3),γ,.lst (gs.map bq),gs,rfl,fr,.inl rfl,go,λS7 S8 p7 a7 tb7 E7 Mq CD Dd t7 c1 c2 c3 Oz Y3 GI=>?_);let VF:(M5++[dP p7]++E7)[-M5]? =!(dP p7):=aq aK;let st:=st.app (E:=[dP p7])|>.app (E:=E7)
  generalize M5++[dP p7]++E7=M7 at *
  generalize -M5=DV at *
  show((1, 3),γ,gs,S7,S8,p7,a7,tb7,Mq,DV,CD,Dd,rfl,Y3,VF,Oz,GI,fr,go,PJ,t7,nofun,λ_=>?_)
  try dsimp only[Fb,Jm]
  try walk_at "vc"
  show(χ (d:=.tup [.loc Mq,.loc DV,.loc CD,.loc Dd]) (xs:=[.loc Mq,.loc DV,.loc CD,.loc Dd]) rfl (Λ (j:=1) rfl) ?_:cG (.tup [.loc Mq,.loc DV,.loc CD,.loc Dd]) (.int 1) _ _);show(DV,_,_,rfl,VF,?_);let st:=st.set (j:=DV) (w:=.eG [] []) n5;let Oz:(M7.set DV (.eG [] []))[CD]? =!(dP a7):=by rw[abv ()];show Oz
  let GI:(M7.set DV (.eG [] []))[Dd]? =!(.lst (S8.map cx)):=by rw[abv ()];show GI
  generalize M7.set DV (MO.eG [] [])=M8 at *
  show(χ (d:=.tup [.loc Mq,.loc DV,.loc CD,.loc Dd]) (xs:=[.loc Mq,.loc DV,.loc CD,.loc Dd]) rfl (Λ (j:=2) rfl) ?_:cG (.tup [.loc Mq,.loc DV,.loc CD,.loc Dd]) (.int 2) _ _);show(CD,_,_,rfl,Oz,?_);let st:=st.set (j:=CD) (w:=.eG [] []) ();let GI:(M8.set CD (.eG [] []))[Dd]? =!(.lst (S8.map cx)):=by rw[abv ()];show GI
  generalize M8.set CD (MO.eG [] [])=M9 at *
  show(χ (d:=.tup [.loc Mq,.loc DV,.loc CD,.loc Dd]) (xs:=[.loc Mq,.loc DV,.loc CD,.loc Dd]) rfl (Λ (j:=3) rfl) ?_:cG (.tup [.loc Mq,.loc DV,.loc CD,.loc Dd]) (.int 3) _ _);show(Dd,_,rfl,GI,?_);let st:=st.set (j:=Dd) (w:=.lst []) ();generalize M9.set Dd (MO.lst [])=WI at *
  show rR (fN gs) ?_;show((1, 3),γ,.lst (gs.map bq),gs,rfl,fr,.inl rfl,go,λSA SB pA aA tbA EA ktA kaA ksA tA _ _ _ XC aaE aaw=>?_);let ZF:(WI++[dP pA]++EA)[-WI]? =!(dP pA):=aq aK;let st:=st.app (E:=[dP pA])|>.app (E:=EA)
  generalize WI++[dP pA]++EA=M11 at *
  generalize -WI=kpA at *
  show((1, 3),γ,gs,SA,SB,pA,aA,tbA,ktA,kpA,kaA,ksA,rfl,aaE,ZF,XC,aaw,fr,go,PJ,tA,nofun,λ_=>?_)
  try walk_at "vc"
  let k0:∀{M':Ms} {q':DQ},q' (.loc j1) M'->cG kd (.int 0) M' q':=λh=>by rw[Ih];show χ (xs:=[.loc j1,.loc j2,.loc j3]) rfl bc h
  let k1:∀{M':Ms} {q':DQ},q' (.loc j2) M'->cG kd (.int 1) M' q':=λh=>by rw[Ih];show χ (xs:=[.loc j1,.loc j2,.loc j3]) rfl (Λ (j:=1) rfl) h
  let k2:∀{M':Ms} {q':DQ},q' (.loc j3) M'->cG kd (.int 2) M' q':=λh=>by rw[Ih];show χ (xs:=[.loc j1,.loc j2,.loc j3]) rfl (Λ (j:=2) rfl) h
  let ep:=Ba (fQ t.fp);let ea:=Ba (fQ t.kp.fa);show i1 (k0 (kp,j1,OX p p,rfl,rfl,PF st.h1.2 st.h4.2,?_));rw[ep];show(λ_=>?_,nofun)
  try walk_at "vc"
  show i2 (k1 (ka,j2,OX a a,rfl,rfl,PF st.h2.2 st.h5.2,?_));rw[ea];show(λ_=>?_,nofun)
  try walk_at "vc"
  show i3 (k2 ?_);show(true,.inr (_,xF (gH st.h3.2)),.inr (_,xF (gH st.h6.2)),Nb (xF (gH st.h3.2)) (xF (gH st.h6.2)),hq _)
structure FT(K:fv)(f:Addr)(x:Str)(st:Stmt):Prop where
 a:PySem.W.nsIn K mainGlobals x=!(!(.ref f))
 e:∃fd,de K x x st f fd
structure FM(K:fv)(C f:Addr)(m x:Str)(st:Stmt):Prop where
 a:PySem.W.findIn K (.ref C) m=!(!(.ref f))
 i:PySem.W.isFn K (.ref f)=true
 e:∃fd,de K m x st f fd
section
variable{K:fv}{C:Addr}{m x:Str}{st:Stmt}{oc:Value}{od an:Option Addr}{Jz:Array (Option Value)}{kV doc pm bI ct:Value}
def FT.of(a:PySem.W.nsIn K mainGlobals x=!(!(.ref f)))(l:K.lookup f=!(oc,od,.func (PySem.W.fnOf x x (lN st) (iC st) (τ st) .none kV doc pm an bI ct),Jz))(c:PySem.W.codeIn K bI x=true)(k:PySem.W.keepIn K (.ref f)=true):FT K f x st:=(a,_,L9 l c k)
def FM.of(a:PySem.W.findIn K (.ref C) m=!(!(.ref f)))(i:PySem.W.isFn K (.ref f)=true)(l:K.lookup f=!(oc,od,.func (PySem.W.fnOf m x (lN st) (iC st) (τ st) .none kV doc pm an bI ct),Jz))(c:PySem.W.codeIn K bI x=true)(k:PySem.W.keepIn K (.ref f)=true):FM K C f m x st:=(a,i,_,L9 l c k)
end
section
variable{P:List Value->Prop}
def Tp(h:P []):∀us:List Value,-us=0->P us
 | [],_=>h
 | _::_,e=>nomatch e
def e_(h:∀a0:Value,P [a0]):∀us:List Value,-us=1->P us
 | [],e=>nomatch e
 | a::us,e=>Tp (P:=λus=>P (a::us)) (h a) us (Nat.succ.inj e)
def cZ(h:∀a0 a1:Value,P [a0,a1]):∀us:List Value,-us=2->P us
 | [],e=>nomatch e
 | a::us,e=>e_ (P:=λus=>P (a::us)) (h a) us (Nat.succ.inj e)
def iD(h:∀a0 a1 a2:Value,P [a0,a1,a2]):∀us:List Value,-us=3->P us
 | [],e=>nomatch e
 | a::us,e=>cZ (P:=λus=>P (a::us)) (h a) us (Nat.succ.inj e)
def sP(h:∀a0 a1 a2 a3:Value,P [a0,a1,a2,a3]):∀us:List Value,-us=4->P us
 | [],e=>nomatch e
 | a::us,e=>iD (P:=λus=>P (a::us)) (h a) us (Nat.succ.inj e)
def LS(h:∀a0 a1 a2 a3 a4:Value,P [a0,a1,a2,a3,a4]):∀us:List Value,-us=5->P us
 | [],e=>nomatch e
 | a::us,e=>sP (P:=λus=>P (a::us)) (h a) us (Nat.succ.inj e)
end
def yK{K:fv}(h:PySem.W.subIn K (.type "int") (.type "bool")=!false):PySem.W.kitOne K (.type "int") (.type "bool")=!false:=by unfold PySem.W.kitOne PySem.W.kitCls;rw[aaK (by decide+kernel)];change(if PySem.W.kitMeta "bool"=true then _ else _)=_;rw[aaP (by decide+kernel)];show h
def BE{K:fv}(h:PySem.W.subIn K (.type "int") (.type "str")=!false):PySem.W.kitOne K (.type "int") (.type "str")=!false:=by unfold PySem.W.kitOne PySem.W.kitCls;rw[aaK (by decide+kernel)];change(if PySem.W.kitMeta "str"=true then _ else _)=_;rw[aaP (by decide+kernel)];show h
def vm{K:fv}(h:PySem.W.subIn K (.type "tuple") (.type "str")=!false):PySem.W.kitOne K (.type "tuple") (.type "str")=!false:=by unfold PySem.W.kitOne PySem.W.kitCls;rw[aaK (by decide+kernel)];change(if PySem.W.kitMeta "str"=true then _ else _)=_;rw[aaP (by decide+kernel)];show h
def vB{K:fv}(h:PySem.W.subIn K (.type "tuple") (.type "int")=!false):PySem.W.kitOne K (.type "tuple") (.type "int")=!false:=by unfold PySem.W.kitOne PySem.W.kitCls;rw[aaK (by decide+kernel)];change(if PySem.W.kitMeta "int"=true then _ else _)=_;rw[aaP (by decide+kernel)];show h
def yV{K:fv}(h:PySem.W.subIn K (.type "list") (.type "str")=!false):PySem.W.kitOne K (.type "list") (.type "str")=!false:=by unfold PySem.W.kitOne PySem.W.kitCls;rw[aaK (by decide+kernel)];change(if PySem.W.kitMeta "str"=true then _ else _)=_;rw[aaP (by decide+kernel)];show h
def yQ{K:fv}(h:PySem.W.subIn K (.type "list") (.type "int")=!false):PySem.W.kitOne K (.type "list") (.type "int")=!false:=by unfold PySem.W.kitOne PySem.W.kitCls;rw[aaK (by decide+kernel)];change(if PySem.W.kitMeta "int"=true then _ else _)=_;rw[aaP (by decide+kernel)];show h
def sT{K:fv}(h:PySem.W.subIn K (.type "tuple") (.type "list")=!false):PySem.W.kitOne K (.type "tuple") (.type "list")=!false:=by unfold PySem.W.kitOne PySem.W.kitCls;rw[aaK (by decide+kernel)];change(if PySem.W.kitMeta "list"=true then _ else _)=_;rw[aaP (by decide+kernel)];show h
def sU{K:fv}(h:PySem.W.subIn K (.type "list") (.type "tuple")=!false):PySem.W.kitOne K (.type "list") (.type "tuple")=!false:=by unfold PySem.W.kitOne PySem.W.kitCls;rw[aaK (by decide+kernel)];change(if PySem.W.kitMeta "tuple"=true then _ else _)=_;rw[aaP (by decide+kernel)];show h
open PySem.W in
def all_mk{l:OpenLaw}{w:World}{K:Frag}{h:Heap}{fa Cm Fz f1 f2 f3 f4 f5 f6 f7 f8 f9 f10 f11 Xf f13 f14 f15 f16 f17 f18 f19 f20 f21 f22 f23 f24 f25 f26 f27 f28 f29 f30 f31 f32 f33 f34 f35 f36 f37 f38 f39 f40 f41 f42 f43 f44 f45 f46 f47 f48 f49 f50 f51 f52 f53 f54 f55 f56 f57 f58 f59 f60 f61 f62 f63 f64:Addr}(X:K.In h)(G:h.Ns mainGlobals mg)(hfa:mg "law"=!(.ref fa))
  {w8 vx u9 lW:Tok}
  (yF:nsIn K mainGlobals "MOST_DOORS"=!(!(.int (6) w8)))
  (vd:nsIn K mainGlobals "MOST_BOTTOM"=!(!(.int (1000000) vx)))
  (uZ:nsIn K mainGlobals "MOST_PLACES"=!(!(.int (12) u9)))
  (lZ:nsIn K mainGlobals "MOST_SHARE_BOTTOM"=!(!(.int (1000) lW)))
  (NZ:nsIn K mainGlobals "Floor"=!(!(.ref Cm))) (lT:plainGet K Cm Str.empty=true) (lB:hasDictIn K Cm=true) (ly:plainOver K Cm=true) (lL:findIn K (.ref Cm) "__setattr__"=!(!(.builtin "object.__setattr__"))) (Oo:makesIn K Cm=true) (ME:keepIn K (.ref Cm)=true)
  (yz:findIn K (.ref Cm) "kept_rows"=!none)
  (vi:findIn K (.ref Cm) "kept_share"=!none)
  {Lc Iw:Tok} {LJ:Option Addr} {KC:Array (Option Value)} {Mh:Nat} (JB:nsIn K mainGlobals "HANDS"=!(!(.ref Fz))) (Jj:K.lookup Fz=!(.type "tuple",LJ,.seq #[(.str "one" Lc),(.str "other" Iw)] Mh,KC))
  (Au:subIn K (.type "int") (.type "bool")=!false)
  (C_:subIn K (.type "int") (.type "str")=!false)
  (xT:subIn K (.type "tuple") (.type "str")=!false)
  (yx:subIn K (.type "tuple") (.type "int")=!false)
  (AO:subIn K (.type "list") (.type "str")=!false)
  (zR:subIn K (.type "list") (.type "int")=!false)
  (vw:subIn K (.type "tuple") (.type "list")=!false)
  (vj:subIn K (.type "list") (.type "tuple")=!false)
  (t1:FT K f1 "_law_far" ye)
  (t2:FT K f2 "_law_number" mK)
  (t3:FT K f3 "_law_lowest" nv)
  (t4:FT K f4 "_law_pay" yA)
  (t5:FT K f5 "_law_rest" sE)
  (t6:FT K f6 "_law_doors" p_)
  (t7:FT K f7 "_law_rows" uz)
  (t8:FT K f8 "_law_goals" pY)
  (t9:FT K f9 "_law_chain_row" jD)
  (t10:FT K f10 "_law_more_row" kY)
  (t11:FT K f11 "_law_order" qt)
  (t12:FT K Xf "_law_detour" mS)
  (t13:FT K f13 "fits_share" nF)
  (t14:FT K f14 "fits_pay" sZ)
  (t15:FT K f15 "fits_door" pe)
  (t16:FT K f16 "fits_doors" mD)
  (t17:FT K f17 "common_divisor" hU)
  (t18:FT K f18 "common_bottom" iP)
  (t19:FT K f19 "fits_chances" jS)
  (t20:FT K f20 "fits_row" uy)
  (t21:FT K f21 "copied_row" nL)
  (t22:FM K Cm f22 "__init__" "Floor.__init__" nA)
  (t23:FM K Cm f23 "kind" "Floor.kind" mx)
  (t24:FM K Cm f24 "size" "Floor.size" nJ)
  (t25:FT K f25 "check_goals" kS)
  (t26:FM K Cm f26 "doors" "Floor.doors" kj)
  (t27:FT K f27 "is_drawn" ud)
  (t28:FT K f28 "drawn_next" mw)
  (t29:FT K f29 "draw" Ks)
  (t30:FT K f30 "places_of" pk)
  (t31:FT K f31 "drawn_door" mf)
  (t32:FT K f32 "drawn_plan" mZ)
  (t33:FT K f33 "first_plan" mL)
  (t34:FT K f34 "with_weights" jI)
  (t35:FT K f35 "number_of_head" iO)
  (t36:FT K f36 "moved_ahead" k7)
  (t37:FT K f37 "cleared_line" jW)
  (t38:FT K f38 "cleared" ur)
  (t39:FT K f39 "fraction" pj)
  (t40:FT K f40 "quotients" mC)
  (t41:FT K f41 "answer_of" pK)
  (t42:FT K f42 "minus" CT)
  (t43:FT K f43 "times" Cn)
  (t44:FT K f44 "whole_row" pZ)
  (t45:FT K f45 "led_row" y8)
  (t46:FT K f46 "ways_from" ph)
  (t47:FT K f47 "chance_row" nu)
  (t48:FT K f48 "chances_by" mJ)
  (t49:FT K f49 "under" Ed)
  (t50:FT K f50 "greatest" pV)
  (t51:FT K f51 "least" Dm)
  (t52:FT K f52 "better_led" m8)
  (t53:FT K f53 "kept_least" mW)
  (t54:FM K Cm f54 "rows" "Floor.rows" my)
  (t55:FT K f55 "held_row" sM)
  (t56:FM K Cm f56 "share" "Floor.share" kJ)
  (t57:FT K f57 "steps_by" uA)
  (t58:FT K f58 "chances" rZ)
  (t59:FT K f59 "_law_is_int" o9)
  (t60:FT K f60 "_law_plan" uH)
  (t61:FT K f61 "_law_fewer" pT)
  (t62:FT K f62 "_law_steps" pU)
  (t63:FT K f63 "_law_holds" pL)
  (t64:FT K f64 "law" Qs)
  (TL:nsIn K mainGlobals "len"=!none)
  (Ud:nsIn K mainGlobals "abs"=!none)
  (zk:nsIn K mainGlobals "isinstance"=!none)
  (U6:nsIn K mainGlobals "int"=!none)
  (Qj:nsIn K mainGlobals "bool"=!none)
  (Uq:nsIn K mainGlobals "str"=!none)
  (Nh:nsIn K mainGlobals "tuple"=!none)
  (Q2:nsIn K mainGlobals "list"=!none)
  (MF:nsIn K mainGlobals "range"=!none)
  (AG:nsIn K mainGlobals "enumerate"=!none)
  (U3:nsIn K mainGlobals "any"=!none)
  (Vl:nsIn K mainGlobals "all"=!none)
  (Wv:nsIn K mainGlobals "sum"=!none)
  (TX:nsIn K mainGlobals "zip"=!none)
  (Ra:nsIn K mainGlobals "dict"=!none)
  (V6:nsIn K mainGlobals "min"=!none)
  :∃fd:FuncData,(∀(s:Shared) (v:Value),BindsTo s fd ([v],[]) [("_law_script", v)])/\∀base:Heap,K.In base->base.Ns mainGlobals mg->aC l.prog w K mg base WR 11 fa fd ["_law_script"] (A' K):=by
 let(a1,_,F1):=t1;let(a2,_,F2):=t2;let(a3,_,F3):=t3;let(a4,_,F4):=t4;let(a5,_,F5):=t5;let(a6,_,F6):=t6;let(a7,_,F7):=t7;let(a8,_,F8):=t8;let(a9,_,F9):=t9;let(ZC,_,Z8):=t10;let(a11,_,Yy):=t11;let(XS,_,F12):=t12;let(a13,_,Yk):=t13;let(a14,_,Xw):=t14;let(a15,_,YC):=t15;let(a16,_,F16):=t16;let(a17,_,ZZ):=t17;let(a18,_,F18):=t18;let(a19,_,YB):=t19;let(a20,_,Ze):=t20;let(a21,_,ZM):=t21;let(a22,i22,_,F22):=t22;let(a23,i23,_,YV):=t23;let(a24,i24,_,Yu):=t24;let(a25,_,Zq):=t25;let(a26,i26,_,Yv):=t26;let(a27,_,YT):=t27;let(a28,_,F28):=t28;let(a29,_,YJ):=t29;let(a30,_,F30):=t30;let(a31,_,Y1):=t31;let(a32,_,Y9):=t32;let(a33,_,ZG):=t33;let(a34,_,YG):=t34;let(a35,_,ZH):=t35;let(a36,_,XG):=t36;let(a37,_,XZ):=t37;let(a38,_,Ye):=t38;let(a39,_,XE):=t39;let(a40,_,Zi):=t40;let(a41,_,ZR):=t41;let(a42,_,Zc):=t42;let(a43,_,ZT):=t43;let(a44,_,Y4):=t44;let(a45,_,Zu):=t45;let(a46,_,Yw):=t46;let(a47,_,Zh):=t47;let(a48,_,YQ):=t48;let(a49,_,Yz):=t49;let(a50,_,F50):=t50;let(a51,_,Y6):=t51;let(a52,_,YM):=t52;let(a53,_,XR):=t53;let(a54,i54,_,Yg):=t54;let(a55,_,ZX):=t55;let(a56,i56,_,F56):=t56;let(a57,_,Y2):=t57;let(a58,_,Yh):=t58;let(a59,_,YW):=t59;let(a60,_,Yc):=t60;let(a61,_,Zg):=t61;let(a62,_,F62):=t62;let(a63,_,Xx):=t63;let(a64,dL,F64):=t64;let e:=hfa.symm.trans (mg_of X G a64);cases e;let xU:=mg_of X G yF;let vt:=mg_of X G vd;let vh:=mg_of X G uZ;let lX:=mg_of X G lZ;let bK:=mg_none_of X G TL;let tZ:=mg_none_of X G Ud;let bN:=mg_none_of X G zk;let EC:=mg_none_of X G U6;let wY:=mg_none_of X G Qj;let Iy:=mg_none_of X G Uq;let rM:=mg_none_of X G Nh;let gp:=mg_none_of X G Q2;let bz:=mg_none_of X G MF;let cJ:=mg_none_of X G AG;let vZ:=mg_none_of X G U3;let wQ:=mg_none_of X G Vl;let qJ:=mg_none_of X G Wv;let A5:=mg_none_of X G TX;let mP:=mg_none_of X G Ra;let FL:=mg_none_of X G V6;let E:Ev K mg Cm:={bK:=bK,tZ:=tZ,bN:=bN,EC:=EC,wY:=wY,Iy:=Iy,rM:=rM,gp:=gp,bz:=bz,cJ:=cJ,vZ:=vZ,wQ:=wQ,qJ:=qJ,A5:=A5,mP:=mP,FL:=FL,ib:=yK Au,kis:=BE C_,kts:=vm xT,kti:=vB yx,kls:=yV AO,kli:=yQ zR,WU:=sT vw,klt:=sU vj,fT:=(lT,lB,ly,lL),dI:=yz,iR:=vi,D1:=(_,_,_,_,mg_of X G JB,Jj,rfl,rfl,fI,.cons (_,rfl) (.cons (_,rfl) .nil)),qF:=(_,xU),jR:=(_,vt),n8:=(_,vh),hZ:=(_,lX)};show(dL,λs v=>by let(_,_,_,_,_,_,_,_,_,rfl,_):=F64.ex;show .of_eq rfl,λbase _ _=>?_);let mc:=@aD.mk l.prog w K mg base;let jh:=(GY F1 E)&&&(F1, a1,cZ λ_ _=>rfl);let Θ:=(yR F2 E jh)&&&(F2, a2,cZ λ_ _=>rfl);let aG:=(zh F3 E)&&&(F3, a3,cZ λ_ _=>rfl);let jy:=(Ht F4 E aG)&&&(F4, a4,e_ λ_=>rfl);let o8:=(B6 F5 E Θ jh)&&&(F5, a5,cZ λ_ _=>rfl);let mj:=(A8 F6 E Θ jy o8 aG)&&&(F6, a6,LS λ_ _ _ _ _=>rfl);let qh:=(Ea F7 E Θ jy mj)&&&(F7, a7,e_ λ_=>rfl);let ny:=(Bf F8 E)&&&(F8, a8,cZ λ_ _=>rfl);let i0:=(sd F9 E Θ aG)&&&(F9, a9,iD λ_ _ _=>rfl);let jV:=(uW Z8 E Θ)&&&(Z8, ZC,iD λ_ _ _=>rfl);let nB:=(AH Yy E Θ)&&&(Yy, a11,cZ λ_ _=>rfl);let kD:=(yI F12 E Θ aG i0 jV nB)&&&(F12, XS,e_ λ_=>rfl);let ku:=(yP Yk E)&&&(Yk, a13,e_ λ_=>rfl);let gK:=(DY Xw E)&&&(Xw, a14,e_ λ_=>rfl);let nO:=(AK YC E gK)&&&(YC, a15,cZ λ_ _=>rfl);let iF:=(w4 F16 E nO)&&&(F16, a16,cZ λ_ _=>rfl);let b6:=(qj ZZ E)&&&(ZZ, a17,cZ λ_ _=>rfl);let cD:=(q_ F18 E b6)&&&(F18, a18,e_ λ_=>rfl);let iV:=(um YB E cD)&&&(YB, a19,e_ λ_=>rfl);let oZ:=(DH Ze E gK iF iV)&&&(Ze, a20,cZ λ_ _=>rfl);let eO:=(ya ZM E)&&&(ZM, a21,e_ λ_=>rfl);let eQ:Oe l.prog w K mg base _ "Floor" Cm _ _ _ _:=(yi F22 E ku oZ eO,(F22.binds λ_ _ _ _ _ _=>iD λ_ _ _=>rfl),(Oo,a22,i22,ME),mg_of X G NZ);let ar:gh l.prog w K mg base _ Cm "kind" _ _ _ _:=(xQ YV E)|||(YV, a23,i23,cZ λ_ _=>rfl);let ax:gh l.prog w K mg base _ Cm "size" _ _ _ _:=(xS Yu E)|||(Yu, a24,i24,e_ λ_=>rfl);let jA:=(vA Zq E ar ax)&&&(Zq, a25,cZ λ_ _=>rfl);let aT:gh l.prog w K mg base _ Cm "doors" _ _ _ _:=(vy Yv E ar)|||(Yv, a26,i26,cZ λ_ _=>rfl);let o_:=(Cr YT E ar aT)&&&(YT, a27,iD λ_ _ _=>rfl);let iH:=(xj F28 E ax o_)&&&(F28, a28,cZ λ_ _=>rfl);let pq:=(N0 YJ E jA ax iH)&&&(YJ, a29,cZ λ_ _=>rfl);let fA:=(Bs F30 E ax ar)&&&(F30, a30,cZ λ_ _=>rfl);let kQ:=(yL Y1 E aT)&&&(Y1, a31,iD λ_ _ _=>rfl);let kB:=(yO Y9 E fA kQ)&&&(Y9, a32,cZ λ_ _=>rfl);let kW:=(yg ZG E fA)&&&(ZG, a33,cZ λ_ _=>rfl);let iU:=(tw YG E)&&&(YG, a34,e_ λ_=>rfl);let g9:=(qY ZH E)&&&(ZH, a35,iD λ_ _ _=>rfl);let jM:=(vk XG E)&&&(XG, a36,iD λ_ _ _=>rfl);let fH:=(sA XZ E)&&&(XZ, a37,sP λ_ _ _ _=>rfl);let pJ:=(CH Ye E iU g9 jM fH)&&&(Ye, a38,cZ λ_ _=>rfl);let cM:=(AL XE E b6)&&&(XE, a39,cZ λ_ _=>rfl);let kI:=(xK Zi E cM)&&&(Zi, a40,sP λ_ _ _ _=>rfl);let nH:=(zO ZR E pJ kI)&&&(ZR, a41,e_ λ_=>rfl);let zg:=(Me Zc E cM)&&&(Zc, a42,cZ λ_ _=>rfl);let xr:=(Lz ZT E cM)&&&(ZT, a43,cZ λ_ _=>rfl);let nE:=(z4 Y4 E cD)&&&(Y4, a44,e_ λ_=>rfl);let k9:=(Gi Zu E ax zg xr nE)&&&(Zu, a45,LS λ_ _ _ _ _=>rfl);let nD:=(zN Yw E aT ar)&&&(Yw, a46,iD λ_ _ _=>rfl);let kU:=(yj Zh E k9 nD)&&&(Zh, a47,sP λ_ _ _ _=>rfl);let kE:=(yS YQ E nH ax kU)&&&(YQ, a48,sP λ_ _ _ _=>rfl);let lq:=(JR Yz E)&&&(Yz, a49,cZ λ_ _=>rfl);let nC:=(Ah F50 E lq)&&&(F50, a50,e_ λ_=>rfl);let xA:=(Kz Y6 E lq)&&&(Y6, a51,e_ λ_=>rfl);let eK:=(xP YM E aT ar nC xA)&&&(YM, a52,iD λ_ _ _=>rfl);let kM:=(x6 XR E kW kE eK)&&&(XR, a53,iD λ_ _ _=>rfl);let kG:gh l.prog w K mg base _ Cm "rows" _ _ _ _:=(zt Yg E eO)|||(Yg, a54,i54,e_ λ_=>rfl);let o7:=(CM ZX E)&&&(ZX, a55,iD λ_ _ _=>rfl);let jJ:gh l.prog w K mg base _ Cm "share" _ _ _ _:=(u7 F56 E)|||(F56, a56,i56,e_ λ_=>rfl);let pP:=(DO Y2 E kG o7 pq eQ jJ)&&&(Y2, a57,iD λ_ _ _=>rfl);let gL:=(Ec Yh E pq kB kM eK pP)&&&(Yh, a58,cZ λ_ _=>rfl);let fj:=(A0 YW E)&&&(YW, a59,e_ λ_=>rfl);let lE:=(CO Yc E fj)&&&(Yc, a60,sP λ_ _ _ _=>rfl);let m_:=(Bw Zg E)&&&(Zg, a61,sP λ_ _ _ _=>rfl);let mB:=(Ak F62 E fj m_)&&&(F62, a62,LS λ_ _ _ _ _=>rfl);let fh:=(BI Xx E lE mB)&&&(Xx, a63,iD λ_ _ _=>rfl);show Qn (RO F64 E qh ny Θ kD eQ gL fh)
def walk{l:PySem.W.OpenLaw}{q:Program}{YP:World->Heap->Prop}{d:DefRec}{K:Params->fv}(hn:l.most=!63)(T6:d.params.defaults=[])
  (hY:∀(w:World) (h:Heap),YP w h->(K w.params).In h)
  (F:∀(w:World) (mg:Str->Option Value) (fa:Addr) (h:Heap),(K w.params).In h->h.Ns mainGlobals mg->mg d.name=!(.ref fa)->
   ∃fd:FuncData,(∀(s:Shared) (u:Value),BindsTo s fd ([u],[]) [("_law_script", u)])/\∀base:Heap,(K w.params).In base->base.Ns mainGlobals mg->aC l.prog w (K w.params) mg base WR 11 fa fd ["_law_script"] (A' (K w.params))):
  PySem.W.WalkO q loose XP YP l.row.toRowW d [] (λf vs=>PySem.call f vs):=
 L2.yH (n:=63) (k:=11) (x:="_law_script") (CX:=λ_=>WR) (sp:=λw=>A' (K w.params)) hn @_ T6 (rfl,@_,@_) hY F (λ_ _ a ns hl _ hS=>(a,ns,rfl,hS,hl,λ_=>rfl)) λ_ _ _ _ _ z=>z
end
end Pg
end
open PySem PySem.W PyProof.Rows
set_option maxRecDepth 100000 in
set_option maxHeartbeats 0 in
theorem PySem.Challenge.cw_chanceduel_k44_plans_for_goals_holds : PySem.Challenge.rw_chanceduel_k44_plans_for_goals.Holds := by
 w_on;o_law
 refine holds_open (q:=Hd.q) (loose:=[]) (Xt:=Hd.Xt) (XP:=XL Hd.q [])
  (Yf:=Hd.H.obs) (Ya:=Hd.H.val) (YP:=Hd.H.says) Hd.left Hd.H.of Hd.H.keeps
  (λs e=>xl_of s (Bool.and_eq_true_iff.mp e).1) XL.keeps (by rfl) (by rfl) (by rfl)
  (λs e=>recFacts_of (Bool.and_eq_true_iff.mp e).2) (by rfl) (by assumption) (by decide+kernel)
  ⟨rfl,rfl,rfl,rfl,rfl,by decide+kernel⟩ ?hw ?hc
 (case hw=>w_witness2)
 refine Pg.walk (l:=PySem.Challenge.rw_chanceduel_k44_plans_for_goals) rfl rfl (fun w h Y=>PySem.W.kIn_of Y) ?F
 case F=>
  k_fill
  intro w mg fa h KX G Nk
  refine' Pg.all_mk KX G Nk ?_ ?_ ?_ ?_ ?_ ?_ ?_ ?_ ?_ ?_ ?_ ?_ ?_ ?_ ?_ ?_ ?_ ?_ ?_ ?_ ?_ ?_ ?_ ?_ ?_ ?_ ?_ ?_ ?_ ?_ ?_ ?_ ?_ ?_ ?_ ?_ ?_ ?_ ?_ ?_ ?_ ?_ ?_ ?_ ?_ ?_ ?_ ?_ ?_ ?_ ?_ ?_ ?_ ?_ ?_ ?_ ?_ ?_ ?_ ?_ ?_ ?_ ?_ ?_ ?_ ?_ ?_ ?_ ?_ ?_ ?_ ?_ ?_ ?_ ?_ ?_ ?_ ?_ ?_ ?_ ?_ ?_ ?_ ?_ ?_ ?_ ?_ ?_ ?_ ?_ ?_ ?_ ?_ ?_ ?_ ?_ ?_ ?_ ?_ ?_ ?_ ?_ ?_
  all_goals try first| (refine' Pg.FT.of ?_ ?_ ?_ ?_ <;> try k_is)| (refine' Pg.FM.of ?_ ?_ ?_ ?_ ?_ <;> try k_is)| k_is| k_exc| kernel_rfl
