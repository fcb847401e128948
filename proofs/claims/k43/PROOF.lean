import PyProof.Rows.All
import Wide.All
import OpenK.AllK
import Wide.FinOn
import Lean
import PyProof.EqAt
import PyProof.EqKinds
import PyProof.TupleCall
import PyProof.NeKinds
import PyProof.ZipIter
import PyProof.DictUpdate
import PyProof.FactsAll.dict_1
import PyProof.DictIter
import PyProof.DictWalks
import PySem.Challenge.RW_chanceduel_k43_chances_of_goals
set_option Elab.async false
set_option linter.all false
set_option maxRecDepth 100000
set_option maxHeartbeats 4000000
set_option compiler.extract_closed false
def aaa:=@List.getElem?_eq_getElem
def aab:=@List.getD_eq_getElem?_getD
def aac:=@List.mem_cons_of_mem
def aad:=@List.mem_cons_self
def aae:=@List.length_map
def aaf:=@List.getElem?_eq_some_iff
def aag:=@List.length_append
def aah:=@List.getElem?_map
def aai:=@Nat.le_refl
def aaj:=@List.mem_of_getElem?
def aak:=@PySem.Heap.get?_push_of_some
def aal:=@decide_eq_false
def aam:=@List.mem_map
def aan:=@List.getElem_mem
def aao:=@List.getElem?_append_left
def aap:=@PySem.Heap.lt_size
def aaq:=@if_neg
def aar:=@if_pos
def aas:=@Option.some.inj
def aat:=@Nat.le_trans
def aau:=@decide_eq_true
def aav:=@Int.le_of_lt
def aaw:=@List.getElem?_append_right
def aax:=@Nat.lt_of_lt_of_le
def aay:=@List.size_toArray
def aaz:=@Bool.false_ne_true
def aaA:=@List.mem_cons
def aaB:=@Bool.and_eq_true
def aaC:=@absurd
def aaD:=@of_decide_eq_true
def aaE:=@List.mem_append_right
def aaF:=@PySem.wpAny_bind
def aaG:=@List.map_map
def aaH:=@List.nil_append
def aaI:=@List.length_cons
def aaJ:=@List.append_assoc
def aaK:=@List.getElem?_range
def aaL:=@Nat.ne_of_lt
def aaM:=@List.map_cons
def aaN:=@Int.eq_of_mul_eq_mul_left
def aaO:=@PySem.Heap.get?_push_size
def aaP:=@congrArg
def aaQ:=@Int.mul_le_mul_of_nonneg_left
def aaR:=@decide_eq_true_iff
def aaS:=@List.all_eq_true
def aaT:=@List.mem_append
def aaU:=@Int.toNat_natCast
def aaV:=@List.append_nil
def aaW:=@List.map_append
def aaX:=@List.length_replicate
def aaY:=@Nat.lt_of_le_of_lt
def aaZ:=@List.length_set
def aa0:=@Rat.intCast_mul
def aa2:=@Int.mul_le_mul_of_nonneg_right
def aa3:=@of_decide_eq_false
def aa4:=@Int.natAbs_mul
def aa5:=@List.getElem?_set_self
def aa6:=@List.getElem?_set_ne
def aa7:=@Option.isSome_iff_exists
def aa8:=@List.length_range
def aa9:=@List.mem_range
def aba:=@List.getElem_of_mem
def abb:=@List.map_congr_left
def abc:=@List.ext_getElem
def abd:=@PySem.wpAny_pure
def abe:=@Int.mul_comm
def abf:=@Int.natAbs_of_nonneg
def abg:=@List.zip_cons_cons
def abh:=@Int.lt_of_le_of_lt
def abi:=@List.replicate_succ
def abj:=@Int.mul_pos
def abl:=@Int.emod_lt_of_pos
def abm:=@List.mem_singleton
def abn:=@List.drop_eq_getElem_cons
def abo:=@Int.emod_nonneg
def abp:=@Int.mul_ediv_cancel_left
def abq:=@Nat.add_sub_cancel_left
def abr:=@Nat.lt_succ_self
def abt:=@List.length_drop
def abu:=@Nat.le_add_right
def abv:=@List.exists_cons_of_ne_nil
def abw:=@Rat.intCast_lt_intCast
def abx:=@List.flatten_cons
def aby:=@Nat.lt_succ_of_lt
def abz:=@List.nodup_cons
def abA:=@List.foldl_cons
def abB:=@Nat.lt_irrefl
def abC:=@List.any_cons
def abD:=@Int.mul_nonneg
def abE:=@Nat.zero_le
def abF:=@Nat.not_lt_zero
def abG:=@List.range_succ_eq_map
def abH:=@List.take_of_length_le
def abI:=@Int.fmod_eq_emod_of_nonneg
def abJ:=@beq_iff_eq
def abK:=@List.lookup_cons
def abL:=@List.all_cons
def abN:=@List.map_drop
def abO:=@List.set_append_left
def abP:=@Nat.pow_le_pow_right
def abQ:=@List.length_zip
def abR:=@Int.pow_succ
def abS:=@Int.ofNat_lt
def abT:=@List.getElem?_replicate
def abU:=@List.drop_eq_nil_of_le
def abV:=@Option.map_eq_some_iff
def abW:=@Bool.eq_iff_iff
def abX:=@Int.le_trans
def abY:=@Nat.sub_self
def abZ:=@Int.dvd_zero
def ab0:=@PySem.wpAny_mono
def ab1:=@List.nodup_append
def ab2:=@Int.le_of_dvd
def ab3:=@Array.getElem?_eq_some_iff
def ab4:=@Int.fdiv_eq_ediv_of_nonneg
def ab5:=@Int.pow_nonneg
def ab7:=@Int.mul_neg_of_pos_of_neg
def ab8:=@Int.le_of_mul_le_mul_left
def ab9:=@beq_self_eq_true
def aca:=@List.any_eq_true
def acb:=@List.getElem?_take_of_lt
def acd:=@Nat.zero_add
def ace:=@List.mem_of_mem_eraseIdx
def acf:=@List.mem_filterMap
def acg:=@List.of_mem_zip
def ach:=@Nat.min_eq_left
def aci:=@Bool.or_eq_true
def acj:=@List.drop_zero
def ack:=@Nat.ne_of_gt
def acm:=@List.all_map
def acn:=@Int.ne_of_gt
namespace Hd
open PySem PySem.W PyProof.Rows
def at_(i:Nat):Stmt:=PySem.Challenge.pw_chanceduel_k43_chances_of_goals.main.body.getD i (.Pass ⟨0,0,0,0⟩)
def Q1:Stmt->Nat->Stmt
  | .ClassDef _ _ _ b _ _ _ _ _ _ _,j=>b.getD j (.Pass ⟨0,0,0,0⟩)
  | s,_=>s
def dA:Stmt->Arguments
  | .FunctionDef _ a _ _ _ _ _ _ _ _=>a
  | _=>⟨[],[],none,[],[],none,[]⟩
def dB:Stmt->List Stmt
  | .FunctionDef _ _ b _ _ _ _ _ _ _=>b
  | _=>[]
def dS:Stmt->Scope
  | .FunctionDef _ _ _ _ _ _ c _ _ _=>c
  | _=>{kind:= .function,names:=[],isGenerator:=false,isCoroutine:=false}
abbrev row:=PySem.Challenge.rw_chanceduel_k43_chances_of_goals.row
abbrev en(P:Params)(x:Str)(t:Tok)(v:Value):DictEntry:=⟨PyData.keyHash P x, .str x t,v⟩
def q:Program:={PySem.Challenge.pw_chanceduel_k43_chances_of_goals with main:={PySem.Challenge.pw_chanceduel_k43_chances_of_goals.main with body:=[at_ 1,at_ 2,at_ 3,at_ 4,at_ 5,at_ 6,at_ 7,at_ 9,at_ 10,at_ 11,at_ 12,at_ 13,at_ 14,at_ 16,at_ 17,at_ 18,at_ 19,at_ 20,at_ 21,at_ 22,at_ 23,at_ 24,at_ 25,at_ 27,at_ 28,at_ 29,at_ 30,at_ 31,at_ 32,at_ 33,at_ 35,at_ 36,at_ 37,at_ 38,at_ 39,at_ 40,at_ 41,at_ 42,at_ 44,at_ 45,at_ 46,at_ 47,at_ 48,at_ 50,at_ 51,at_ 52,at_ 53,at_ 55,at_ 56,at_ 57,at_ 58,at_ 59,at_ 60,at_ 61,at_ 62,at_ 63,at_ 65,at_ 66,at_ 67,at_ 68,at_ 69,at_ 70,at_ 71,at_ 72,at_ 73,at_ 74,at_ 75,at_ 76,at_ 77,at_ 78,at_ 79,at_ 80]}}
abbrev cO(x q:Str)(t l n f a m:Nat):Obj:=⟨.type "code",none, .fields #[.str x t, .str q (t+1), .str "/claim/cut.py" (t+2), .int l 0, .int n 0, .int 0 0, .int 0 0, .int f 0, .ref a, .bool true, .int 181 0, .ref (a+1), .none, .ref (a+2), .ref (a+3), .ref (a+4), .int m 0, .int l 0, .str "/claim/cut.py" (m+1)], #[]⟩
abbrev dO(x q:Str)(t l n f a m:Nat):Obj:=⟨.type "code",none, .fields #[.str x t, .str q (t+1), .str "/claim/cut.py" (t+2), .int l 0, .int n 0, .int 0 0, .int 0 0, .int f 0, .ref a, .bool true, .int 181 0, .ref (a+1), .none, .none, .none, .ref (a+2), .int m 0, .int l 0, .str "/claim/cut.py" (m+1)], #[]⟩
abbrev fO(x q:Str)(s:Stmt)(m:Value)(c:Nat):Obj:=⟨.type "function",none, .func ⟨x,q,(dA s), .stmts (dB s),(dS s),3,[], .none, .none, .none,m,none, .ref c, .none,0⟩, #[]⟩
abbrev m0:Value:= .str "chanceduel.parts" 341
abbrev m1:Value:= .str "chanceduel.places" 395
abbrev m2:Value:= .str "chanceduel.floors" 453
abbrev m3:Value:= .str "chanceduel.rows" 596
abbrev m4:Value:= .str "chanceduel.plans" 672
abbrev m5:Value:= .str "chanceduel.shuts" 719
abbrev m6:Value:= .str "chanceduel.reach" 749
abbrev m7:Value:= .str "law_chanceduel_k43_chances_of_goals" 833
noncomputable def K:Params->Frag:=λP=>
(nat_lit 2,⟨.none,none,(.dict #[] 0), #[]⟩)::
(nat_lit 3,⟨(.type "dict"),none,(.dict #[(en P "__name__" 165 m7),(en P "__doc__" 166 .none),(en P "__package__" 167 .none),(en P "__loader__" 168 (.builtin "__main__.__loader__#opaque")),(en P "__spec__" 169 .none),(en P "__annotations__" 170 (.ref 6)),(en P "__builtins__" 171 (.ref 4)),(en P "__file__" 173 (.str "/claim/cut.py" 172)),(en P "__cached__" 174 .none),(en P "DuelError" 206 (.ref 24)),(en P "NoNumber" 222 (.ref 37)),(en P "NoFloor" 238 (.ref 49)),(en P "NoPlace" 263 (.ref 68)),(en P "NoAnswer" 288 (.ref 87)),(en P "ManyAnswers" 315 (.ref 106)),(en P "NoGoal" 340 (.ref 125)),(en P "common_divisor" 353 (.ref 134)),(en P "fraction" 362 (.ref 141)),(en P "plus" 370 (.ref 148)),(en P "minus" 378 (.ref 155)),(en P "times" 386 (.ref 162)),(en P "under" 394 (.ref 169)),(en P "HANDS" 399 (.ref 170)),(en P "MOST_DOORS" 401 (.int 6 400)),(en P "MOST_BOTTOM" 403 (.int 1000000 402)),(en P "fits_pay" 410 (.ref 177)),(en P "fits_door" 418 (.ref 184)),(en P "common_bottom" 427 (.ref 191)),(en P "fits_chances" 433 (.ref 196)),(en P "fits_doors" 439 (.ref 201)),(en P "fits_row" 445 (.ref 206)),(en P "copied_row" 452 (.ref 213)),(en P "MOST_PLACES" 456 (.int 12 455)),(en P "MOST_SHARE_BOTTOM" 458 (.int 1000 457)),(en P "fits_share" 465 (.ref 220)),(en P "weighed" 476 (.ref 227)),(en P "greatest" 485 (.ref 234)),(en P "least" 494 (.ref 241)),(en P "Floor" 595 (.ref 318)),(en P "with_weights" 608 (.ref 329)),(en P "number_of_head" 618 (.ref 336)),(en P "moved_ahead" 627 (.ref 343)),(en P "cleared_line" 633 (.ref 348)),(en P "cleared" 639 (.ref 353)),(en P "quotients" 652 (.ref 360)),(en P "still_of" 658 (.ref 365)),(en P "answer_of" 671 (.ref 372)),(en P "places_of" 679 (.ref 377)),(en P "first_plan" 689 (.ref 384)),(en P "ways_from" 699 (.ref 391)),(en P "whole_row" 705 (.ref 396)),(en P "led_row" 718 (.ref 403)),(en P "check_goals" 730 (.ref 410)),(en P "is_drawn" 736 (.ref 415)),(en P "drawn_next" 742 (.ref 420)),(en P "draw" 748 (.ref 425)),(en P "drawn_door" 761 (.ref 432)),(en P "drawn_plan" 771 (.ref 439)),(en P "chance_row" 781 (.ref 446)),(en P "chances_by" 787 (.ref 451)),(en P "better_led" 793 (.ref 456)),(en P "kept_least" 805 (.ref 463)),(en P "held_row" 814 (.ref 470)),(en P "steps_by" 820 (.ref 475)),(en P "chances" 832 (.ref 482)),(en P "_law_far" 842 (.ref 489)),(en P "_law_number" 852 (.ref 496)),(en P "_law_rest" 861 (.ref 503)),(en P "_law_lowest" 871 (.ref 510)),(en P "_law_pay" 878 (.ref 517)),(en P "_law_doors" 884 (.ref 522)),(en P "_law_rows" 901 (.ref 529)),(en P "_law_goals" 911 (.ref 536)),(en P "_law_is_int" 918 (.ref 543)),(en P "_law_fractions" 927 (.ref 550)),(en P "_law_hoped" 933 (.ref 555)),(en P "_law_first_of" 944 (.ref 562)),(en P "_law_seen" 950 (.ref 567)),(en P "_law_holds" 962 (.ref 574)),(en P "_law_other_hand" 969 (.ref 581)),(en P "law" 975 (.ref 586))] 81), #[]⟩)::
(nat_lit 23,⟨(.type "dict"),none,(.dict #[(en P "__module__" 196 (.str "chanceduel.errors" 187)),(en P "__firstlineno__" 200 (.int 2 199)),(en P "__static_attributes__" 201 (.ref 22)),(en P "__weakref__" 203 (.ref 25)),(en P "__doc__" 204 .none)] 3), #[]⟩)::
(nat_lit 24,⟨(.type "type"),none,(.cls ⟨"DuelError",[(.type "ValueError")],[(.ref 24),(.type "ValueError"),(.type "Exception"),(.type "BaseException"),(.type "object")],23,"DuelError",true,[],[(.ref 37),(.ref 49),(.ref 68),(.ref 87),(.ref 106),(.ref 125)],false,none,false⟩), #[(some (.ref 15)),none,(some (.str "DuelError" 189)),(some (.str "DuelError" 197)),(some (.builtin "ValueError.__new__")),(some (.bool true))]⟩)::
(nat_lit 37,⟨(.type "type"),none,(.cls ⟨"NoNumber",[(.ref 24)],[(.ref 37),(.ref 24),(.type "ValueError"),(.type "Exception"),(.type "BaseException"),(.type "object")],36,"NoNumber",true,[],[],false,none,false⟩), #[(some (.ref 28)),none,(some (.str "NoNumber" 207)),(some (.str "NoNumber" 215)),(some (.builtin "ValueError.__new__")),(some (.bool true))]⟩)::
(nat_lit 49,⟨(.type "type"),none,(.cls ⟨"NoFloor",[(.ref 24)],[(.ref 49),(.ref 24),(.type "ValueError"),(.type "Exception"),(.type "BaseException"),(.type "object")],48,"NoFloor",true,[],[],false,none,false⟩), #[(some (.ref 40)),none,(some (.str "NoFloor" 223)),(some (.str "NoFloor" 231)),(some (.builtin "ValueError.__new__")),(some (.bool true))]⟩)::
(nat_lit 68,⟨(.type "type"),none,(.cls ⟨"NoPlace",[(.ref 24)],[(.ref 68),(.ref 24),(.type "ValueError"),(.type "Exception"),(.type "BaseException"),(.type "object")],67,"NoPlace",true,[],[],false,none,false⟩), #[(some (.ref 52)),none,(some (.str "NoPlace" 239)),(some (.str "NoPlace" 247)),(some (.builtin "ValueError.__new__")),(some (.bool true))]⟩)::
(nat_lit 87,⟨(.type "type"),none,(.cls ⟨"NoAnswer",[(.ref 24)],[(.ref 87),(.ref 24),(.type "ValueError"),(.type "Exception"),(.type "BaseException"),(.type "object")],86,"NoAnswer",true,[],[],false,none,false⟩), #[(some (.ref 71)),none,(some (.str "NoAnswer" 264)),(some (.str "NoAnswer" 272)),(some (.builtin "ValueError.__new__")),(some (.bool true))]⟩)::
(nat_lit 106,⟨(.type "type"),none,(.cls ⟨"ManyAnswers",[(.ref 24)],[(.ref 106),(.ref 24),(.type "ValueError"),(.type "Exception"),(.type "BaseException"),(.type "object")],105,"ManyAnswers",true,[],[],false,none,false⟩), #[(some (.ref 90)),none,(some (.str "ManyAnswers" 289)),(some (.str "ManyAnswers" 297)),(some (.builtin "ValueError.__new__")),(some (.bool true))]⟩)::
(nat_lit 125,⟨(.type "type"),none,(.cls ⟨"NoGoal",[(.ref 24)],[(.ref 125),(.ref 24),(.type "ValueError"),(.type "Exception"),(.type "BaseException"),(.type "object")],124,"NoGoal",true,[],[],false,none,false⟩), #[(some (.ref 109)),none,(some (.str "NoGoal" 316)),(some (.str "NoGoal" 324)),(some (.builtin "ValueError.__new__")),(some (.bool true))]⟩)::
(nat_lit 133,cO "common_divisor" "common_divisor" 343 30 2 3 128 351)::
(nat_lit 134,fO "common_divisor" "common_divisor" (at_ 9) m0 133)::
(nat_lit 140,cO "fraction" "fraction" 354 38 2 3 135 360)::
(nat_lit 141,fO "fraction" "fraction" (at_ 10) m0 140)::
(nat_lit 154,cO "minus" "minus" 371 47 2 3 149 376)::
(nat_lit 155,fO "minus" "minus" (at_ 12) m0 154)::
(nat_lit 161,cO "times" "times" 379 49 2 3 156 384)::
(nat_lit 162,fO "times" "times" (at_ 13) m0 161)::
(nat_lit 168,cO "under" "under" 387 51 2 3 163 392)::
(nat_lit 169,fO "under" "under" (at_ 14) m0 168)::
(nat_lit 170,⟨(.type "tuple"),none,(.seq #[(.str "one" 397),(.str "other" 398)] 0), #[]⟩)::
(nat_lit 176,cO "fits_pay" "fits_pay" 404 57 1 3 171 408)::
(nat_lit 177,fO "fits_pay" "fits_pay" (at_ 19) m1 176)::
(nat_lit 183,cO "fits_door" "fits_door" 411 59 2 3 178 416)::
(nat_lit 184,fO "fits_door" "fits_door" (at_ 20) m1 183)::
(nat_lit 190,cO "common_bottom" "common_bottom" 419 61 1 3 185 425)::
(nat_lit 191,fO "common_bottom" "common_bottom" (at_ 21) m1 190)::
(nat_lit 195,dO "fits_chances" "fits_chances" 428 66 1 3 192 431)::
(nat_lit 196,fO "fits_chances" "fits_chances" (at_ 22) m1 195)::
(nat_lit 200,dO "fits_doors" "fits_doors" 434 72 2 3 197 437)::
(nat_lit 201,fO "fits_doors" "fits_doors" (at_ 23) m1 200)::
(nat_lit 205,dO "fits_row" "fits_row" 440 76 2 3 202 443)::
(nat_lit 206,fO "fits_row" "fits_row" (at_ 24) m1 205)::
(nat_lit 212,cO "copied_row" "copied_row" 446 85 1 3 207 450)::
(nat_lit 213,fO "copied_row" "copied_row" (at_ 25) m1 212)::
(nat_lit 219,cO "fits_share" "fits_share" 459 92 1 3 214 463)::
(nat_lit 220,fO "fits_share" "fits_share" (at_ 29) m2 219)::
(nat_lit 233,cO "greatest" "greatest" 477 99 1 3 228 483)::
(nat_lit 234,fO "greatest" "greatest" (at_ 31) m2 233)::
(nat_lit 240,cO "least" "least" 486 105 1 3 235 492)::
(nat_lit 241,fO "least" "least" (at_ 32) m2 240)::
(nat_lit 252,dO "__init__" "Floor.__init__" 507 113 3 3 249 510)::
(nat_lit 253,fO "__init__" "Floor.__init__" (Q1 (at_ 33) 0) m2 252)::
(nat_lit 259,cO "size" "Floor.size" 513 124 1 3 254 517)::
(nat_lit 260,fO "size" "Floor.size" (Q1 (at_ 33) 1) m2 259)::
(nat_lit 266,cO "share" "Floor.share" 520 127 1 3 261 524)::
(nat_lit 267,fO "share" "Floor.share" (Q1 (at_ 33) 2) m2 266)::
(nat_lit 273,cO "kind" "Floor.kind" 527 130 2 3 268 532)::
(nat_lit 274,fO "kind" "Floor.kind" (Q1 (at_ 33) 3) m2 273)::
(nat_lit 280,cO "doors" "Floor.doors" 535 133 2 3 275 540)::
(nat_lit 281,fO "doors" "Floor.doors" (Q1 (at_ 33) 4) m2 280)::
(nat_lit 292,dO "rows" "Floor.rows" 551 143 1 3 289 554)::
(nat_lit 293,fO "rows" "Floor.rows" (Q1 (at_ 33) 6) m2 292)::
(nat_lit 317,⟨(.type "dict"),none,(.dict #[(en P "__module__" 502 m2),(en P "__firstlineno__" 506 (.int 111 505)),(en P "__init__" 512 (.ref 253)),(en P "size" 519 (.ref 260)),(en P "share" 526 (.ref 267)),(en P "kind" 534 (.ref 274)),(en P "doors" 542 (.ref 281)),(en P "pay" 550 (.ref 288)),(en P "rows" 556 (.ref 293)),(en P "shown" 567 (.ref 300)),(en P "all_shown" 573 (.ref 305)),(en P "look" 579 (.ref 310)),(en P "best" 585 (.ref 315)),(en P "__static_attributes__" 588 (.ref 316)),(en P "__dict__" 590 (.ref 319)),(en P "__weakref__" 592 (.ref 320)),(en P "__doc__" 593 .none)] 4), #[]⟩)::
(nat_lit 318,⟨(.type "type"),none,(.cls ⟨"Floor",[(.type "object")],[(.ref 318),(.type "object")],317,"Floor",true,[],[],false,none,false⟩), #[none,none,(some (.str "Floor" 495)),(some (.str "Floor" 503)),(some (.builtin "object.__new__")),(some (.bool true))]⟩)::
(nat_lit 328,cO "with_weights" "with_weights" 598 169 1 3 323 606)::
(nat_lit 329,fO "with_weights" "with_weights" (at_ 35) m3 328)::
(nat_lit 335,cO "number_of_head" "number_of_head" 609 176 3 3 330 616)::
(nat_lit 336,fO "number_of_head" "number_of_head" (at_ 36) m3 335)::
(nat_lit 342,cO "moved_ahead" "moved_ahead" 619 181 3 3 337 625)::
(nat_lit 343,fO "moved_ahead" "moved_ahead" (at_ 37) m3 342)::
(nat_lit 347,dO "cleared_line" "cleared_line" 628 183 4 3 344 631)::
(nat_lit 348,fO "cleared_line" "cleared_line" (at_ 38) m3 347)::
(nat_lit 352,dO "cleared" "cleared" 634 185 2 3 349 637)::
(nat_lit 353,fO "cleared" "cleared" (at_ 39) m3 352)::
(nat_lit 359,cO "quotients" "quotients" 640 202 4 3 354 650)::
(nat_lit 360,fO "quotients" "quotients" (at_ 40) m3 359)::
(nat_lit 371,cO "answer_of" "answer_of" 659 212 1 3 366 669)::
(nat_lit 372,fO "answer_of" "answer_of" (at_ 42) m3 371)::
(nat_lit 376,dO "places_of" "places_of" 674 225 2 3 373 677)::
(nat_lit 377,fO "places_of" "places_of" (at_ 44) m4 376)::
(nat_lit 383,cO "first_plan" "first_plan" 680 227 2 3 378 687)::
(nat_lit 384,fO "first_plan" "first_plan" (at_ 45) m4 383)::
(nat_lit 390,cO "ways_from" "ways_from" 690 232 3 3 385 697)::
(nat_lit 391,fO "ways_from" "ways_from" (at_ 46) m4 390)::
(nat_lit 395,dO "whole_row" "whole_row" 700 237 1 3 392 703)::
(nat_lit 396,fO "whole_row" "whole_row" (at_ 47) m4 395)::
(nat_lit 402,cO "led_row" "led_row" 706 240 5 3 397 716)::
(nat_lit 403,fO "led_row" "led_row" (at_ 48) m4 402)::
(nat_lit 409,cO "check_goals" "check_goals" 721 247 2 3 404 728)::
(nat_lit 410,fO "check_goals" "check_goals" (at_ 50) m5 409)::
(nat_lit 414,dO "is_drawn" "is_drawn" 731 253 3 3 411 734)::
(nat_lit 415,fO "is_drawn" "is_drawn" (at_ 51) m5 414)::
(nat_lit 419,dO "drawn_next" "drawn_next" 737 260 2 3 416 740)::
(nat_lit 420,fO "drawn_next" "drawn_next" (at_ 52) m5 419)::
(nat_lit 424,dO "draw" "draw" 743 262 2 3 421 746)::
(nat_lit 425,fO "draw" "draw" (at_ 53) m5 424)::
(nat_lit 431,cO "drawn_door" "drawn_door" 751 275 3 3 426 759)::
(nat_lit 432,fO "drawn_door" "drawn_door" (at_ 55) m6 431)::
(nat_lit 438,cO "drawn_plan" "drawn_plan" 762 280 2 3 433 769)::
(nat_lit 439,fO "drawn_plan" "drawn_plan" (at_ 56) m6 438)::
(nat_lit 445,cO "chance_row" "chance_row" 772 285 4 3 440 779)::
(nat_lit 446,fO "chance_row" "chance_row" (at_ 57) m6 445)::
(nat_lit 450,dO "chances_by" "chances_by" 782 291 4 3 447 785)::
(nat_lit 451,fO "chances_by" "chances_by" (at_ 58) m6 450)::
(nat_lit 455,dO "better_led" "better_led" 788 295 3 3 452 791)::
(nat_lit 456,fO "better_led" "better_led" (at_ 59) m6 455)::
(nat_lit 462,cO "kept_least" "kept_least" 794 303 3 3 457 803)::
(nat_lit 463,fO "kept_least" "kept_least" (at_ 60) m6 462)::
(nat_lit 469,cO "held_row" "held_row" 806 311 3 3 464 812)::
(nat_lit 470,fO "held_row" "held_row" (at_ 61) m6 469)::
(nat_lit 474,dO "steps_by" "steps_by" 815 315 3 3 471 818)::
(nat_lit 475,fO "steps_by" "steps_by" (at_ 62) m6 474)::
(nat_lit 481,cO "chances" "chances" 821 318 2 3 476 830)::
(nat_lit 482,fO "chances" "chances" (at_ 63) m6 481)::
(nat_lit 488,cO "_law_far" "_law_far" 835 328 2 3 483 840)::
(nat_lit 489,fO "_law_far" "_law_far" (at_ 65) m7 488)::
(nat_lit 495,cO "_law_number" "_law_number" 843 330 2 3 490 850)::
(nat_lit 496,fO "_law_number" "_law_number" (at_ 66) m7 495)::
(nat_lit 502,cO "_law_rest" "_law_rest" 853 336 2 3 497 859)::
(nat_lit 503,fO "_law_rest" "_law_rest" (at_ 67) m7 502)::
(nat_lit 509,cO "_law_lowest" "_law_lowest" 862 341 2 3 504 869)::
(nat_lit 510,fO "_law_lowest" "_law_lowest" (at_ 68) m7 509)::
(nat_lit 516,cO "_law_pay" "_law_pay" 872 347 1 3 511 876)::
(nat_lit 517,fO "_law_pay" "_law_pay" (at_ 69) m7 516)::
(nat_lit 521,dO "_law_doors" "_law_doors" 879 351 5 3 518 882)::
(nat_lit 522,fO "_law_doors" "_law_doors" (at_ 70) m7 521)::
(nat_lit 528,cO "_law_rows" "_law_rows" 885 362 1 3 523 899)::
(nat_lit 529,fO "_law_rows" "_law_rows" (at_ 71) m7 528)::
(nat_lit 535,cO "_law_goals" "_law_goals" 902 383 2 3 530 909)::
(nat_lit 536,fO "_law_goals" "_law_goals" (at_ 72) m7 535)::
(nat_lit 542,cO "_law_is_int" "_law_is_int" 912 391 1 3 537 916)::
(nat_lit 543,fO "_law_is_int" "_law_is_int" (at_ 73) m7 542)::
(nat_lit 549,cO "_law_fractions" "_law_fractions" 919 393 2 3 544 925)::
(nat_lit 550,fO "_law_fractions" "_law_fractions" (at_ 74) m7 549)::
(nat_lit 554,dO "_law_hoped" "_law_hoped" 928 402 2 3 551 931)::
(nat_lit 555,fO "_law_hoped" "_law_hoped" (at_ 75) m7 554)::
(nat_lit 561,cO "_law_first_of" "_law_first_of" 934 410 2 3 556 942)::
(nat_lit 562,fO "_law_first_of" "_law_first_of" (at_ 76) m7 561)::
(nat_lit 566,dO "_law_seen" "_law_seen" 945 417 2 3 563 948)::
(nat_lit 567,fO "_law_seen" "_law_seen" (at_ 77) m7 566)::
(nat_lit 573,cO "_law_holds" "_law_holds" 951 428 3 3 568 960)::
(nat_lit 574,fO "_law_holds" "_law_holds" (at_ 78) m7 573)::
(nat_lit 580,cO "_law_other_hand" "_law_other_hand" 963 439 1 3 575 967)::
(nat_lit 581,fO "_law_other_hand" "_law_other_hand" (at_ 79) m7 580)::
(nat_lit 585,dO "law" "law" 970 441 1 3 582 973)::
(nat_lit 586,fO "law" "law" (at_ 80) m7 585)::[]
noncomputable abbrev H:Hook:=kHook K [2,3,23,24,37,49,68,87,106,125,133,134,140,141,154,155,161,162,168,169,170,176,177,183,184,190,191,195,196,200,201,205,206,212,213,219,220,233,234,240,241,252,253,259,260,266,267,273,274,280,281,292,293,317,318,328,329,335,336,342,343,347,348,352,353,359,360,371,372,376,377,383,384,390,391,395,396,402,403,409,410,414,415,419,420,424,425,431,432,438,439,445,446,450,451,455,456,462,463,469,470,474,475,481,482,488,489,495,496,502,503,509,510,516,517,521,522,528,529,535,536,542,543,549,550,554,555,561,562,566,567,573,574,580,581,585,586] (λ_=>by kernel_rfl)
abbrev Xt:Shared->Bool:=λs=>xlAt q [] s&&recOk (RowW.records row.toRowW) s
theorem Y'{A B C:Type}{o:Option C}{f:C->A}{g:C->B}{a:A}{b:B}(h:o.map f=some a)(k:o.map g=some b):o.map (λs=>(f s,g s))=some (a,b):=by
  cases o with
  | none=>exact nomatch h
  | some c=>injection h with h;injection k with k;subst h;subst k;rfl
section
variable{A B C D E F G X:Type}{o:Option X}{f:X->A×B×C×D×E×F×G}{t:A×B×C×D×E×F×G}
def p1:A×B×C×D×E×F×G->A
  | (a,_,_,_,_,_,_)=>a
def p2:A×B×C×D×E×F×G->B×C
  | (_,b,c,_,_,_,_)=>(b,c)
def p3:A×B×C×D×E×F×G->D
  | (_,_,_,d,_,_,_)=>d
def p5:A×B×C×D×E×F×G->E
  | (_,_,_,_,e,_,_)=>e
def p6:A×B×C×D×E×F×G->F
  | (_,_,_,_,_,f,_)=>f
def p4:A×B×C×D×E×F×G->G
  | (_,_,_,_,_,_,g)=>g
theorem pr(h:o.map (λx=>p1 (f x))=some t.1)(g:o.map (λx=>p2 (f x))=some (t.2.1,t.2.2.1))(k:o.map (λx=>p3 (f x))=some t.2.2.2.1)(k1:o.map (λx=>p5 (f x))=some t.2.2.2.2.1)(k2:o.map (λx=>p6 (f x))=some t.2.2.2.2.2.1)(l:o.map (λx=>p4 (f x))=some t.2.2.2.2.2.2):o.map f=some t:=by
  cases o with
  | none=>exact nomatch h
  | some x=>
    replace h:p1 (f x)=t.1:=aas h;replace g:p2 (f x)=(t.2.1,t.2.2.1):=aas g;replace k:p3 (f x)=t.2.2.2.1:=aas k;replace k1:p5 (f x)=t.2.2.2.2.1:=aas k1;replace k2:p6 (f x)=t.2.2.2.2.2.1:=aas k2;replace l:p4 (f x)=t.2.2.2.2.2.2:=aas l;show some (f x)=some t;revert h g k k1 k2 l;generalize f x=u;obtain ⟨a,b,c,d,e,f',y⟩:=u;obtain ⟨a',b',c',d',e',f'',y'⟩:=t;intro h g k k1 k2 l;cases (h:a=a');cases (g:(b,c)=(b',c'));cases (k:d=d');cases (k1:e=e');cases (k2:f'=f'');cases (l:y=y');rfl
end
def Vx{A B:Type}(o:Option A)(c:A->Bool)(T:A->Option B):Option (A×B):=o.bind λa=>match c a with
  | true=>(T a).map λb=>(a,b)
  | false=>none
def Vb {A B:Type} (o:Option A) (c:A->Bool) (T:A->Option B) (k:A->B->Bool):Option B:=o.bind λa=>match c a with
  | true=>(T a).bind λb=>match k a b with
    | true=>some b
    | false=>none
  | false=>none
theorem Zi {A B C:Type} {o:Option A} {c:A->Bool} {T:A->Option B} {k:A->B->Bool} {g:B->C} {v:C} (h:(Vx o c T).map (λx=>k x.1 x.2)=some true) (l:(Vx o c T).map (λx=>g x.2)=some v):(Vb o c T k).map g=some v:=by
  unfold Vx at h l;unfold Vb;cases o with
  | none=>exact nomatch h
  | some a=>
    dsimp only [Option.bind] at h l⊢;cases hc:c a with
    | false=>rw [hc] at h;exact nomatch h
    | true=>
      rw [hc] at h l;dsimp only at h l⊢;cases hT:T a with
      | none=>rw [hT] at h;exact nomatch h
      | some b=>
        rw [hT] at h l;injection h with h;injection l with l
        dsimp only [Option.bind];rw [show k a b=true from h];exact aaP some l
noncomputable abbrev oA(p:Program)(w:World)(N:Nat):Option Shared:=(Fast.tw10274390034422433532 Fast.tw14364793385576792824 (opening p) w N (Fast.tw1435165496053646825 (opening p)).1 (Fast.tw1435165496053646825 (opening p)).2).bind (fenceModules? p)
abbrev cA(s:Shared):Bool:=s.heap.isNs mainGlobals&&s.gens.size==0
noncomputable abbrev tA(p:Program)(w:World)(N:Nat)(s₀:Shared):Option Shared:=Fast.tw14082659384304107361 Fast.tw14364793385576792824 p w s₀.heap.objs.size (s₀.heap.nsMap mainGlobals "__annotations__") N s₀ (topStub p)
abbrev kA(p:Program)(s₀ s₁:Shared):Bool:=staticsOk (importedModules p.main.body) s₀.heap s₁.heap&&namesBound p s₁.heap&&gensDone s₁&&laidKept s₀.heap s₁.heap
theorem oe(p:Program)(w:World)(N:Nat):openEnds treeTable p w N=Vb (oA p w N) cA (tA p w N) (kA p):=by unfold openEnds fencedOpening topFrom Vb oA tA;rewrite [Fast.te14082659384304107361,Fast.te14364793385576792824,Fast.te10274390034422433532,Fast.te1435165496053646825];rfl
noncomputable abbrev go(w:World):=Vx (oA row.prog w 8158) cA (tA row.prog w 8158)
abbrev gd:=openGood q []
noncomputable abbrev sn(x:Shared×Shared):=Fast.tw4187177175401517315 q [] (importedModules row.prog.main.body) Xt true x.2
theorem la(w:World):(go w).map (λx=>p1 (sn x))=some gd.1:=by kernel_rfl
theorem lb(w:World):(go w).map (λx=>p2 (sn x))=some (gd.2.1,gd.2.2.1):=by kernel_rfl
theorem lc(w:World):(go w).map (λx=>p3 (sn x))=some gd.2.2.2.1:=by kernel_rfl
theorem le(w:World):(go w).map (λx=>p5 (sn x))=some gd.2.2.2.2.1:=by kernel_rfl
theorem lg(w:World):(go w).map (λx=>p6 (sn x))=some gd.2.2.2.2.2.1:=by kernel_rfl
theorem ld(w:World):(go w).map (λx=>p4 (sn x))=some gd.2.2.2.2.2.2:=by kernel_rfl
theorem lk(w:World):(go w).map (λx=>kA row.prog x.1 x.2)=some true:=by kernel_rfl
theorem lo(w:World):(go w).map (λx=>H.obs x.2)=some (H.val w):=by kernel_rfl
theorem RD(w:World):(openEnds treeTable row.prog w 8158).map (openSeen q [] (importedModules row.prog.main.body) Xt true)=some gd:=by rewrite [oe,Fast.te4187177175401517315];exact Zi (lk w) (pr (la w) (lb w) (lc w) (le w) (lg w) (ld w))
theorem TJ(w:World):(openEnds treeTable row.prog w 8158).map H.obs=some (H.val w):=by rewrite [oe];exact Zi (lk w) (lo w)
theorem left:LeftO row.prog q [] Xt H.obs H.val 8158:=λw=>Y' (RD w) (TJ w)
end Hd
local macro_rules|`(())=>`(by omega)
local macro_rules|`(@_)=>`(by decide)
open Lean in
def rpt:Nat → Term → MacroM (TSyntax `rcasesPat)
|0,_=>Macro.throwUnsupported
|n+1,t=>match t with
|`(⟨$a,*⟩)=>do
 let b←a.getElems.mapM (rpt n)
 let b←b.mapM λp=>`(Lean.Parser.Tactic.rcasesPatLo|$p:rcasesPat)
 `(rcasesPat|⟨$b,*⟩)
|`(_)=>`(rcasesPat|_)
|`($x:ident)=>`(rcasesPat|$x:ident)
|_=>Macro.throwUnsupported
open Lean in
local macro_rules|`(tactic|have ⟨$a,*⟩:=$e)=>do
 let p←rpt 99 (←`(⟨$a,*⟩))
 `(tactic|obtain $p:rcasesPat:=$e)
open Lean in
local macro_rules|`(λ$xs*=>$b)=>do
 let mut ys:=#[]
 let mut ts:=#[]
 if (←MonadRef.getRef)[0].isToken "fun" then Macro.throwUnsupported
 for x in xs do
  if x.1.isOfKind `Lean.Parser.Term.anonymousCtor then
   let p←rpt 99 ⟨x.1⟩
   let y←withFreshMacroScope `(h)
   ys:=ys.push y
   ts:=ts.push (←`(tactic|obtain $p:rcasesPat:=$y))
  else ys:=ys.push ⟨x.1⟩
 if ts.isEmpty then Macro.throwUnsupported
 `(λ$ys*=>by{$[$ts]*;exact $b})
set_option hygiene false in
local macro_rules|`($g &&& ($F,$a,$n))=>`(mc $g (($F).binds λ_ _ _ _ _ _=>$n) (mg_of X G $a) ($F).kp)
set_option hygiene false in
local macro_rules|`($g ||| ($F,$a,$i,$n))=>`(⟨$g,(($F).binds λ_ _ _ _ _ _=>$n),⟨kZ,kX,kU,kM⟩,⟨$a,$i,($F).kp⟩⟩)
set_option genSizeOf false
set_option bootstrap.genMatcherCode false
noncomputable def PySem.W.Fast.tw9787720443022208659:=PySem.Challenge.pw_chanceduel_k43_chances_of_goals
theorem PySem.W.Fast.te9787720443022208659:PySem.Challenge.pw_chanceduel_k43_chances_of_goals=PySem.W.Fast.tw9787720443022208659:=rfl
def fI:2<=PySem.sizeLine:=@_
abbrev fv:=PySem.W.Frag
namespace L2
open PySem PySem.Spec PyProof.Rows
variable{us:List Value}{a b dx C:Addr}{P prog:Program}{w:World}{h h' base:Heap}{δ:List (Addr×Obj)}{s:Shared}{g':Array GenState}{ch fp:List Addr}{i:Nat}{x:Str}{M:Model}{A:Around}{E Q:Value->Shared->Prop}{u:Value}{e c tg:Expr}{es:List Expr}{body:List Stmt}{f:Value->Value->Sem Value}{op:CmpOp}{mA mg:Str->Option Value}{kw:List (Str×Value)}{outer:List Env}{ps:List Str}
abbrev Key:=Sum Int Str
def vD:Key->Value->Bool
 | .inl k,v=>Value.isInt k v
 | .inr x,v=>Value.isStrOf x v
def Yg(w:World):Key->Int
 | .inl k=>hashInt k
 | .inr x=>hashStr w x
def bu:∀{k:Key} {v:Value},vD k v=true->(∃i t,k=Sum.inl i/\v=Value.int i t)\/(∃x t,k=Sum.inr x/\v=Value.str x t)
 | .inl i,v,h=>by have⟨t,e⟩:=Value.isInt_shape (k:=i) (v:=v) h;exact .inl ⟨i,t,rfl,e⟩
 | .inr x,v,h=>by have⟨t,e⟩:=Value.isStrOf_shape (x:=x) (v:=v) h;exact .inr ⟨x,t,rfl,e⟩
def Es(i:Int)(t:Tok):vD (.inl i) (.int i t)=true:=by simp[vD,Value.isInt]
def ET(x:Str)(t:Tok):vD (.inr x) (.str x t)=true:=by simp[vD,Value.isStrOf]
def Ou(a b:Int):decide ((Sum.inl a:Key)=Sum.inl b)=(a==b):=by
 by_cases e:a=b
 ·subst e;simp
 ·have h:¬(Sum.inl a:Key)=Sum.inl b:=λq=>e (Sum.inl.inj q);rw[aal h];exact(beq_eq_false_iff_ne.mpr e).symm
def OU(a b:Str):decide ((Sum.inr a:Key)=Sum.inr b)=decide (a=b):=by
 by_cases e:a=b
 ·subst e;simp
 ·have h:¬(Sum.inr a:Key)=Sum.inr b:=λq=>e (Sum.inr.inj q);rw[aal h,aal e]
def N8(a:Int)(b:Str):decide ((Sum.inl a:Key)=Sum.inr b)=false:=aal nofun
def Of(a:Str)(b:Int):decide ((Sum.inr a:Key)=Sum.inl b)=false:=aal nofun
def bf(prog:Program)(w:World):PySem.KeyKind prog w Key where
 is:=vD
 hash:=Yg w
 inj:=λv a b ha hb=>by
  rcases bu ha with ⟨i,t,rfl,rfl⟩| ⟨x,t,rfl,rfl⟩
  ·rcases bu hb with ⟨j,u,rfl,e⟩| ⟨y,u,rfl,e⟩
   ·injection e with e1 _;rw[e1]
   ·exact nomatch e
  ·rcases bu hb with ⟨j,u,rfl,e⟩| ⟨y,u,rfl,e⟩
   ·exact nomatch e
   ·injection e with e1 _;rw[e1]
 byValue:=λk v h=>by rcases bu h with ⟨i,t,rfl,rfl⟩| ⟨x,t,rfl,rfl⟩ <;> rfl
 pyHash:=λhv h=>by
  rcases bu hv with ⟨i,t,rfl,rfl⟩| ⟨x,t,rfl,rfl⟩
  ·exact wpAny_pyHash_int h
  ·exact wpAny_pyHash_str h
 eqBool:=λhu hv h=>by
  rcases bu hu with ⟨i,t,rfl,rfl⟩| ⟨x,t,rfl,rfl⟩
  ·rcases bu hv with ⟨j,u,rfl,rfl⟩| ⟨y,u,rfl,rfl⟩
   ·rw[Ou]at h;exact wpAny_eqBool_int h
   ·rw[N8]at h;exact SeqAt.EqAt.int_str i t y u _ _ _ _ h
  ·rcases bu hv with ⟨j,u,rfl,rfl⟩| ⟨y,u,rfl,rfl⟩
   ·rw[Of]at h;exact SeqAt.EqAt.str_int x t j u _ _ _ _ h
   ·rw[OU]at h;exact wpAny_eqBool_str h
 «strs»:=λk x t v h=>by
  rcases bu h with ⟨i,u,rfl,e⟩| ⟨y,u,rfl,e⟩
  ·exact nomatch e
  ·injection e with e1 _
   subst e1;cases v <;> rfl
def zP(prog:Program)(w:World)(i:Int)(t:Tok):(bf prog w).is (.inl i) (.int i t)=true:=Es i t
def yB(prog:Program)(w:World)(x:Str)(t:Tok):(bf prog w).is (.inr x) (.str x t)=true:=ET x t
inductive V where
 | aP| bl (b:Bool)| int (i:Int)| str (x:Str)| Gv (b:Array UInt8)| QH (b:UInt64)| ref (a:Addr)| ty (n:String)
 deriving DecidableEq
variable{v:V}
def aq:V->Value->Prop
 | .aP,u=>u=Value.none
 | .bl b,u=>u=Value.bool b
 | .int i,u=>∃t,u=Value.int i t
 | .str x,u=>∃t,u=Value.str x t
 | .Gv b,u=>∃t,u=Value.bytes b t
 | .QH b,u=>∃t,u=Value.float b t
 | .ref a,u=>u=Value.ref a
 | .ty n,u=>u=Value.type n
abbrev ar:List V->List Value->Prop:=Paired aq
def ar.length{xs:List V}(r:ar xs us):xs.length=us.length:=Paired.length r
def ar.get:∀{xs:List V} {us:List Value} {i:Nat} {x:V},ar xs us->xs[i]? =some x->∃u,us[i]? =some u/\aq x u
 | _,_,_,_,.nil,e=>by simp at e
 | _,_,0,_,.cons r _,e=>by simp at e;subst e;exact⟨_,rfl,r⟩
 | _,_,i+1,x,.cons _ t,e=>by have⟨u,h1,h2⟩:=ar.get (i:=i) (x:=x) t (by simpa using e);exact⟨u,by simpa using h1,h2⟩
def ar.set{x:V}{u:Value}(r:aq x u):∀{xs:List V} {us:List Value} (i:Nat),ar xs us->ar (xs.set i x) (us.set i u)
 | _,_,_,.nil=>.nil
 | _,_,0,.cons _ t=>.cons r t
 | _,_,i+1,.cons q t=>.cons q (ar.set r i t)
def ar.append:∀{xs ys:List V} {us ws:List Value},ar xs us->ar ys ws->ar (xs++ys) (us++ws)
 | _,_,_,_,.nil,s=>s
 | _,_,_,_,.cons r t,s=>.cons r (ar.append t s)
def ar.take:∀{xs:List V} {us:List Value} (n:Nat),ar xs us->ar (xs.take n) (us.take n)
 | _,_,0,_=>.nil
 | _,_,_+1,.nil=>.nil
 | _,_,n+1,.cons r t=>.cons r (ar.take n t)
def ar.drop:∀{xs:List V} {us:List Value} (n:Nat),ar xs us->ar (xs.drop n) (us.drop n)
 | _,_,0,r=>r
 | _,_,_+1,.nil=>.nil
 | _,_,n+1,.cons _ t=>ar.drop n t
def i4:Option V->Option Value->Prop
 | some v,some u=>aq v u
 | none,none=>True
 | _,_=>False
def KV{κ:Type}:List (κ×V)->List (κ×Value)->Prop:=Paired λ(p:κ×V) (q:κ×Value)=>p.1=q.1/\aq p.2 q.2
def kV:Key->V
 | .inl i=>.int i
 | .inr x=>.str x
inductive HO where
 | lst (xs:List V)
 | tup (xs:List V)
 | dK (kvs:List (Key×V))| dT (kvs:List (List Key×V))
 | set (S:Int->Bool) (n:Nat)
 | ins (C dx:Addr) (fs:List (Str×V))
 | own (x:Addr)
 | xd (fs:List (Str×V))
 | met (f x:Addr)
 | VZ (lo hi:Int)
 | yp (o:Obj) (u:HO)
 | LO (ps:Array Value)
 | ext (φ:Heap->Prop)
variable{o:HO}
abbrev Hp:=Addr->Option HO
def upd(H:Hp)(a:Addr)(o:HO):Hp:=λb=>if b=a then some o else H b
def Ψ{H:Hp}:upd H a o a=some o:=by unfold upd;rw[if_pos rfl]
def Ζ{H:Hp}(h:b≠a):upd H a o b=H b:=by unfold upd;rw[if_neg h]
def Sf{H:Hp}{u:HO}(h:H a=some o)(h':H b=some u)(d:o≠u):a≠b:=by intro e;subst e;rw[h]at h';exact d (aas h')
def bX{H:Hp}(h:H a=some o)(h':H b=none):a≠b:=by intro e;subst e;rw[h]at h';cases h'
section
variable(P:Program)(w:World)
def bZ(H:Hp)(h:Heap)(a:Addr):HO->Prop
 | .lst xs=>xs.length<=sizeLine/\∃(its:List Value) (n:Nat),ar xs its/\h.get? a=some {cls:=.type "list",data:=.seq its.toArray n}
 | .tup xs=>xs.length<=sizeLine/\∃its:List Value,ar xs its/\IsTup h a its.toArray
 | .dK kvs=>kvs.length<=sizeLine/\(a==sysModules)=false/\∃vs,KV kvs vs/\h.DictOf (bf P w) a vs
 | .dT kvs=>kvs.length<=sizeLine/\(a==sysModules)=false/\∃xs:List (List Key×Addr×Value),
   Paired (λ(p:List Key×V) (q:List Key×Addr×Value)=>p.1=q.1/\H q.2.1=some (.tup (p.1.map kV))/\aq p.2 q.2.2) kvs xs/\
   ∃o es ep,h.get? a=some o/\o.ExactDict/\o.data= .dict es ep/\es.toList=xs.map (entryOfKey (tupleKind (bf P w)))/\(xs.map (·.1)).Nodup
 | .set S n=>h.SetOf (intKind P w) a S n
 | .ins C dx fs=>H dx=some (.own a)/\fs.length<=1000/\dx≠a/\h.get? a=some (PySem.W.instObj C dx)/\
   ∃mA,h.Ns1 dx mA/\(∀f,i4 (fs.lookup f) (mA f))/\PySem.Within mA (fs.map (·.1))
 | .own _=>∃o,h.get? a=some o
 | .xd fs=>∃mA,h.Ns1 a mA/\∀f,i4 (fs.lookup f) (mA f)
 | .VZ lo hi=>∃t u v,h.get? a=some {cls:=.type "range",data:=.fields #[.int lo t,.int hi u,.int 1 v]}
 | .yp o u=>h.get? a=some o/\bZ H h a u
 | .LO ps=>h.get? a=some {cls:=.none,data:=.fields ps}
 | .met f x=>h.get? a=some (PySem.W.methodObj (.ref f) (.ref x))
 | .ext φ=>φ h/\(∃o,h.get? a=some o)/\∀h1 h2:Heap,φ h1->(∀o,h1.get? a=some o->h2.get? a=some o)->φ h2
def lh(H:Hp)(h:Heap):Prop:=∀a o,H a=some o->bZ P w H h a o
end
section
variable{H H':Hp}
def bZ.lt(x:bZ P w H h a o):a < h.objs.size:=by
 cases o with
 | lst xs=>have⟨_,_,_,_,e⟩:=x;exact aap e
 | tup xs=>have⟨_,_,_,p⟩:=x;exact p.lt
 | dK kvs=>have⟨_,_,_,_,o,_,_,e,_⟩:=x;exact aap e
 | dT kvs=>have⟨_,_,_,_,o,_,_,e,_⟩:=x;exact aap e
 | set S n=>have⟨o,_,_,_,e,_⟩:=x;exact aap e
 | ins C dx fs=>have⟨_,_,_,e,_⟩:=x;exact aap e
 | own y=>have⟨_,e⟩:=x;exact aap e
 | xd fs=>have⟨_,⟨_,_,_,e,_⟩,_⟩:=x;exact aap e
 | VZ lo hi=>have⟨_,_,_,e⟩:=x;exact aap e
 | yp ob u=>have⟨e,_⟩:=x;exact aap e
 | LO ps=>exact aap (show h.get? a=some _ from x)
 | met f y=>exact aap (show h.get? a=some _ from x)
 | ext φ=>have⟨_,⟨_,e⟩,_⟩:=x;exact aap e
def Paired.Qh{α β:Type}{F G:α->β->Prop}:∀{l₁:List α} {l₂:List β},Paired F l₁ l₂->(∀a b,F a b->G a b)->Paired G l₁ l₂
 | _,_,.nil,_=>.nil
 | _,_,.cons r t,f=>.cons (f _ _ r) (Paired.Qh t f)
def bZ.A_(x:bZ P w H h a o)(k:∀b u,(b=a\/H b=some (.own a))->h.get? b=some u->h'.get? b=some u)
  (ho:∀b,H b=some (.own a)->H' b=some (.own a)) (ht:∀b xs,H b=some (.tup xs)->H' b=some (.tup xs)):bZ P w H' h' a o:=by
 induction o with
 | lst xs=>have⟨z,its,n,r,e⟩:=x;exact⟨z,its,n,r,k _ _ (.inl rfl) e⟩
 | tup xs=>have⟨z,its,r,ob,e,c⟩:=x;exact⟨z,its,r,ob,k _ _ (.inl rfl) e,c⟩
 | dK kvs=>have⟨z,y,vs,r,ob,es,ep,e,c⟩:=x;exact⟨z,y,vs,r,ob,es,ep,k _ _ (.inl rfl) e,c⟩
 | dT kvs=>
  have⟨z,y,xs,r,ob,es,ep,e,c⟩:=x;exact⟨z,y,xs,Paired.Qh r λp q z=>⟨z.1,ht _ _ z.2.1,z.2.2⟩,ob,es,ep,k _ _ (.inl rfl) e,c⟩
 | set S n=>have⟨ob,es,ep,t,e,c⟩:=x;exact⟨ob,es,ep,t,k _ _ (.inl rfl) e,c⟩
 | ins C dx fs=>
  have⟨d,z,ne,e,mA,⟨od,es,ep,e2,c⟩,r⟩:=x;exact⟨ho _ d,z,ne,k _ _ (.inl rfl) e,mA,⟨od,es,ep,k _ _ (.inr d) e2,c⟩,r⟩
 | own y=>have⟨ob,e⟩:=x;exact⟨ob,k _ _ (.inl rfl) e⟩
 | xd fs=>have⟨mA,⟨od,es,ep,e,c⟩,r⟩:=x;exact⟨mA,⟨od,es,ep,k _ _ (.inl rfl) e,c⟩,r⟩
 | VZ lo hi=>have⟨t,u,v,e⟩:=x;exact⟨t,u,v,k _ _ (.inl rfl) e⟩
 | yp ob u ih=>have⟨e,q⟩:=x;exact⟨k _ _ (.inl rfl) e,ih q⟩
 | LO ps=>
  have e:h.get? a=some {cls:=.none,data:=.fields ps}:=x;show h'.get? a=some {cls:=.none,data:=.fields ps};exact k a _ (.inl rfl) e
 | met f y=>
  have e:h.get? a=some (PySem.W.methodObj (.ref f) (.ref y)):=x;show h'.get? a=some (PySem.W.methodObj (.ref f) (.ref y));exact k a _ (.inl rfl) e
 | ext φ=>have⟨p,⟨o,e⟩,st⟩:=x;exact⟨st _ _ p λo q=>k _ _ (.inl rfl) q,⟨o,k _ _ (.inl rfl) e⟩,st⟩
def lh.lt(x:lh P w H h)(e:H a=some o):a < h.objs.size:=(x a o e).lt
def lh.fresh(x:lh P w H h)(e:h.objs.size<=a):H a=none:=by
 cases q:H a with
 | none=>rfl
 | some u=>exact aaC (aax (x.lt q) e) (abB _)
def lh.kept(x:lh P w H h)(k:∀b u,h.get? b=some u->h'.get? b=some u):lh P w H h':=λa o e=>
 (x a o e).A_ (λb u _ q=>k b u q) (λ_ q=>q) λ_ _ q=>q
def lh.laid(x:lh P w H h)(k:∀b u,h.get? b=some u->h'.get? b=some u)(hp:h.objs.size<=a)(new:bZ P w (upd H a o) h' a o):lh P w (upd H a o) h':=λb u e=>by
 have hn:=x.fresh hp;by_cases hb:b=a
 ·subst hb;rw[Ψ]at e;cases e;exact new
 ·rw[Ζ hb]at e;exact(x b u e).A_ (λc v _ q=>k c v q) (λc q=>by rw[Ζ (bX q hn)];exact q) λc xs q=>by rw[Ζ (bX q hn)];exact q
end
def Rd(H:Hp)(a:Addr)(u:HO):Prop:=H a=some u\/∃o,H a=some (.yp o u)
def Rd.ok{H:Hp}{u:HO}(r:Rd H a u)(x:lh P w H h):bZ P w H h a u:=by
 rcases r with r| ⟨o,r⟩
 ·exact x a u r
 ·have⟨_,q⟩:=x a _ r;exact q
def Q_:Option HO->Prop
 | some (.lst _)=>True
 | some (.dK _)=>True
 | some (.dT _)=>True
 | some (.set _ _)=>True
 | some (.ins _ _ _)=>True
 | some (.ext _)=>True
 | _=>False
section
variable{H:Hp}{x e:Addr}{o':HO}
def lh.write(ok:lh P w H h)(mu:Q_ (H x))(he:e=x\/H e=some (.own x))(k:∀b u,b≠e->h.get? b=some u->h'.get? b=some u)(Q8:∃u,h'.get? e=some u)
  (new:bZ P w (upd H x o') h' x o'):lh P w (upd H x o') h':=λb u q=>by
 have SH:∀c y,H c=some (.own y)->c≠x:=λc y r z=>by subst z;rw[r]at mu;exact mu
 have XZ:∀c xs,H c=some (.tup xs)->c≠x:=λc xs r z=>by subst z;rw[r]at mu;exact mu
 by_cases hb:b=x
 ·subst hb;rw[Ψ]at q;cases q;exact new
 ·rw[Ζ hb]at q;by_cases PB:b=e
  ·have q':H b=some (.own x):=by
    rcases he with z| z
    ·exact aaC (PB.trans z) hb
    ·rw[PB];exact z
   rw[q]at q';cases q';have⟨v,hv⟩:=Q8;exact⟨v,by rw[PB];exact hv⟩
  ·refine(ok b u q).A_ (λc v hc r=>k c v ?_ r) (λc r=>by rw[Ζ (SH c b r)];exact r) λc xs r=>by rw[Ζ (XZ c xs r)];exact r
   rcases hc with rfl| hc
   ·exact PB
   ·rintro rfl;rcases he with z| z
    ·exact SH c b hc z
    ·rw[hc]at z;cases z;exact hb rfl
end
structure Un(fs ex:List Addr)(H H':Hp)(h h':Heap):Prop where
 keep:∀b o,h.get? b=some o->H b=none->b∉fs->b∉ex->h'.get? b=some o
 slot:∀b o,h.get? b=some o->H b=none->b∈fs->b∉ex->∃sl,h'.get? b=some {o with slots:=sl}
 free:∀b o,h.get? b=some o->H b=none->b∉ex->H' b=none
 there:∀b o,h.get? b=some o->b∉ex->∃o',h'.get? b=some o'
 qr:∀b xs,H b=some (.tup xs)->H' b=some (.tup xs)
 oY:∀b o u,H b=some (.yp o u)->H' b=some (.yp o u)
 qk:∀b ps,H b=some (.LO ps)->∃more,H' b=some (.LO (ps++more))
section
variable{fs V7 ex ex':List Addr}{H H1 H2:Hp}{h1 h2:Heap}{x e:Addr}
def Un.any(u:Un fs ex H H1 h h1){ob:Obj}(q:h.get? b=some ob)(n:H b=none)(hx:b∉ex):∃sl,h1.get? b=some {ob with slots:=sl}:=by
 by_cases hb:b∈fs
 ·exact u.slot b ob q n hb hx
 ·exact⟨ob.slots,u.keep b ob q n hb hx⟩
def Un.kept(k:∀b u,h.get? b=some u->h'.get? b=some u):Un fs ex H H h h':=
 ⟨λb ob q _ _ _=>k b ob q,λb ob q _ _ _=>⟨ob.slots,k b ob q⟩,λ_ _ _ n _=>n,λb ob q _=>⟨ob,k b ob q⟩,λ_ _ q=>q,λ_ _ _ q=>q,λ_ ps q=>⟨#[],by rw[q];simp⟩⟩
def Un.refl:Un fs ex H H h h:=Un.kept λ_ _ q=>q
def Un.laid(k:∀b u,h.get? b=some u->h'.get? b=some u)(hp:h.objs.size<=a)(hn:H a=none):Un fs ex H (upd H a o) h h' where
 keep:=λb u q _ _ _=>k b u q
 slot:=λb u q _ _ _=>⟨u.slots,k b u q⟩
 free:=λb u q n _=>by rw[Ζ (aaL (aax (aap q) hp))];exact n
 there:=λb u q _=>⟨u,k b u q⟩
 qr:=λb xs q=>by rw[Ζ (bX q hn)];exact q
 oY:=λb u xs q=>by rw[Ζ (bX q hn)];exact q
 qk:=λb ps q=>⟨#[],by rw[Ζ (bX q hn),q];simp⟩
def Un.write(mu:Q_ (H x))(he:e=x\/H e=some (.own x))(k:∀b u,b≠e->h.get? b=some u->h'.get? b=some u)(Q8:∃u,h'.get? e=some u):Un fs ex H (upd H x o) h h':=by
 have hx:∀b,H b=none->b≠x:=λb n z=>by subst z;rw[n]at mu;exact mu
 have hb:∀b,H b=none->b≠e:=λb n z=>by
  subst z;rcases he with r| r
  ·exact hx b n r
  ·rw[n]at r;cases r
 have hm:∀b u,H b=some u->¬Q_ (some u)->b≠x:=λb u q nm z=>by subst z;rw[q]at mu;exact nm mu
 refine⟨λb u q n _ _=>k b u (hb b n) q,λb u q n _ _=>⟨u.slots,k b u (hb b n) q⟩,λb u q n _=>by rw[Ζ (hx b n)];exact n,λb u q _=>?_,
  λb xs q=>by rw[Ζ (hm b _ q λz=>z)];exact q,λb u xs q=>by rw[Ζ (hm b _ q λz=>z)];exact q,λb ps q=>⟨#[],by rw[Ζ (hm b _ q λz=>z),q];simp⟩⟩
 by_cases PB:b=e
 ·subst PB;exact Q8
 ·exact⟨u,k b u PB q⟩
end
def Vh(h:Heap)(H:Hp):List Addr:=(List.range h.objs.size).filter λa=>(H a).isSome
def xq(h:Heap)(H:Hp):Heap:=PySem.W.hideAll h (Vh h H)
def Er(h:Heap)(H:Hp):(xq h H).objs.size=h.objs.size:=PySem.W.hideAll_size _ _
def Ir{H:Hp}{o:Obj}(e:h.get? b=some o)(n:H b=none):(xq h H).get? b=some o:=
 PySem.W.hideAll_get _ e λhm=>by have q:(H b).isSome=true:=(List.mem_filter.mp hm).2;rw[n]at q;simp at q
def Lf{H:Hp}{o:Obj}(e:(xq h H).get? b=some o):h.get? b=some o/\H b=none:=by
 have e':h.get? b=some o:=PySem.W.of_hideAll (Vh h H) e;refine⟨e',?_⟩;cases q:H b with
 | none=>rfl
 | some x=>
  have hm:b∈Vh h H:=List.mem_filter.mpr ⟨List.mem_range.mpr (Heap.lt_size e'),by simp[q]⟩;have z:(xq h H).get? b=none:=PySem.W.hideAll_none (Vh h H) hm;rw[z]at e;cases e
structure Mod(K:fv)(mg:Str->Option Value)(base:Heap):Prop where
 Tz:K.In base
 glob:base.Ns mainGlobals mg
 blt:∃mb,base.Ns builtinsNs mb/\∀x:Str,x≠"__name__"->mb x=bootBuiltins x
 nolimit:base.NoLimit
structure Cx where
 prog:Program
 w:World
 K:fv
 mg:Str->Option Value
 base:Heap
 A:Around
 N:List Str
 s₀:Shared
 H₀:Hp
 env:Env
 outer:List Env
 stack:List Env
 ex:List Addr
 fn:Str->Bool
 calm:Bool
 pn:List (Addr×Obj)
 xe:Value->Shared->Prop
variable{X:Cx}
def qj(l:List Env):List Addr:=l.filterMap (·.frame)
abbrev Cx.fs(X:Cx):List Addr:=qj X.outer
def W3(sc:Scope)(x:Str):Prop:=sc.names.lookup x=some .local\/sc.names.lookup x=some .cell\/sc.names.lookup x=some .free
def Loc(sc:Scope)(x:Str):Prop:=sc.names.lookup x=some .local\/sc.names.lookup x=some .cell
def Za(env:Env)(h:Heap)(m:Str->Option Value)(x:Str)(u:Value):Prop:=
 (env.kindOf x=some .local/\m x=some u)\/((env.kindOf x=some .cell\/env.kindOf x=some .free)/\∃c,env.cells.lookup x=some c/\h.IsCell c (some u))
structure Cx.Ok(X:Cx):Prop where
 mod:Mod X.K X.mg X.base
 kind:X.env.scope.kind= .function
 glob:X.env.globals=mainGlobals
 blt:X.env.builtins=builtinsNs
 above:X.s₀.heap.objs.size<=X.env.locals
 inj:∀x y c,X.env.cells.lookup x=some c->X.env.cells.lookup y=some c->x=y
 has:∀x,(X.env.kindOf x=some .cell\/X.env.kindOf x=some .free)->∃c,X.env.cells.lookup x=some c
 V6:∀x c,X.fn x=true->X.env.cells.lookup x=some c->X.s₀.heap.objs.size<=c
 hd:X.calm=true->X.A.handled=none
 frames:X.A.frames=some X.stack
 ZR:X.stack=X.outer\/(X.stack=X.env::X.outer/\X.env.frame=some X.env.locals)
 exf:∀b∈X.ex,b≠X.env.locals/\∀x c,X.env.cells.lookup x=some c->c≠b
 bs:∀b o,X.base.get? b=some o->X.s₀.heap.get? b=some o/\X.H₀ b=none
 Q9:X.base.objs.size<=X.s₀.heap.objs.size
 Pp:∀b o,X.base.get? b=some o->b∉X.ex
 QF:∀b∈X.ex,b∉X.fs
 ud:X.s₀.heap.FunFrames X.base X.outer
 Uq:∀b∈X.fs,X.H₀ b=none
structure Inv(X:Cx)(δ:List (Addr×Obj))(σ:List (Option V))(H:Hp)(s:Shared):Prop where
 ok:X.Ok
 os:s.os=X.s₀.os
 bare:AllBare s.gens
 base:Un X.fs X.ex X.H₀ H X.s₀.heap s.heap
 loc:∃m,s.heap.Ns X.env.locals m/\∀(i:Nat) (x:Str) (v:V),X.N[i]? =some x->σ[i]? =some (some v)->W3 X.env.scope x->∃u,aq v u/\Za X.env s.heap m x u
 cell:∀x c,X.env.cells.lookup x=some c->∃v,s.heap.IsCell c v
 free:H X.env.locals=none
 pM:∀x c,X.env.cells.lookup x=some c->H c=none
 pin:∀p∈X.pn++δ,s.heap.get? p.1=some p.2/\H p.1=none/\p.1≠X.env.locals/\p.1∉X.fs/\∀v,p.2.data≠ .cell v
 aQ:lh X.prog X.w H s.heap
 len:σ.length=X.N.length
section
variable{σ:List (Option V)}{H H':Hp}
def Cx.Ok.Xb(ok:X.Ok){o:Obj}(e:X.base.get? b=some o):b∉X.fs:=λhb=>by have:=(ok.ud.mem hb).1;rw[e]at this;cases this
def Inv.bs(I:Inv X δ σ H s):∀b o,X.base.get? b=some o->s.heap.get? b=some o/\H b=none:=λb o e=>
 ⟨I.base.keep b o (I.ok.bs b o e).1 (I.ok.bs b o e).2 (I.ok.Xb e) (I.ok.Pp b o e),I.base.free b o (I.ok.bs b o e).1 (I.ok.bs b o e).2 (I.ok.Pp b o e)⟩
def Inv.bk(I:Inv X δ σ H s):∀b o,X.base.get? b=some o->s.heap.get? b=some o:=λb o e=>(I.bs b o e).1
def Inv.mod(I:Inv X δ σ H s):Mod X.K X.mg X.base:=I.ok.mod
def Inv.qp(I:Inv X δ σ H s):X.K.In s.heap:=I.ok.mod.Tz.keeps I.bk
def Inv.lt(I:Inv X δ σ H s):X.env.locals < s.heap.objs.size:=let ⟨_,hn,_⟩:=I.loc;hn.lt
def Inv.sz(I:Inv X δ σ H s):X.s₀.heap.objs.size<=s.heap.objs.size:=aat I.ok.above (Nat.le_of_lt I.lt)
def Inv.X4(I:Inv X δ σ H s)(h:s.heap.objs.size<=a):a∉X.fs:=λhb=>by have⟨_,o,ho,_⟩:=I.ok.ud.mem hb;exact aaC (aax (aap ho) (aat I.sz h)) (abB _)
def Inv.Lw(I:Inv X δ σ H s):∀x c,X.env.cells.lookup x=some c->c≠X.env.locals:=λx c e z=>by have⟨v,o,ho,hd⟩:=I.cell x c e;have⟨m,⟨o',es,ep,Ej,O5,_⟩,_⟩:=I.loc;rw[z,Ej]at ho;cases ho;rw[O5]at hd;cases hd
def Inv.ud(I:Inv X δ σ H s):s.heap.FunFrames X.base X.outer:=by
 have all:∀(l:List Env),(∀b∈qj l,b∈X.fs)->X.s₀.heap.FunFrames X.base l->s.heap.FunFrames X.base l:=by
  intro l
  induction l with
  | nil=>intro _ _;trivial
  | cons env r ih=>
   intro hs hl;have⟨hk,⟨L,o,hf,hn,ho,hd⟩,hr⟩:=hl;have hL:L∈X.fs:=hs L (by unfold qj;rw[List.filterMap_cons,hf];exact List.mem_cons_self);have⟨sl,e⟩:=I.base.slot L o ho (I.ok.Uq L hL) hL λz=>I.ok.QF L z hL;exact⟨hk,⟨L,_,hf,hn,e,hd⟩,ih (λb hb=>hs b (by unfold qj;rw[List.filterMap_cons,hf];exact List.mem_cons_of_mem _ hb)) hr⟩
 exact all X.outer (λ_ hb=>hb) I.ok.ud
def Inv.stack(I:Inv X δ σ H s):s.heap.FunFrames X.base X.stack:=by
 rcases I.ok.ZR with e| ⟨e,hf⟩
 ·rw[e];exact I.ud
 ·rw[e];have⟨m,hn,_⟩:=I.loc;refine .cons (by rw[I.ok.kind];decide) hf hn ?_ I.ud;exact Heap.get?_none_of_le (aat I.ok.Q9 I.ok.above)
def Inv.wG(I:Inv X δ σ H s):∀b∈qj X.stack,b∈X.env.locals::X.fs:=λb hb=>by
 rcases I.ok.ZR with e| ⟨e,hf⟩
 ·rw[e]at hb;exact aac _ hb
 ·rw[e]at hb;unfold qj at hb;rw[List.filterMap_cons,hf]at hb;exact hb
def Inv.xM(I:Inv X δ σ H s):∀b∈qj X.stack,H b=none:=λb hb=>by
 rcases aaA.mp (I.wG b hb) with e| hb
 ·rw[e];exact I.free
 ·have⟨_,o,ho,_⟩:=I.ok.ud.mem hb;exact I.base.free b o ho (I.ok.Uq b hb) λz=>I.ok.QF b z hb
def Inv.step{t':Nat}{d':Drawn}(I:Inv X δ σ H s)
  (vC:∀b∈ch,(b∈X.ex\/X.s₀.heap.objs.size<=b)/\b≠X.env.locals/\(∀x c,X.env.cells.lookup x=some c->c≠b)/\∀p∈X.pn++δ,p.1≠b)
  (keep:∀b o,b≠X.env.locals->b∉X.fs->b∉ch->s.heap.get? b=some o->H b=none->h'.get? b=some o)
  (slot:∀b o,b≠X.env.locals->b∈X.fs->b∉ch->s.heap.get? b=some o->H b=none->∃sl,h'.get? b=some {o with slots:=sl}) (free:∀b o,b∉ch->s.heap.get? b=some o->H b=none->H' b=none)
  (there:∀b o,b∉ch->s.heap.get? b=some o->∃o',h'.get? b=some o')
  (qr:∀b xs,H b=some (.tup xs)->H' b=some (.tup xs)) (oY:∀b o u,H b=some (.yp o u)->H' b=some (.yp o u)) (qk:∀b ps,H b=some (.LO ps)->∃more,H' b=some (.LO (ps++more)))
  (ns:∀m,s.heap.Ns X.env.locals m->h'.Ns X.env.locals m) (aQ:lh X.prog X.w H' h') (hg:AllBare g'):
  Inv X δ σ H' {s with heap:=h',gens:=g',drawn:=d',toks:=t'}:=by
 have Zd:∀b o,X.s₀.heap.get? b=some o->b≠X.env.locals:=λb o e=>aaL (aax (aap e) I.ok.above);have U5:∀b o,X.s₀.heap.get? b=some o->b∉X.ex->b∉ch:=λb o e hx hb=>by
  rcases(vC b hb).1 with z| z
  ·exact hx z
  ·exact aaC (aax (aap e) z) (abB _)
 have cellK:∀x c,X.env.cells.lookup x=some c->∀v,s.heap.IsCell c v->h'.IsCell c v:=λx c e v ⟨o,ho,hd⟩=>by
  have R3:c∉ch:=λz=>(vC c z).2.2.1 x c e rfl;by_cases hc:c∈X.fs
  ·have⟨sl,q⟩:=slot c o (I.Lw x c e) hc R3 ho (I.pM x c e);exact⟨_,q,hd⟩
  ·exact⟨o,keep c o (I.Lw x c e) hc R3 ho (I.pM x c e),hd⟩
 refine⟨I.ok,I.os,hg,⟨λb o e n hb hx=>?_,λb o e n hb hx=>?_,λb o e n hx=>?_,λb o e hx=>?_,λb xs e=>qr b xs (I.base.qr b xs e),λb o xs e=>oY b o xs (I.base.oY b o xs e),λb ps e=>?_⟩,?_,λx c e=>?_,?_,λx c e=>?_,λp hp=>?_,aQ,I.len⟩
 ·exact keep b o (Zd b o e) hb (U5 b o e hx) (I.base.keep b o e n hb hx) (I.base.free b o e n hx)
 ·have⟨sl,e1⟩:=I.base.slot b o e n hb hx;have⟨sl',e2⟩:=slot b _ (Zd b o e) hb (U5 b o e hx) e1 (I.base.free b o e n hx);exact⟨sl',e2⟩
 ·have⟨o',e1⟩:=I.base.there b o e hx;exact free b o' (U5 b o e hx) e1 (I.base.free b o e n hx)
 ·have⟨o',e1⟩:=I.base.there b o e hx;exact there b o' (U5 b o e hx) e1
 ·have⟨m1,e1⟩:=I.base.qk b ps e;have⟨m2,e2⟩:=qk b _ e1;exact⟨m1++m2,by rw[e2,Array.append_assoc]⟩
 ·have⟨m,hn,hl⟩:=I.loc;refine⟨m,ns m hn,λi x v e1 e2 e3=>?_⟩;have⟨u,r,l⟩:=hl i x v e1 e2 e3;refine⟨u,r,?_⟩;rcases l with l| ⟨k,c,e,z⟩
  ·exact .inl l
  ·exact .inr ⟨k,c,e,cellK x c e _ z⟩
 ·have⟨v,z⟩:=I.cell x c e;exact⟨v,cellK x c e v z⟩
 ·have⟨m,⟨o,_,_,ho,_⟩,_⟩:=I.loc;exact free _ o (λz=>(vC _ z).2.1 rfl) ho I.free
 ·have⟨v,o,ho,hd⟩:=I.cell x c e;exact free c o (λz=>(vC c z).2.2.1 x c e rfl) ho (I.pM x c e)
 ·have⟨e,n,ne,nf,d⟩:=I.pin p hp;have R3:p.1∉ch:=λz=>(vC p.1 z).2.2.2 p hp rfl;exact⟨keep p.1 p.2 ne nf R3 e n,free p.1 p.2 R3 e n,ne,nf,d⟩
def Inv.un{t':Nat}(I:Inv X δ σ H s)(u:Un X.fs [] H H' s.heap h')(aQ:lh X.prog X.w H' h'):Inv X δ σ H' {s with heap:=h',toks:=t'}:=by
 have⟨m,⟨o,es,ep,ho,r⟩,_⟩:=id I.loc;have⟨sl,hL⟩:=u.any ho I.free (by simp)
 exact I.step (g':=s.gens) (d':=s.drawn) (ch:=[]) (λ_ z=>nomatch z) (λb o _ hb _ e n=>u.keep b o e n hb (by simp)) (λb o _ hb _ e n=>u.slot b o e n hb (by simp)) (λb o _ e n=>u.free b o e n (by simp)) (λb o _ e=>u.there b o e (by simp)) u.qr u.oY u.qk (λm' hm=>by
  have⟨o',YG,Wh,Ej,r'⟩:=hm;rw[ho]at Ej;cases Ej
  exact⟨_,YG,Wh,hL,r'⟩) aQ I.bare
def Inv.call{t':Nat}{d':Drawn}(I:Inv X δ σ H s)(u:Un (qj X.stack) ch H H' s.heap h')(aQ:lh X.prog X.w H' h')(hg:AllBare g')
  (vC:∀b∈ch,(b∈X.ex\/X.s₀.heap.objs.size<=b)/\b≠X.env.locals/\(∀x c,X.env.cells.lookup x=some c->c≠b)/\∀p∈X.pn++δ,p.1≠b):
  Inv X δ σ H' {s with heap:=h',gens:=g',drawn:=d',toks:=t'}:=by
 have⟨m,⟨o,es,ep,ho,r⟩,_⟩:=id I.loc;have⟨sl,hL⟩:=u.any ho I.free λz=>(vC _ z).2.1 rfl
 exact I.step (ch:=ch) vC (λb o hL hb hc e n=>u.keep b o e n (λz=>(aaA.mp (I.wG b z)).elim hL hb) hc) (λb o _ _ hc e n=>u.any e n hc) (λb o hc e n=>u.free b o e n hc) (λb o hc e=>u.there b o e hc) u.qr u.oY u.qk (λm' hm=>by
  have⟨o',YG,Wh,Ej,r'⟩:=hm;rw[ho]at Ej;cases Ej
  exact⟨_,YG,Wh,hL,r'⟩) aQ hg
def Inv.turned{t':Nat}{it:Addr}(I:Inv X δ σ H s)(k:∀b o,b≠it->s.heap.get? b=some o->h'.get? b=some o)(hn:H it=none)(hL:it≠X.env.locals)
  (h1:it∈X.ex\/X.s₀.heap.objs.size<=it) (h2:∀x c,X.env.cells.lookup x=some c->c≠it) (h3:∀p∈X.pn++δ,p.1≠it):Inv X δ σ H {s with heap:=h',toks:=t'}:=by
 have ZJ:∀b u,H b=some u->b≠it:=λb u e z=>by rw[z,hn]at e;cases e
 refine I.step (g':=s.gens) (d':=s.drawn) (ch:=[it]) (λb hb=>?_) (λb o _ _ hc e _=>k b o (λz=>hc (by simp[z])) e) (λb o _ _ hc e _=>⟨o.slots,k b o (λz=>hc (by simp[z])) e⟩) (λ_ _ _ _ n=>n)
  (λb o hc e=>⟨o,k b o (λz=>hc (by simp[z])) e⟩) (λ_ _ e=>e) (λ_ _ _ e=>e) (λb ps e=>⟨#[],by rw[e];simp⟩) (λm hm=>?_) (λb u e=>?_) I.bare
 ·have e:b=it:=by simpa using hb
  subst e;exact⟨h1,hL,h2,h3⟩
 ·have⟨o,es,ep,ho,r⟩:=hm;exact⟨o,es,ep,k _ o (Ne.symm hL) ho,r⟩
 ·refine(I.aQ b u e).A_ (λc v hc q=>k c v ?_ q) (λ_ q=>q) λ_ _ q=>q;rcases hc with z| z
  ·rw[z];exact ZJ b u e
  ·exact ZJ c _ z
def Inv.tok(I:Inv X δ σ H s)(t:Nat):Inv X δ σ H {s with toks:=t}:=I.un (h':=s.heap) (t':=t) Un.refl I.aQ
def Inv.kept{t':Nat}(I:Inv X δ σ H s)(k:∀b u,s.heap.get? b=some u->h'.get? b=some u):Inv X δ σ H {s with heap:=h',toks:=t'}:=I.un (Un.kept k) (I.aQ.kept k)
def Inv.laid{t':Nat}(I:Inv X δ σ H s)(k:∀b u,s.heap.get? b=some u->h'.get? b=some u)(hp:s.heap.objs.size<=a)(new:bZ X.prog X.w (upd H a o) h' a o):
  Inv X δ σ (upd H a o) {s with heap:=h',toks:=t'}:=I.un (Un.laid k hp (I.aQ.fresh hp)) (I.aQ.laid k hp new)
def Inv.write{x e:Addr}{t':Nat}(I:Inv X δ σ H s)(mu:Q_ (H x))(he:e=x\/H e=some (.own x))(k:∀b u,b≠e->s.heap.get? b=some u->h'.get? b=some u)(Q8:∃u,h'.get? e=some u)
  (new:bZ X.prog X.w (upd H x o) h' x o):Inv X δ σ (upd H x o) {s with heap:=h',toks:=t'}:=I.un (Un.write mu he k Q8) (I.aQ.write mu he k Q8 new)
def Inv.Eb{M_:List (Addr×Obj)}(I:Inv X δ σ H s)(h:∀p∈M_,s.heap.get? p.1=some p.2/\H p.1=none/\p.1≠X.env.locals/\p.1∉X.fs/\∀v,p.2.data≠ .cell v):Inv X M_ σ H s:=
 ⟨I.ok,I.os,I.bare,I.base,I.loc,I.cell,I.free,I.pM,λp hp=>(aaT.mp hp).elim (λz=>I.pin p (List.mem_append_left _ z)) (h p),I.aQ,I.len⟩
def z_{N:List Str}(hN:N.Nodup){j:Nat}(a:N[i]? =some x)(b:N[j]? =some x):i=j:=by have⟨h1,e1⟩:=aaf.mp a;have⟨h2,e2⟩:=aaf.mp b;exact(List.getElem_inj hN).mp (e1.trans e2.symm)
def vx{Q:Unit->Shared->Prop}(I:Inv X δ σ H s)(hN:X.N.Nodup)(hi:X.N[i]? =some x)(hx:Loc X.env.scope x)(r:aq v u)
  (h:∀s',Inv X δ (σ.set i (some v)) H s'->(∃a,Heap.SameBut a s.heap s'.heap/\(a=X.env.locals\/X.env.cells.lookup x=some a))->Q Unit.unit s') (hf:X.fn x=true\/X.env.scope.names.lookup x=some .local:=by first| exact .inl rfl| exact .inr rfl| assumption):wpAny M A (storeName X.env x u) Q E s:=by
 have⟨m,hn,hl⟩:=id I.loc;have XF:(X.env.scope.kind== .class|| (X.env.scope.kind== .module&&X.env.locals != X.env.globals))=false:=by rw[I.ok.kind];rfl
 have R8:i < σ.length:=by rw[I.len];exact(aaf.mp hi).1
 have Lw:=I.Lw;have tracked:∀{a:Addr} {h':Heap},(∃o,s.heap.get? a=some o/\H a=none)->Heap.SameBut a s.heap h'->lh X.prog X.w H h':=λ{a h'} ha hs b ob e=>by
  have⟨_,_,N0⟩:=ha;refine(I.aQ b ob e).A_ (λc w' hc q=>(hs.2 c ?_).trans q) (λ_ q=>q) λ_ _ q=>q;rintro rfl;rcases hc with rfl| hc
  ·rw[N0]at e;cases e
  ·rw[N0]at hc;cases hc
 rcases hx with hk| hk
 ·refine wpAny_storeName_local hk hn (λh' Sa hs=>?_) XF;have⟨oL,_,_,hoL,_⟩:=id hn;refine h _ ⟨I.ok,I.os,I.bare,⟨λb o e n hb hx=>?_,λb o e n hb hx=>?_,I.base.free,λb o e hx=>?_,I.base.qr,I.base.oY,I.base.qk⟩,⟨_,Sa,λj y v' e1 e2 e3=>?_⟩,λy c e=>?_,I.free,I.pM,λp hp=>?_,tracked ⟨oL,hoL,I.free⟩ hs,by simpa using I.len⟩ ⟨_,hs,.inl rfl⟩
  ·exact(hs.2 b (aaL (aax (aap e) I.ok.above))).trans (I.base.keep b o e n hb hx)
  ·have⟨sl,e1⟩:=I.base.slot b o e n hb hx;exact⟨sl,(hs.2 b (aaL (aax (aap e) I.ok.above))).trans e1⟩
  ·have⟨o',e1⟩:=I.base.there b o e hx;exact⟨o',(hs.2 b (aaL (aax (aap e) I.ok.above))).trans e1⟩
  ·by_cases hj:j=i
   ·subst hj;rw[hi]at e1;cases e1;rw[aa5 R8]at e2;cases e2;exact⟨u,r,.inl ⟨hk,by simp⟩⟩
   ·rw[aa6 (Ne.symm hj)]at e2;have⟨u',r',q⟩:=hl j y v' e1 e2 e3;refine⟨u',r',?_⟩;rcases q with ⟨k,e⟩| ⟨k,c,e,z⟩
    ·refine .inl ⟨k,?_⟩;have:y≠x:=λe=>hj (z_ hN e1 (e▸hi));simp[this,e]
    ·exact .inr ⟨k,c,e,z.sameBut hs (Lw y c e)⟩
  ·have⟨w',z⟩:=I.cell y c e;exact⟨w',z.sameBut hs (Lw y c e)⟩
  ·have⟨e,n,ne,nf,d⟩:=I.pin p hp;exact⟨(hs.2 p.1 ne).trans e,n,ne,nf,d⟩
 ·have Xm:X.fn x=true:=by
   rcases hf with z| z
   ·exact z
   ·rw[z]at hk;cases hk
  have⟨c,hc⟩:=I.ok.has x (.inl hk);have⟨w',z⟩:=I.cell x c hc;refine wpAny_storeName_cell I.ok.kind hk hc z (λh' AR hs=>?_);have⟨oc,hoc,Yj⟩:=id z;refine h {s with heap:=h'} ⟨I.ok,I.os,I.bare,⟨λb o e n hb hx=>?_,λb o e n hb hx=>?_,I.base.free,λb o e hx=>?_,I.base.qr,I.base.oY,I.base.qk⟩,⟨m,hn.sameBut hs (Ne.symm (Lw x c hc)),λj y v' e1 e2 e3=>?_⟩,λy c' e=>?_,I.free,I.pM,λp hp=>?_,tracked ⟨oc,hoc,I.pM x c hc⟩ hs,by simpa using I.len⟩ ⟨c,hs,.inr hc⟩
  ·exact(hs.2 b (aaL (aax (aap e) (I.ok.V6 x c Xm hc)))).trans (I.base.keep b o e n hb hx)
  ·have⟨sl,e1⟩:=I.base.slot b o e n hb hx;exact⟨sl,(hs.2 b (aaL (aax (aap e) (I.ok.V6 x c Xm hc)))).trans e1⟩
  ·have⟨o',e1⟩:=I.base.there b o e hx;exact⟨o',(hs.2 b (aaL (aax (aap e) (I.ok.V6 x c Xm hc)))).trans e1⟩
  ·by_cases hj:j=i
   ·subst hj;rw[hi]at e1;cases e1;rw[aa5 R8]at e2;cases e2;exact⟨u,r,.inr ⟨.inl hk,c,hc,AR⟩⟩
   ·rw[aa6 (Ne.symm hj)]at e2;have⟨u',r',q⟩:=hl j y v' e1 e2 e3;refine⟨u',r',?_⟩;rcases q with q| ⟨k,c',e,z'⟩
    ·exact .inl q
    ·refine .inr ⟨k,c',e,z'.sameBut hs ?_⟩;rintro rfl;exact hj (z_ hN e1 (I.ok.inj _ _ _ e hc▸hi))
  ·by_cases Oc:c'=c
   ·subst Oc;exact⟨_,AR⟩
   ·have⟨w2,z2⟩:=I.cell y c' e;exact⟨w2,z2.sameBut hs Oc⟩
  ·have⟨e,n,ne,nf,d⟩:=I.pin p hp;refine⟨(hs.2 p.1 ?_).trans e,n,ne,nf,d⟩;intro q;rw[q,hoc]at e;have q':oc=p.2:=aas e;exact d w' (by rw[<-q'];exact Yj)
def nF{Q:Unit->Shared->Prop}(I:Inv X δ σ H s)(hN:X.N.Nodup)(hi:X.N[i]? =some x)(hx:Loc X.env.scope x)(r:aq v u)
  (h:∀s',Inv X δ (σ.set i (some v)) H s'->Q Unit.unit s') (hf:X.fn x=true\/X.env.scope.names.lookup x=some .local:=by first| exact .inl rfl| exact .inr rfl| assumption):wpAny M A (storeName X.env x u) Q E s:=
 vx I hN hi hx r (λs' I' _=>h s' I') hf
def Inv.Th{s':Shared}(I:Inv X δ σ H s)(ho:s'.os=s.os)(u:Un (qj X.stack) ch H H' s.heap s'.heap)(aQ:lh X.prog X.w H' s'.heap)(hg:AllBare s'.gens)
  (vC:∀b∈ch,(b∈X.ex\/X.s₀.heap.objs.size<=b)/\b≠X.env.locals/\(∀x c,X.env.cells.lookup x=some c->c≠b)/\∀p∈X.pn++δ,p.1≠b):Inv X δ σ H' s':=by
 have⟨h',g',d',t',o'⟩:=s';have e:o'=s.os:=ho;subst e;exact I.call (g':=g') (t':=t') (d':=d') u aQ hg vC
end
abbrev XK:=Value->Option Addr->Hp->Prop
abbrev St:=List (Option V)
variable{σ:St}
abbrev VK:=V->Hp->Prop
abbrev TE:=St->Hp->VK->Prop
variable{ta te:TE}
abbrev TT:=St->Hp->(Bool->Hp->Prop)->Prop
abbrev TA:=St->Hp->(List V->Hp->Prop)->Prop
structure yn where
 nx:St->Hp->Prop
 rt:VK
 bk:St->Hp->Prop:=λ_ _=>False
 ct:St->Hp->Prop:=λ_ _=>False
abbrev TS:=yn->St->Hp->Prop
def EP(X:Cx)(δ:List (Addr×Obj))(σ:St)(Q:VK)(u:Value)(s':Shared):Prop:=∃v H',Inv X δ σ H' s'/\aq v u/\Q v H'
def TP(X:Cx)(δ:List (Addr×Obj))(σ:St)(Q:Bool->Hp->Prop)(b:Bool)(s':Shared):Prop:=∃H',Inv X δ σ H' s'/\Q b H'
def AP(X:Cx)(δ:List (Addr×Obj))(σ:St)(Q:List V->Hp->Prop)(us:List Value)(s':Shared):Prop:=∃vs H',Inv X δ σ H' s'/\ar vs us/\Q vs H'
def SP(X:Cx)(δ:List (Addr×Obj))(D:yn)(f:Flow)(s':Shared):Prop:=
 match f with
 | .next=>∃σ' H',Inv X δ σ' H' s'/\D.nx σ' H'
 | .brk=>∃σ' H',Inv X δ σ' H' s'/\D.bk σ' H'
 | .cont=>∃σ' H',Inv X δ σ' H' s'/\D.ct σ' H'
 | .ret u=>∃v σ' H',Inv X δ σ' H' s'/\aq v u/\D.rt v H'
def PE(X:Cx)(e:Expr)(t:TE):Prop:=
 ∀(δ:List (Addr×Obj)) (s:Shared) (σ:St) (H:Hp) (Q:VK),Inv X δ σ H s->t σ H Q->wpAny (model X.prog X.w) X.A (eval e X.env) (EP X δ σ Q) X.xe s
def PT(X:Cx)(e:Expr)(t:TT):Prop:=
 ∀(δ:List (Addr×Obj)) (s:Shared) (σ:St) (H:Hp) (Q:Bool->Hp->Prop),Inv X δ σ H s->t σ H Q->wpAny (model X.prog X.w) X.A (isTrue e X.env (eval e X.env)) (TP X δ σ Q) X.xe s
def PW(X:Cx)(e:Expr)(t:TT):Prop:=
 ∀(whole:Sem Value) (δ:List (Addr×Obj)) (s:Shared) (σ:St) (H:Hp) (Q:Bool->Hp->Prop),Inv X δ σ H s->t σ H Q->wpAny (model X.prog X.w) X.A (isTrue e X.env whole) (TP X δ σ Q) X.xe s
def PA(X:Cx)(es:List Expr)(t:TA):Prop:=
 ∀(pos:Pos) (δ:List (Addr×Obj)) (s:Shared) (σ:St) (H:Hp) (Q:List V->Hp->Prop),Inv X δ σ H s->t σ H Q->wpAny (model X.prog X.w) X.A (spliced (backTo pos (starEach es X.env))) (AP X δ σ Q) X.xe s
def PS(X:Cx)(st:Stmt)(t:TS):Prop:=
 ∀(δ:List (Addr×Obj)) (s:Shared) (σ:St) (H:Hp) (D:yn),Inv X δ σ H s->t D σ H->wpAny (model X.prog X.w) X.A (exec st X.env) (SP X δ D) X.xe s
def Gw(X:Cx)(st:List Stmt)(t:TS):Prop:=
 ∀(δ:List (Addr×Obj)) (s:Shared) (σ:St) (H:Hp) (D:yn),Inv X δ σ H s->t D σ H->wpAny (model X.prog X.w) X.A (execs st X.env) (SP X δ D) X.xe s
def bA{α:Type}{t:Sem α}{Q Q':α->Shared->Prop}(h:wpAny M A t Q E s)(hQ:∀a s,Q a s->Q' a s):wpAny M A t Q' E s:=ab0 h hQ λ_ _ x=>x
section
def Ys(i:Nat):TE:=λσ H Q=>∃v,σ[i]? =some (some v)/\Q v H
def tC(v:V):TE:=λ_ H Q=>Q v H
def P6{pos:Pos}(hN:X.N[i]? =some x)(hv:W3 X.env.scope x)(hd:(x==("__debug__":Str))=false:=by decide)(JR:(x==("__classdict__":Str))=false:=by decide):PE X (.Name x pos) (Ys i):=by
 intro δ s σ H Q I h;have⟨v,e,h⟩:=h;have⟨m,hn,hl⟩:=I.loc;have⟨u,r,l⟩:=hl i x v hN e hv;have fin:EP X δ σ Q u s:=⟨v,H,I,r,h⟩;rcases l with ⟨hk,hm⟩| ⟨hk,c,hc,Na⟩
 ·exact wpAny_Name (wpAny_loadName_local I.ok.kind hk hn hm fin) hd
 ·rcases hk with hk| hk
  ·exact wpAny_Name (wpAny_loadName_cell I.ok.kind hk hc Na fin) hd
  ·exact wpAny_Name (wpAny_loadName_free I.ok.kind hk hc Na fin JR) hd
def OT{i j pos}:PE X (.Constant (.int i) j pos) (tC (.int i)):=λ_ _ _ H _ I h=>wpAny_Constant_int ⟨.int i,H,I.tok _,⟨_,rfl⟩,h⟩
def Sb{b j pos}:PE X (.Constant (.bool b) j pos) (tC (.bl b)):=λ_ _ _ H _ I h=>Constant_bool ⟨.bl b,H,I,rfl,h⟩
def QK{j pos}:PE X (.Constant .none j pos) (tC .aP):=λ_ _ _ H _ I h=>Constant_none ⟨.aP,H,I,rfl,h⟩
def Kk{x j pos}:PE X (.Constant (.str x) j pos) (tC (.str x)):=λ_ _ _ H _ I h=>Calls.Constant_str ⟨.str x,H,I.tok _,⟨_,rfl⟩,h⟩
def Gl(X:Cx)(x:Str):Prop:=X.env.kindOf x=some .globalImplicit
def x_{H:Hp}{pos:Pos}(I:Inv X δ σ H s)(hg:Gl X x)(hm:X.mg x=some u)(h:Q u s)
  (hd:(x==("__debug__":Str))=false:=by decide):wpAny (model X.prog X.w) X.A (eval (.Name x pos) X.env) Q E s:=
 Calls.Name_function_global I.ok.kind hg (Calls.loadGlobal_global (by rw[I.ok.glob];exact I.mod.glob.keeps I.bk) hm h) hd
def mO{H:Hp}{pos:Pos}(I:Inv X δ σ H s)(hg:Gl X x)(hm:X.mg x=none)(hv:bootBuiltins x=some u)(h:Q u s)
  (hn:x≠"__name__":=by decide) (hd:(x==("__debug__":Str))=false:=by decide):wpAny (model X.prog X.w) X.A (eval (.Name x pos) X.env) Q E s:=by
 have⟨mb,h1,h2⟩:=I.mod.blt;exact Calls.Name_function_global I.ok.kind hg (Calls.loadGlobal_builtin (by rw[I.ok.glob];exact I.mod.glob.keeps I.bk) hm (by rw[I.ok.blt];exact h1.keeps I.bk) ((h2 x hn).trans hv) h) hd
def Dj{pos:Pos}(hg:Gl X x)(hm:X.mg x=some u)(r:aq v u)(hd:(x==("__debug__":Str))=false:=by decide):PE X (.Name x pos) (tC v):=
 λ_ _ _ H _ I h=>x_ I hg hm ⟨v,H,I,r,h⟩ hd
def LP{pos:Pos}(hg:Gl X x)(hm:X.mg x=none)(hv:bootBuiltins x=some u)(r:aq v u)(hn:x≠"__name__":=by decide)(hd:(x==("__debug__":Str))=false:=by decide):PE X (.Name x pos) (tC v):=
 λ_ _ _ H _ I h=>mO I hg hm hv ⟨v,H,I,r,h⟩ hn hd
variable{a b:Expr}{tb:TE}{pos:Pos}
def tB(t:TE):TT:=λσ H Q=>t σ H λx H1=>∃c,x= .bl c/\Q c H1
def OX{t:TE}(h:PE X e t)(he:∀whole,isTrue e X.env whole=(do let v<-whole;standAt e.pos;holding [v] (truthy v)):=by intro _;rfl):PT X e (tB t):=by intro δ s σ H Q I hw;refine isTrue_plain (bA (h δ s σ H _ I hw) λv s1 xz=>?_) (he _);have⟨x,H1,I1,r1,q1⟩:=xz;have⟨d,rfl,q⟩:=q1;cases r1;exact wpAny_truthy_bool ⟨H1,I1,q⟩
variable{tA RN:TT}{rest:List Expr}
def VJ(t u:TT):TT:=λσ H Q=>t σ H λc H1=>if c=true then u σ H1 Q else Q false H1
def tOr(t u:TT):TT:=λσ H Q=>t σ H λc H1=>if c=true then Q true H1 else u σ H1 Q
def Xy(t:TT):TT:=λσ H Q=>t σ H λc H1=>Q (!c) H1
def pw_and1(ha:PT X a tA):PW X (.BoolOp .And [a] pos) tA:=by
 intro wh δ s σ H Q I h;refine isTrue_and (bA (ha δ s σ H Q I h) λc s1 e=>?_);cases c with
 | true=>exact isTrue_and_nil e
 | false=>exact e
def pw_or1(ha:PT X a tA):PW X (.BoolOp .Or [a] pos) tA:=by
 intro wh δ s σ H Q I h;refine isTrue_or (bA (ha δ s σ H Q I h) λc s1 e=>?_);cases c with
 | false=>exact isTrue_or_nil e
 | true=>exact e
def pw_and(ha:PT X a tA)(hb:PW X (.BoolOp .And (b::rest) pos) RN):PW X (.BoolOp .And (a::b::rest) pos) (VJ tA RN):=by
 intro wh δ s σ H Q I h;refine isTrue_and (bA (ha δ s σ H _ I h) λc s1 xz=>?_);have⟨H1,I1,q1⟩:=xz;cases c with
 | true=>exact hb wh δ s1 σ H1 Q I1 q1
 | false=>exact⟨H1,I1,q1⟩
def pw_or(ha:PT X a tA)(hb:PW X (.BoolOp .Or (b::rest) pos) RN):PW X (.BoolOp .Or (a::b::rest) pos) (tOr tA RN):=by
 intro wh δ s σ H Q I h;refine isTrue_or (bA (ha δ s σ H _ I h) λc s1 xz=>?_);have⟨H1,I1,q1⟩:=xz;cases c with
 | true=>exact⟨H1,I1,q1⟩
 | false=>exact hb wh δ s1 σ H1 Q I1 q1
def PR(ha:PT X a tA):PT X (.UnaryOp .Not a pos) (Xy tA):=by intro δ s σ H Q I h;exact isTrue_not (ha δ s σ H (λc H1=>Q (!c) H1) I h)
def RA(ta tb:TE):TE:=λσ H Q=>ta σ H λx H1=>∃c,x= .bl c/\if c=true then tb σ H1 Q else Q (.bl false) H1
def Wd(ta tb:TE):TE:=λσ H Q=>ta σ H λx H1=>∃c,x= .bl c/\if c=true then Q (.bl true) H1 else tb σ H1 Q
def Rr(ta:TE):TE:=λσ H Q=>ta σ H λx H1=>∃c,x= .bl c/\Q (.bl (!c)) H1
def Qb{op}{t:TE}(h:PE X a t):PE X (.BoolOp op [a] pos) t:=λδ s σ H Q I hw=>BoolOp_one (h δ s σ H Q I hw)
def P9(ha:PE X a ta)(hb:PE X (.BoolOp .And (b::rest) pos) tb):PE X (.BoolOp .And (a::b::rest) pos) (RA ta tb):=by
 intro δ s σ H Q I h;refine BoolOp_and (bA (ha δ s σ H _ I h) λv s1 xz=>?_);have⟨x,H1,I1,r1,q1⟩:=xz;have⟨c,rfl,q1⟩:=q1;cases r1;refine wpAny_truthy_bool ?_;cases c with
 | true=>exact hb δ s1 σ H1 Q I1 q1
 | false=>exact⟨.bl false,H1,I1,rfl,q1⟩
def SR(ha:PE X a ta)(hb:PE X (.BoolOp .Or (b::rest) pos) tb):PE X (.BoolOp .Or (a::b::rest) pos) (Wd ta tb):=by
 intro δ s σ H Q I h;refine BoolOp_or (bA (ha δ s σ H _ I h) λv s1 xz=>?_);have⟨x,H1,I1,r1,q1⟩:=xz;have⟨c,rfl,q1⟩:=q1;cases r1;refine wpAny_truthy_bool ?_;cases c with
 | false=>exact hb δ s1 σ H1 Q I1 q1
 | true=>exact⟨.bl true,H1,I1,rfl,q1⟩
def OQ(ha:PE X a ta):PE X (.UnaryOp .Not a pos) (Rr ta):=by intro δ s σ H Q I h;refine UnaryOp_ (bA (ha δ s σ H _ I h) λv s1 xz=>?_);have⟨x,H1,I1,r1,q1⟩:=xz;have⟨c,rfl,q1⟩:=q1;cases r1;exact not_of (wpAny_truthy_bool ⟨.bl (!c),H1,I1,rfl,q1⟩)
def tIf(t:TT)(ta tb:TE):TE:=λσ H Q=>t σ H λc H1=>if c=true then ta σ H1 Q else tb σ H1 Q
def HZ(hc:PT X c tA)(ha:PE X a ta)(hb:PE X b tb):PE X (.IfExp c a b pos) (tIf tA ta tb):=by
 intro δ s σ H Q I h;refine wpAny_IfExp (bA (hc δ s σ H _ I h) λd s1 xz=>?_);have⟨H1,I1,q1⟩:=xz;cases d with
 | true=>exact ha δ s1 σ H1 Q I1 q1
 | false=>exact hb δ s1 σ H1 Q I1 q1
end
def gu(K:fv)(H:Hp)(a:Addr)(xs:List V):Prop:=
 Rd H a (.lst xs)\/
  ∃(o:Obj) (its:Array Value) (n:Nat),K.lookup a=some o/\o.cls= .type "list"/\o.dict=none/\o.data= .seq its n/\its.size<=sizeLine/\ar xs its.toList
def mQ(K:fv)(H:Hp)(a:Addr)(xs:List V):Prop:=
 Rd H a (.tup xs)\/
  ∃(o:Obj) (its:Array Value) (n:Nat),K.lookup a=some o/\o.cls= .type "tuple"/\o.data= .seq its n/\its.size<=sizeLine/\ar xs its.toList
def XQ:Value->Option V
 | .none=>some .aP
 | .bool b=>some (.bl b)
 | .int i _=>some (.int i)
 | .str x _=>some (.str x)
 | .bytes b _=>some (.Gv b)
 | .float b _=>some (.QH b)
 | .ref a=>some (.ref a)
 | .type n=>some (.ty n)
 | _=>none
def aq.abs{x:V}(r:aq x u):XQ u=some x:=by
 cases x with
 | aP=>cases r;rfl
 | bl _=>cases r;rfl
 | int _=>have⟨t,rfl⟩:=r;rfl
 | str _=>have⟨t,rfl⟩:=r;rfl
 | Gv _=>have⟨t,rfl⟩:=r;rfl
 | QH _=>have⟨t,rfl⟩:=r;rfl
 | ref _=>cases r;rfl
 | ty _=>cases r;rfl
def aq.inj{x y:V}{u:Value}(r:aq x u)(q:aq y u):x=y:=aas (r.abs.symm.trans q.abs)
def ar.inj:∀{xs ys:List V} {us:List Value},ar xs us->ar ys us->xs=ys
 | _,_,_,.nil,.nil=>rfl
 | _,_,_,.cons r t,.cons r' t'=>by rw[r.inj r',ar.inj t t']
section
variable{H:Hp}{xs ys:List V}
def gu.of{K:fv}(h:H a=some (.lst xs)):gu K H a xs:=.inl (.inl h)
def mQ.of{K:fv}(h:H a=some (.tup xs)):mQ K H a xs:=.inl (.inl h)
def Inv.list(I:Inv X δ σ H s)(h:gu X.K H a xs):∃its:List Value,ar xs its/\PlainL s.heap a its.toArray/\xs.length<=sizeLine:=by
 rcases h with h| ⟨o,its,n,hk,hc,hd,hs,hz,r⟩
 ·have⟨z,its,n,r,e⟩:=h.ok I.aQ;exact⟨its,r,⟨_,n,e,rfl,rfl,rfl⟩,z⟩
 ·refine⟨its.toList,r,⟨o,n,I.qp a o hk,hc,hd,by simpa using hs⟩,?_⟩;have e:=r.length;simp only[Array.length_toList]at e;omega
def Inv.tuple(I:Inv X δ σ H s)(h:mQ X.K H a xs):∃its:List Value,ar xs its/\IsTup s.heap a its.toArray/\xs.length<=sizeLine:=by
 rcases h with h| ⟨o,its,n,hk,hc,hs,hz,r⟩
 ·have⟨z,its,r,p⟩:=h.ok I.aQ;exact⟨its,r,p,z⟩
 ·refine⟨its.toList,r,⟨o,I.qp a o hk,hc,n,by simpa using hs⟩,?_⟩;have e:=r.length;simp only[Array.length_toList]at e;omega
def Inv.cj(I:Inv X δ σ H s)(h:gu X.K H a xs)(h':gu X.K H a ys):xs=ys:=by
 have⟨its,r,⟨o,n,e,_,_,d⟩,_⟩:=I.list h;have⟨its',r',⟨o',n',e',_,_,d'⟩,_⟩:=I.list h';rw[e]at e';cases e';rw[d]at d';injection d' with d1 _
 have:its=its':=by simpa using congrArg Array.toList d1
 subst this;exact r.inj r'
def Inv.kS(I:Inv X δ σ H s)(h:mQ X.K H a xs)(h':mQ X.K H a ys):xs=ys:=by
 have⟨its,r,⟨o,e,_,n,d⟩,_⟩:=I.tuple h;have⟨its',r',⟨o',e',_,n',d'⟩,_⟩:=I.tuple h';rw[e]at e';cases e';rw[d]at d';injection d' with d1 _
 have:its=its':=by simpa using congrArg Array.toList d1
 subst this;exact r.inj r'
end
section
variable{st:Stmt}{rest:List Stmt}{t u:TS}{pos:Pos}
def SI:TS:=λD σ H=>D.nx σ H
def VQ(t u:TS):TS:=λD σ H=>t {D with nx:=u D} σ H
def K5:Gw X [] SI:=λ_ _ σ H _ I h=>wpAny_execs_nil ⟨σ,H,I,h⟩
def GK(h1:PS X st t)(h2:Gw X rest u):Gw X (st::rest) (VQ t u):=by
 intro δ s σ H D I h;refine wpAny_execs_cons (bA (h1 δ s σ H {D with nx:=u D} I h) λf s1 q=>?_);cases f with
 | next=>
  have⟨σ',H',I',q⟩:=q;exact h2 δ s1 σ' H' D I' q
 | ret v=>exact q
 | brk=>exact q
 | cont=>exact q
def MA(h1:PS X st t):Gw X [st] t:=by
 intro δ s σ H D I h;refine wpAny_execs_cons (bA (h1 δ s σ H D I h) λf s1 q=>?_);cases f with
 | next=>exact wpAny_execs_nil q
 | ret v=>exact q
 | brk=>exact q
 | cont=>exact q
def RF:TS:=λD σ H=>D.ct σ H
def zZ:PS X (.Continue pos) RF:=λ_ _ σ H _ I h=>wpAny_Continue ⟨σ,H,I,h⟩
def Inv.quiet{H:Hp}(I:Inv X δ σ H s):interactive X.env=false:=by simp[interactive,I.ok.kind]
def RG(te:TE):TS:=λD σ H=>te σ H λ_ H1=>D.nx σ H1
def Mj(he:PE X e te)(hs:swapsWith e none pos.line X.env=pure false:=by rfl):PS X (.Expr e pos) (RG te):=by intro δ s σ H D I h;exact wpAny_Expr_any (bA (he δ s σ H _ I h) λv s1 ⟨x,H1,I1,r1,q1⟩=>⟨σ,H1,I1,q1⟩) I.quiet hs
def YK(te:TE):TS:=λD σ H=>te σ H D.rt
def Pa(he:PE X e te):PS X (.Return (some e) pos) (YK te):=by intro δ s σ H D I h;exact wpAny_Return_some (bA (he δ s σ H _ I h) λv s1 ⟨x,H1,I1,r1,q1⟩=>⟨x,σ,H1,I1,r1,q1⟩)
def XU(c:TT)(t u:TS):TS:=λD σ H=>c σ H λb H1=>if b=true then t D σ H1 else u D σ H1
def T5{a b:List Stmt}{tc:TT}(hc:PT X c tc)(ha:Gw X a t)(hb:Gw X b u):PS X (.If c a b pos) (XU tc t u):=by
 intro δ s σ H D I h;refine wpAny_If (bA (hc δ s σ H _ I h) λd s1 xz=>?_);have⟨H1,I1,q1⟩:=xz;cases d with
 | true=>exact ha δ s1 σ H1 D I1 q1
 | false=>exact hb δ s1 σ H1 D I1 q1
end
abbrev TG:=V->St->Hp->(St->Hp->Prop)->Prop
abbrev P7:=List V->St->Hp->(St->Hp->Prop)->Prop
def PG(X:Cx)(target:Expr)(t:TG):Prop:=
 ∀(δ:List (Addr×Obj)) (s:Shared) (σ:St) (H:Hp) (v:V) (u:Value) (Q:St->Hp->Prop),Inv X δ σ H s->aq v u->t v σ H Q->
  wpAny (model X.prog X.w) X.A (assign target X.env u) (λ_ s'=>∃σ' H',Inv X δ σ' H' s'/\Q σ' H') X.xe s
def Ve(X:Cx)(ts:List Expr)(t:P7):Prop:=
 ∀(δ:List (Addr×Obj)) (s:Shared) (σ:St) (H:Hp) (vs:List V) (us:List Value) (Q:St->Hp->Prop),Inv X δ σ H s->ar vs us->t vs σ H Q->
  wpAny (model X.prog X.w) X.A (assignInOrder ((assignEach ts X.env).map (·.2)) us) (λ_ s'=>∃σ' H',Inv X δ σ' H' s'/\Q σ' H') X.xe s
abbrev Oa:=V->V->V->Hp->(Hp->Prop)->Prop
def Rx(X:Cx)(t:Oa):Prop:=
 ∀(δ:List (Addr×Obj)) (s:Shared) (σ:St) (H:Hp) (o i v:V) (ov iv u:Value) (Q:Hp->Prop),Inv X δ σ H s->aq o ov->aq i iv->aq v u->t o i v H Q->
  wpAny (model X.prog X.w) X.A (setItem ov iv u) (λ_ s'=>∃H',Inv X δ σ H' s'/\Q H') X.xe s
section
variable{pos:Pos}
def iN(i:Nat):TG:=λv σ H Q=>Q (σ.set i (some v)) H
def ai(hN:X.N.Nodup)(hi:X.N[i]? =some x)(hx:Loc X.env.scope x)(hf:X.fn x=true\/X.env.scope.names.lookup x=some .local:=by first| exact .inl rfl| exact .inr rfl| assumption):PG X (.Name x pos) (iN i):=by intro δ s σ H v u Q I r h;exact wpAny_assign_Name (nF I hN hi hx r (λs' I'=>⟨_,H,I',h⟩) hf)
def J8:P7:=λvs σ H Q=>vs=[]/\Q σ H
def nq(t:TG)(u:P7):P7:=λvs σ H Q=>∃v r,vs=v::r/\t v σ H λσ' H'=>u r σ' H' Q
def kQ:Ve X [] J8:=by intro δ s σ H vs us Q I r h;have⟨e,h⟩:=h;subst e;cases r;exact assignInOrder_nil ⟨σ,H,I,h⟩
def cH{t:TG}{u:P7}(h1:PG X e t)(h2:Ve X es u)
  (hs:(assignEach (e::es) X.env).map (·.2)=assign e X.env::(assignEach es X.env).map (·.2):=by rfl):Ve X (e::es) (nq t u):=by
 intro δ s σ H vs us Q I r h;have⟨v,vr,e1,h⟩:=h;subst e1;cases r with
 | cons r rr=>
  rw[hs];refine assignInOrder_cons (bA (h1 δ s σ H _ _ _ I r h) λ_ s1 xz=>?_);have⟨σ1,H1,I1,q1⟩:=xz;exact h2 δ s1 σ1 H1 _ _ Q I1 rr q1
def Kb(K:fv)(n:Nat)(t:P7):TG:=λv σ H Q=>∃a xs,v= .ref a/\mQ K H a xs/\xs.length=n/\t xs σ H Q
def oi{k:Nat}{t:P7}{n:Nat}(hc:X.calm=true)(h:Ve X es t)
  (hn:(assignEach es X.env).length=n:=by rfl) (OL:(assignEach es X.env).findIdx? (·.1)=none:=by rfl):PG X (.Tuple es k pos) (Kb X.K n t):=by
 intro δ s σ H v u Q I r hw;have⟨a,xs,e1,hq,hl,hw⟩:=hw;subst e1;cases r;have⟨its,rv,ht,hz⟩:=I.tuple hq;refine assign_Tuple_tuple (I.ok.hd hc) ht (by simp[hn,<-hl,rv.length]) OL λh' hx=>?_;have I1:Inv X δ σ H {s with heap:=h'}:=I.kept (t':=s.toks) λb o e=>hx b o (aaL (aap e)) e;exact h δ _ σ H xs _ Q I1 (by simpa using rv) hw
def YL(to ti:TE)(t:Oa):TG:=λv σ H Q=>to σ H λo H1=>ti σ H1 λi H2=>t o i v H2 λH3=>Q σ H3
def OJ{o i:Expr}{to ti:TE}{t:Oa}(ho:PE X o to)(hi:PE X i ti)(hs:Rx X t)
  (ha:∀v,assign (.Subscript o i pos) X.env v=(do
   let ov<-holding [v] (eval o X.env)
   let iv<-holding [v,ov] (eval i X.env)
   standAt pos
   holding [v,ov,iv] (setItem ov iv v)
   release [v,ov,iv] []):=by intro _;rfl):PG X (.Subscript o i pos) (YL to ti t):=by
 intro δ s σ H v u Q I r h;rw[ha];refine aaF (wpAny_holding (bA (ho δ s σ H _ I h) λov s1 xz=>?_));have⟨x,H1,I1,r1,q1⟩:=xz;refine aaF (wpAny_holding (bA (hi δ s1 σ H1 _ I1 q1) λiv s2 xz=>?_));have⟨y,H2,I2,r2,q2⟩:=xz;refine aaF (wpAny_standAt (aaF (wpAny_holding (bA (hs δ s2 σ H2 x y v ov iv u _ I2 r1 r2 r q2) λ_ s3 xz=>?_))));have⟨H3,I3,q3⟩:=xz;exact wpAny_release ⟨σ,H3,I3,q3⟩
def Ui(te:TE)(g:TG):TS:=λD σ H=>te σ H λx H1=>g x σ H1 D.nx
def Iv{g:TG}(he:PE X e te)(hg:PG X tg g)(hs:swapsWithSole [tg] e pos.line X.env=pure false:=by rfl)(hw:swappedStores [tg] e X.env=pure none:=by rfl)
  (h1:(assignEach [tg] X.env).map (·.2)=[assign tg X.env]:=by rfl):PS X (.Assign [tg] e pos) (Ui te g):=by
 intro δ s σ H D I h;refine wpAny_Assign_stores (bA (he δ s σ H _ I h) λv s1 xz=>?_) hs hw;have⟨x,H1,I1,r1,q1⟩:=xz;rw[h1];exact bA (hg δ s1 σ H1 x v _ I1 r1 q1) λ_ s2 q=>q
def O_{pos':Pos}(hN:X.N.Nodup)(hi:X.N[i]? =some x)(hx:Loc X.env.scope x)(he:PE X e te)(hs:swapsWith e (some (.Name x pos')) pos.line X.env=pure false:=by rfl)(hf:X.fn x=true\/X.env.scope.names.lookup x=some .local:=by first| exact .inl rfl| exact .inr rfl| assumption):
  PS X (.Assign [.Name x pos'] e pos) (Ui te (iN i)):=by
 intro δ s σ H D I h;refine wpAny_Assign_Name (bA (he δ s σ H _ I h) λv s1 xz=>?_) hs;have⟨y,H1,I1,r1,q1⟩:=xz;exact nF I1 hN hi hx r1 (λs2 I2=>⟨_,H1,I2,q1⟩) hf
def YI(i j:Nat)(ta:TA):TS:=λD σ H=>ta σ H λvs H1=>∃v w,vs=[v,w]/\D.nx ((σ.set i (some v)).set j (some w)) H1
def Qy{j:Nat}{y:Str}{a b:Expr}{ta:TA}{px py pt:Pos}{kt k2 O7}(hc:X.calm=true)(hN:X.N.Nodup)(hi:X.N[i]? =some x)(hj:X.N[j]? =some y)(XG:i≠j)
  (hx:X.env.scope.names.lookup x=some .local) (hy:X.env.scope.names.lookup y=some .local) (ha:PA X [a,b] ta)
  (hw:swappedStores [.Tuple [.Name x px,.Name y py] kt pt] (.Tuple [a,b] k2 O7) X.env=pure (some [x,y]))
  (hs:swapsWithSole [.Tuple [.Name x px,.Name y py] kt pt] (.Tuple [a,b] k2 O7) pos.line X.env=pure false:=by rfl):
  PS X (.Assign [.Tuple [.Name x px,.Name y py] kt pt] (.Tuple [a,b] k2 O7) pos) (YI i j ta):=by
 intro δ s σ H D I h;rw[exec_Assign_arm];refine aaF (wpAny_standAt ?_);rw[hs];refine aaF (abd ?_);rw[aaq @_];refine aaF (Tuple_ (bA (ha _ δ s σ H _ I h) λus s1 xz=>?_));have⟨vs,H1,I1,r1,q1⟩:=xz;have⟨v,w,e1,q1⟩:=q1;subst e1;obtain⟨u1,u2,rfl,rv,BR⟩:∃u1 u2,us=[u1,u2]/\aq v u1/\aq w u2:=by
  cases r1 with
  | cons p q=>
   cases q with
   | cons p' q'=>
    cases q';exact⟨_,_,rfl,p,p'⟩
 refine wpAny_newObj_type ?_ fI;have I2:Inv X δ σ H1 {s1 with heap:=s1.heap.push {cls:=.type "tuple",data:=.seq [u1,u2].toArray}}:=I1.kept (t':=s1.toks) λb o e=>aak _ e;rw[hw];refine aaF (abd ?_);show wpAny (model X.prog X.w) X.A (do rule "assign.swapped-stores";let items<-unpackItems (.ref s1.heap.objs.size) 2 none;assignInOrder [λv=>bindName X.env y v,λv=>bindName X.env x v] items.reverse;pure Flow.next) _ _ _;refine aaF (wpAny_rule (aaF (unpackItems_tuple (items:= #[u1,u2]) (I.ok.hd hc) (IsTup.new s1.heap _) λh' Wm=>?_)));have I3:=I2.kept (h':=h') (t':=s1.toks) λb o e=>Wm b o (aaL (aap e)) e;show wpAny _ _ (assignInOrder [λv=>bindName X.env y v,λv=>bindName X.env x v] [u2,u1] >>= λ_=>pure Flow.next) _ _ _;refine aaF (assignInOrder_cons (wpAny_bindName (nF I3 hN hj (.inl hy) BR (λs2 I4=>?_) (.inr hy))));refine assignInOrder_cons (wpAny_bindName (nF I4 hN hi (.inl hx) rv (λs3 I5=>assignInOrder_nil (abd ?_)) (.inr hx)));rw[List.set_comm _ _ (Ne.symm XG)]at I5;exact⟨_,H1,I5,q1⟩
end
section
variable{pos:Pos}
def Pr(c:TT)(tb:TS):TS:=λD σ H=>∃W:Nat->St->Hp->Prop,(∃m,W m σ H)/\∀m σ H,W m σ H->
 c σ H λb H1=>if b=true then∃N:St->Hp->Prop,(∀σ' H',N σ' H'->∃m',m' < m/\W m' σ' H')/\tb {D with nx:=N,ct:=N,bk:=D.nx} σ H1 else D.nx σ H1
def GB{tc:TT}{tb:TS}(hp:PassesOwn (model X.prog X.w) X.A X.env X.xe)(hc:PT X c tc)(hb:Gw X body tb):PS X (.While c body [] pos) (Pr tc tb):=by
 intro δ s σ H D I h;have⟨W,⟨m0,w0⟩,turn⟩:=h;refine wpAny_While (codeAny_whileLoop (λn s'=>∃σ' H',Inv X δ σ' H' s'/\W n σ' H') ?_ m0 ⟨σ,H,I,w0⟩);rintro n s1 ⟨σ1,H1,I1,w1⟩;refine wpAny_passesOwn hp (bA (hc δ s1 σ1 H1 _ I1 (turn n σ1 H1 w1)) λb s2 xz=>?_);have⟨H2,I2,q2⟩:=xz;cases b with
 | true=>
  have⟨N,hN,q2⟩:=q2;rw[aar rfl];refine wpAny_passesOwn hp (bA (hb δ s2 σ1 H2 _ I2 q2) λf s3 q3=>?_);cases f with
  | next=>
   have⟨σ3,H3,I3,n3⟩:=q3;have⟨m',hm,w3⟩:=hN σ3 H3 n3;exact⟨m',hm,σ3,H3,I3,w3⟩
  | cont=>
   have⟨σ3,H3,I3,n3⟩:=q3;have⟨m',hm,w3⟩:=hN σ3 H3 n3;exact⟨m',hm,σ3,H3,I3,w3⟩
  | brk=>exact q3
  | ret v=>exact q3
 | false=>
  rw[aaq aaz];exact wpAny_execs_nil ⟨σ1,H2,I2,q2⟩
end
structure It where
 go:Nat->Hp->Prop
 T9:Nat->Hp->V->Hp->Prop
 stop:Nat->Hp->Prop
def rE(X:Cx)(δ:List (Addr×Obj))(H:Hp)(b:Addr):Prop:=
 H b=none/\b≠X.env.locals/\b∉X.fs/\(b∈X.ex\/X.s₀.heap.objs.size<=b)/\(∀x c,X.env.cells.lookup x=some c->c≠b)/\∀p∈X.pn++δ,p.1≠b
def Inv.A5{H H':Hp}(I:Inv X δ σ H s)(hb:s.heap.objs.size<=b)(hn:H' b=none):rE X δ H' b:=by
 refine⟨hn,ack (aax I.lt hb),I.X4 hb,.inr (aat I.sz hb),λx c e z=>?_,λp hp z=>?_⟩
 ·have⟨v,q⟩:=I.cell x c e;exact aaC (aax q.lt (by rw[z];exact hb)) (abB _)
 ·exact aaC (aax (aap (I.pin p hp).1) (by rw[z];exact hb)) (abB _)
structure Turn(P:Program)(w:World)(K:fv)(tg:Expr)(J:It)(fp:List Addr)(it:Addr)(tn:Nat->Heap->Prop):Prop where
 mem:it∈fp
 obj:∀i h,tn i h->∀b∈fp,∃o,h.get? b=some o/\∀v,o.data≠ .cell v
 keep:∀i h h',tn i h->(∀b∈fp,∀o,h.get? b=some o->h'.get? b=some o)->tn i h'
 item:∀(X:Cx),X.prog=P->X.w=w->X.K=K->X.calm=true->∀(i:Nat) (δ:List (Addr×Obj)) (s:Shared) (σ:St) (H:Hp) (E:Value->Shared->Prop),Inv X δ σ H s->(∀b∈fp,rE X δ H b)->tn i s.heap->J.go i H->
  wpAny (model P w) X.A (pyNext (.ref it)) (λr s1=>∃u,r=some u/\
   wpAny (model P w) X.A (letOwnedTupleGo tg (.ref it) u) (λ_ s2=>∃x H',Inv X δ σ H' s2/\aq x u/\J.T9 i H x H'/\tn (i+1) s2.heap/\∀b∈fp,H' b=none) E s1) E s
 done:∀(X:Cx),X.prog=P->X.w=w->X.K=K->X.calm=true->∀(i:Nat) (δ:List (Addr×Obj)) (s:Shared) (σ:St) (H:Hp) (E:Value->Shared->Prop),Inv X δ σ H s->(∀b∈fp,rE X δ H b)->tn i s.heap->J.stop i H->
  wpAny (model P w) X.A (pyNext (.ref it)) (λr s1=>r=none/\Inv X δ σ H s1) E s
 self:∀(A:Around) (i:Nat) (s:Shared) (Q:Value->Shared->Prop) (E:Value->Shared->Prop),tn i s.heap->Q (.ref it) s->wpAny (model P w) A (pyIter (.ref it)) Q E s
abbrev TI:=St->Hp->(It->Hp->Prop)->Prop
def KU(X:Cx)(δ:List (Addr×Obj))(σ:St)(tg:Expr)(R:It->Hp->Prop)(Vg:Value)(s2:Shared):Prop:=
 ∃(it:Addr) (fp:List Addr) (tn:Nat->Heap->Prop) (J:It) (H':Hp),Vg= .ref it/\Inv X δ σ H' s2/\Turn X.prog X.w X.K tg J fp it tn/\tn 0 s2.heap/\(∀b∈fp,rE X δ H' b)/\R J H'
def PI(X:Cx)(tg iter:Expr)(wi:TI):Prop:=
 ∀(δ:List (Addr×Obj)) (s:Shared) (σ:St) (H:Hp) (R:It->Hp->Prop),Inv X δ σ H s->wi σ H R->
  wpAny (model X.prog X.w) X.A (eval iter X.env) (λv s1=>wpAny (model X.prog X.w) X.A (pyIter v) (KU X δ σ tg R) X.xe s1) X.xe s
def uK   {E : Value -> Shared -> Prop}   {it : Addr}  {o : Obj} {n : String} {vs : Array Value} {Q : Unit -> Shared -> Prop} (ho : s.heap.get? it = some o) (hc : o.cls = .type n) (hd : o.data = .fields vs)
    (hn : ["enumerate","zip","dict_itemiterator","dict_reverseitemiterator","odict_iterator","itertools.zip_longest","itertools.pairwise"].contains n = false) (hQ : Q Unit.unit s) : wpAny M A (letOwnedTupleGo tg (.ref it) u) Q E s :=by
  unfold letOwnedTupleGo
  cases tg <;> first
    | exact abd hQ
    | (cases u <;> first
        | exact abd hQ
        | (refine aaF (wpAny_load ho ?_)
           rw[hc,hd];show wpAny M A (if (["enumerate","zip","dict_itemiterator","dict_reverseitemiterator","odict_iterator","itertools.zip_longest","itertools.pairwise"].contains n && vs[0]? == some (rawInt _)) = true then _ else _) Q E s;rw[aaq (by intro h;rw[hn,Bool.false_and]at h;cases h)]
           exact abd hQ))
def Vi(K:fv)(a:Addr):It:=
 ⟨λi H=>∃xs x,gu K H a xs/\xs[i]? =some x,λi H x H'=>H'=H/\∀xs,gu K H a xs->xs[i]? =some x,λi H=>∃xs,gu K H a xs/\xs.length<=i⟩
def YE(K:fv)(a:Addr):It:=
 ⟨λi H=>∃xs x,mQ K H a xs/\xs[i]? =some x,λi H x H'=>H'=H/\∀xs,mQ K H a xs->xs[i]? =some x,λi H=>∃xs,mQ K H a xs/\xs.length<=i⟩
def Ub(lo:Int)(n:Nat):It:=⟨λi _=>i < n,λi H x H'=>H'=H/\x= .int (lo+i),λi _=>n<=i⟩
def EV{K:fv}(a it:Addr):Turn P w K tg (Vi K a) [it] it (λi h=>h.IsListIter it a i) where
 mem:=by simp
 obj:=λi h st b hb=>by
  have e:b=it:=by simpa using hb
  subst e;have⟨o,e,c,d⟩:=st;exact⟨o,e,λv z=>by rw[d]at z;cases z⟩
 keep:=λi h h' st k=>st.at λo e=>k it (by simp) o e
 item:=by intro X hP hw hK hc i δ s σ H E I hf st hg;subst hP hw hK;have⟨xs,x,hq,hx⟩:=hg;have⟨its,rv,p,hz⟩:=I.list hq;have⟨u,hu,ru⟩:=rv.get hx;have⟨f0,f1,f2,f3,f4,f5⟩:=hf it (by simp);refine wpAny_pyNext_list_item st p.isList (x:=u) (by simpa using hu) λh' xi sb=>?_;have I1:Inv X δ σ H {s with heap:=h'}:=I.turned (t':=s.toks) (λb o hb e=>(sb.2 b hb).trans e) f0 f1 f3 f4 f5;have⟨o,e,c,d⟩:=id xi;exact⟨u,rfl,uK (s:={s with heap:=h'}) e c d @_ ⟨x,H,I1,ru,⟨rfl,λys hy=>by rw[I.cj hy hq];exact hx⟩,xi,λb hb=>(hf b hb).1⟩⟩
 done:=by intro X hP hw hK hc i δ s σ H E I hf st hg;subst hP hw hK;have⟨xs,hq,hx⟩:=hg;have⟨its,rv,p,hz⟩:=I.list hq;have⟨f0,f1,f2,f3,f4,f5⟩:=hf it (by simp);have hl:=rv.length;exact wpAny_pyNext_list_end (I.ok.hd hc) st p.isList (by simp;omega) λh' eb=>⟨rfl,I.turned (t':=s.toks) (λb o hb e=>eb b o hb e) f0 f1 f3 f4 f5⟩
 self:=λ_ _ _ _ _ st h=>wpAny_pyIter_listiter st h
def AU{K:fv}(a it:Addr):Turn P w K tg (YE K a) [it] it (λi h=>h.IsTupleIter it a i) where
 mem:=by simp
 obj:=λi h st b hb=>by
  have e:b=it:=by simpa using hb
  subst e;have⟨o,e,c,d⟩:=st;exact⟨o,e,λv z=>by rw[d]at z;cases z⟩
 keep:=λi h h' st k=>st.at λo e=>k it (by simp) o e
 item:=by intro X hP hw hK hc i δ s σ H E I hf st hg;subst hP hw hK;have⟨xs,x,hq,hx⟩:=hg;have⟨its,rv,p,hz⟩:=I.tuple hq;have⟨u,hu,ru⟩:=rv.get hx;have⟨f0,f1,f2,f3,f4,f5⟩:=hf it (by simp);refine wpAny_pyNext_tuple_item st (show s.heap.IsTuple a its.toArray from p) (x:=u) (by simpa using hu) λh' xi sb=>?_;have I1:Inv X δ σ H {s with heap:=h'}:=I.turned (t':=s.toks) (λb o hb e=>(sb.2 b hb).trans e) f0 f1 f3 f4 f5;have⟨o,e,c,d⟩:=id xi;exact⟨u,rfl,uK (s:={s with heap:=h'}) e c d @_ ⟨x,H,I1,ru,⟨rfl,λys hy=>by rw[I.kS hy hq];exact hx⟩,xi,λb hb=>(hf b hb).1⟩⟩
 done:=by intro X hP hw hK hc i δ s σ H E I hf st hg;subst hP hw hK;have⟨xs,hq,hx⟩:=hg;have⟨its,rv,p,hz⟩:=I.tuple hq;have⟨f0,f1,f2,f3,f4,f5⟩:=hf it (by simp);have hl:=rv.length;exact wpAny_pyNext_tuple_end (I.ok.hd hc) st (show s.heap.IsTuple a its.toArray from p) (by simp;omega) λh' eb=>⟨rfl,I.turned (t':=s.toks) (λb o hb e=>eb b o hb e) f0 f1 f3 f4 f5⟩
 self:=λ_ _ _ _ _ st h=>wpAny_pyIter_tupleiter st h
def A'{K:fv}(it:Addr)(lo:Int)(n:Nat):Turn P w K tg (Ub lo n) [it] it (λi h=>IsRangeIter h it (lo+(i:Nat) * 1) ((n:Int) - (i:Nat)) 1) where
 mem:=by simp
 obj:=λi h st b hb=>by
  have e:b=it:=by simpa using hb
  subst e
  exact⟨_,st,λv z=>by
   have z':Data.fields _=Data.cell v:=z
   cases z'⟩
 keep:=λi h h' st k=>k it (by simp) _ st
 item:=by intro X hP hw hK hc i δ s σ H E I hf st hg;subst hP hw hK;have⟨f0,f1,f2,f3,f4,f5⟩:=hf it (by simp);have W:=Walks.range (prog:=X.prog) (w:=X.w) (I.ok.hd hc) it lo 1 n;refine W.item i s _ _ hg st λv h' tk hv xi kk=>?_;have⟨t,rfl⟩:=hv;have I1:Inv X δ σ H {s with heap:=h',toks:=tk}:=I.turned (λb o hb e=>kk b o (by simpa using hb) e) f0 f1 f3 f4 f5;refine⟨_,rfl,uK (s:={s with heap:=h',toks:=tk}) (n:="range_iterator") xi rfl rfl @_ ⟨.int (lo+i),H,I1,⟨t,?_⟩,⟨rfl,rfl⟩,xi,λb hb=>(hf b hb).1⟩⟩;rw[Int.mul_one]
 done:=by intro X hP hw hK hc i δ s σ H E I hf st hg;subst hP hw hK;have⟨f0,f1,f2,f3,f4,f5⟩:=hf it (by simp);exact wpAny_pyNext_range_end (I.ok.hd hc) st (by have:n<=i:=hg;omega) λh' eb=>⟨rfl,I.turned (t':=s.toks) (λb o hb e=>eb b o hb e) f0 f1 f3 f4 f5⟩
 self:=λ_ _ _ _ _ st h=>wpAny_pyIter_rangeiter st h
section
def yw{H:Hp}{R:It->Hp->Prop}{lo hi:Int}{t u v:Tok}{tk:Nat}(I:Inv X δ σ H s)(h1: -(2 ^ 62)<=lo)(h2:lo < 2 ^ 62)(h3: -(2 ^ 62)<=hi)(h4:hi < 2 ^ 62)
  (q:R (Ub lo (hi - lo).toNat) H):wpAny (model X.prog X.w) X.A (pyIter (.ref s.heap.objs.size)) (KU X δ σ tg R) E {s with heap:=s.heap.push {cls:=.type "range",data:=.fields #[.int lo t,.int hi u,.int 1 v]},toks:=tk}:=by
 refine wpAny_pyIter_range (IsRange.new ..) (small_one h1 h2 h3 h4) ?_;have I1:Inv X δ σ H {s with heap:=s.heap.push {cls:=.type "range",data:=.fields #[.int lo t,.int hi u,.int 1 v]},toks:=tk}:=I.kept λb o e=>aak _ e
 refine⟨(s.heap.push {cls:=.type "range",data:=.fields #[.int lo t,.int hi u,.int 1 v]}).objs.size,[(s.heap.push {cls:=.type "range",data:=.fields #[.int lo t,.int hi u,.int 1 v]}).objs.size],_,_,H,rfl,
  I1.kept (t':=tk) λb o e=>aak _ e,A' _ lo (hi - lo).toNat,?_,λb hb=>?_,q⟩
 ·have e1:lo+((0:Nat):Int) * 1=lo:=by simp
  have e2:(((hi - lo).toNat:Nat):Int) - ((0:Nat):Int)=Builtin.Range.rangeSize lo hi 1:=by rw[rangeSize_one];split <;> omega
  show IsRangeIter _ _ (lo+((0:Nat):Int) * 1) ((((hi - lo).toNat:Nat):Int) - ((0:Nat):Int)) 1;rw[e1,e2];exact aaO _ rfl
 ·have e:b=(s.heap.push {cls:=.type "range",data:=.fields #[.int lo t,.int hi u,.int 1 v]}).objs.size:=by simpa using hb
  subst e;exact I1.A5 (aai _) (I1.aQ.fresh (aai _))
def SY(ta:TA):TI:=λσ H R=>ta σ H λvs H1=>∃j:Int,vs=[.int j]/\ -(2 ^ 62)<=j/\j < 2 ^ 62/\R (Ub 0 j.toNat) H1
def RI(ta:TA):TI:=λσ H R=>ta σ H λvs H1=>∃i j:Int,vs=[.int i,.int j]/\(-(2 ^ 62)<=i/\i < 2 ^ 62/\ -(2 ^ 62)<=j/\j < 2 ^ 62)/\R (Ub i (j - i).toNat) H1
def Ew{a:Expr}{ta:TA}{p pos:Pos}(hg:Gl X "range")(hm:X.mg "range"=none)(ha:PA X [a] ta)(hs:starEach [a] X.env=[(false,eval a X.env)]:=by rfl):PI X tg (.Call (.Name "range" p) [a] [] pos) (SY ta):=by
 intro δ s σ H R I h;refine Call_ (mO I hg hm boot_range (PyProof.Rows.callWith_type1 (bA (ha pos δ s σ H _ I h) λus s1 xz=>?_) hs rfl));have⟨vs,H1,I1,r1,q1⟩:=xz;have⟨j,e,q1,q2,q⟩:=q1;subst e;cases r1 with
 | cons r rr=>
  cases rr;have⟨t,rfl⟩:=r;exact call_range_1 (yw I1 () () q1 q2 (by simpa using q))
def EM{a b:Expr}{ta:TA}{p pos:Pos}(hg:Gl X "range")(hm:X.mg "range"=none)(ha:PA X [a,b] ta)(hs:starEach [a,b] X.env=[(false,eval a X.env),(false,eval b X.env)]:=by rfl)(PZ:starEach [b] X.env=[(false,eval b X.env)]:=by rfl):
  PI X tg (.Call (.Name "range" p) [a,b] [] pos) (RI ta):=by
 intro δ s σ H R I h;refine Call_ (mO I hg hm boot_range (PyProof.Rows.callWith_type1 (bA (ha pos δ s σ H _ I h) fun us s1 ⟨vs,H1,I1,r1,q1⟩=>?_) (by rw[hs,PZ]) (by rw[PZ];rfl)));have⟨i,j,e,⟨q1,q2,q3,q4⟩,q⟩:=q1;subst e;cases r1 with
 | cons r rr=>
  cases rr with
  | cons r' rr=>
   cases rr;have⟨t,rfl⟩:=r;have⟨t',rfl⟩:=r';exact call_range_2 (yw I1 q1 q2 q3 q4 q)
def We(wi:TI)(g:TG)(tb:TS):TS:=λD σ H=>wi σ H λJ H1=>∃W:Nat->Nat->St->Hp->Prop,(∃m,W 0 m σ H1)/\∀i m σ H,W i m σ H->
 (J.stop i H/\D.nx σ H)\/(J.go i H/\∃N:St->Hp->Prop,(∀σ' H',N σ' H'->∃m',m' < m/\W (i+1) m' σ' H')/\∀x H',J.T9 i H x H'->g x σ H' λσ2 H2=>tb {D with nx:=N,ct:=N,bk:=D.nx} σ2 H2)
def wR(fp:List Addr)(h:Heap):List (Addr×Obj):=fp.filterMap λb=>(h.get? b).map λo=>(b,o)
def eZ{o:Obj}(hb:b∈fp)(e:h.get? b=some o):(b,o)∈wR fp h:=acf.mpr ⟨b,hb,by rw[e];rfl⟩
def Fb{p:Addr×Obj}(hp:p∈wR fp h):p.1∈fp/\h.get? p.1=some p.2:=by
 have⟨b,hb,e⟩:=acf.mp hp;cases q:h.get? b with
 | none=>rw[q]at e;cases e
 | some o=>
  rw[q]at e;have e':(b,o)=p:=aas e;subst e';exact⟨hb,q⟩
def Inv.pinned{H:Hp}(I:Inv X δ σ H s)(hf:∀b∈fp,rE X δ H b)(ho:∀b∈fp,∃o,s.heap.get? b=some o/\∀v,o.data≠ .cell v):Inv X (δ++wR fp s.heap) σ H s:=
 I.Eb λp hp=>(aaT.mp hp).elim (λz=>I.pin p (aaE _ z)) λz=>by have⟨hb,e⟩:=Fb z;have⟨f0,f1,f2,_⟩:=hf p.1 hb;have⟨o,e',d⟩:=ho p.1 hb;rw[e]at e';cases e';exact⟨e,f0,f1,f2,d⟩
def Inv.j8{pl:List (Addr×Obj)}{H:Hp}(I:Inv X (δ++pl) σ H s):Inv X δ σ H s:=I.Eb λp hp=>I.pin p (aaE _ (List.mem_append_left _ hp))
def Cq{iter:Expr}{wi:TI}{g:TG}{tb:TS}{pos:Pos}(hp:PassesOwn (model X.prog X.w) X.A X.env X.xe)(hc:X.calm=true)(hi:PI X tg iter wi)(hg:PG X tg g)(hb:Gw X body tb)
  (hs:∀x,foldedSetIterable iter X.env x=pure x:=by intro _;rfl):PS X (.For tg iter body [] pos) (We wi g tb):=by
 intro δ s σ H D I h;refine wpAny_For (bA (hi δ s σ H _ I h) λv s1 h1=>bA h1 λVg s2 h2=>?_) hs;have⟨it,fp,tn,J,H2,e,I2,T,st2,f2,W,⟨m0,w0⟩,turn⟩:=h2;subst e;have OC:∀{H':Hp},(∀b∈fp,H' b=none)->∀b∈fp,rE X δ H' b:=λhn b hb=>⟨hn b hb,(f2 b hb).2⟩;refine codeAny_forLoop_any (λn s'=>∃i σ' H',Inv X δ σ' H' s'/\tn i s'.heap/\(∀b∈fp,H' b=none)/\W i n σ' H') ?_ m0 ⟨0,σ,H2,I2,st2,λb hb=>(f2 b hb).1,w0⟩;rintro n s3 ⟨i,σ3,H3,I3,Zh,Zu,w3⟩;rcases turn i n σ3 H3 w3 with ⟨stop,qn⟩| ⟨go,N,hN,step⟩
 ·refine wpAny_passesOwn hp (bA (T.done X rfl rfl rfl hc i δ s3 σ3 H3 X.xe I3 (OC Zu) Zh stop) λr s4 xz=>?_);have⟨hr,I4⟩:=xz;subst hr;exact wpAny_execs_nil ⟨σ3,H3,I4,qn⟩
 ·refine wpAny_passesOwn hp (bA (T.item X rfl rfl rfl hc i δ s3 σ3 H3 X.xe I3 (OC Zu) Zh go) λr s4 xz=>?_);have⟨u,hr,h4⟩:=xz;subst hr;refine wpAny_passesOwn hp (bA h4 λ_ s5 xz=>?_);have⟨x,H5,I5,r5,y5,WU,Vy⟩:=xz;have I5':=I5.pinned (OC Vy) (T.obj _ _ WU);refine wpAny_passesOwn hp (bA (hg _ s5 σ3 H5 x u _ I5' r5 (step x H5 y5)) λ_ s6 xz=>?_);have⟨σ6,H6,I6,q6⟩:=xz;refine wpAny_passesOwn hp (bA (hb _ s6 σ6 H6 _ I6 q6) λf s7 q7=>?_);have again:∀{σ7:St} {H7:Hp},Inv X (δ++wR fp s5.heap) σ7 H7 s7->N σ7 H7->∃m,m < n/\∃i σ' H',Inv X δ σ' H' s7/\tn i s7.heap/\(∀b∈fp,H' b=none)/\W i m σ' H':=λ{σ7 H7} I7 n7=>by have⟨m',hm,w7⟩:=hN σ7 H7 n7;refine⟨m',hm,i+1,σ7,H7,I7.j8,T.keep _ _ _ WU λb hb o e=>(I7.pin (b,o) (aaE _ (aaE _ (eZ hb e)))).1,λb hb=>?_,w7⟩;have⟨o,e,d⟩:=T.obj _ _ WU b hb;exact(I7.pin (b,o) (aaE _ (aaE _ (eZ hb e)))).2.1
  cases f with
  | next=>have⟨σ7,H7,I7,n7⟩:=q7;exact again I7 n7
  | cont=>have⟨σ7,H7,I7,n7⟩:=q7;exact again I7 n7
  | brk=>have⟨σ7,H7,I7,q7⟩:=q7;exact⟨σ7,H7,I7.j8,q7⟩
  | ret v=>have⟨x7,σ7,H7,I7,r7,q7⟩:=q7;exact⟨x7,σ7,H7,I7.j8,r7,q7⟩
end
abbrev R2:=V->V->Hp->VK->Prop
def jF(X:Cx)(f:Value->Value->Sem Value)(r:R2):Prop:=
 ∀(δ:List (Addr×Obj)) (s:Shared) (σ:St) (H:Hp) (x y:V) (v u:Value) (Q:VK),Inv X δ σ H s->aq x v->aq y u->r x y H Q->
  wpAny (model X.prog X.w) X.A (f v u) (EP X δ σ Q) X.xe s
def U2(X:Cx)(f:Value->Sem Value)(r:V->Hp->VK->Prop):Prop:=
 ∀(δ:List (Addr×Obj)) (s:Shared) (σ:St) (H:Hp) (x:V) (v:Value) (Q:VK),Inv X δ σ H s->aq x v->r x H Q->
  wpAny (model X.prog X.w) X.A (f v) (EP X δ σ Q) X.xe s
def dw(X:Cx)(f:Value)(r:List V->Hp->VK->Prop):Prop:=
 ∀(δ:List (Addr×Obj)) (s:Shared) (σ:St) (H:Hp) (xs:List V) (us:List Value) (Q:VK),Inv X δ σ H s->ar xs us->r xs H Q->
  wpAny (model X.prog X.w) X.A (call f us) (EP X δ σ Q) X.xe s
def Su(r:R2)(ta tb:TE):TE:=λσ H Q=>ta σ H λx H1=>tb σ H1 λy H2=>r x y H2 Q
def ZD(r:V->Hp->VK->Prop)(ta:TE):TE:=λσ H Q=>ta σ H λx H1=>r x H1 Q
def rI(C:Int->Int->Prop)(g:Int->Int->V):R2:=λx y H Q=>∃i j,x= .int i/\y= .int j/\C i j/\Q (g i j) H
def Fe(g:Int->Int->V):R2:=λx y H Q=>∃i j,x= .int i/\y= .int j/\Q (g i j) H
def rU(g:Int->V):V->Hp->VK->Prop:=λx H Q=>∃i,x= .int i/\Q (g i) H
section
variable{a b:Expr}{tb tc:TE}{pos:Pos}
def QJ(ha:PE X a ta)(hb:PE X b tb){H:Hp}{R:V->V->Hp->Prop}(I:Inv X δ σ H s)
  (h:ta σ H λx H1=>tb σ H1 λy H2=>R x y H2)
  (hf:∀v u s2 x y H2,Inv X δ σ H2 s2->aq x v->aq y u->R x y H2->wpAny (model X.prog X.w) X.A (f v u) Q X.xe s2):
  wpAny (model X.prog X.w) X.A (eval a X.env) (λv s₁=>wpAny (model X.prog X.w) X.A (eval b X.env) (λu s₂=>wpAny (model X.prog X.w) X.A (f v u) Q X.xe s₂) X.xe s₁) X.xe s:=by
 refine bA (ha δ s σ H _ I h) λv s1 xz=>?_;have⟨x,H1,I1,r1,q1⟩:=xz;refine bA (hb δ s1 σ H1 _ I1 q1) λu s2 xz=>?_;have⟨y,H2,I2,r2,q2⟩:=xz;exact hf v u s2 x y H2 I2 r1 r2 q2
def SW{op:Operator}{r:R2}(ho:jF X (binaryOp op) r)(ha:PE X a ta)(hb:PE X b tb):PE X (.BinOp a op b pos) (Su r ta tb):=by intro δ s σ H Q I h;exact wpAny_BinOp (QJ ha hb I h λv u s2 x y H2 I2 rx ry q=>ho δ s2 σ H2 x y v u Q I2 rx ry q)
def Uy{op:UnaryOp}{r:V->Hp->VK->Prop}(ho:U2 X (unaryOp op) r)(ha:PE X a ta):PE X (.UnaryOp op a pos) (ZD r ta):=by intro δ s σ H Q I h;exact UnaryOp_ (bA (ha δ s σ H _ I h) λv s1 ⟨x,H1,I1,r1,q1⟩=>ho δ s1 σ H1 x v Q I1 r1 q1)
def Vs{C:Int->Int->Prop}{g:Int->Int->Int}
  (rule:∀(i j:Int) (t u:Tok) (s:Shared) (Q:Value->Shared->Prop) (E:Value->Shared->Prop),C i j->Q (.int (g i j) s.toks) {s with toks:=s.toks+1}->wpAny (model X.prog X.w) X.A (f (.int i t) (.int j u)) Q E s):
  jF X f (rI C λi j=>.int (g i j)):=by
 intro δ s σ H x y v u Q I rx ry h;have⟨i,j,rfl,rfl,hc,q⟩:=h;have⟨t,rfl⟩:=rx;have⟨t',rfl⟩:=ry;exact rule i j t t' s _ _ hc ⟨.int (g i j),H,I.tok _,⟨_,rfl⟩,q⟩
def RE{g:Int->Int->Int}
  (rule:∀(i j:Int) (t u:Tok) (s:Shared) (Q:Value->Shared->Prop) (E:Value->Shared->Prop),Q (.int (g i j) s.toks) {s with toks:=s.toks+1}->wpAny (model X.prog X.w) X.A (f (.int i t) (.int j u)) Q E s):
  jF X f (Fe λi j=>.int (g i j)):=by
 intro δ s σ H x y v u Q I rx ry h;have⟨i,j,rfl,rfl,q⟩:=h;have⟨t,rfl⟩:=rx;have⟨t',rfl⟩:=ry;exact rule i j t t' s _ _ ⟨.int (g i j),H,I.tok _,⟨_,rfl⟩,q⟩
def Lk{g:Int->Int->Bool}
  (rule:∀(i j:Int) (t u:Tok) (s:Shared) (Q:Value->Shared->Prop) (E:Value->Shared->Prop),Q (.bool (g i j)) s->wpAny (model X.prog X.w) X.A (f (.int i t) (.int j u)) Q E s):
  jF X f (Fe λi j=>.bl (g i j)):=by
 intro δ s σ H x y v u Q I rx ry h;have⟨i,j,rfl,rfl,q⟩:=h;have⟨t,rfl⟩:=rx;have⟨t',rfl⟩:=ry;exact rule i j t t' s _ _ ⟨.bl (g i j),H,I,rfl,q⟩
def x6(i j:Int):Prop:=0<=j/\j<=1000000/\i.natAbs < 2 ^ 64
def OI:jF X (binaryOp .Add) (Fe λi j=>.int (i+j)):=RE λ_ _ _ _ _ _ _ q=>add_int q
def QD:jF X (binaryOp .Sub) (Fe λi j=>.int (i - j)):=RE λ_ _ _ _ _ _ _ q=>sub_int q
def QM:jF X (binaryOp .Mod) (rI (λ_ j=>0 < j) λi j=>.int (i % j)):=Vs λi j _ _ _ _ _ hc q=>by have h1:(0:Int) < j:=hc;exact mod_int' () (by rw[abI i ()];exact q)
def PL:jF X (binaryOp .Pow) (rI x6 λi j=>.int (i ^ j.toNat)):=Vs λ_ _ _ _ _ _ _ hc q=>pow_int_small hc.1 hc.2.1 hc.2.2 q
def unI{f:Value->Sem Value}{g:Int->Int}
  (rule:∀(i:Int) (t:Tok) (s:Shared) (Q:Value->Shared->Prop) (E:Value->Shared->Prop),Q (.int (g i) s.toks) {s with toks:=s.toks+1}->wpAny (model X.prog X.w) X.A (f (.int i t)) Q E s):
  U2 X f (rU λi=>.int (g i)):=by
 intro δ s σ H x v Q I rx h;have⟨i,rfl,q⟩:=h;have⟨t,rfl⟩:=rx;exact rule i t s _ _ ⟨.int (g i),H,I.tok _,⟨_,rfl⟩,q⟩
def QC:U2 X (unaryOp .USub) (rU λi=>.int (-i)):=unI λ_ _ _ _ _ q=>neg_int q
end
def SG:V->V->Bool
 | .aP,.aP=>true| .aP,.int _=>true| .int _,.aP=>true| .aP,.bl _=>true| .bl _,.aP=>true| .aP,.str _=>true| .str _,.aP=>true
 | .int _,.int _=>true| .bl _,.bl _=>true| .str _,.str _=>true| .Gv _,.Gv _=>true
 | .int _,.str _=>true| .str _,.int _=>true| .bl _,.str _=>true| .str _,.bl _=>true
 | _,_=>false
def Z5:R2:=λx y H Q=>SG x y=true/\Q (.bl (decide (x=y))) H
def Z1:R2:=λx y H Q=>SG x y=true/\Q (.bl (!decide (x=y))) H
def DG{i j:Int}:decide (V.int i=V.int j)=(i==j):=by rw[abW];simp
def Ki{i j:Bool}:decide (V.bl i=V.bl j)=(i==j):=by rw[abW];simp
def C8{i j:Str}:decide (V.str i=V.str j)=(i==j):=by rw[abW];simp
def DN{i j:Array UInt8}:decide (V.Gv i=V.Gv j)=(i.toList==j.toList):=by rw[abW];cases i;cases j;simp
section
variable{a b:Expr}{tb tc:TE}{pos:Pos}
def aG{H:Hp}{Q:VK}{k k':Bool}(I:Inv X δ σ H s)(q:Q (.bl k) H)(e:k=k'):EP X δ σ Q (.bool k') s:=by subst e;exact⟨.bl k,H,I,rfl,q⟩
def NX:jF X (compareOp .Eq) Z5:=by
 intro δ s σ H x y v u Q I rx ry h;have⟨hs,q⟩:=h;cases x with
 | aP=>
  cases rx;cases y with
  | aP=>cases ry;exact PySem.EqNone.eq_none_none (aG I q (by simp))
  | bl j=>cases ry;exact PySem.EqNone.eq_none_bool (aG I q (by simp))
  | int j=>have⟨t',rfl⟩:=ry;exact PySem.EqNone.eq_none_int (aG I q (by simp))
  | str j=>have⟨t',rfl⟩:=ry;exact PySem.EqNone.eq_none_str (aG I q (by simp))
  | _=>exact aaC (show false=true from hs) aaz
 | bl i=>
  cases rx;cases y with
  | aP=>cases ry;exact PySem.EqNone.eq_bool_none (aG I q (by simp))
  | bl j=>cases ry;exact eq_bool (aG I q Ki)
  | str j=>have⟨t',rfl⟩:=ry;exact PySem.EqMixed.eq_bool_str (aG I q (by simp))
  | _=>exact aaC (show false=true from hs) aaz
 | int i=>
  have⟨t,rfl⟩:=rx;cases y with
  | aP=>cases ry;exact PySem.EqNone.eq_int_none (aG I q (by simp))
  | int j=>have⟨t',rfl⟩:=ry;exact eq_int (aG I q DG)
  | str j=>have⟨t',rfl⟩:=ry;exact PySem.EqMixed.eq_int_str (aG I q (by simp))
  | _=>exact aaC (show false=true from hs) aaz
 | str i=>
  have⟨t,rfl⟩:=rx;cases y with
  | aP=>cases ry;exact PySem.EqNone.eq_str_none (aG I q (by simp))
  | bl j=>cases ry;exact PySem.EqMixed.eq_str_bool (aG I q (by simp))
  | int j=>have⟨t',rfl⟩:=ry;exact PySem.EqMixed.eq_str_int (aG I q (by simp))
  | str j=>have⟨t',rfl⟩:=ry;exact eq_str (aG I q C8)
  | _=>exact aaC (show false=true from hs) aaz
 | Gv i=>
  have⟨t,rfl⟩:=rx;cases y with
  | Gv j=>have⟨t',rfl⟩:=ry;exact PySem.W.eq_bytes (aG I q DN)
  | _=>exact aaC (show false=true from hs) aaz
 | _=>cases y <;> exact aaC (show false=true from hs) aaz
def Ua:jF X (compareOp .NotEq) Z1:=by
 intro δ s σ H x y v u Q I rx ry h;have⟨hs,q⟩:=h;cases x with
 | aP=>
  cases rx;cases y with
  | aP=>cases ry;exact PySem.EqNone.ne_none_none (aG I q (by simp))
  | bl j=>cases ry;exact PySem.EqNone.ne_none_bool (aG I q (by simp))
  | int j=>have⟨t',rfl⟩:=ry;exact PySem.EqNone.ne_none_int (aG I q (by simp))
  | str j=>have⟨t',rfl⟩:=ry;exact PySem.EqNone.ne_none_str (aG I q (by simp))
  | _=>exact aaC (show false=true from hs) aaz
 | bl i=>
  cases rx;cases y with
  | aP=>cases ry;exact PySem.EqNone.ne_bool_none (aG I q (by simp))
  | bl j=>cases ry;exact ne_bool (aG I q (aaP not Ki))
  | str j=>have⟨t',rfl⟩:=ry;exact PySem.EqMixed.ne_bool_str (aG I q (by simp))
  | _=>exact aaC (show false=true from hs) aaz
 | int i=>
  have⟨t,rfl⟩:=rx;cases y with
  | aP=>cases ry;exact PySem.EqNone.ne_int_none (aG I q (by simp))
  | int j=>have⟨t',rfl⟩:=ry;exact ne_int (aG I q (aaP not DG))
  | str j=>have⟨t',rfl⟩:=ry;exact PySem.EqMixed.ne_int_str (aG I q (by simp))
  | _=>exact aaC (show false=true from hs) aaz
 | str i=>
  have⟨t,rfl⟩:=rx;cases y with
  | aP=>cases ry;exact PySem.EqNone.ne_str_none (aG I q (by simp))
  | bl j=>cases ry;exact PySem.EqMixed.ne_str_bool (aG I q (by simp))
  | int j=>have⟨t',rfl⟩:=ry;exact PySem.EqMixed.ne_str_int (aG I q (by simp))
  | str j=>have⟨t',rfl⟩:=ry;exact ne_str (aG I q (aaP not C8))
  | _=>exact aaC (show false=true from hs) aaz
 | Gv i=>
  have⟨t,rfl⟩:=rx;cases y with
  | Gv j=>have⟨t',rfl⟩:=ry;exact PySem.W.ne_bytes (aG I q (aaP not DN))
  | _=>exact aaC (show false=true from hs) aaz
 | _=>cases y <;> exact aaC (show false=true from hs) aaz
def NT:jF X (compareOp .Lt) (Fe λi j=>.bl (decide (i < j))):=Lk λ_ _ _ _ _ _ _ q=>lt_int q
def Ng:jF X (compareOp .LtE) (Fe λi j=>.bl (decide (i<=j))):=Lk λ_ _ _ _ _ _ _ q=>le_int q
def N3:jF X (compareOp .Gt) (Fe λi j=>.bl (decide (j < i))):=Lk λ_ _ _ _ _ _ _ q=>gt_int q
def NA:jF X (compareOp .GtE) (Fe λi j=>.bl (decide (j<=i))):=Lk λ_ _ _ _ _ _ _ q=>ge_int q
def OS:jF X (compareOp .Is) (λx y H Q=>y= .aP/\Q (.bl (decide (x= .aP))) H):=by
 intro δ s σ H x y v u Q I rx ry h;have⟨rfl,q⟩:=h;cases ry;refine is_none_gen (aG I q ?_)
 cases x <;> first
  | (cases rx;rfl)
  | (have⟨t,rfl⟩:=rx;rfl)
def CY:jF X (compareOp .IsNot) (λx y H Q=>y= .aP/\Q (.bl (!decide (x= .aP))) H):=by
 intro δ s σ H x y v u Q I rx ry h;have⟨rfl,q⟩:=h;cases ry;refine isnot_none_gen (aG I q ?_)
 cases x <;> first
  | (cases rx;rfl)
  | (have⟨t,rfl⟩:=rx;rfl)
def jF.or{r r':R2}(h:jF X f r)(h':jF X f r'):jF X f (λx y H Q=>r x y H Q\/r' x y H Q):=by
 intro δ s σ H x y v u Q I rx ry q;rcases q with q| q
 ·exact h δ s σ H x y v u Q I rx ry q
 ·exact h' δ s σ H x y v u Q I rx ry q
def eN(b:Expr)(h:op≠ .In:=by decide)(h2:op≠ .NotIn:=by decide):behindInMarks op b=false:=by
 have e1:(op==CmpOp.In)=false:=by cases op <;> first| rfl| exact aaC rfl h
 have e2:(op==CmpOp.NotIn)=false:=by cases op <;> first| rfl| exact aaC rfl h2
 cases b <;> simp[behindInMarks,e1,e2]
def Ld{r:R2}(ho:jF X (compareOp op) r)(ha:PE X a ta)(hb:PE X b tb)(hm:behindInMarks op b=false):PE X (.Compare a [op] [b] pos) (Su r ta tb):=by intro δ s σ H Q I h;exact wpAny_Compare1 (QJ ha hb I h λv u s2 x y H2 I2 rx ry q=>ho δ s2 σ H2 x y v u Q I2 rx ry q) hm
def Uu(t:TE):TT:=λσ H Q=>t σ H λx H'=>∃k,x= .bl k/\Q k H'
def Mf{r:R2}(ho:jF X (compareOp op) r)(ha:PE X a ta)(hb:PE X b tb)(hm:behindInMarks op b=false):PT X (.Compare a [op] [b] pos) (Uu (Su r ta tb)):=by
 intro δ s σ H Q I h
 refine wpAny_isTrue_Compare1 (bA (ha δ s σ H _ I h) fun v s1 ⟨x,H1,I1,r1,q1⟩=>bA (hb δ s1 σ H1 _ I1 q1) fun u s2 ⟨y,H2,I2,r2,q2⟩=>
  bA (ho δ s2 σ H2 x y v u _ I2 r1 r2 q2) fun c s3 ⟨z,H3,I3,r3,k,e,q3⟩=>?_) hm
 subst e;cases r3;exact wpAny_truthy_bool ⟨H3,I3,q3⟩
def pD:(sizeLine:Nat) < 2 ^ 63:=by rw[sizeLine_eq];decide
def Br:jF X (binaryOp .Add) (λx y H Q=>∃i j,x= .str i/\y= .str j/\i.length+j.length<=sizeLine/\Q (.str (i++j)) H):=by intro δ s σ H x y v u Q I rx ry h;have⟨i,j,rfl,rfl,hz,q⟩:=h;have⟨t,rfl⟩:=rx;have⟨t',rfl⟩:=ry;exact add_str (λt' tk=>⟨.str (i++j),H,I.tok _,⟨_,rfl⟩,q⟩) hz
def kC{x:V}(r:ar [x] us):∃u,us=[u]/\aq x u:=by
 cases r with
 | cons r1 r2=>cases r2;exact⟨_,rfl,r1⟩
def N6{x y:V}(r:ar [x,y] us):∃u w',us=[u,w']/\aq x u/\aq y w':=by
 cases r with
 | cons r1 r2=>
  cases r2 with
  | cons r3 r4=>cases r4;exact⟨_,_,rfl,r1,r3⟩
def Hx:dw X (.builtin "abs") (λxs H Q=>∃i,xs=[.int i]/\Q (.int (if i < 0 then -i else i)) H):=by intro δ s σ H xs us Q I r h;have⟨i,rfl,q⟩:=h;have⟨u,rfl,t,rfl⟩:=kC r;exact call_abs_int λu tk=>⟨.int (if i < 0 then -i else i),H,I.tok _,⟨_,rfl⟩,q⟩
def Fi(hc:X.calm=true):dw X (.builtin "min") (λxs H Q=>∃i j,xs=[.int i,.int j]/\Q (.int (if j < i then j else i)) H):=by
 intro δ s σ H xs us Q I r h;have⟨i,j,rfl,q⟩:=h;have⟨u,w',rfl,⟨t,rfl⟩,⟨t',rfl⟩⟩:=N6 r;refine min_two_ints (I.ok.hd hc) λh' tk k=>⟨_,H,I.kept k,?_,q⟩;by_cases hj:j < i
 ·rw[aar hj,aar hj];exact⟨_,rfl⟩
 ·rw[aaq hj,aaq hj];exact⟨_,rfl⟩
def Fu:dw X (.type "int") (λxs H Q=>(∃i,xs=[.int i]/\Q (.int i) H)\/∃k,xs=[.bl k]/\Q (.int (if k then 1 else 0)) H):=by
 intro δ s σ H xs us Q I r h;rcases h with ⟨i,rfl,q⟩| ⟨k,rfl,q⟩
 ·have⟨u,rfl,t,rfl⟩:=kC r;exact call_int_int ⟨.int i,H,I,⟨_,rfl⟩,q⟩
 ·have⟨u,rfl,r1⟩:=kC r;cases r1;exact call_int_bool ⟨.int (if k then 1 else 0),H,I.tok _,⟨_,rfl⟩,q⟩
end
structure BP(h:Heap)(x dx C:Addr)(mA:Str->Option Value):Prop where
 obj:h.get? x=some (PySem.W.instObj C dx)
 ns:h.Ns1 dx mA
 ne:dx≠x
def FN(n:h.Ns1 dx mA):∃od,h.get? dx=some od/\∀name,PySem.W.lookIn name od=some (mA name):=by
 have⟨o,es,ep,ho,hd,hk,_,hm⟩:=n;refine⟨o,ho,λname=>?_⟩;have e:=hm name;unfold nsFind findBy at e;rw[<-Array.find?_toList]at e;unfold PySem.W.lookIn;rw[hd];dsimp only;split
 ·rename_i y q;rw[q]at e;exact aaP some e
 ·rename_i q;rw[q]at e;have a:es.toList.any (·.refKey)=false:=by rw[List.any_eq_false];intro y hy;have⟨z,t,Qo⟩:=hk y (Array.mem_toList_iff.mp hy);simp[DictEntry.refKey,Qo]
  have a':¬es.toList.any (·.refKey)=true:=by rw[a];exact aaz
  rw[aaq a'];exact aaP some e
def BP.look{x:Addr}(I:BP h x dx C mA):∃od,PySem.W.InstAt h x (PySem.W.instObj C dx) C (some od)/\∀name,PySem.W.lookIn name od=some (mA name):=
 let ⟨od,ho,hl⟩:=FN I.ns
 ⟨od,⟨I.obj,rfl,rfl,ho⟩,hl⟩
section
variable{K:fv}{x f:Addr}{name:Str}{v:Value}
def qN{expr:Bool}(X:K.In s.heap)(I:BP s.heap x dx C mA)(hg:PySem.W.plainGet K C name=true)(hh:PySem.W.hasDictIn K C=true)
  (ha:PySem.W.findIn K (.ref C) name=some none) (hv:mA name=some v) (hv':PySem.W.handedIn v=true) (h:Q v {s with toks:=s.toks+1}):
  wpAny (model prog w) A (getAttr (.ref x) name expr) Q E s:=by
 have⟨od,J,hl⟩:=I.look;exact PySem.W.get_value X J (PySem.W.plainGet_of hg).1 (PySem.W.findObj_own hh ha rfl (by rw[hl,hv])) hv' h
def Im{pl:Sem Bool}{Q:Value×List Value->Shared->Prop}(X:K.In s.heap)(I:BP s.heap x dx C mA)(hg:PySem.W.plainGet K C name=true)
  (hf:PySem.W.findIn K (.ref C) name=some (some (.ref f))) (ht:PySem.W.isFn K (.ref f)=true) (hv:mA name=none) (h:Q (.ref f,[.ref x]) s):
  wpAny (model prog w) A (getMethod (.ref x) name pl) Q E s:=by
 have⟨od,J,hl⟩:=I.look;exact PySem.W.method_fn X J (PySem.W.plainGet_of hg).1 (PySem.W.plainGet_of hg).2 hf (abJ.mp ht) (by show(PySem.W.lookIn name od).map (·.isSome)=some false;rw[hl,hv];rfl) h
def Lh{ns:List Str}{Q:Unit->Shared->Prop}(X:K.In s.heap)(I:BP s.heap x dx C mA)
  (hs:PySem.W.findIn K (.ref C) "__setattr__"=some (some (.builtin "object.__setattr__"))) (hp:PySem.W.plainOver K C=true) (ht:PySem.W.takerIn K C name=some none) (hh:PySem.W.hasDictIn K C=true)
  (hw:PySem.Within mA ns) (hsz:ns.length<=sizeLine)
  (h:∀h',BP h' x dx C (λy=>if y=name then some v else mA y)->Heap.SameBut dx s.heap h'->Q Unit.unit {s with heap:=h',toks:=s.toks+2}):
  wpAny (model prog w) A (setAttr (.ref x) name v) Q E s:=by
 have⟨od,J,hl⟩:=I.look;refine PySem.W.set_plain X J hs (PySem.W.osa_open (s:={s with toks:=s.toks+1}) (r:=none) X J hp ht λb=>?_);have⟨cd,hc,O5⟩:=PySem.W.any_some hh;have hx:s.heap.get? x=some ⟨.ref C,some dx,.plain,#[]⟩:=I.obj;refine aaF (abd (aaF (aaF (wpAny_loadPart hx (aaF (PySem.W.Looks.here (s:={s with toks:=s.toks+1}) (PySem.W.looks_clsIn X hc) ?_))))));rw[O5];refine abd (a:=some dx) (aaF (abd (aaF ?_)));refine wpAny_nsSet1 (s:={s with toks:=s.toks+1}) I.ns λh' QV PZ=>?_;have⟨oD,esD,epD,hoD,X8,hcD⟩:=QV.count (PySem.Within.cons name v hw);refine aaF (wpAny_lookBehind hoD (by rw[X8];exact pastItsLine_dict (aat hcD (by rw[aaI];omega))) ?_);exact abd (h _ ⟨(PZ.2 _ (Ne.symm I.ne)).trans I.obj,QV,I.ne⟩ PZ)
def Ik{R:Result->Shared->Prop}{vs:List Value}(X:K.In s.heap)(hm:PySem.W.makesIn K C=true)
  (hi:PySem.W.findIn K (.ref C) "__init__"=some (some (.ref f))) (hf:PySem.W.typeIn K (.ref f)=some (.type "function"))
  (h:codeAny (model prog w) (A.under (.builtin "type.__call__" ⟨.ref C::vs,kw⟩)) (.call (.ref f) ⟨.ref (s.heap.objs.size+1)::vs,kw⟩) (PySem.W.InitBack (s.heap.objs.size+1) R)
   {s with heap:=(s.heap.push PySem.W.emptyDict).push (PySem.W.instObj C s.heap.objs.size)}):
  codeAny (model prog w) A (.call (.ref C) ⟨vs,kw⟩) R s:=by
 have⟨hh,g,d,t,os⟩:=s;exact PySem.W.make_core (PySem.W.makes_of X hm) (PySem.W.looks_findIn X hi) (λself=>PySem.W.bind_fn X self hf) (.inl rfl) h
end
def jI(f:Str)(v:V):List (Str×V)->List (Str×V)
 | []=>[(f,v)]
 | (g,x)::r=>if g=f then (g,v)::r else (g,x)::jI f v r
def qb(f g:Str)(v:V):∀fs:List (Str×V),(jI f v fs).lookup g=if g=f then some v else fs.lookup g
 | []=>by
  show List.lookup g [(f,v)]=_;by_cases h:g=f
  ·have hb:(g==f)=true:=abJ.mpr h;simp only[List.lookup,hb,if_pos h]
  ·have hb:(g==f)=false:=beq_eq_false_iff_ne.mpr h;simp only[List.lookup,hb,if_neg h]
 | (k,x)::r=>by
  have ih:=qb f g v r;rw[show jI f v ((k,x)::r)=(if k=f then (k,v)::r else (k,x)::jI f v r) from rfl];by_cases hk:k=f
  ·rw[aar hk];by_cases h:g=k
   ·have hb:(g==k)=true:=abJ.mpr h;simp only[List.lookup,hb,if_pos (h.trans hk)]
   ·have hb:(g==k)=false:=beq_eq_false_iff_ne.mpr h;simp only[List.lookup,hb,if_neg (λe:g=f=>h (e.trans hk.symm))]
  ·rw[aaq hk];by_cases h:g=k
   ·have hb:(g==k)=true:=abJ.mpr h;simp only[List.lookup,hb,if_neg (λe:g=f=>hk (h.symm.trans e))]
   ·have hb:(g==k)=false:=beq_eq_false_iff_ne.mpr h;simp only[List.lookup,hb];exact ih
def oQ(f:Str)(v:V):∀fs:List (Str×V),f∈(jI f v fs).map (·.1)/\∀g,g∈fs.map (·.1)->g∈(jI f v fs).map (·.1)
 | []=>⟨by simp[jI],λg h=>by simp at h⟩
 | (k,x)::r=>by
  have⟨i1,i2⟩:=oQ f v r;rw[show jI f v ((k,x)::r)=(if k=f then (k,v)::r else (k,x)::jI f v r) from rfl];by_cases hk:k=f
  ·rw[aar hk];subst hk;exact⟨by simp,λg h=>by simpa using h⟩
  ·rw[aaq hk];refine⟨?_,λg h=>?_⟩
   ·rw[aaM];exact aac _ i1
   ·rw[aaM]at h⊢;rcases aaA.mp h with e| e
    ·exact aaA.mpr (.inl e)
    ·exact aac _ (i2 g e)
def pN(f:Str)(v:V):∀fs:List (Str×V),(jI f v fs).length<=fs.length+1
 | []=>by simp[jI]
 | (k,x)::r=>by
  have ih:=pN f v r;rw[show jI f v ((k,x)::r)=(if k=f then (k,v)::r else (k,x)::jI f v r) from rfl];by_cases hk:k=f
  ·rw[aar hk,aaI,aaI];omega
  ·rw[aaq hk,aaI,aaI];omega
def i4.some_of{o:Option Value}(r:i4 (some v) o):∃u,o=some u/\aq v u:=by
 cases o with
 | none=>exact(show False from r).elim
 | some u=>exact⟨u,rfl,r⟩
def i4.none_of{o:Option Value}(r:i4 none o):o=none:=by
 cases o with
 | none=>rfl
 | some u=>exact(show False from r).elim
def Em(r:aq v u):PySem.W.handedIn u=true:=by
 cases v with
 | aP=>cases(show u=Value.none from r);rfl
 | bl b=>cases(show u=Value.bool b from r);rfl
 | int i=>have⟨t,e⟩:=(show∃t,u=Value.int i t from r);cases e;rfl
 | str x=>have⟨t,e⟩:=(show∃t,u=Value.str x t from r);cases e;rfl
 | Gv b=>have⟨t,e⟩:=(show∃t,u=Value.bytes b t from r);cases e;rfl
 | QH b=>have⟨t,e⟩:=(show∃t,u=Value.float b t from r);cases e;rfl
 | ref a=>cases(show u=Value.ref a from r);rfl
 | ty n=>cases(show u=Value.type n from r);rfl
section
variable{H H':Hp}{fs V7:List (Str×V)}
def qA(aQ:lh P w H h)(e:H a=some (.ins C dx fs)):∃mA,BP h a dx C mA/\(∀f,i4 (fs.lookup f) (mA f))/\PySem.Within mA (fs.map (·.1))/\fs.length<=1000/\H dx=some (.own a):=by have⟨d,z,ne,ob,mA,n,r,q⟩:=(show bZ P w H h a (.ins C dx fs) from aQ a _ e);exact⟨mA,⟨ob,n,ne⟩,r,q,z,d⟩
end
structure Dd(K:fv)(C:Addr):Prop where
 pg:PySem.W.plainGet K C Str.empty=true
 hd:PySem.W.hasDictIn K C=true
 po:PySem.W.plainOver K C=true
 sa:PySem.W.findIn K (.ref C) "__setattr__"=some (some (.builtin "object.__setattr__"))
def Dd.get{K:fv}{C:Addr}(c:Dd K C)(f:Str):PySem.W.plainGet K C f=true:=c.pg
def ir(K:fv)(C:Addr)(f:Str):Prop:=PySem.W.findIn K (.ref C) f=some none
def ir.Tr{K:fv}{f:Str}(n:ir K C f):PySem.W.takerIn K C f=some none:=by unfold PySem.W.takerIn;rw[show PySem.W.findIn K (.ref C) f=some none from n];rfl
structure MU(K:fv)(C:Addr)(m:Str)(f:Addr):Prop where
 at_:PySem.W.findIn K (.ref C) m=some (some (.ref f))
 fn:PySem.W.isFn K (.ref f)=true
 kp:PySem.W.keepIn K (.ref f)=true
section
variable{H:Hp}{fs:List (Str×V)}{f:Str}
def AM{b:Bool}(I:Inv X δ σ H s)(e:H a=some (.ins C dx fs))(c:Dd X.K C)(n:ir X.K C f)(l:fs.lookup f=some v)
  (h:∀u s',Inv X δ σ H s'->aq v u->Q u s'):wpAny (model X.prog X.w) A (getAttr (.ref a) f b) Q E s:=by
 have⟨mA,O,r,_,_,_⟩:=qA I.aQ e;have⟨u,hu,ru⟩:=i4.some_of (v:=v) (o:=mA f) (by rw[<-l];exact r f);exact qN I.qp O (c.get f) c.hd n hu (Em ru) (h u _ (I.tok _) ru)
def qW{m:Str}{g:Addr}{pl:Sem Bool}{Q:Value×List Value->Shared->Prop}(I:Inv X δ σ H s)(e:H a=some (.ins C dx fs))(c:Dd X.K C)(k:MU X.K C m g)(l:fs.lookup m=none)
  (h:Q (.ref g,[.ref a]) s):wpAny (model X.prog X.w) A (getMethod (.ref a) m pl) Q E s:=by
 have⟨mA,O,r,_,_,_⟩:=qA I.aQ e;have hn:mA m=none:=i4.none_of (by rw[<-l];exact r m);exact Im I.qp O (c.get m) k.at_ k.fn hn h
def A4{y:V}{Q:Unit->Shared->Prop}(I:Inv X δ σ H s)(e:H a=some (.ins C dx fs))(c:Dd X.K C)(n:ir X.K C f)(hl:fs.length < 1000)(ry:aq y u)
  (h:∀s',Inv X δ σ (upd H a (.ins C dx (jI f y fs))) s'->Q Unit.unit s'):wpAny (model X.prog X.w) A (setAttr (.ref a) f u) Q E s:=by
 have⟨mA,O,r,wi,_,ho⟩:=qA I.aQ e;have hz:(fs.map (·.1)).length<=sizeLine:=by rw[aae,sizeLine_eq];omega
 refine Lh I.qp O c.sa c.po n.Tr c.hd wi hz λh' O' sb=>h _ ?_;have hd:∃o,h'.get? dx=some o:=let ⟨o,_,_,e',_⟩:=O'.ns;⟨o,e'⟩
 refine I.write (x:=a) (e:=dx) (by rw[e];exact True.intro) (.inr ho) (λb q hb z=>(sb.2 b hb).trans z) hd ?_;refine⟨by rw[Ζ O.ne];exact ho,?_,O.ne,O'.obj,_,O'.ns,λg=>?_,λg hg=>?_⟩
 ·have:=pN f y fs;omega
 ·show i4 ((jI f y fs).lookup g) (if g=f then some u else mA g);rw[qb];by_cases q:g=f
  ·rw[aar q,aar q];exact ry
  ·rw[aaq q,aaq q];exact r g
 ·by_cases q:g=f
  ·rw[q];exact(oQ f y fs).1
  ·refine(oQ f y fs).2 g (wi g λz=>hg ?_);show(if g=f then some u else mA g)=none;rw[aaq q];exact z
def Inv.made(I:Inv X δ σ H s):Inv X δ σ (upd (upd H s.heap.objs.size (.own (s.heap.objs.size+1))) (s.heap.objs.size+1) (.ins C s.heap.objs.size []))
  {s with heap:=(s.heap.push PySem.W.emptyDict).push (PySem.W.instObj C s.heap.objs.size)}:=by
 have e1:(s.heap.push PySem.W.emptyDict).get? s.heap.objs.size=some PySem.W.emptyDict:=aaO s.heap rfl;have e2:((s.heap.push PySem.W.emptyDict).push (PySem.W.instObj C s.heap.objs.size)).get? (s.heap.objs.size+1)=some (PySem.W.instObj C s.heap.objs.size):=by have:=aaO (s.heap.push PySem.W.emptyDict) (o:=PySem.W.instObj C s.heap.objs.size) rfl;rwa[Heap.size_push]at this
 have e3:(s.heap.push PySem.W.emptyDict).Ns s.heap.objs.size (λ_=>none):=⟨PySem.W.emptyDict,#[],_,e1,rfl,(λe he=>absurd he (by simp)),λ_=>rfl⟩;have I1:=I.laid (a:=s.heap.objs.size) (o:=.own (s.heap.objs.size+1)) (h':=s.heap.push PySem.W.emptyDict) (t':=s.toks) (λb u q=>aak _ q) (aai _) ⟨_,e1⟩;refine I1.laid (a:=s.heap.objs.size+1) (o:=.ins C s.heap.objs.size []) (t':=s.toks) (λb u q=>aak _ q) (Nat.le_of_eq (Heap.size_push _ _)) ?_;have ne:s.heap.objs.size≠s.heap.objs.size+1:=aaL (abr _);refine⟨by rw[Ζ ne,Ψ],abE _,ne,e2,λ_=>none,(Heap.Ns1.of_empty e3).at λo q=>aak _ q,λ_=>True.intro,λy hy=>aaC rfl hy⟩
def Lv{env:Env}{f:Str}{pos:Pos}(hb:attributeBase e f env (eval e env)=eval e env)
  (h:wpAny (model prog w) A (eval e env) (λo s₁=>wpAny (model prog w) A (getAttr o f true) Q E s₁) E s):wpAny (model prog w) A (eval (.Attribute e f pos) env) Q E s:=
 Attribute_any_ h (by rw[arm_eval_Attribute,hb])
end
def V'(K:fv)(ta:TE)(f:Str):TE:=λσ H Q=>ta σ H λx H1=>∃a C dx fs v,x= .ref a/\H1 a=some (.ins C dx fs)/\Dd K C/\ir K C f/\fs.lookup f=some v/\Q v H1
def VH(K:fv)(ta tv:TE)(f:Str):TS:=λD σ H=>tv σ H λy H1=>ta σ H1 λx H2=>∃a C dx fs,x= .ref a/\H2 a=some (.ins C dx fs)/\Dd K C/\ir K C f/\fs.length < 1000/\
 D.nx σ (upd H2 a (.ins C dx (jI f y fs)))
section
variable{o value:Expr}{f:Str}{pos pos' t_:Pos}{tv:TE}
def O4(he:PE X e ta)(hb:attributeBase e f X.env (eval e X.env)=eval e X.env):PE X (.Attribute e f pos) (V' X.K ta f):=by intro δ s σ H Q I h;refine Lv hb (bA (he δ s σ H _ I h) λu s1 xz=>?_);have⟨x,H1,I1,rx,a,C,dx,fs,v,ex,ea,c,n,l,q⟩:=xz;subst ex;obtain rfl:u=Value.ref a:=rx;exact AM I1 ea c n l λu' s2 I2 ru=>⟨v,H1,I2,ru,q⟩
def Qg(ha:PE X o ta)(hv:PE X value tv)(hs:swapsWith value (some (.Attribute o f pos')) pos.line X.env=pure false):PS X (.Assign [.Attribute o f pos'] value pos) (VH X.K ta tv f):=by intro δ s σ H D I h;refine plainObj_wpAny_Assign_Attribute (bA (hv δ s σ H _ I h) fun u s1 ⟨y,H1,I1,ry,q⟩=>bA (ha δ s1 σ H1 _ I1 q) λov s2 xz=>?_) hs;have⟨x,H2,I2,rx,a,C,dx,fs,ex,ea,c,n,l,q2⟩:=xz;subst ex;obtain rfl:ov=Value.ref a:=rx;exact A4 I2 ea c n l ry λs3 I3=>⟨σ,_,I3,q2⟩
end
section
variable{H:Hp}{c:Value}{b:Bool}
inductive ku(K:fv)(H:Hp):V->Value->Prop where
 | aP:ku K H .aP (.type "NoneType")
 | bl (x:Bool):ku K H (.bl x) (.type "bool")
 | int (i:Int):ku K H (.int i) (.type "int")
 | str (x:Str):ku K H (.str x) (.type "str")
 | QH (x:UInt64):ku K H (.QH x) (.type "float")
 | lst {a:Addr} {xs:List V} (e:H a=some (.lst xs)):ku K H (.ref a) (.type "list")
 | yp {a:Addr} {o:Obj} {xs:List V} (e:H a=some (.yp o (.lst xs))):ku K H (.ref a) (.type "list")
 | tup {a:Addr} {xs:List V} (e:H a=some (.tup xs)):ku K H (.ref a) (.type "tuple")
 | dK {a:Addr} {kvs:List (Key×V)} (e:H a=some (.dK kvs)):ku K H (.ref a) (.type "dict")
 | dT {a:Addr} {kvs:List (List Key×V)} (e:H a=some (.dT kvs)):ku K H (.ref a) (.type "dict")
 | ins {a C dx:Addr} {fs:List (Str×V)} (e:H a=some (.ins C dx fs)) (cl:Dd K C) (ha:PySem.W.findIn K (.ref C) "__class__"=some (some (.builtin "object.__class__")))
   (hn:PySem.W.specialIn K (.builtin "object.__class__") "__get__"=some (some (.builtin "getset_descriptor.__get__"))) (Z8:PySem.W.takesIn K (.builtin "object.__class__")=some true)
   (hm:PySem.W.mroIn K C (.type "object")=some true):ku K H (.ref a) (.ref C)
def Fo{x:V}{t:Value}(I:Inv X δ σ H s)(rx:aq x u)(ty:ku X.K H x t)(e:PySem.W.kitOne X.K t c=some b)(h:∀tk,Q (.bool b) {s with toks:=tk}):
  wpAny (model X.prog X.w) A (call (.builtin "isinstance") [u,c]) Q E s:=by
 cases ty with
 | aP=>cases(show u=Value.none from rx);exact PySem.W.kia_one PySem.W.kitx_none I.qp True.intro e nofun h
 | bl y=>cases(show u=Value.bool y from rx);exact PySem.W.kia_one PySem.W.kitx_bool I.qp True.intro e nofun h
 | int i=>have⟨t,q⟩:=(show∃t,u=Value.int i t from rx);cases q;exact PySem.W.kia_one PySem.W.kitx_int I.qp True.intro e nofun h
 | str y=>have⟨t,q⟩:=(show∃t,u=Value.str y t from rx);cases q;exact PySem.W.kia_one PySem.W.kitx_str I.qp True.intro e nofun h
 | QH y=>have⟨t,q⟩:=(show∃t,u=Value.float y t from rx);cases q;exact PySem.W.kia_one PySem.W.kitx_float I.qp True.intro e nofun h
 | @lst a xs ea=>
  cases(show u=Value.ref a from rx);have⟨_,_,n,_,h1⟩:=(show bZ X.prog X.w H s.heap a (.lst xs) from I.aQ a _ ea);exact PySem.W.kia_one PySem.W.kitx_list I.qp ⟨_,h1,rfl⟩ e nofun h
 | @yp a ob xs ea=>
  cases(show u=Value.ref a from rx);have⟨_,_,_,n,_,h1⟩:=(show bZ X.prog X.w H s.heap a (.yp ob (.lst xs)) from I.aQ a _ ea);exact PySem.W.kia_one PySem.W.kitx_list I.qp ⟨_,h1,rfl⟩ e nofun h
 | @tup a xs ea=>
  cases(show u=Value.ref a from rx);have⟨_,_,_,p⟩:=(show bZ X.prog X.w H s.heap a (.tup xs) from I.aQ a _ ea);have⟨o,h1,h2,_⟩:=p;exact PySem.W.kia_one PySem.W.kitx_tuple I.qp ⟨o,h1,h2⟩ e nofun h
 | @dK a kvs ea=>
  cases(show u=Value.ref a from rx);have⟨_,_,vs,_,p⟩:=(show bZ X.prog X.w H s.heap a (.dK kvs) from I.aQ a _ ea);have⟨o,es,ep,h1,h2,_⟩:=p;exact PySem.W.kia_one PySem.W.kitx_dict I.qp ⟨o,h1,h2.1⟩ e nofun h
 | @dT a kvs ea=>
  cases(show u=Value.ref a from rx);have⟨_,_,xs,_,o,es,ep,h1,h2,_⟩:=(show bZ X.prog X.w H s.heap a (.dT kvs) from I.aQ a _ ea);exact PySem.W.kia_one PySem.W.kitx_dict I.qp ⟨o,h1,h2.1⟩ e nofun h
 | @ins a C dx fs ea cl ha hn Z8 hm=>
  cases(show u=Value.ref a from rx);have⟨mA,O,_⟩:=qA I.aQ ea;have⟨od,J,_⟩:=O.look;exact PySem.W.kia_one (PySem.W.kitx_own (cl.get _) cl.hd ha hn Z8 hm) I.qp J e nofun h
end
structure bU(k:Nat)(A:Around):Prop where
 hd:A.handled=none
 dp:A.depth+3 * k+5 < recursionLimit
 un:A.units+16 * k+200 < cLine
def bU.mono{j k:Nat}(r:bU k A)(h:j<=k):bU j A:=⟨r.hd,by have:=r.dp;omega,by have:=r.un;omega⟩
def bU.deeper{k:Nat}(r:bU (k+1) A)(env:Env):bU k (A.deeper env):=
 ⟨r.hd,by have:=r.dp;show A.depth+1+3 * k+5 < _;omega,by have:=r.un;show A.units+3+16 * k+200 < _;omega⟩
def BQ:(A.under (.builtin "type.__call__" ⟨.ref C::us,kw⟩)).depth=A.depth+1:=by
 first| rfl| simp[Around.under,Code.weight,Code.isCreation,Code.isGuard,Code.isCaller,Code.frames,Code.isFrame,guardIds]
def B4:(A.under (.builtin "type.__call__" ⟨.ref C::us,kw⟩)).units=A.units+1:=by
 first| rfl| simp[Around.under,Code.cUnits,Code.frames,Code.isFrame]
def bU.make{k:Nat}(r:bU (k+1) A)(C:Addr)(us:List Value)(kw:List (Str×Value)):bU k (A.under (.builtin "type.__call__" ⟨.ref C::us,kw⟩)):=
 ⟨r.hd,by have:=r.dp;rw[BQ];omega,by have:=r.un;rw[B4];omega⟩
def bU.depth{k:Nat}(r:bU k A):A.depth < recursionLimit:=by have:=r.dp;omega
def bU.units{k:Nat}(r:bU k A):A.units+64 < cLine:=by have:=r.un;omega
def bU.Bk{k:Nat}(r:bU k A):A.units < cLine:=by have:=r.un;omega
def UG:TA:=λ_ H Q=>Q [] H
def Ut(ta:TE)(tr:TA):TA:=λσ H Q=>ta σ H λx H1=>tr σ H1 λxs H2=>Q (x::xs) H2
section
variable{t:TA}{pos:Pos}
def OY:PA X [] UG:=λ_ _ _ _ H Q I h=>Calls.spliced_nil ⟨[],H,I,.nil,h⟩
def Mp(ha:PE X e te)(hr:PA X es t)(hs:starEach (e::es) X.env=(false,eval e X.env)::starEach es X.env:=by rfl):PA X (e::es) (Ut te t):=by intro pos δ s σ H Q I h;rw[hs];show wpAny _ _ (spliced ((false,eval e X.env)::backTo pos (starEach es X.env))) _ _ s;refine Calls.spliced_cons (bA (ha δ s σ H _ I h) λu s1 xz=>?_);have⟨x,H1,I1,r1,q1⟩:=xz;exact bA (hr pos δ s1 σ H1 _ I1 q1) λus s2 ⟨xs,H2,I2,r2,q2⟩=>⟨x::xs,H2,I2,.cons r1 r2,q2⟩
def Xj(t:TA):TE:=λσ H Q=>t σ H λxs H1=>xs.length<=sizeLine/\∀p,H1 p=none->Q (.ref p) (upd H1 p (.tup xs))
def W9(t:TA):TE:=λσ H Q=>t σ H λxs H1=>xs.length<=sizeLine/\∀p,H1 p=none->Q (.ref p) (upd H1 p (.lst xs))
def OR{x1}(h:PA X es t):PE X (.Tuple es x1 pos) (Xj t):=by intro δ s σ H Q I hq;refine wpAny_Tuple_spliced (bA (h pos δ s σ H _ I hq) fun us s1 ⟨xs,H1,I1,r,z,q⟩=>⟨by rw[<-r.length];exact z,?_⟩);have hf:H1 s1.heap.objs.size=none:=I1.aQ.fresh (aai _);refine⟨.ref s1.heap.objs.size,upd H1 s1.heap.objs.size (.tup xs),I1.laid (t':=s1.toks) (λb u e=>aak _ e) (aai _) ?_,rfl,q _ hf⟩;exact⟨z,us,r,⟨_,aaO _ rfl,rfl,_,rfl⟩⟩
def HQ(h:PA X es t):PE X (.List es pos) (W9 t):=by intro δ s σ H Q I hq;refine wpAny_List_spliced (bA (h pos δ s σ H _ I hq) fun us s1 ⟨xs,H1,I1,r,z,q⟩=>⟨by rw[<-r.length];exact z,?_⟩);have hf:H1 s1.heap.objs.size=none:=I1.aQ.fresh (aai _);refine⟨.ref s1.heap.objs.size,upd H1 s1.heap.objs.size (.lst xs),I1.laid (t':=s1.toks) (λb u e=>aak _ e) (aai _) ?_,rfl,q _ hf⟩;exact⟨z,us,0,r,aaO _ rfl⟩
end
abbrev Sp:=List V->Hp->VK->XK->Prop
abbrev AH:=List Env->Hp->Shared->XK->Value->Shared->Prop
structure BF(P:Program)(w:World)(K:fv)(mg:Str->Option Value)(base:Heap)(A:Around)(outer:List Env)(s:Shared)(H:Hp):Prop where
 frames:A.frames=some outer
 mod:Mod K mg base
 bs:∀b o,base.get? b=some o->s.heap.get? b=some o/\H b=none
 Q9:base.objs.size<=s.heap.objs.size
 ud:s.heap.FunFrames base outer
 Uq:∀b∈qj outer,H b=none
 aQ:lh P w H s.heap
 bare:AllBare s.gens
def CE(outer:List Env)(P:Program)(w:World)(H:Hp)(s:Shared)(Q:VK)(u:Value)(s':Shared):Prop:=
 ∃v H',s'.os=s.os/\AllBare s'.gens/\Un (qj outer) [] H H' s.heap s'.heap/\lh P w H' s'.heap/\aq v u/\Q v H'
def CR(CX:AH)(outer:List Env)(P:Program)(w:World)(H:Hp)(s:Shared)(Q:VK)(E:XK)(r:Result)(s':Shared):Prop:=
 match r with
 | .ok (.ret u)=>CE outer P w H s Q u s'
 | .ok _=>False
 | .error e=>CX outer H s E e s'
structure ak(P:Program)(w:World)(K:fv)(mg:Str->Option Value)(base:Heap)(CX:AH)(k:Nat)(f:Addr)(fd:FuncData)(ps:List Str)(sp:Sp):Prop where
 len:∀vs H Q E,sp vs H Q E->vs.length=ps.length
 run:∀(A:Around) (outer:List Env) (s:Shared) (H:Hp) (args:Args) (us:List Value) (vs:List V) (Q:VK) (E:XK),bU k A->BF P w K mg base A outer s H->BindsTo s fd args (ps.zip us)->ar vs us->sp vs H Q E->
  codeAny (model P w) A (.call (.ref f) args) (CR CX outer P w H s Q E) s
def BF.make{K:fv}{H:Hp}(e:BF P w K mg base A outer s H)(C:Addr)(us:List Value)(kw:List (Str×Value)):
  BF P w K mg base (A.under (.builtin "type.__call__" ⟨.ref C::us,kw⟩)) outer s H:=⟨by first| exact e.frames| (simpa [Around.under,Code.envs,Code.isFrame,pushEnvs] using e.frames),e.mod,e.bs,e.Q9,e.ud,e.Uq,e.aQ,e.bare⟩
section
variable{H:Hp}{s':Shared}
def Inv.Rz(I:Inv X δ σ H s):BF X.prog X.w X.K X.mg X.base X.A X.stack s H:=
 ⟨I.ok.frames,I.ok.mod,I.bs,aat I.ok.Q9 I.sz,I.stack,I.xM,I.aQ,I.bare⟩
def Inv.after{Q:VK}(I:Inv X δ σ H s)(h:CE X.stack X.prog X.w H s Q u s'):EP X δ σ Q u s':=by have⟨v,H',os,bare,un,aQ,r,q⟩:=h;have⟨hh,g,d,t,Vd⟩:=s';obtain rfl:Vd=s.os:=os;exact⟨v,H',I.call (h':=hh) (g':=g) (d':=d) (t':=t) (ch:=[]) un aQ bare (λb z=>absurd z (by simp)),r,q⟩
end
def jE(K:fv)(fd:FuncData)(ps:List Str)(ds:List Value):Prop:=
 ∀(s:Shared) (us:List Value),K.In s.heap->(us++ds).length=ps.length->BindsTo s fd ⟨us,[]⟩ (ps.zip (us++ds))
def jE.all{K:fv}{fd:FuncData}(h:∀us:List Value,us.length=ps.length->bindArgs fd ⟨us,[]⟩=pure (ps.zip us)):jE K fd ps []:=λs us _ hl=>by rw[aaV]at hl⊢;exact .of_eq (h us hl)
section
variable{CX:AH}{k:Nat}{f:Addr}{fd:FuncData}{sp:Sp}{qI:List V}{ds:List Value}{E:XK}{m:Str}{p pos apos:Pos}{o:Expr}{t:TA}
structure Mk(K:fv)(C f:Addr):Prop where
 makes:PySem.W.makesIn K C=true
 init:PySem.W.findIn K (.ref C) "__init__"=some (some (.ref f))
 fn:PySem.W.isFn K (.ref f)=true
 kp:PySem.W.keepIn K (.ref C)=true
end
structure Γ(N P:List Str)(sc:Scope):Prop where
 kind:sc.kind= .function
 co:sc.isCoroutine=false
 gen:sc.isGenerator=false
 nd:N.Nodup
 pre:N.take P.length=P
 par:∀x∈P,sc.names.lookup x=some .local\/sc.names.lookup x=some .cell
 N7:∀y∈sc.names,y.2≠ .free
def vF{kindOf:Str->Option NameKind}{x:Str}:∀{binds:List (Str×Value)} {m:Str->Option Value},(∀v,(x,v)∉binds)->bindL kindOf binds m x=m x
 | [],_,_=>rfl
 | (n,v)::r,m,h=>by
  unfold bindL;rw[vF λw hw=>h w (aac _ hw)];split
  ·have:x≠n:=by rintro rfl;exact h v aad
   simp[this]
  ·rfl
def vn{kindOf:Str->Option NameKind}{x:Str}:∀{binds:List (Str×Value)} {m:Str->Option Value},(∀v,(x,v)∉binds)->bindC kindOf binds m x=m x
 | [],_,_=>rfl
 | (n,v)::r,m,h=>by
  unfold bindC;rw[vn λw hw=>h w (aac _ hw)];split
  ·rfl
  ·have:x≠n:=by rintro rfl;exact h v aad
   simp[this]
def uT{kindOf:Str->Option NameKind}{x:Str}{v:Value}:∀{P:List Str} {vs:List Value} {i:Nat} {m:Str->Option Value},P.Nodup->P[i]? =some x->vs[i]? =some v->kindOf x=some .local->
  bindL kindOf (P.zip vs) m x=some v
 | [],_,_,_,_,h,_,_=>by simp at h
 | _::_,[],_,_,_,_,h,_=>by simp at h
 | p::P,w::vs,0,m,nd,h1,h2,hk=>by simp at h1 h2;subst h1;subst h2;show bindL kindOf ((p,w)::P.zip vs) m p=_;unfold bindL;rw[vF λv hv=>(abz.mp nd).1 (acg hv).1,aar hk];simp
 | p::P,w::vs,i+1,m,nd,h1,h2,hk=>by show bindL kindOf ((p,w)::P.zip vs) m x=_;unfold bindL;exact uT (i:=i) (List.nodup_cons.mp nd).2 (by simpa using h1) (by simpa using h2) hk
def vm{kindOf:Str->Option NameKind}{x:Str}{v:Value}:∀{P:List Str} {vs:List Value} {i:Nat} {m:Str->Option Value},P.Nodup->P[i]? =some x->vs[i]? =some v->kindOf x≠some .local->
  bindC kindOf (P.zip vs) m x=some v
 | [],_,_,_,_,h,_,_=>by simp at h
 | _::_,[],_,_,_,_,h,_=>by simp at h
 | p::P,w::vs,0,m,nd,h1,h2,hk=>by simp at h1 h2;subst h1;subst h2;show bindC kindOf ((p,w)::P.zip vs) m p=_;unfold bindC;rw[vn λv hv=>(abz.mp nd).1 (acg hv).1,aaq hk];simp
 | p::P,w::vs,i+1,m,nd,h1,h2,hk=>by show bindC kindOf ((p,w)::P.zip vs) m x=_;unfold bindC;exact vm (i:=i) (List.nodup_cons.mp nd).2 (by simpa using h1) (by simpa using h2) hk
def start(N:List Str)(vs:List V):St:=vs.map some++List.replicate (N.length - vs.length) none
def xo(CX:AH)(P:Program)(w:World)(K:fv)(mg:Str->Option Value)(base:Heap)(N:List Str)(qual:Str)(scope:Scope)(f:Addr)(cd:Value)(A:Around)(outer:List Env)(s:Shared)(H:Hp)(E:XK):Cx where
 prog:=P
 w:=w
 K:=K
 mg:=mg
 base:=base
 A:=A.deeper (envOfC qual scope s.heap.objs.size f cd)
 N:=N
 s₀:=s
 H₀:=H
 env:=envOfC qual scope s.heap.objs.size f cd
 outer:=outer
 stack:=envOfC qual scope s.heap.objs.size f cd::outer
 ex:=[]
 calm:=true
 fn:=λ_=>true
 pn:=[]
 xe:=λe s'=>wpAny (model P w) (A.deeper (envOfC qual scope s.heap.objs.size f cd)) (leaving (envOfC qual scope s.heap.objs.size f cd) e) (λ_ WR=>CX outer H s E e WR) (λe' WR=>CX outer H s E e' WR) s'
def zk{sc:Scope}{n:Nat}(h:sc.names.lookup x=some .cell):∃c,(cellsFrom n sc.names []).lookup x=some c:=by have q:=PySem.W.cellsFrom_some sc.names n [] (.inl h);exact aa7.mp q
def Fd{CX:AH}{K:fv}{N:List Str}{qual:Str}{scope:Scope}{f:Addr}{cd:Value}{s1:Shared}{H:Hp}{E:XK}{vs:List V}
  (S:Γ N ps scope) (hd:A.handled=none) (e0:BF P w K mg base A outer s H) (hl:vs.length=ps.length) (r:ar vs us)
  (x:InCallC s s.heap.objs.size (bindL (envOfC qual scope s.heap.objs.size f cd).kindOf (ps.zip us) λ_=>none) (cellsFrom (s.heap.objs.size+1) scope.names []) (bindC (envOfC qual scope s.heap.objs.size f cd).kindOf (ps.zip us) λ_=>none) s1):
  Inv (xo CX P w K mg base N qual scope f cd A outer s H E) [] (start N vs) H s1:=by
 have fk:ps.length<=N.length:=by have:=aaP List.length S.pre;rw[List.length_take]at this;omega
 have⟨h1,tk,rfl,hk⟩:=x.done;have TU:∀b:Addr,b∉(xo CX P w K mg base N qual scope f cd A outer s H E).ex:=λb z=>absurd (show b∈([]:List Addr) from z) (by simp)
 refine⟨⟨e0.mod,S.kind,rfl,rfl,aai _,λy z c h1 h2=>?_,λy hy=>?_,λy c _ h=>?_,λ_=>hd,Around.frames_deeper e0.frames,.inr ⟨rfl,rfl⟩,λb z=>aaC z (TU b),e0.bs,e0.Q9,λb _ _=>TU b,λb z=>aaC z (TU b),e0.ud,e0.Uq⟩,
  rfl,e0.bare,Un.kept hk,⟨_,x.toInCall.ns,λi y v h1 h2 h3=>?_⟩,λy c h=>⟨_,x.cell y c h⟩,e0.aQ.fresh (Nat.le_refl _),λy c h=>?_,λp hp=>absurd (show p∈([]:List (Addr×Obj)) from hp) (by simp),e0.aQ.kept hk,?_⟩
 ·exact name_of_addr x.apart (PySem.mem_of_lookup h1) (PySem.mem_of_lookup h2)
 ·have hy:scope.names.lookup y=some .cell\/scope.names.lookup y=some .free:=hy;rcases hy with hy| hy
  ·exact zk hy
  ·exact aaC rfl (S.N7 _ (PySem.mem_of_lookup hy))
 ·exact Nat.le_of_lt (x.above y c (PySem.mem_of_lookup h))
 ·have hi:i < vs.length:=by
   unfold start at h2;by_cases hi:i < vs.length
   ·exact hi
   ·rw[List.getElem?_append_right (by simpa using hi)]at h2;rw[abT]at h2;split at h2 <;> cases h2
  have ha:vs[i]? =some v:=by
   unfold start at h2;rw[List.getElem?_append_left (by simpa using hi),List.getElem?_map]at h2;cases e:vs[i]? with
   | none=>rw[e]at h2;cases h2
   | some a=>rw[e]at h2;cases h2;rfl
  have⟨u,hu,rv⟩:=r.get ha;have hp:ps[i]? =some y:=by rw[<-S.pre,acb ()];exact h1
  have Z9:ps.Nodup:=by rw[<-S.pre];exact S.nd.sublist (List.take_sublist _ _)
  refine⟨u,rv,?_⟩;rcases S.par y (aaj hp) with k| k
  ·exact .inl ⟨k,uT Z9 hp hu k⟩
  ·have⟨c,e⟩:=zk (n:=s.heap.objs.size+1) k;refine .inr ⟨.inl k,c,e,?_⟩;have q:=x.cell y c e;rw[vm Z9 hp hu (by show scope.names.lookup y≠_;rw[k];decide)]at q;exact q
 ·exact e0.aQ.fresh (Nat.le_of_lt (x.above y c (PySem.mem_of_lookup h)))
 ·unfold start;show _=N.length;rw[aag,aae,aaX];omega
def T4{CX:AH}{K:fv}{k:Nat}{f:Addr}{name qual:Str}{params:Arguments}{scope:Scope}{dV kV doc pm bq ct oc:Value}{an od:Option Addr}
  {Ia:Array (Option Value)} {N:List Str} {sp:Sp} (lk:K.lookup f=some ⟨oc,od,.func (PySem.W.fnOf name qual params body scope dV kV doc pm an bq ct),Ia⟩) (JR:PySem.W.codeIn K bq qual=true) (S:Γ N ps scope)
  (len:∀vs H Q E,sp vs H Q E->vs.length=ps.length)
  (zK:∀(A:Around) (outer:List Env) (s:Shared) (H:Hp) (vs:List V) (Q:VK) (E:XK),bU k (A.deeper (envOfC qual scope s.heap.objs.size f bq))->sp vs H Q E->
   ∃t,Gw (xo CX P w K mg base N qual scope f bq A outer s H E) body t/\t {nx:=λ_ H'=>Q .aP H',rt:=Q} (start N vs) H):
  ak P w K mg base CX (k+1) f (PySem.W.fnOf name qual params body scope dV kV doc pm an bq ct) ps sp:=by
 refine⟨len,λA outer s H args us vs Q E hr e0 hb r Nd=>?_⟩;have hl:=len _ _ _ _ Nd;have KX:K.In s.heap:=e0.mod.Tz.keeps λb o e=>(e0.bs b o e).1;have lim:s.heap.NoLimit:=e0.mod.nolimit.keeps λb o e=>(e0.bs b o e).1;have J7:∀y∈ps.zip us,scope.names.lookup y.1=some .local\/(scope.names.lookup y.1=some .cell/\((cellsFrom (s.heap.objs.size+1) scope.names []).lookup y.1).isSome=true):=λ⟨n,v⟩ hy=>by
  rcases S.par n (acg hy).1 with q| q
  ·exact .inl q
  ·exact .inr ⟨q,PySem.W.cellsFrom_some _ _ _ (.inl q)⟩
 refine codeAny_call_function hr.depth (KX _ _ lk) rfl S.co S.gen rfl (PySem.W.codeRec_of KX JR) (hb _ _ _ _ ?_);refine wpAny_newFunctionEnv_cells S.kind J7 λenv he s1 x=>?_;subst he;refine⟨lim.keeps x.toInCall.keep,codeAny_func ?_⟩;have⟨t,ht,hq⟩:=zK A outer s H vs Q E (hr.deeper _) Nd;have I:Inv (xo CX P w K mg base N qual scope f bq A outer s H E) [] (start N vs) H s1:=Fd S hr.hd e0 hl r x;refine ab0 (ht [] s1 (start N vs) H _ I hq) (λfl s' hs=>?_) λe s' hs=>hs
 have fin:∀{σ':St} {H':Hp} {v:V} {u:Value},Inv (xo CX P w K mg base N qual scope f bq A outer s H E) [] σ' H' s'->aq v u->Q v H'->CE outer P w H s Q u s':=
  λ{σ' H' v u} J rv q=>⟨v,H',J.os,J.bare,J.base,J.aQ,rv,q⟩
 cases fl with
 | ret u=>
  have⟨v,σ',H',J,rv,q⟩:=hs;exact fin J rv q
 | next=>
  have⟨σ',H',J,q⟩:=hs;exact fin (v:=V.aP) (u:=Value.none) J rfl q
 | brk=>
  have⟨_,_,_,q⟩:=hs;exact False.elim q
 | cont=>
  have⟨_,_,_,q⟩:=hs;exact False.elim q
section
variable{p pos:Pos}{t:TA}{id T:String}{r:List V->Hp->VK->Prop}
def Yp(r:List V->Hp->VK->Prop)(t:TA):TE:=λσ H Q=>t σ H λvs H1=>r vs H1 Q
def Jj(hc:dw X (.builtin id) r)(hg:Gl X x)(hm:X.mg x=none)(hv:bootBuiltins x=some (.builtin id))(ha:PA X (e::es) t)(hn:x≠"__name__":=by decide)(Bt:(x==("__debug__":Str))=false:=by decide)
  (he:starEach (e::es) X.env=(false,eval e X.env)::starEach es X.env:=by rfl) (fk:(backTo pos (starEach es X.env)).any (·.1)=false:=by rfl):PE X (.Call (.Name x p) (e::es) [] pos) (Yp r t):=by
 intro δ s σ H Q I h;refine wpAny_Call_Name_kw (mO I hg hm hv ?_ hn Bt);exact PyProof.Rows.callWith_builtin1 (bA (ha pos δ s σ H _ I h) λus s1 ⟨vs,H1,I1,r1,q1⟩=>hc δ s1 σ H1 vs us Q I1 r1 q1) he fk
def FY(hc:dw X (.type T) r)(hg:Gl X x)(hm:X.mg x=none)(hv:bootBuiltins x=some (.type T))(ha:PA X (e::es) t)(hn:x≠"__name__":=by decide)(Bt:(x==("__debug__":Str))=false:=by decide)
  (he:starEach (e::es) X.env=(false,eval e X.env)::starEach es X.env:=by rfl) (fk:(backTo pos (starEach es X.env)).any (·.1)=false:=by rfl):PE X (.Call (.Name x p) (e::es) [] pos) (Yp r t):=by
 intro δ s σ H Q I h;refine wpAny_Call_Name_kw (mO I hg hm hv ?_ hn Bt);exact PyProof.Rows.callWith_type1 (bA (ha pos δ s σ H _ I h) λus s1 ⟨vs,H1,I1,r1,q1⟩=>hc δ s1 σ H1 vs us Q I1 r1 q1) he fk
end
end L2
namespace HT
open PySem PyProof.Rows
section
variable{prog:Program}{w:World}{A:Around}{E:Value->Shared->Prop}{s:Shared}
def MQ{t b:Addr}{vs ws:List Value}{Q:Value->Shared->Prop}(ht:IsTup s.heap t vs.toArray)(hb:IsTup s.heap b ws.toArray)(hv:vs≠[])
  (h1:ws=[]->Q (.ref t) s) (h2:ws≠[]->Q (.ref s.heap.objs.size) {s with heap:=s.heap.push {cls:=.type "tuple",data:=.seq (vs++ws).toArray}})
  (hsz:vs.length+ws.length<=sizeLine):wpAny (model prog w) A (binaryOp .Add (.ref t) (.ref b)) Q E s:=by
 have⟨⟨cls,dd,data,sl⟩,ho,hc,n,hd⟩:=id ht;have⟨⟨aa1,UP,data2,VC⟩,U9,ZG,n2,hd2⟩:=id hb;simp only at hc hd ZG hd2;subst hc hd ZG hd2;have e:vs.toArray++ws.toArray=(vs++ws).toArray:=by simp
 by_cases hw:ws=[]
 ·exact concat_meets ⟨_,ho,rfl⟩ ⟨_,U9,rfl⟩ noFill_tuple_add seq_tuple_add PySem.F.slot_tuple_add PySem.F.entry_tuple_add (PySem.F.args_tuple_add_2 _ _)
   (tuple_addW1 t b vs.toArray ws.toArray n n2 dd UP sl VC (by simpa using hv) (by simp[hw])) ⟨ho,U9,h1 hw⟩
 ·refine concat_meets ⟨_,ho,rfl⟩ ⟨_,U9,rfl⟩ noFill_tuple_add seq_tuple_add PySem.F.slot_tuple_add PySem.F.entry_tuple_add (PySem.F.args_tuple_add_2 _ _)
   (tuple_addW2 t b vs.toArray ws.toArray n n2 dd UP sl VC (by simpa using hv) (by simpa using hw) (by rw[List.size_toArray,List.size_toArray];exact hsz)) ⟨ho,U9,?_⟩
  rw[e];exact h2 hw
def Ao(n d:Nat):Option Int->Nat
 | none=>d
 | some v=>if v < 0 then (v+(n:Int)).toNat else min v.toNat n
def Ah(n d:Nat):Ao n d none=d:=rfl
def qx(n d k:Nat):Ao n d (some (k:Int))=min k n:=by show(if (k:Int) < 0 then ((k:Int)+(n:Int)).toNat else min (k:Int).toNat n)=min k n;rw[aaq (),aaU]
end
end HT
namespace L2
open PySem PySem.Spec PyProof.Rows
variable{X:Cx}{n:Nat}{δ:List (Addr×Obj)}{s:Shared}{its:List Value}
abbrev TO:=St->Hp->(Option Int->Hp->Prop)->Prop
def PO(X:Cx)(e:Option Expr)(t:TO):Prop:=
 ∀(δ:List (Addr×Obj)) (s:Shared) (σ:St) (H:Hp) (Q:Option Int->Hp->Prop),Inv X δ σ H s->t σ H Q->
  wpAny (model X.prog X.w) X.A (evalPart e X.env) (λu s'=>∃o H',Inv X δ σ H' s'/\IsPart u o/\Q o H') X.xe s
def MM:TO:=λ_ H Q=>Q none H
def SN(t:TE):TO:=λσ H Q=>t σ H λx H1=>∃i,x= .int i/\Q (some i) H1
section
variable{e:Expr}{te:TE}{lo hi:Option Expr}{tl th:TO}{pos p2:Pos}
def Dy:PO X none MM:=by intro δ s σ H Q I h;rw[evalPart_none];exact abd ⟨none,H,I,.none,h⟩
def qJ(h:PE X e te):PO X (some e) (SN te):=by intro δ s σ H Q I hw;rw[evalPart_some];refine bA (h δ s σ H _ I hw) λu s1 xz=>?_;have⟨x,H1,I1,r1,q1⟩:=xz;have⟨i,rfl,q⟩:=q1;have⟨t,rfl⟩:=r1;exact⟨some i,H1,I1,.int i t,q⟩
def SlR(X:Cx)(r:V->Option Int->Option Int->Hp->VK->Prop):Prop:=
 ∀(δ:List (Addr×Obj)) (s:Shared) (σ:St) (H:Hp) (x:V) (v vl vu:Value) (lo hi:Option Int) (sl:Addr) (Q:VK),Inv X δ σ H s->aq x v->s.heap.IsSliceOf sl vl vu .none->IsPart vl lo->IsPart vu hi->r x lo hi H Q->
  ∃T id,typeLookup (.type T) "__getitem__"=pure (some (.builtin id))/\s.TypeIs v T/\wpAny (model X.prog X.w) X.A (getItem v (.ref sl)) (EP X δ σ Q) X.xe s
def tSl(r:V->Option Int->Option Int->Hp->VK->Prop)(te:TE)(tl th:TO):TE:=λσ H Q=>te σ H λx H1=>tl σ H1 λl H2=>th σ H2 λu H3=>r x l u H3 Q
def sH{r:V->Option Int->Option Int->Hp->VK->Prop}(hr:SlR X r)(he:PE X e te)(hl:PO X lo tl)(hu:PO X hi th):PE X (.Subscript e (.Slice lo hi none p2) pos) (tSl r te tl th):=by intro δ s σ H Q I h;refine Subscript_ (bA (he δ s σ H _ I h) λv s1 xz=>?_);have⟨x,H1,I1,r1,q1⟩:=xz;refine wpAny_Slice (bA (hl δ s1 σ H1 _ I1 q1) fun vl s2 ⟨l,H2,I2,pl,q2⟩=>bA (hu δ s2 σ H2 _ I2 q2) λvu s3 xz=>?_);have⟨u,H3,I3,pu,q3⟩:=xz;rw[evalPart_none];refine abd ?_;have I4:Inv X δ σ H3 {s3 with heap:=s3.heap.push {cls:=.type "slice",data:=.fields #[vl,vu,.none]}}:=I3.kept (t':=s3.toks) λb ob q=>aak _ q;have⟨T,id,hT,ht,hg⟩:=hr δ {s3 with heap:=s3.heap.push {cls:=.type "slice",data:=.fields #[vl,vu,.none]}} σ H3 x v vl vu l u s3.heap.objs.size Q I4 r1 (Heap.IsSliceOf.new ..) pl pu q3;show wpAny (model X.prog X.w) X.A (subscriptTail e (.Slice lo hi none p2) v (.ref s3.heap.objs.size)) (EP X δ σ Q) X.xe {s3 with heap:=s3.heap.push {cls:=.type "slice",data:=.fields #[vl,vu,.none]}};exact tail_any (ops:=[.ref s3.heap.objs.size,v]) ht hT hg (by with_unfolding_all rfl)
def ui(xs:List V)(lo hi:Option Int):List V:=(xs.drop (HT.Ao xs.length 0 lo)).take (HT.Ao xs.length xs.length hi - HT.Ao xs.length 0 lo)
def ze(xs:List V)(lo hi:Option Int):(ui xs lo hi).length<=xs.length:=by unfold ui;rw[List.length_take,abt];omega
def NP(K:fv):R2:=λx y H Q=>∃a b xs ys,x= .ref a/\y= .ref b/\mQ K H a xs/\mQ K H b ys/\xs≠[]/\xs.length+ys.length<=sizeLine/\
 (ys=[]->Q (.ref a) H)/\(ys≠[]->∀p,H p=none->Q (.ref p) (upd H p (.tup (xs++ys))))
def ar.xC{xs:List V}{us:List Value}(r:ar xs us):us=[]↔xs=[]:=by
 cases r with
 | nil=>simp
 | cons _ _=>simp
def Mw:jF X (binaryOp .Add) (NP X.K):=by intro δ s σ H x y v u Q I rx ry h;have⟨a,b,xs,ys,rfl,rfl,ha,hb,hx,hz,q1,q2⟩:=h;cases rx;cases ry;have⟨its,r1,p1,_⟩:=I.tuple ha;have⟨Jd,r2,p2,_⟩:=I.tuple hb;refine HT.MQ p1 p2 (λz=>hx (r1.xC.mp z)) (λz=>⟨.ref a,H,I,rfl,q1 (r2.xC.mp z)⟩) (λz=>?_) (by rw[<-r1.length,<-r2.length];exact hz);refine⟨.ref s.heap.objs.size,_,I.laid (t':=s.toks) (o:=.tup (xs++ys)) (λb ob q=>aak _ q) (aai _) ?_,rfl,q2 (λw=>z (r2.xC.mpr w)) _ (I.aQ.fresh (aai _))⟩;exact⟨by rw[aag];exact hz,_,r1.append r2,IsTup.new _ _⟩
end
def G7(n:Nat)(i:Int):Option Nat:=if 0<=i then (if i < n then some i.toNat else none) else if -(n:Int)<=i then some (i+n).toNat else none
def jA{α:Type}(xs:List α)(i:Int):Option α:=(G7 xs.length i).bind λj=>xs[j]?
def D7{i:Int}{j:Nat}(h:G7 n i=some j):seqIndex? i n=some j/\j < n/\ -(n:Int)<=i/\i < n:=by
 unfold G7 at h;by_cases h0:0<=i
 ·rw[aar h0]at h;by_cases h1:i < n
  ·rw[aar h1]at h;have e:i.toNat=j:=aas h;exact⟨by rw[seqIndex_of h0 h1,e],(),(),h1⟩
  ·rw[aaq h1]at h;cases h
 ·rw[aaq h0]at h;by_cases h1: -(n:Int)<=i
  ·rw[aar h1]at h;have e:(i+n).toNat=j:=aas h;exact⟨by rw[seqIndex_neg () h1,e],(),h1,()⟩
  ·rw[aaq h1]at h;cases h
def wx{α:Type}{xs:List α}{i:Int}{v:α}(h:jA xs i=some v):∃j,seqIndex? i xs.length=some j/\xs[j]? =some v/\j < xs.length/\ -(xs.length:Int)<=i/\i < xs.length:=by
 unfold jA at h;cases e:G7 xs.length i with
 | none=>rw[e]at h;cases h
 | some j=>
  rw[e]at h;have⟨h1,h2,h3,h4⟩:=D7 e;exact⟨j,h1,h,h2,h3,h4⟩
def Ω{α:Type}{xs:List α}{j:Nat}{v:α}(h:xs[j]? =some v):jA xs (j:Int)=some v:=by
 have hj:j < xs.length:=(aaf.mp h).1;have e:G7 xs.length (j:Int)=some j:=by unfold G7;rw[if_pos (),if_pos ()];simp
 unfold jA;rw[e];exact h
def vY(b:Expr):Prop:=∀o i,subscripted b false o i=operate [o,i] (getItem o i)
def KQ(X:Cx)(r:R2):Prop:=
 ∀(value slice:Expr) (δ:List (Addr×Obj)) (s:Shared) (σ:St) (H:Hp) (x y:V) (v u:Value) (Q:VK),Inv X δ σ H s->aq x v->aq y u->r x y H Q->
  subscripted slice false v u=operate [v,u] (getItem v u)->wpAny (model X.prog X.w) X.A (subscriptTail value slice v u) (EP X δ σ Q) X.xe s
def Y5(X:Cx)(id:String)(r:V->List V->Hp->VK->Prop):Prop:=
 ∀(δ:List (Addr×Obj)) (s:Shared) (σ:St) (H:Hp) (x:V) (xs:List V) (v:Value) (us:List Value) (Q:VK),Inv X δ σ H s->aq x v->ar xs us->r x xs H Q->
  wpAny (model X.prog X.w) X.A (call (.builtin id) (v::us)) (EP X δ σ Q) X.xe s
section
variable{a b:Expr}{ta tb:TE}{pos:Pos}
def KQ.or{r r':R2}(h:KQ X r)(h':KQ X r'):KQ X (λx y H Q=>r x y H Q\/r' x y H Q):=by
 intro value slice δ s σ H x y v u Q I rx ry q hs;rcases q with q| q
 ·exact h value slice δ s σ H x y v u Q I rx ry q hs
 ·exact h' value slice δ s σ H x y v u Q I rx ry q hs
def RL{r:R2}(hr:KQ X r)(ha:PE X a ta)(hb:PE X b tb)(hs:vY b):PE X (.Subscript a b pos) (Su r ta tb):=by intro δ s σ H Q I h;exact Subscript_ (QJ ha hb I h λv u s2 x y H2 I2 rx ry q=>hr a b δ s2 σ H2 x y v u Q I2 rx ry q (hs _ _))
def Ux(K:fv):R2:=λx y H Q=>∃p xs i v,x= .ref p/\y= .int i/\gu K H p xs/\jA xs i=some v/\Q v H
def Uo(K:fv):R2:=λx y H Q=>∃p xs i v,x= .ref p/\y= .int i/\mQ K H p xs/\jA xs i=some v/\Q v H
def R5:R2:=λx y H Q=>∃z i c,x= .str z/\y= .int i/\z.length<=sizeLine/\jA z.cps.toList i=some c/\Q (.str ⟨#[c]⟩) H
def LR:KQ X (Ux X.K):=by
 intro value slice δ s σ H x y v u Q I rx ry h hs;have⟨p,xs,i,z,rfl,rfl,hq,he,q⟩:=h;cases rx;have⟨t,rfl⟩:=ry;have⟨its,r,pl,hz⟩:=I.list hq;have⟨j,h1,h2,h3,h4,h5⟩:=wx he;have⟨w,ew,BR⟩:=r.get h2;have hl:=r.length;have hn:=pD;have fin:EP X δ σ Q w s:=⟨z,H,I,BR,q⟩;by_cases h0:0<=i
 ·have hj:i.toNat=j:=by rw[seqIndex_of h0 h5]at h1;exact aas h1
  exact item_listR pl.isList h0 () (by rw[hj];simpa using ew) fin hs
 ·have hj:(i+(its.toArray.size:Int)).toNat=j:=by rw[seqIndex_neg () h4]at h1;rw[aay,<-hl];exact aas h1
  exact subscriptTail_builtinR (x:=w) pl.isList.typeIs slot_list_getitem.lookup
   (wpAny_getItem_list_neg (Q:=λr s'=>r=w/\EP X δ σ Q r s') pl.isList () (by rw[List.size_toArray] <;> omega) () (by rw[hj];simpa using ew) ⟨rfl,fin⟩) hs
def QP:KQ X (Uo X.K):=by
 intro value slice δ s σ H x y v u Q I rx ry h hs;have⟨p,xs,i,z,rfl,rfl,hq,he,q⟩:=h;cases rx;have⟨t,rfl⟩:=ry;have⟨its,r,pl,hz⟩:=I.tuple hq;have⟨j,h1,h2,h3,h4,h5⟩:=wx he;have⟨w,ew,BR⟩:=r.get h2;have hl:=r.length;have hn:=pD;have fin:EP X δ σ Q w s:=⟨z,H,I,BR,q⟩
 exact subscriptTail_builtinR (x:=w) pl.typeIs slot_tuple_getitem.lookup
  (getItem_tuple (j:=j) (Q:=λr s'=>r=w/\EP X δ σ Q r s') pl () () (by rw[List.size_toArray,<-hl];exact h1) (by simpa using ew) ⟨rfl,fin⟩) hs
def OK:KQ X R5:=by
 intro value slice δ s σ H x y v u Q I rx ry h hs;have⟨z,i,c,rfl,rfl,hz,he,q⟩:=h;have⟨t,rfl⟩:=rx;have⟨t',rfl⟩:=ry;have⟨j,h1,h2,h3,h4,h5⟩:=wx he;have hl:z.cps.toList.length=z.length:=by simp[Str.length]
 rw[hl]at h1 h4 h5;have hn:=pD
 exact tail_any (typeIs_str s z t) slot_str_getitem.lookup (getItem_str (c:=c) (by
  have e1:decide (i < -(2 ^ 63:Int))=false:=aal ();have e2:decide (i ≥ 2 ^ 63)=false:=aal ()
  rw[e1,e2,Bool.or_false]) (by rw[h1];simpa using h2) ⟨.str ⟨#[c]⟩,H,I.tok _,⟨_,rfl⟩,q⟩) hs
def ZH(K:fv):R2:=λx y H Q=>Ux K x y H Q\/Uo K x y H Q\/R5 x y H Q
def Ql:KQ X (ZH X.K):=LR.or (QP.or OK)
def Cz(its:List Value)(n j:Nat)(u:Value):Obj.mapSeq (·.setIfInBounds j u) {cls:=.type "list",data:=.seq its.toArray n}={cls:=.type "list",data:=.seq (its.set j u).toArray n}:=by simp[Obj.mapSeq]
def Inv.lst{δ:List (Addr×Obj)}{σ:St}{H:Hp}{s:Shared}{p:Addr}{xs:List V}(I:Inv X δ σ H s)(h:H p=some (.lst xs)):
  ∃(its:List Value) (n:Nat),ar xs its/\s.heap.get? p=some {cls:=.type "list",data:=.seq its.toArray n}/\xs.length<=sizeLine:=by
 have⟨z,its,n,r,e⟩:=I.aQ p _ h;exact⟨its,n,r,e,z⟩
def Inv.Ox{σ:St}{H:Hp}{p:Addr}{xs ys:List V}{its':List Value}{n':Nat}{f:Obj->Obj}(I:Inv X δ σ H s)(h:H p=some (.lst xs))
  (ho:s.heap.get? p=some {cls:=.type "list",data:=.seq its.toArray n}) (hf:f {cls:=.type "list",data:=.seq its.toArray n}={cls:=.type "list",data:=.seq its'.toArray n'}) (r:ar ys its') (hz:ys.length<=sizeLine) (t:Nat):
  Inv X δ σ (upd H p (.lst ys)) {s with heap:=s.heap.update p f,toks:=t}:=by
 have e:(s.heap.update p f).get? p=some {cls:=.type "list",data:=.seq its'.toArray n'}:=by rw[Heap.get?_update_self f ho (by rw[hf] <;> rfl),hf]
 refine I.write (x:=p) (e:=p) (by rw[h];trivial) (.inl rfl) (λb u hb q=>(Heap.get?_update_other _ _ (Ne.symm hb)).trans q) ⟨_,e⟩ ?_;exact⟨hz,its',n',r,e⟩
def M6:V->V->V->Hp->(Hp->Prop)->Prop:=λo i v H Q=>∃p xs k j,o= .ref p/\i= .int k/\H p=some (.lst xs)/\G7 xs.length k=some j/\Q (upd H p (.lst (xs.set j v)))
def KN:Rx X M6:=by
 intro δ s σ H o i v ov iv u Q I ro ri rv h;have⟨p,xs,k,j,rfl,rfl,hp,hj,q⟩:=h;cases ro;have⟨t,rfl⟩:=ri;have⟨its,n,r,ho,hz⟩:=I.lst hp;have⟨h1,h2,h3,h4⟩:=D7 hj;have hl:=r.length;have hn:=pD
 have I':Inv X δ σ (upd H p (.lst (xs.set j v))) {s with heap:=s.heap.update p (Obj.mapSeq (·.setIfInBounds j u))}:=
  I.Ox hp ho (Cz its n j u) (r.set rv j) (by rw[aaZ];exact hz) s.toks
 by_cases h0:0<=k
 ·have hk:k.toNat=j:=by rw[seqIndex_of h0 h4]at h1;exact aas h1
  exact PySem.W.ki_setAt ho h0 () (by rw[aay,<-hl];exact h4) (by rw[hk];exact⟨_,I',q⟩)
 ·have hk:(k+(its.toArray.size:Int)).toNat=j:=by rw[seqIndex_neg () h3]at h1;rw[aay,<-hl];exact aas h1
  exact PySem.W.ki_setBack ho () (by rw[aay,<-hl];exact h3) () (by rw[hk];exact⟨_,I',q⟩)
def wJ(lo hi:Option Int)(n:Nat):(sliceBounds lo hi none n).1=((HT.Ao n 0 lo:Nat):Int)/\(sliceBounds lo hi none n).2.1=((HT.Ao n n hi:Nat):Int)/\(sliceBounds lo hi none n).2.2=1:=by
 refine⟨?_,?_,rfl⟩
 ·cases lo with
  | none=>simp[sliceBounds,HT.Ao]
  | some i=>
   simp only[sliceBounds,HT.Ao,Option.getD_none,show(1:Int) > 0 by decide,if_true];by_cases h:i < 0
   ·simp only[h,if_true] <;> omega
   ·simp only[h,if_false] <;> omega
 ·cases hi with
  | none=>simp[sliceBounds,HT.Ao]
  | some i=>
   simp only[sliceBounds,HT.Ao,Option.getD_none,show(1:Int) > 0 by decide,if_true];by_cases h:i < 0
   ·simp only[h,if_true] <;> omega
   ·simp only[h,if_false] <;> omega
def uv(its:List Value)(lo hi:Option Int):slicePick its.toArray lo hi none=((its.drop (HT.Ao its.length 0 lo)).take (HT.Ao its.length its.length hi - HT.Ao its.length 0 lo)).toArray:=by have⟨h1,h2,h3⟩:=wJ lo hi its.toArray.size;unfold slicePick;rw[h1,h2,h3];simp only[sliceRange_one,pick_run,List.size_toArray] <;> rfl
def Xf(K:fv):V->Option Int->Option Int->Hp->VK->Prop:=λx lo hi H Q=>∃a xs,x= .ref a/\gu K H a xs/\∀p,H p=none->Q (.ref p) (upd H p (.lst (ui xs lo hi)))
def xw:SlR X (Xf X.K):=by intro δ s σ H x v vl vu lo hi sl Q I rx hs pl pu h;have⟨a,xs,rfl,hx,q⟩:=h;cases rx;have⟨its,r,ht,hz⟩:=I.list hx;have hlen:=r.length;refine⟨"list",_,slot_list_getitem.lookup,ht.isList.typeIs,?_⟩;refine wpAny_getItem_list_slice ht.isList hs pl pu .none (by simp) ?_ (by rw[List.size_toArray] <;> omega);rw[uv,<-hlen];refine⟨.ref s.heap.objs.size,_,I.laid (t':=s.toks) (o:=.lst (ui xs lo hi)) (λb ob q=>aak _ q) (aai _) ?_,rfl,q _ (I.aQ.fresh (aai _))⟩;exact⟨aat (ze xs lo hi) hz,_,0,(r.drop (HT.Ao xs.length 0 lo)).take (HT.Ao xs.length xs.length hi - HT.Ao xs.length 0 lo),aaO _ rfl⟩
def eD:V->Bool
 | .aP=>true
 | .bl _=>true
 | .int _=>true
 | .str _=>true
 | _=>false
def tX:V->V->Bool
 | .aP,.aP=>true
 | .bl a,.bl b=>a==b
 | .bl a,.int b=>(if a then 1 else 0)==b
 | .int a,.bl b=>a==(if b then 1 else 0)
 | .int a,.int b=>a==b
 | .str a,.str b=>a==b
 | _,_=>false
def wI{A:Around}{y x:V}{u v:Value}(ry:aq y u)(rx:aq x v)(fy:eD y=true)(fx:eD x=true):SeqAt.EqAt A s u v (tX y x):=by
 cases y with
 | aP=>
  cases ry;cases x with
  | aP=>cases rx;exact SeqAt.EqAt.same _
  | bl b=>cases rx;exact SeqAt.EqAt.none_bool b
  | int b=>have⟨t,rfl⟩:=rx;exact SeqAt.EqAt.none_int b t
  | str b=>have⟨t,rfl⟩:=rx;exact SeqAt.EqAt.none_str b t
  | _=>exact aaC (show false=true from fx) aaz
 | bl a=>
  cases ry;cases x with
  | aP=>cases rx;exact SeqAt.EqAt.bool_none a
  | bl b=>cases rx;exact SeqAt.EqAt.bool_bool a b
  | int b=>have⟨t,rfl⟩:=rx;exact SeqAt.EqAt.bool_int a b t
  | str b=>have⟨t,rfl⟩:=rx;exact SeqAt.EqAt.bool_str a b t
  | _=>exact aaC (show false=true from fx) aaz
 | int a=>
  have⟨t',rfl⟩:=ry;cases x with
  | aP=>cases rx;exact SeqAt.EqAt.int_none a t'
  | bl b=>cases rx;exact SeqAt.EqAt.int_bool a t' b
  | int b=>have⟨t,rfl⟩:=rx;exact SeqAt.EqAt.int_int a t' b t
  | str b=>have⟨t,rfl⟩:=rx;exact SeqAt.EqAt.int_str a t' b t
  | _=>exact aaC (show false=true from fx) aaz
 | str a=>
  have⟨t',rfl⟩:=ry;cases x with
  | aP=>cases rx;exact SeqAt.EqAt.str_none a t'
  | bl b=>cases rx;exact SeqAt.EqAt.str_bool a t' b
  | int b=>have⟨t,rfl⟩:=rx;exact SeqAt.EqAt.str_int a t' b t
  | str b=>have⟨t,rfl⟩:=rx;exact SeqAt.EqAt.str_str a t' b t
  | _=>exact aaC (show false=true from fx) aaz
 | _=>exact aaC (show false=true from fy) aaz
def L9(x:V)(u:Value):Bool:=match u with
 | .none=>tX .aP x
 | .bool b=>tX (.bl b) x
 | .int i _=>tX (.int i) x
 | .str z _=>tX (.str z) x
 | _=>false
def Ke{x y:V}{u:Value}(r:aq y u)(f:eD y=true):L9 x u=tX y x:=by
 cases y with
 | aP=>cases r;rfl
 | bl b=>cases r;rfl
 | int i=>have⟨t,rfl⟩:=r;rfl
 | str z=>have⟨t,rfl⟩:=r;rfl
 | _=>exact aaC (show false=true from f) aaz
def v_{x:V}:∀{xs:List V} {us:List Value},ar xs us->xs.all eD=true->us.any (L9 x)=xs.any λy=>tX y x
 | _,_,.nil,_=>rfl
 | y::xs,u::us,.cons r t,f=>by rw[abL,aaB]at f;rw[abC,abC,Ke r f.1,v_ t f.2]
def rH{A:Around}{s:Shared}{x:V}{v:Value}(rx:aq x v)(fx:eD x=true):∀{xs:List V} {us:List Value},ar xs us->xs.all eD=true->∀u∈us,SeqAt.EqAt A s u v (L9 x u)
 | _,_,.nil,_=>λu hu=>by cases hu
 | y::xs,u::us,.cons r t,f=>λu' hu=>by
  rw[abL,aaB]at f;rcases aaA.mp hu with rfl| hu
  ·rw[Ke r f.1];exact wI r rx f.1 fx
  ·exact rH rx fx t f.2 u' hu
def QT(x:V)(xs:List V):Bool:=xs.any λy=>tX y x
def Z7(K:fv)(neg:Bool):R2:=λx y H Q=>∃p xs,y= .ref p/\(gu K H p xs\/mQ K H p xs)/\eD x=true/\xs.all eD=true/\Q (.bl (if neg then !QT x xs else QT x xs)) H
def vv:jF X (compareOp .In) (Z7 X.K false):=by
 intro δ s σ H x y v u Q I rx ry h;have⟨p,xs,rfl,hq,fx,fs,q⟩:=h;cases ry;rcases hq with hq| hq
 ·have⟨its,r,pl,hz⟩:=I.list hq;refine SeqAt.in_listAt (L9 x) pl.isList (λw hw=>rH rx fx r fs w (by simpa using hw)) ⟨.bl _,H,I,rfl,?_⟩;rw[show its.toArray.any (L9 x)=its.any (L9 x) by simp,v_ r fs];exact q
 ·have⟨its,r,pl,hz⟩:=I.tuple hq;refine SeqAt.in_tupleAt (L9 x) pl (λw hw=>rH rx fx r fs w (by simpa using hw)) ⟨.bl _,H,I,rfl,?_⟩;rw[show its.toArray.any (L9 x)=its.any (L9 x) by simp,v_ r fs];exact q
def xr:dw X (.builtin "len") (λxs H Q=>∃p ys,xs=[.ref p]/\(gu X.K H p ys\/mQ X.K H p ys)/\Q (.int ys.length) H):=by
 intro δ s σ H xs us Q I r h;have⟨p,ys,rfl,hq,q⟩:=h;have⟨u,rfl,rx⟩:=kC r;cases rx;have hn:=pD;rcases hq with hq| hq
 ·have⟨its,r',pl,hz⟩:=I.list hq;have hlen:=r'.length;exact Calls.call_len_list pl.isList (by simp only[List.size_toArray] <;> omega) ⟨.int ys.length,H,I.tok _,⟨s.toks+1,by rw[List.size_toArray,hlen]⟩,q⟩
 ·have⟨its,r',pl,hz⟩:=I.tuple hq;have hlen:=r'.length;exact len_tuple pl (by simp only[List.size_toArray] <;> omega) ⟨.int ys.length,H,I.tok _,⟨s.toks+1,by rw[List.size_toArray,hlen]⟩,q⟩
def vR:dw X (.builtin "len") (λxs H Q=>∃z,xs=[.str z]/\z.length<=sizeLine/\Q (.int z.length) H):=by intro δ s σ H xs us Q I r h;have⟨z,rfl,hz,q⟩:=h;have⟨u,rfl,t,rfl⟩:=kC r;have hn:=pD;exact len_str () ⟨.int z.length,H,I.tok _,⟨_,rfl⟩,q⟩
def dw.or{f:Value}{r r':List V->Hp->VK->Prop}(h:dw X f r)(h':dw X f r'):dw X f (λxs H Q=>r xs H Q\/r' xs H Q):=by
 intro δ s σ H xs us Q I rs q;rcases q with q| q
 ·exact h δ s σ H xs us Q I rs q
 ·exact h' δ s σ H xs us Q I rs q
def xN:dw X (.type "list") (λxs H Q=>∃p ys,xs=[.ref p]/\(gu X.K H p ys\/mQ X.K H p ys)/\∀l,H l=none->Q (.ref l) (upd H l (.lst ys))):=by
 intro δ s σ H xs us Q I r h;have⟨p,ys,rfl,hq,q⟩:=h;have⟨u,rfl,rx⟩:=kC r;cases rx
 have fin:∀(its:List Value),ar ys its->ys.length<=sizeLine->∀(h':Heap) (c':Nat),(∀b o',s.heap.get? b=some o'->h'.get? b=some o')->
   h'.get? s.heap.objs.size=some {cls:=.type "list",dict:=none,data:=.seq its.toArray c',slots:= #[]}->EP X δ σ Q (.ref s.heap.objs.size) {s with heap:=h'}:=λits r' hz h' c' kp e=>
  ⟨.ref s.heap.objs.size,_,I.laid (t':=s.toks) kp (aai _) (show bZ X.prog X.w _ h' _ (.lst ys) from⟨hz,its,c',r',e⟩),rfl,q _ (I.aQ.fresh (aai _))⟩
 rcases hq with hq| hq
 ·have⟨its,r',pl,hz⟩:=I.list hq;have hlen:=r'.length;have⟨o,ho,hc,n,hd⟩:=pl.isList;exact call_list_seq p (.inl rfl) ho hc hd (λh' c' kp e=>fin its r' hz h' c' kp e) (by simp only[List.size_toArray] <;> omega)
 ·have⟨its,r',pl,hz⟩:=I.tuple hq;have hlen:=r'.length;have⟨o,ho,hc,n,hd⟩:=pl;exact call_list_seq p (.inr rfl) ho hc hd (λh' c' kp e=>fin its r' hz h' c' kp e) (by simp only[List.size_toArray] <;> omega)
def VN(K:fv)(T:String)(x:V)(H:Hp):Prop:=match x with
 | .str _=>T="str"
 | .int _=>T="int"
 | .ref p=>(T="list"/\∃xs,gu K H p xs)\/(T="tuple"/\∃o,K.lookup p=some o/\o.cls= .type "tuple"/\o.dict=none)\/
   (T="dict"/\((∃kvs,H p=some (.dK kvs))\/∃kvs,H p=some (.dT kvs)))\/(T="set"/\∃S n,H p=some (.set S n))
 | _=>False
def HV{σ:St}{H:Hp}{T:String}{x:V}{v:Value}(I:Inv X δ σ H s)(r:aq x v)(ty:VN X.K T x H):
  s.TypeIs v T/\∀a,v= .ref a->∃ob,s.heap.get? a=some ob/\ob.dict=none:=by
 cases x with
 | str z=>
  have⟨t,rfl⟩:=r;cases(show T="str" from ty);exact⟨typeIs_str s z t,λ_ e=>nomatch e⟩
 | int i=>
  have⟨t,rfl⟩:=r;cases(show T="int" from ty);exact⟨typeIs_int s i t,λ_ e=>nomatch e⟩
 | ref p=>
  cases r;rcases ty with ⟨rfl,xs,hq⟩| ⟨rfl,o,hk,hc,hd⟩| ⟨rfl,hk⟩| ⟨rfl,S,n,hk⟩
  ·have⟨its,_,pl,_⟩:=I.list hq;refine⟨pl.isList.typeIs,λa e=>?_⟩;cases e;have⟨o,n,e,c,hd,_⟩:=pl;exact⟨o,e,hd⟩
  ·refine⟨⟨o,I.qp p o hk,hc⟩,λa e=>?_⟩;cases e;exact⟨o,I.qp _ o hk,hd⟩
  ·have z:∃o,s.heap.get? p=some o/\o.ExactDict:=by
    rcases hk with ⟨kvs,hk⟩| ⟨kvs,hk⟩
    ·have⟨_,_,_,_,o,_,_,e,ex,_⟩:=I.aQ p _ hk;exact⟨o,e,ex⟩
    ·have⟨_,_,_,_,o,_,_,e,ex,_⟩:=I.aQ p _ hk;exact⟨o,e,ex⟩
   have⟨o,e,ex⟩:=z;refine⟨⟨o,e,ex.1⟩,λa e2=>?_⟩;cases e2;exact⟨o,e,ex.2.1⟩
  ·have⟨o,_,_,_,e,ex,_⟩:=I.aQ p _ hk;refine⟨⟨o,e,ex.1⟩,λa e2=>?_⟩;cases e2;exact⟨o,e,ex.2.1⟩
 | _=>exact False.elim ty
def W5(K:fv)(T:String)(r:V->List V->Hp->VK->Prop)(to:TE):TE:=λσ H Q=>to σ H λx H1=>VN K T x H1/\r x [] H1 Q
def tBM(K:fv)(T:String)(r:V->List V->Hp->VK->Prop)(to:TE)(t:TA):TE:=λσ H Q=>to σ H λx H1=>VN K T x H1/\t σ H1 λxs H2=>r x xs H2 Q
variable{o e:Expr}{es:List Expr}{to:TE}{t:TA}{name:Str}{apos aU:Pos}{T id:String}{r:V->List V->Hp->VK->Prop}
def Om(pa:PlainAttrs T)(slot:Slot T name id)(YY:typeOf (.builtin id)=pure (.type "method_descriptor"))(hm:Y5 X id r)(ho:PE X o to)
  (ng:attributeBase o name X.env (eval o X.env)=eval o X.env:=by rfl) (nG:(apos.endLine==aU.line)=true:=by rfl):PE X (.Call (.Attribute o name apos) [] [] aU) (W5 X.K T r to):=by
 intro δ s σ H Q I h;refine wpAny_Call_method0_late ng nG (bA (ho δ s σ H _ I h) λv s1 xz=>?_);have⟨x,H1,I1,r1,ty,q1⟩:=xz;have⟨h1,h2⟩:=HV I1 r1 ty;exact⟨T,id,pa,slot,YY,h1,h2,Calls.callWith_builtin rfl (PySem.evalArgs_none (hm δ s1 σ H1 x [] v [] Q I1 r1 .nil q1))⟩
def Nk(pa:PlainAttrs T)(slot:Slot T name id)(YY:typeOf (.builtin id)=pure (.type "method_descriptor"))(hm:Y5 X id r)(ho:PE X o to)(ha:PA X (e::es) t)
  (ng:attributeBase o name X.env (eval o X.env)=eval o X.env:=by rfl)
  (J_:((backTo aU (starEach (e::es) X.env)).all (λx=> !x.1)&&(backToKw aU (keywordEach [] X.env)).all (λx=>x.1.isSome)
   &&decide ((e::es).length+([]:List Keyword).length+(if ([]:List Keyword).isEmpty then 0 else 1) < 30))=true:=by rfl)
  (nG:(apos.endLine==aU.line)=true:=by rfl) (hs:starEach (e::es) X.env=(false,eval e X.env)::starEach es X.env:=by rfl) (qX:(backTo aU (starEach es X.env)).any (·.1)=false:=by rfl):
  PE X (.Call (.Attribute o name apos) (e::es) [] aU) (tBM X.K T r to t):=by
 intro δ s σ H Q I h;refine wpAny_Call_method_late ng J_ nG rfl (bA (ho δ s σ H _ I h) λv s1 xz=>?_);have⟨x,H1,I1,r1,ty,q1⟩:=xz;have⟨h1,h2⟩:=HV I1 r1 ty;refine⟨T,id,pa,slot,YY,h1,h2,?_⟩;have hA:=ha aU δ s1 σ H1 _ I1 q1;rw[hs]at hA⊢;refine Calls.callWith_builtin (by show(false|| (backTo aU (starEach es X.env)).any (·.1))=false;rw[qX] <;> rfl) (Calls.evalArgs_plain ?_);exact bA hA λus s2 ⟨vs,H2,I2,r2,q2⟩=>hm δ s2 σ H2 x vs v us Q I2 r1 r2 q2
end
def XD(X:Cx)(id:String)(r:V->List V->Hp->VK->Prop):Prop:=
 ∀(δ:List (Addr×Obj)) (s:Shared) (σ:St) (H:Hp) (x:V) (xs:List V) (v:Value) (us:List Value) (Q:VK),Inv X δ σ H s->aq x v->ar xs us->r x xs H Q->
  wpAny (model X.prog X.w) X.A (call (.builtin id) (v::us)) (EP X δ σ Q) X.xe s
def ar.one:∀{x:V} {us:List Value},ar [x] us->∃u,us=[u]/\aq x u
 | _,_,.cons r .nil=>⟨_,rfl,r⟩
def ar.zero:∀{us:List Value},ar [] us->us=[]
 | _,.nil=>rfl
def ar.rep{xs:List V}{us:List Value}(h:ar xs us):∀k:Nat,ar (List.replicate k xs).flatten (List.replicate k us).flatten
 | 0=>.nil
 | k+1=>by rw[abi,abi,abx,abx];exact ar.append h (ar.rep h k)
def vM(its:List Value):∀(k:Nat) (acc:List Value),
  List.foldl (λx1 x2=>x1++x2) acc.toArray (List.replicate k its.toArray)=(acc++(List.replicate k its).flatten).toArray
 | 0,acc=>by simp
 | k+1,acc=>by
  have e:acc.toArray++its.toArray=(acc++its).toArray:=by simp
  have e2:(acc++its)++(List.replicate k its).flatten=acc++(List.replicate (k+1) its).flatten:=by rw[abi,abx,aaJ]
  rw[<-e2,<-vM its k (acc++its),<-e,abi,abA]
section
variable{σ:St}{H:Hp}{l b:Addr}{xs ys zs:List V}
def Inv.TH{its':List Value}{f:Array Value->Array Value}{t':Nat}(I:Inv X δ σ H s)(hH:H l=some (.lst xs))
  (e:s.heap.get? l=some {cls:=.type "list",data:=.seq its.toArray n}) (hf:f its.toArray=its'.toArray) (hv:ar ys its') (hz:ys.length<=sizeLine):
  Inv X δ σ (upd H l (.lst ys)) {s with heap:=s.heap.update l (Obj.mapSeq f),toks:=t'}:=by
 have q:=PySem.IsL.update e f;rw[hf]at q;refine I.write (x:=l) (e:=l) (by rw[hH];exact trivial) (.inl rfl) (λb' u hb hu=>(Heap.get?_update_other s.heap (Obj.mapSeq f) (Ne.symm hb)).trans hu) ⟨_,q⟩ ?_;exact⟨hz,its',_,hv,q⟩
def Inv.Qv{t':Nat}(I:Inv X δ σ H s)(hv:ar ys its)(hz:ys.length<=sizeLine):
  Inv X δ σ (upd H s.heap.objs.size (.lst ys)) {s with heap:=s.heap.push {cls:=.type "list",data:=.seq its.toArray},toks:=t'}:=
 I.laid (λ_ _ q=>aak _ q) (aai _) ⟨hz,its,0,hv,aaO _ rfl⟩
def Inv.fresh(I:Inv X δ σ H s):H s.heap.objs.size=none:=I.aQ.fresh (aai _)
def Inv.Jl(I:Inv X δ σ H s)(hH:H l=some (.lst xs)):xs.length<=sizeLine/\∃(its:List Value) (n:Nat),ar xs its/\xs.length=its.length/\s.heap.get? l=some {cls:=.type "list",data:=.seq its.toArray n}:=by have⟨z,its,n,r,e⟩:=I.aQ l _ hH;exact⟨z,its,n,r,r.length,e⟩
def Jw(h:n<=sizeLine):Builtin.List.listTooLong n=false:=by unfold Builtin.List.listTooLong;exact aal ()
end
section
def CW:V->List V->Hp->VK->Prop:=λx vs H Q=>∃l xs y,x= .ref l/\vs=[y]/\H l=some (.lst xs)/\xs.length < sizeLine/\Q .aP (upd H l (.lst (xs++[y])))
def uP:XD X "list.append" CW:=by intro δ s σ H x vs v us Q I rx rv h;have⟨l,xs,y,rfl,rfl,hH,hz,q⟩:=h;cases rx;have⟨u,rfl,ru⟩:=rv.one;have⟨z,its,n,r,hl,e⟩:=I.Jl hH;refine call_meets F.slot_list_append ⟨_,e,rfl⟩ F.entry_list_append (F.args_list_append_2 _ _) (PySem.list_append l its.toArray n u (by rw[aay];omega)) ⟨e,?_⟩;refine⟨.aP,_,I.TH (its':=its++[u]) hH e (by simp) (r.append (.cons ru .nil)) ?_,rfl,q⟩;rw[aag,List.length_singleton];omega
def IS:V->List V->Hp->VK->Prop:=λx vs H Q=>∃l xs,x= .ref l/\vs=[]/\H l=some (.lst xs)/\Q .aP (upd H l (.lst []))
def GQ:XD X "list.clear" IS:=by intro δ s σ H x vs v us Q I rx rv h;have⟨l,xs,rfl,rfl,hH,q⟩:=h;cases rx;have hus:=rv.zero;subst hus;have⟨z,its,n,r,hl,e⟩:=I.Jl hH;refine call_meets F.slot_list_clear ⟨_,e,rfl⟩ F.entry_list_clear (F.args_list_clear_1 _) (AutoSeq1.list_clear_list_0 l its.toArray n (by rw[aay];omega)) ⟨e,?_⟩;exact⟨.aP,_,I.TH (its':=[]) (ys:=[]) hH e rfl .nil (abE _),rfl,q⟩
def PY:R2:=λx y H Q=>∃l b xs zs,x= .ref l/\y= .ref b/\H l=some (.lst xs)/\H b=some (.lst zs)/\xs.length+zs.length<=sizeLine/\∀p,H p=none->Q (.ref p) (upd H p (.lst (xs++zs)))
def Ko:jF X (binaryOp .Add) PY:=by
 intro δ s σ H x y v u Q I rx ry h;have⟨l,b,xs,zs,rfl,rfl,hH,hB,hz,q⟩:=h;cases rx;cases ry;have⟨z,its,n,r,hl,e⟩:=I.Jl hH;have⟨z2,Jd,n2,r2,KA,e2⟩:=I.Jl hB;refine PySem.P.add_list e e2 ?_ (by rw[aay,aay];omega);have ea:its.toArray++Jd.toArray=(its++Jd).toArray:=by simp
 rw[ea];exact⟨.ref _,_,I.Qv (t':=s.toks) (r.append r2) (by rw[aag];omega),rfl,q _ I.fresh⟩
def OO:R2:=λx y H Q=>∃l k xs,x= .ref l/\y= .int k/\H l=some (.lst xs)/\ -(2 ^ 63)<=k/\k < 2 ^ 63/\xs.length * k.toNat<=sizeLine/\
 ∀p,H p=none->Q (.ref p) (upd H p (.lst (List.replicate k.toNat xs).flatten))
def MV{α:Type}(xs:List α)(k:Nat):(List.replicate k xs).flatten.length=k * xs.length:=by
 induction k with
 | zero=>simp
 | succ k ih=>rw[abi,abx,aag,ih,Nat.succ_mul,Nat.add_comm]
def GW:jF X (binaryOp .Mult) OO:=by
 intro δ s σ H x y v u Q I rx ry h;have⟨l,k,xs,rfl,rfl,hH,h1,h2,hz,q⟩:=h;cases rx;have⟨t,rfl⟩:=ry;have⟨z,its,n,r,hl,e⟩:=I.Jl hH;have hlen:its.toArray.size * k.toNat<=sizeLine:=by rw[aay,<-hl];exact hz
 have Wo:¬its.toArray.size * k.toNat > (2 ^ 63 - 1) / 8:=by
  have:(sizeLine:Nat)<=(2 ^ 63 - 1) / 8:=@_
  omega
 have MH:¬(!Builtin.List.listFitsIndex k)=true:=by rw[fitsIndex_both h1 h2];exact aaz
 have UD:¬Builtin.List.listTooLong (its.toArray.size * k.toNat)=true:=by rw[Jw hlen];exact aaz
 have AK:List.foldl (λx1 x2=>x1++x2) #[] (List.replicate (if its.toArray.isEmpty=true then 0 else k.toNat) its.toArray)=(List.replicate k.toNat its).flatten.toArray:=by
  have f0:∀m:Nat,List.foldl (λx1 x2=>x1++x2) #[] (List.replicate m its.toArray)=(List.replicate m its).flatten.toArray:=λm=>by have:=vM its m [];rw[aaH]at this;exact this
  rw[f0];cases its with
  | nil=>simp
  | cons a r'=>rw[if_neg (by simp)]
 refine wpAny_binaryOp_repeat_ref (T:="list") (U:="int") @_ ⟨_,e,rfl⟩ (λs'=>typeIs_int s' k t) noFill_list_mul F.fills_int_mul F.slot_int_rmul repeat_list F.slot_int_index.lookup
  (call_meets F.slot_int_rmul (typeIs_int s k t) F.entry_int_rmul (F.args_int_rmul_2 _ _) (int___rmul___int_list k t l its.toArray n)
   ⟨e,rfl,⟨_,e,rfl⟩,call_meets F.slot_list_mul ⟨_,e,rfl⟩ F.entry_list_mul (F.args_list_mul_2 _ _) (AutoListH.list___mul___list_int_3 l its.toArray n k t MH Wo UD) ⟨e,?_⟩⟩)
 rw[AK];exact⟨.ref _,_,I.Qv (t':=s.toks) (r.rep k.toNat) (by rw[MV,Nat.mul_comm];exact hz),rfl,q _ I.fresh⟩
end
end L2
namespace Att
open PySem PySem.W PySem.Calls PyProof.Rows
def qt{P:Params}{h:Heap}:∀(ns:List Int) (vs:List Value),WellAll P h vs (ns.map WData.int)->IntsAre vs ns:=by
 intro ns
 induction ns with
 | nil=>
  intro vs w;rw[List.map_nil]at w;cases w;exact .nil
 | cons n ns ih=>
  intro vs w;rw[aaM]at w;cases w with
  | cons a b=>
   cases a;exact .cons _ _ (ih _ b)
def Eh{l:OpenLaw}{n:Nat}(hn:l.most=some n){P:Params}{h:Heap}{args:List WData}{vals:List Value}
  (Ln:l.row.toRowW.claim.pre args=true) (WT:WellAll P h vals args):
  ∃a vs ns,vals=[Value.ref a]/\args=[WData.list (ns.map WData.int)]/\h.get? a=some {cls:=.type "list",data:=.seq vs.toArray}/\IntsAre vs ns/\ns.length<=n:=by
 have hsh:WShape.hasAll [] args [.list .int]=true:=(pre_splitW Ln).1;have hc:l.pre.holds [] {args:=args}=true:=(pre_splitW Ln).2;have⟨d,r,rfl,h1,h2⟩:=hasAllW_cons hsh;obtain rfl:=hasAllW_nil h2;have⟨xs,rfl,h3⟩:=hasW_list h1;have⟨ns,rfl⟩:=items_int h3;have hlen:ns.length<=n:=by
  unfold OpenLaw.pre at hc;have h4:(WTm.not (.lt (.lit (.int (n:Int))) (.len (.arg 0)))).holds [] {args:=[.list (ns.map .int)]}=true:=by have h4:=(holds_andW hc).1;rw[hn]at h4;exact h4
  have h5:=condW_of h4 (w_not (w_lt w_lit (w_len_list (w_arg rfl))));rw[aae]at h5;refine Nat.le_of_not_lt λq=>?_;have q':(n:Int) < ((ns.length:Nat):Int):=()
  first
   | (rw[aau q']at h5;exact aaC h5 @_)
   | (simp at h5;omega)
 cases WT with
 | cons w1 w2=>
  cases w2;cases w1 with
  | list ho z5=>exact⟨_,_,ns,rfl,rfl,ho,qt ns _ z5,hlen⟩
def EK(l:OpenLaw)(args:List WData):l.row.toRowW.claim.post args (.bool true) args=true:=
 postW_of (r:=l.row.toRowW) (X:=(true==true))
  (show WShape.has [] (.bool true) .bool=true by first| rfl| decide| simp[WShape.has,WShape.arms,WShape.armsAll])
  (show(WTm.eq .res (.lit (.bool true))).value [] {args:=args,res:=some (.bool true),after:=args}=some (.bool (true==true)) from w_eq_bool (w_res rfl) w_lit) rfl
def zQ{l:OpenLaw}{n:Nat}{q:Program}{loose:List Str}{XP:(Str->Option Value)->Heap->Prop}{YP:World->Heap->Prop}{d:DefRec}
  (hn:l.most=some n) (UE:d.params.defaults=[])
  (call:∀(w:World) (s₀ s₁:Shared) (mg mb:Str->Option Value) (fa:Addr) (o:Obj) (pm cd doc:Value) (a:Addr) (vs:List Value) (ns:List Int),
   Ground q loose [] XP w s₀ mg mb s₁.heap->YP w s₁.heap->
   s₁.heap.get? fa=some o->o.data= .func (docDef d.name d.params d.body d.scope pm cd doc)->s₁.heap.CodeRec cd d.name->mg d.name=some (.ref fa)->
   s₁.heap.get? a=some {cls:=.type "list",data:=.seq vs.toArray}->IntsAre vs ns->ns.length<=n->s₁.gens= #[]->
   codeAny (model l.prog w) callerA (.call (.ref fa) ⟨[.ref a],[]⟩) (λr s'=>r= .ok (.ret (.bool true))/\OldK s₁.heap s'.heap/\s'.os=s₁.os/\AllBare s'.gens) s₁):
  WalkO q loose XP YP l.row.toRowW d [] (λf vs=>PySem.call f vs):=by
 intro w s₀ s₁ mg mb G Y fa o pm cd doc dV kV ho hd JR hD LG hg args vals as Ln aeA hrd WT hlo;obtain rfl:dV= .none:=Dflts.none hD UE;obtain rfl:kV= .none:=Dflts.noKw hD;have⟨a,vs,ns,rfl,rfl,Qd,hints,hlen⟩:=Eh hn Ln WT;refine enter_call (codeAny_mono (call w s₀ s₁ mg mb fa o pm cd doc a vs ns G Y ho (fd_plain hd) JR LG Qd hints hlen hg) λr s' hq=>?_);have⟨rfl,h2,h3,h4⟩:=hq;exact⟨.inl ⟨.bool true,.bool true,[],rfl,λ_=>rfl,.bool true,EK l _,λ_=>⟨List.Pairwise.nil,λ_ hm=>(nomatch hm)⟩⟩,h2,h3,h4⟩
end Att
namespace L2
open PySem PySem.Spec PyProof.Rows
def uQ:∀{vs:List Value} {ns:List Int},IntsAre vs ns->ar (ns.map V.int) vs
 | _,_,.nil=>.nil
 | _,_,.cons n t h=>.cons ⟨t,rfl⟩ (uQ h)
def OG(H:Hp):Prop:=∀b,H b=none\/∃o xs,H b=some (.yp o (.lst xs))
def Hv{P:Program}{w:World}{K:fv}{mg mb:Str->Option Value}{CX:AH}{k:Nat}{fa a:Addr}{fd:FuncData}{x:Str}{sp:Sp}{s₁:Shared}{vs:List Value}{ns:List Int}
  (KX:K.In s₁.heap) (ZI:s₁.heap.Ns mainGlobals mg) (hb:s₁.heap.Ns builtinsNs mb) (hbb:∀x:Str,x≠"__name__"->mb x=bootBuiltins x) (V0:s₁.heap.NoLimit) (hg:s₁.gens= #[])
  (ha:s₁.heap.get? a=some {cls:=.type "list",data:=.seq vs.toArray}) (hi:IntsAre vs ns) (hl:ns.length<=sizeLine) (hr:bU k callerA)
  (F:∀base:Heap,K.In base->base.Ns mainGlobals mg->ak P w K mg base CX k fa fd [x] sp) (RU:∀(s:Shared) (u:Value),BindsTo s fd ⟨[u],[]⟩ [(x,u)])
  (Nd:∀H:Hp,OG H->gu K H a (ns.map V.int)->sp [.ref a] H (λv _=>v= .bl true) λ_ _ _=>False)
  (VU:∀H e s',CX [] H s₁ (λ_ _ _=>False) e s'->False):
  codeAny (model P w) callerA (.call (.ref fa) ⟨[.ref a],[]⟩) (λr s'=>r= .ok (.ret (.bool true))/\OldK s₁.heap s'.heap/\s'.os=s₁.os/\AllBare s'.gens) s₁:=by
 have rv:=uQ hi;have XC:=hi.length
 have core:∀H:Hp,OG H->gu K H a (ns.map V.int)->lh P w H s₁.heap->(∀b,H b≠none->b=a)->(H a≠none->K.lookup a=none)->
   codeAny (model P w) callerA (.call (.ref fa) ⟨[.ref a],[]⟩) (λr s'=>r= .ok (.ret (.bool true))/\OldK s₁.heap s'.heap/\s'.os=s₁.os/\AllBare s'.gens) s₁:=by
  intro H hO hS aQ hA hK;have D1:∀{b:Addr} {o:Obj},s₁.heap.get? b=some o->H b=none->(xq s₁.heap H).get? b=some o:=λe n=>Ir e n;have TU:∀{b:Addr} {o:Obj} {es:Array DictEntry} {ep:Nat},s₁.heap.get? b=some o->o.data= .dict es ep->H b=none:=λ{b o es ep} e d=>by
   cases q:H b with
   | none=>rfl
   | some u=>
    have e':b=a:=hA b (by rw[q];simp);subst e';rw[ha]at e;cases e;have d':Data.seq vs.toArray _=Data.dict es ep:=d;cases d'
  have Va:∀{b:Addr} {m:Str->Option Value},s₁.heap.Ns b m->(xq s₁.heap H).Ns b m:=λ{b m} ⟨o,es,ep,e,d,r⟩=>⟨o,es,ep,D1 e (TU e d),d,r⟩
  have hKb:K.In (xq s₁.heap H):=λb o e=>D1 (KX b o e) (by
   cases q:H b with
   | none=>rfl
   | some u=>
    have e':b=a:=hA b (by rw[q];simp);subst e'
    rw[hK (by rw[q];simp)]at e;cases e)
  have hM:Mod K mg (xq s₁.heap H):=⟨hKb,Va ZI,⟨mb,Va hb,hbb⟩,let ⟨mc,h1,h2⟩:=V0;⟨mc,Va h1,h2⟩⟩;have e0:BF P w K mg (xq s₁.heap H) callerA [] s₁ H:=⟨rfl,hM,λb o e=>Lf e,Nat.le_of_eq (Er _ _),trivial,λb hb=>absurd (show b∈([]:List Addr) from hb) (by simp),aQ,.of_eq hg⟩;refine codeAny_mono ((F _ hKb (Va ZI)).run callerA [] s₁ H ⟨[.ref a],[]⟩ [.ref a] [.ref a] _ _ hr e0 (RU s₁ (.ref a)) (.cons rfl .nil) (Nd H hO hS)) λr s' h=>?_;cases r with
  | error e=>exact(VU H e s' h).elim
  | ok fl=>
   cases fl with
   | next=>exact False.elim h
   | brk=>exact False.elim h
   | cont=>exact False.elim h
   | ret u=>
    have⟨v,H',os,bare,un,WW,r',q⟩:=h;have q':v= .bl true:=q;subst q';obtain rfl:u=Value.bool true:=r';refine⟨rfl,OldK.of_keep λb o e=>?_,os,bare⟩;cases q:H b with
    | none=>exact un.keep b o e q (by intro z;exact absurd (show b∈([]:List Addr) from z) (by simp)) (by simp)
    | some u=>
     rcases hO b with z| ⟨ob,xs,z⟩
     ·rw[q]at z;cases z
     ·have z2:=un.oY b ob _ z;have⟨e1,_⟩:=aQ b _ z;have⟨e2,_⟩:=WW b _ z2;rw[e]at e1;cases e1;exact e2
 cases hk:K.lookup a with
 | some o=>
  have e:=KX a o hk;rw[ha]at e;cases e;refine core (λ_=>none) (λ_=>.inl rfl) (.inr ⟨_,vs.toArray,_,hk,rfl,rfl,rfl,by rw[List.size_toArray,XC];exact hl,by simpa using rv⟩) (λb u z=>by have z':(none:Option HO)=some u:=z;cases z') (λb z=>absurd rfl z) λz=>absurd rfl z
 | none=>
  refine core (λb=>if b=a then some (.yp {cls:=.type "list",data:=.seq vs.toArray} (.lst (ns.map V.int))) else none) (λb=>?_) (.inl (.inr ⟨{cls:=.type "list",data:=.seq vs.toArray},aar rfl⟩)) (λb u z=>?_) (λb z=>?_) λ_=>hk
  ·by_cases hb:b=a
   ·exact .inr ⟨_,_,aar hb⟩
   ·exact .inl (aaq hb)
  ·by_cases hb:b=a
   ·have z':=(aar hb).symm.trans z;cases z';subst hb;exact⟨ha,by rw[aae];exact hl,vs,_,rv,ha⟩
   ·have z':=(aaq hb).symm.trans z;cases z'
  ·by_cases hb:b=a
   ·exact hb
   ·exact aaC (aaq hb) z
def vX{l:PySem.W.OpenLaw}{n k:Nat}{q:Program}{loose:List Str}{XP:(Str->Option Value)->Heap->Prop}{YP:World->Heap->Prop}{d:DefRec}{K:Params->fv}{CX:World->AH}{sp:World->Sp}{x:Str}
  (hn:l.most=some n) (QV:n<=sizeLine) (UE:d.params.defaults=[]) (hr:bU k callerA)
  (hY:∀(w:World) (h:Heap),YP w h->(K w.params).In h)
  (F:∀(w:World) (mg:Str->Option Value) (fa:Addr) (h:Heap),(K w.params).In h->h.Ns mainGlobals mg->mg d.name=some (.ref fa)->
   ∃fd:FuncData,(∀(s:Shared) (u:Value),BindsTo s fd ⟨[u],[]⟩ [(x,u)])/\
    ∀base:Heap,(K w.params).In base->base.Ns mainGlobals mg->ak l.prog w (K w.params) mg base (CX w) k fa fd [x] (sp w))
  (Nd:∀(w:World) (H:Hp) (a:Addr) (ns:List Int),ns.length<=n->OG H->gu (K w.params) H a (ns.map V.int)->sp w [.ref a] H (λv _=>v= .bl true) λ_ _ _=>False)
  (VU:∀(w:World) (H:Hp) (s:Shared) (e:Value) (s':Shared),CX w [] H s (λ_ _ _=>False) e s'->False):
  PySem.W.WalkO q loose XP YP l.row.toRowW d [] (λf vs=>PySem.call f vs):=by
 refine Att.zQ hn UE λw s₀ s₁ mg mb fa o pm cd doc a vs ns G Y ho hd JR LG Qd hints hlen hg=>?_;have KX:=hY w _ Y;have⟨fd,hb,hF⟩:=F w mg fa _ KX G.T.g LG;exact Hv KX G.T.g G.T.b G.T.builtins G.T.nolimit hg Qd hints (aat hlen QV) hr hF hb (λH hO hS=>Nd w H a ns hlen hO hS) λH e s'=>VU w H s₁ e s'
end L2
/- THE XW K7 (shape;LID,My.* are Tj):
  My.Adr:a structure of LV addresses Xe VE Tg names (classes,FH);My.Txt K t:a structure (Prop) of LV equations qu K;
  My.AW:{K} {implicit addresses ..} (e1:nsIn K mainGlobals "law"=some (some (.ref f))) (e2:K.lookup f=some ⟨oc,od,.func (fnOf "law" "law" params body scope dV kV doc pm an bq ct),sl⟩) (e3:codeIn K bq "law"=true) .. :∃t,My.Txt K t
set_option maxRecDepth 100000 in
set_option maxHeartbeats 0 in
def PySem.Challenge.cw_LID_holds : PySem.Challenge.rw_LID.Holds := by
 w_on;o_law;k_head;(case hw=>w_witness2)
 k_fill
 refine L2.vX (l:=PySem.Challenge.rw_LID) (n:=63) (k:=40) (x:="script") (CX:=fun w=>..) (sp:=fun _=>My.Pb) rfl @_ rfl ⟨rfl,@_,@_⟩ (fun w h Y=>PySem.W.kIn_of Y) ?F ?S ?C
 case F=>
  intro w mg fa h KX G LG;have T:∃t,My.Txt (L2.Xw KX) t:=by
   dsimp only[L2.Xw]
   refine' My.AW ?e1 ?e2 ?e3 ..
   (case e1=>PySem.W.k_is)
   (case e2=>PySem.W.k_is)
   ..
  have⟨t,T⟩:=T;have e0:=LG.symm.trans (PySem.W.mg_of KX G T.law);cases e0;exact⟨_,λs u=>.of_eq rfl,λbase kb nb=>My.Cj T kb nb⟩
 case S=>exactλw H a ns hl hO hS=>..
 case C=>exact ..
(LV tactic k_is has no namespace:write k_is) -/
namespace L2
open PySem PySem.Spec PyProof.Rows
variable{P:Program}{w:World}{mg:Str->Option Value}{base:Heap}{qual:Str}{f x:Addr}{fd:FuncData}{ps N xs ys:List Str}{A:Around}{s:Shared}{env:Env}{outer:List Env}{X:Cx}{δ:List (Addr×Obj)}{scope:Scope}{Μ:List Nat}
def kI(s:Stmt):Arguments:=match s with
 | .FunctionDef _ a _ _ _ _ _ _ _ _=>a
 | _=>{posonlyargs:=[],args:=[],vararg:=none,kwonlyargs:=[],kw_defaults:=[],kwarg:=none,defaults:=[]}
def hJ(s:Stmt):List Stmt:=match s with
 | .FunctionDef _ _ b _ _ _ _ _ _ _=>b
 | _=>[]
def τ(s:Stmt):Scope:=match s with
 | .FunctionDef _ _ _ _ _ _ sc _ _ _=>sc
 | _=>{kind:=.function,names:=[],isGenerator:=false,isCoroutine:=false}
abbrev VA:AH:=λ_ _ _ _ _ _=>False
abbrev E0:XK:=λ_ _ _=>False
structure c_(K:fv)(x qual:Str)(st:Stmt)(f:Addr)(fd:FuncData):Prop where
 ex:∃(oc:Value) (od:Option Addr) (kV doc pm:Value) (an:Option Addr) (bq ct:Value) (Ia:Array (Option Value)),
  fd=PySem.W.fnOf x qual (kI st) (hJ st) (τ st) .none kV doc pm an bq ct/\K.lookup f=some ⟨oc,od,.func fd,Ia⟩/\PySem.W.codeIn K bq qual=true
 kp:PySem.W.keepIn K (.ref f)=true
section
variable{K:fv}
def c_.binds{x:Str}{st:Stmt}(F:c_ K x qual st f fd)
  (h:∀(kV doc pm:Value) (an:Option Addr) (bq ct:Value) (us:List Value),us.length=ps.length->bindArgs (PySem.W.fnOf x qual (kI st) (hJ st) (τ st) .none kV doc pm an bq ct) ⟨us,[]⟩=pure (ps.zip us)):jE K fd ps []:=by
 have⟨oc,od,kV,doc,pm,an,bq,ct,Ia,rfl,lk,JR⟩:=F.ex;exact .all (h kV doc pm an bq ct)
def Jm{x:Str}{st:Stmt}{oc:Value}{od an:Option Addr}{Ia:Array (Option Value)}{kV doc pm bq ct:Value}(l:K.lookup f=some ⟨oc,od,.func (PySem.W.fnOf x qual (kI st) (hJ st) (τ st) .none kV doc pm an bq ct),Ia⟩)
  (c:PySem.W.codeIn K bq qual=true) (k:PySem.W.keepIn K (.ref f)=true):c_ K x qual st f (PySem.W.fnOf x qual (kI st) (hJ st) (τ st) .none kV doc pm an bq ct):=⟨⟨oc,od,kV,doc,pm,an,bq,ct,Ia,rfl,l,c⟩,k⟩
end
def DV{k:Nat}(hr:bU k A):A.units+1 < cLine:=aaY (Nat.add_le_add_left (by decide:1<=64) _) hr.units
def Bx{A B:Prop}(h:B):if false=true then A else B:=by rw[aaq aaz];exact h
def BH{A B:Prop}(h:A):if true=true then A else B:=by rw[aar rfl];exact h
def dQ(H H':Hp):Prop:=∀b o,H b=some o->H' b=some o
def dQ.refl(H:Hp):dQ H H:=λ_ _ h=>h
def dQ.trans{H H1 H2:Hp}(a:dQ H H1)(b:dQ H1 H2):dQ H H2:=λc o h=>b c o (a c o h)
def dQ.free{H H':Hp}(e:dQ H H'){l:Addr}(h:H' l=Option.none):H l=Option.none:=by
 cases q:H l with
 | none=>rfl
 | some o=>
  rw[e l o q]at h;cases h
def dQ.seq{K:fv}{H H':Hp}{a:Addr}{xs:List V}(e:dQ H H')(h:gu K H a xs):gu K H' a xs:=by
 rcases h with (h| ⟨o,h⟩)| h
 ·exact .inl (.inl (e _ _ h))
 ·exact .inl (.inr ⟨o,e _ _ h⟩)
 ·exact .inr h
section
def Lu(B:Heap)(l:List Env)(x:Addr)(o:Obj)(fl:Value)(h:Heap):Prop:=
 B.StaysIn h/\B.get? x=none/\h.FunFrames B l/\∃(vs:Array Value) (T:Addr) (oT:Obj) (ts:Array Value),h.get? x=some {o with data:=.fields vs}/\vs[2]? =some .none/\vs[1]? =some (.ref T)/\
  B.get? T=none/\T≠x/\h.get? T=some oT/\oT.data= .fields ts/\ts[3]? =some fl
section
variable{M:Model}{E:Value->Shared->Prop}{B:Heap}{l:List Env}{L:Addr}{o:Obj}{vs:Array Value}{Q:Unit->Shared->Prop}
def rN{h h':Heap}{T:Addr}{oT:Obj}{ts:Array Value}(hT:h.get? T=some oT)(hd:oT.data= .fields ts)(k:∀b,b≠T->h'.get? b=h.get? b):h.UpToSlots h':=λb ob e hn=>
 ⟨ob.slots,(k b λz=>by rw[z,hT]at e;cases e;exact hn _ hd).trans e⟩
def vE{h h':Heap}(hl:h.FunFrames B l)(u:h.UpToSlots h'):h'.FunFrames B l:=hl.of_keeps λb ob e hn=>by have⟨sl,q⟩:=u b ob e hn;exact⟨_,q,rfl⟩
def IC{head:Value}{UO:Bool}(VF:A.frames=some (env::outer))(hf:env.frame=some L)(hB:B.StaysIn s.heap)(hn:B.get? x=none)(hl:s.heap.FunFrames B (env::outer))(hx:s.heap.get? x=some {o with data:=.fields vs})(h1:1 < vs.size)(h2:vs[2]? =some .none)
  (h:∀h',Lu B (env::outer) x o (rawInt L) h'->s.heap.UpToSlots h'->Q Unit.unit {s with heap:=h'}):
  wpAny M A (do let a<-frameOf env;let pl<-entryPlaceOf L UO;let n<-EntryCells.newEntry head a .none (rawInt L) .none pl;setField (.ref x) 1 n) Q E s:=by
 refine aaF (wpAny_frameOf_fun VF hl hf λg1 S1=>aaF (wpAny_entryPlaceOf λpl fk=>?_));have nx:x∉(env::outer).filterMap (·.frame):=λz=>by have⟨_,ob,e,d⟩:=hl.mem z;rw[hx]at e;cases e;exact d _ rfl
 have Zf:g1.get? x=some {o with data:=.fields vs}:=(S1.2.1 x nx).trans hx;unfold EntryCells.newEntry newFields;refine aaF (wpAny_newObj_type ?_ (fk.sizeOk5 _ _ _ _ _));have hx2:=aak (h:=g1) {cls:=.type "traceback",dict:=none,data:=.fields ([head,.ref L,.none,rawInt L,.none]++(if pl.isEmpty then List.replicate 6 Value.none else pl)).toArray} Zf;refine wpAny_setField hx2 rfl h1 (h _ ?_ ?_)
 ·have up1:∀b ob,b≠x->g1.get? b=some ob->((g1.push {cls:=.type "traceback",dict:=none,data:=.fields ([head,.ref L,.none,rawInt L,.none]++(if pl.isEmpty then List.replicate 6 Value.none else pl)).toArray}).update x (Obj.mapFields (·.setIfInBounds 1 (Value.ref g1.objs.size)))).get? b=some ob:=λb ob nb e=>
   (Heap.get?_update_other _ _ (Ne.symm nb)).trans (aak _ e)
  have neT:g1.objs.size≠x:=ack (aap Zf)
  refine⟨λb ob e=>up1 b ob (λz=>by rw[z,hn]at e;cases e) ((S1.2.1 b λz=>by rw[(hl.mem z).1]at e;cases e).trans (hB b ob e)),hn,hl.of_keeps λb ob e d=>?_,vs.setIfInBounds 1 (.ref g1.objs.size),g1.objs.size,_,_,Heap.get?_update_self _ hx2 rfl,by rw[Array.getElem?_setIfInBounds_ne @_];exact h2,by simp[h1],?_,neT,
   (Heap.get?_update_other _ _ (Ne.symm neT)).trans (aaO g1 rfl),rfl,?_⟩
  ·have⟨sl,q⟩:=S1.2.2 b ob e;exact⟨_,up1 b _ (λz=>by rw[z,hx]at e;cases e;exact d _ rfl) q,rfl⟩
  ·cases q:B.get? g1.objs.size with
   | none=>rfl
   | some ob=>
    have:=aap (hB _ _ q);rw[<-S1.1]at this;exact aaC this (abB _)
  ·first
    | (simp;done)
    | (rcases fk with rfl| ⟨_,_,_,_,_,_,_,rfl⟩ <;> simp)
 ·intro b ob e d;have⟨sl,q⟩:=S1.2.2 b ob e;refine⟨sl,?_⟩;rw[Heap.get?_update_other _ _ (λz:x=b=>by rw[<-z,hx]at e;cases e;exact d _ rfl)];exact aak _ q
def TC(VF:A.frames=some (env::outer))(hf:env.frame=some L)(R:Lu B (env::outer) x o .none s.heap)
  (h:∀h',Lu B (env::outer) x o (rawInt L) h'->s.heap.UpToSlots h'->Q Unit.unit {s with heap:=h'}):wpAny M A (noteFrame (.ref x) env) Q E s:=by
 have⟨hB,hn,hl,vs,T,oT,ts,hx,h2,h1,nT,U_,hT,dT,h3⟩:=R;unfold noteFrame;simp only[hf];refine aaF (wpAny_field hx rfl h1 ?_);rw[if_pos (show(Value.ref T != Value.none)=true by simp)];refine aaF (wpAny_field hT dT h3 ?_);rw[if_neg (show¬((Value.none==rawInt L)=true) by simp[rawInt])];refine aaF (wpAny_setField hT dT (ab3.mp h3).1 ?_);have GF:∀b,b≠T->(s.heap.update T (Obj.mapFields (·.setIfInBounds 3 Value.none))).get? b=s.heap.get? b:=λb nb=>Heap.get?_update_other _ _ (Ne.symm nb);have u:=rN hT dT GF;exact IC VF hf (λb ob e=>(GF b λz=>by rw[z,nT]at e;cases e).trans (hB b ob e)) hn (vE hl u) ((GF x (Ne.symm U_)).trans hx) (ab3.mp h1).1 h2 λh' F' u'=>h h' F' (u.trans u')
def Li{fl:Value}(R:Lu B l x o fl s.heap)(h:∀h',Lu B l x o .none h'->s.heap.UpToSlots h'->Q Unit.unit {s with heap:=h'}):wpAny M A (setFlight (.ref x) none) Q E s:=by have⟨hB,hn,hl,vs,T,oT,ts,hx,h2,h1,nT,U_,hT,dT,h3⟩:=R;unfold setFlight;refine aaF (wpAny_field hx rfl h1 ?_);rw[if_pos (show(Value.ref T != Value.none)=true by simp)];have z3:=(ab3.mp h3).1;have GF:∀b,b≠T->(s.heap.update T (Obj.mapFields (·.setIfInBounds 3 ((none:Option Addr).elim Value.none λf=>rawInt f)))).get? b=s.heap.get? b:=λb nb=>Heap.get?_update_other _ _ (Ne.symm nb);have u:=rN hT dT GF;refine wpAny_setField hT dT z3 (h _ ⟨λb ob e=>(GF b λz=>by rw[z,nT]at e;cases e).trans (hB b ob e),hn,vE hl u,vs,T,_,_,(GF x (Ne.symm U_)).trans hx,h2,h1,nT,U_,Heap.get?_update_self _ hT (Obj.isFreed_of_fields (Obj.data_mapFields dT _)),Obj.data_mapFields dT _,by simp[z3]⟩ u)
def Og{fl:Value}{h:Heap}(R:Lu B (env::outer) x o fl h):Lu B outer x o fl h:=by have⟨hB,hn,⟨_,_,hl⟩,r⟩:=R;exact⟨hB,hn,hl,r⟩
end
structure Vz(P:Program)(w:World)(l:List Env)(H H':Hp)(h h' B:Heap)(x:Addr)(o:Obj):Prop where
 un:Un (qj l) [] H H' h h'
 ok:lh P w H' B
 SV:Lu B l x o .none h'
 U':∀b u,h.get? b=some u->H b=none->b∉qj l->B.get? b=some u
 UI:∀b u,h.get? b=some u->b∉qj l->∃u',B.get? b=some u'
variable{l:List Env}{H H':Hp}{h h' Vw B:Heap}{o:Obj}
end
def cF(P:Program)(w:World):AH:=λouter H s E e s'=>
 ∃x o H' B,e= .ref x/\s'.os=s.os/\AllBare s'.gens/\Vz P w outer H H' s.heap s'.heap B x o/\E o.cls o.dict H'
section
variable{σ:St}{H H':Hp}{Vw B:Heap}{ox:Obj}
def Vz.leave(I:Inv X δ σ H s)(hex:X.ex=[])(OL:∀b∈qj X.outer,b∈qj X.stack)(ok:lh X.prog X.w H' B)(f:Lu B X.outer x ox .none Vw)(nx0:X.s₀.heap.get? x=none)
  (U':∀b o,b≠x->s.heap.get? b=some o->H b=none->b∉qj X.stack->B.get? b=some o)
  (UI:∀b o,b≠x->s.heap.get? b=some o->b∉qj X.stack->∃o',B.get? b=some o')
  (sl:∀b o,s.heap.get? b=some o->b∈qj X.stack->∃sl,Vw.get? b=some {o with slots:=sl})
  (free:∀b o,s.heap.get? b=some o->H b=none->H' b=none)
  (qr:∀b xs,H b=some (.tup xs)->H' b=some (.tup xs)) (oY:∀b o u,H b=some (.yp o u)->H' b=some (.yp o u))
  (qk:∀b ps,H b=some (.LO ps)->∃more,H' b=some (.LO (ps++more))):Vz X.prog X.w X.outer X.H₀ H' X.s₀.heap Vw B x ox:=by
 have nX:∀b o,X.s₀.heap.get? b=some o->b≠x:=λb o e z=>by rw[z,nx0]at e;cases e
 have jP:∀b:Addr,b∉X.ex:=λb z=>by rw[hex]at z;cases z
 have nS:∀b o,X.s₀.heap.get? b=some o->b∉qj X.outer->b∉qj X.stack:=λb o e hb z=>
  (aaA.mp (I.wG b z)).elim (λq=>aaL (aax (aap e) I.ok.above) q) hb
 refine⟨⟨λb o e n hb _=>?_,λb o e n hb _=>?_,λb o e n _=>?_,λb o e _=>?_,λb xs e=>qr b xs (I.base.qr b xs e),λb o u e=>oY b o u (I.base.oY b o u e),λb ps e=>?_⟩,ok,f,λb o e n hb=>?_,λb o e hb=>?_⟩
 ·exact f.1 b o (U' b o (nX b o e) (I.base.keep b o e n hb (jP b)) (I.base.free b o e n (jP b)) (nS b o e hb))
 ·have⟨s1,e1⟩:=I.base.slot b o e n hb (jP b);have⟨s2,e2⟩:=sl b _ e1 (OL b hb);exact⟨s2,e2⟩
 ·have⟨o',e1⟩:=I.base.there b o e (jP b);exact free b o' e1 (I.base.free b o e n (jP b))
 ·have⟨o',e1⟩:=I.base.there b o e (jP b);by_cases hb:b∈qj X.stack
  ·have⟨s2,e2⟩:=sl b _ e1 hb;exact⟨_,e2⟩
  ·have⟨o2,q⟩:=UI b o' (nX b o e) e1 hb;exact⟨o2,f.1 _ _ q⟩
 ·have⟨m1,e1⟩:=I.base.qk b ps e;have⟨m2,e2⟩:=qk b _ e1;exact⟨m1++m2,by rw[e2,Array.append_assoc]⟩
 ·exact U' b o (nX b o e) (I.base.keep b o e n hb (jP b)) (I.base.free b o e n (jP b)) (nS b o e hb)
 ·have⟨o',e1⟩:=I.base.there b o e (jP b);exact UI b o' (nX b o e) e1 (nS b o e hb)
end
def dG(CX:AH)(X:Cx)(R:St->XK):Prop:=∀(δ:List (Addr×Obj)) (σ:St) (H:Hp) (s:Shared) (e:Value) (s':Shared),Inv X δ σ H s->CX X.stack H s (R σ) e s'->X.xe e s'
section
variable{K:fv}{cd:Value}{s₀:Shared}{H₀:Hp}{E:XK}
def Ll:∀b∈qj outer,b∈qj (env::outer):=λb hb=>by have⟨en,he,hf⟩:=acf.mp hb;exact acf.mpr ⟨en,aac _ he,hf⟩
def ν:dG (cF P w) (xo (cF P w) P w K mg base N qual scope f cd A outer s₀ H₀ E) (λ_=>E):=by
 intro δ σ H s e s' I hx;have⟨x,o,H',B,rfl,os,bare,F,hE⟩:=hx;show wpAny _ _ (do noteFrame (.ref x) _;setFlight (.ref x) none) _ _ s';refine aaF (TC (B:=B) I.ok.frames rfl F.SV λh4 f4 u4=>Li f4 λh5 f5 u5=>?_);refine⟨x,o,H',B,rfl,os.trans I.os,bare,Vz.leave I rfl Ll F.ok (Og f5) ?_ (λb o _=>F.U' b o) (λb o _=>F.UI b o) (λb o q hb=>?_) (λb o q n=>F.un.free b o q n (by simp)) F.un.qr F.un.oY F.un.qk,hE⟩
 ·show s₀.heap.get? x=none;cases q:s₀.heap.get? x with
  | none=>rfl
  | some u=>
   have⟨u',e1⟩:=I.base.there x u q nofun;by_cases hb:x∈qj (xo (cF P w) P w K mg base N qual scope f cd A outer s₀ H₀ E).stack
   ·have⟨vs,_,_,_,hxx,_⟩:=F.SV.2.2.2;have⟨_,o',Ej,hd⟩:=F.SV.2.2.1.mem hb;rw[hxx]at Ej;cases Ej;exact aaC rfl (hd _)
   ·have⟨u2,e2⟩:=F.UI x u' e1 hb;rw[F.SV.2.1]at e2;cases e2
 ·have⟨sl,e1⟩:=F.un.slot b o q (I.xM b hb) hb (by simp);have⟨_,o',Ej,hd⟩:=F.SV.2.2.1.mem hb;rw[e1]at Ej;cases Ej;have⟨VC,e2⟩:=(u4.trans u5) b _ e1 hd;exact⟨VC,e2⟩
end
def N_(sp:Sp)(qI:List V)(R:St->XK)(t:TA):TE:=λσ H Q=>t σ H λvs H1=>sp (vs++qI) H1 Q (R σ)
section
variable{CX:AH}{k:Nat}{sp:Sp}{qI:List V}{ds:List Value}{R:St->XK}{x:Str}{p pos:Pos}{e:Expr}{es:List Expr}{t:TA}
def vU{σ:St}{H:Hp}{Q:VK}{us:List Value}{vs:List V}(F:ak X.prog X.w X.K X.mg X.base CX k f fd ps sp)(hr:bU k X.A)(hb:jE X.K fd ps ds)(hd:ar qI ds)(hx:dG CX X R)
  (I:Inv X δ σ H s) (r:ar vs us) (h:sp (vs++qI) H Q (R σ)):wpAny (model X.prog X.w) X.A (call (.ref f) us) (EP X δ σ Q) X.xe s:=by
 have r2:ar (vs++qI) (us++ds):=r.append hd;have hl:(us++ds).length=ps.length:=by rw[<-r2.length];exact F.len _ _ _ _ h
 refine wpAny_call (codeAny_mono (F.run X.A X.stack s H ⟨us,[]⟩ (us++ds) (vs++qI) Q (R σ) hr I.Rz (hb s us I.qp hl) r2 h) λr s' hq=>?_);cases r with
 | error e=>exact hx δ σ H s e s' I hq
 | ok fl=>
  cases fl with
  | ret u=>exact I.after hq
  | next=>exact False.elim hq
  | brk=>exact False.elim hq
  | cont=>exact False.elim hq
def JP(F:ak X.prog X.w X.K X.mg X.base CX k f fd ps sp)(hr:bU k X.A)(hg:Gl X x)(hm:X.mg x=some (.ref f))(hk:PySem.W.keepIn X.K (.ref f)=true)(hb:jE X.K fd ps ds)(hd:ar qI ds)(hx:dG CX X R)
  (ha:PA X (e::es) t) (Bt:(x==("__debug__":Str))=false:=by decide) (he:starEach (e::es) X.env=(false,eval e X.env)::starEach es X.env:=by rfl) (fk:(backTo pos (starEach es X.env)).any (·.1)=false:=by rfl):
  PE X (.Call (.Name x p) (e::es) [] pos) (N_ sp qI R t):=by
 intro δ s σ H Q I h;refine wpAny_Call_Name_kw (x_ I hg hm ?_ Bt);refine PySem.W.callWith_K (h₀:=X.base) I.ok.mod.Tz hk (bA (ha pos δ s σ H _ I h) fun us s1 ⟨vs,H1,I1,r,q⟩=>⟨I1.qp,?_⟩) he fk;exact vU F hr hb hd hx I1 r q
end
def lW(env:Env):List (Str×NameKind)->List (Str×Addr)->List (Str×Addr)
 | [],acc=>acc
 | p::r,acc=>lW env r (if p.2== .free then (p.1,(env.cells.lookup p.1).getD 0)::acc else acc)
def q_(h:∀p∈scope.names,p.2= .free->(env.cells.lookup p.1).isSome=true):closureFor scope env=pure (lW env scope.names []):=by
 have key:∀(l:List (Str×NameKind)) (acc:List (Str×Addr)),(∀p∈l,p.2= .free->(env.cells.lookup p.1).isSome=true)->
   (forIn l acc (λ(p:Str×NameKind) (r:List (Str×Addr))=>(if p.2== .free then (do let c<-cellOf env p.1;pure (ForInStep.yield ((p.1,c)::r))) else pure (ForInStep.yield r):Sem (ForInStep (List (Str×Addr))))))=(pure (lW env l acc):Sem (List (Str×Addr))):=by
  intro l
  induction l with
  | nil=>intro acc _;rfl
  | cons p r ih=>
   intro acc hp;rw[List.forIn_cons];have Z2:=λa=>ih a λq hq=>hp q (aac _ hq);have⟨n,k⟩:=p;by_cases hk:k= .free
   ·subst hk;have hs:=hp (n,.free) aad rfl;cases hl:env.cells.lookup n with
    | none=>rw[show env.cells.lookup (n,NameKind.free).1=none from hl]at hs;cases hs
    | some c=>
     have e1:lW env ((n,.free)::r) acc=lW env r ((n,c)::acc):=by show lW env r (if (NameKind.free==NameKind.free)=true then (n,(env.cells.lookup n).getD 0)::acc else acc)=_;rw[aar @_,hl];rfl
     have e2:cellOf env n=pure c:=by unfold cellOf;rw[hl]
     rw[e1];have e3:(NameKind.free==NameKind.free)=true:=@_
     simp only[e3,if_true,e2,pure_bind];exact Z2 _
   ·have hb:(k==NameKind.free)=false:=by simpa using hk
    have e1:lW env ((n,k)::r) acc=lW env r acc:=by show lW env r (if (k==NameKind.free)=true then (n,(env.cells.lookup n).getD 0)::acc else acc)=_;rw[hb,aaq @_]
    rw[e1];simp only[hb,Bool.false_eq_true,if_false,pure_bind];exact Z2 _
 have:=key scope.names [] h;unfold closureFor
 first
  | exact this
  | (simp only[bind_pure];exact this)
  | (rw[bind_pure];exact this)
def uY{env:Env}{y:Str}{c:Addr}:∀(l:List (Str×NameKind)) (acc:List (Str×Addr)),(∀p∈l,p.2= .free->(env.cells.lookup p.1).isSome=true)->
  (acc.lookup y=some c->env.cells.lookup y=some c)->(lW env l acc).lookup y=some c->env.cells.lookup y=some c
 | [],acc,_,ha,h=>ha h
 | (n,k)::r,acc,hp,ha,h=>by
  refine uY r _ (λq hq=>hp q (aac _ hq)) (λe=>?_) h;split at e
  ·rename_i hk;rw[abK]at e;cases q:(y==n) with
   | true=>
    rw[q]at e;have e':(env.cells.lookup n).getD 0=c:=aas e;have hn:y=n:=by simpa using q
    subst hn;have hs:=hp (y,k) List.mem_cons_self (by simpa using hk);cases z:env.cells.lookup y with
    | none=>rw[show env.cells.lookup (y,k).1=none from z]at hs;cases hs
    | some d=>rw[z]at e';rw[<-e'];rfl
   | false=>rw[q]at e;exact ha e
  ·exact ha e
def sM{env:Env}{y:Str}:∀(l:List (Str×NameKind)) (acc:List (Str×Addr)),((y,NameKind.free)∈l\/(acc.lookup y).isSome=true)->((lW env l acc).lookup y).isSome=true
 | [],acc,h=>by
  rcases h with h| h
  ·cases h
  ·exact h
 | (n,k)::r,acc,h=>by
  refine sM r _ ?_;by_cases hy:y=n
  ·subst hy;by_cases hk:k= .free
   ·subst hk;right;show(List.lookup y (if (NameKind.free==NameKind.free)=true then (y,(env.cells.lookup y).getD 0)::acc else acc)).isSome=true;rw[aar @_,abK,ab9];rfl
   ·rcases h with h| h
    ·rcases aaA.mp h with z| z
     ·exact aaC (Prod.mk.inj z).2.symm hk
     ·exact .inl z
    ·right;rw[if_neg (by simpa using hk)];exact h
  ·rcases h with h| h
   ·rcases aaA.mp h with z| z
    ·exact aaC (Prod.mk.inj z).1 hy
    ·exact .inl z
   ·right;split
    ·rw[List.lookup_cons,show(y==n)=false by simpa using hy];exact h
    ·exact h
def Cx.comp(X:Cx)(Nc:List Str)(scope:Scope)(C:Addr)(s:Shared)(H:Hp)(fp:List Addr):Cx:={X with
 N:=Nc
 s₀:=s
 H₀:=H
 env:=compEnvC scope (lW X.env scope.names []) C X.env
 outer:=X.stack
 ex:=fp
 fn:=λ_=>false
 pn:=[]
 xe:=λ_ _=>False}
def Γ.of{P:List Str}{sc:Scope}(h:(sc.kind,sc.isCoroutine,sc.isGenerator)=(.function,false,false))(h2:N.Nodup/\N.take P.length=P/\(∀x∈P,sc.names.lookup x=some .local\/sc.names.lookup x=some .cell)/\(∀y∈sc.names,y.2≠ .free):=by decide+kernel):Γ N P sc:=by have⟨a,b,c,d⟩:=h2;exact⟨aaP (·.1) h,aaP (·.2.1) h,aaP (·.2.2) h,a,b,c,d⟩
structure af(X:Cx)(scope:Scope)(xs ys:List Str)(Μ:List Nat):Prop where
 kind:scope.kind= .function
 GJ:∀p∈scope.names,p.2≠ .cell
 names:∀p∈scope.names,p.2= .local->scope.names.lookup p.1=some .local
 own:∀x∈xs,scope.names.lookup x=some .local
 free:∀p∈scope.names,p.2= .free->X.env.scope.names.lookup p.1=some .cell
 nd:(xs++ys).Nodup
 cap:∀q∈ys.zip Μ,X.N[q.2]? =some q.1/\X.env.scope.names.lookup q.1=some .cell/\scope.names.lookup q.1=some .free
 len:ys.length=Μ.length
def af.of{sc:Scope}(_:Γ N ps sc)(hN:X.N=N)(hs:X.env.scope=sc)(k:scope.kind= .function)(h:(∀p∈scope.names,p.2≠ .cell)/\(∀p∈scope.names,p.2= .local->scope.names.lookup p.1=some .local)/\(∀x∈xs,scope.names.lookup x=some .local)/\(∀p∈scope.names,p.2= .free->sc.names.lookup p.1=some .cell)/\(xs++ys).Nodup/\(∀q∈ys.zip Μ,N[q.2]? =some q.1/\sc.names.lookup q.1=some .cell/\scope.names.lookup q.1=some .free)/\ys.length=Μ.length:=by decide+kernel):af X scope xs ys Μ:=by subst hN hs;have⟨a,b,c,d,e,f,g⟩:=h;exact⟨k,a,b,c,d,e,f,g⟩
def KH{env:Env}{y:Str}:∀{l:List (Str×NameKind)},(∀p∈l,p.2≠ .cell)->
  ((l.map λ(n,k)=>if (k==NameKind.free&&env.scope.kind== .function&&env.kindOf n==some .cell) then (n,NameKind.cell) else (n,k)).lookup y=some .cell\/
   (l.map λ(n,k)=>if (k==NameKind.free&&env.scope.kind== .function&&env.kindOf n==some .cell) then (n,NameKind.cell) else (n,k)).lookup y=some .free)->(y,NameKind.free)∈l
 | [],_,h=>by rcases h with h| h <;> cases h
 | (n,k)::r,hc,h=>by
  have ih:=@KH env y r (λp hp=>hc p (aac _ hp));rw[aaM]at h;by_cases q:(k==NameKind.free&&env.scope.kind== .function&&env.kindOf n==some .cell)=true
  ·have hk:k= .free:=by rw[aaB,aaB]at q;simpa using q.1.1
   subst hk;by_cases hy:y=n
   ·subst hy;exact aad
   ·refine aac _ (ih ?_);have hb:(y==n)=false:=by simpa using hy
    simp only[q,if_true,List.lookup_cons,hb]at h;exact h
  ·by_cases hy:y=n
   ·subst hy;have hb:(y==y)=true:=by simp
    simp only[q,Bool.false_eq_true,if_false,List.lookup_cons,hb]at h;rcases h with h| h
    ·exact aaC (aas h) (hc (y,k) aad)
    ·rw[<-aas h];exact aad
   ·refine aac _ (ih ?_);have hb:(y==n)=false:=by simpa using hy
    simp only[q,Bool.false_eq_true,if_false,List.lookup_cons,hb]at h;exact h
def yW{env:Env}{y:Str}(hk:env.scope.kind= .function)(hy:env.kindOf y=some .cell):∀{l:List (Str×NameKind)},l.lookup y=some .free->
  (l.map λ(n,k)=>if (k==NameKind.free&&env.scope.kind== .function&&env.kindOf n==some .cell) then (n,NameKind.cell) else (n,k)).lookup y=some .cell
 | [],h=>by cases h
 | (n,k)::r,h=>by
  have ih:=@yW env y hk hy r;rw[aaM];rw[abK]at h;by_cases e:y=n
  ·subst e;have hb:(y==y)=true:=by simp
   rw[hb]at h;have:k= .free:=aas h;subst this;have q:(NameKind.free==NameKind.free&&env.scope.kind== .function&&env.kindOf y==some .cell)=true:=by rw[hk,hy];rfl
   simp only[q,if_true,List.lookup_cons,hb]
  ·have hb:(y==n)=false:=by simpa using e
   rw[hb]at h;by_cases q:(k==NameKind.free&&env.scope.kind== .function&&env.kindOf n==some .cell)=true
   ·simp only[q,if_true,List.lookup_cons,hb];exact ih h
   ·simp only[q,Bool.false_eq_true,if_false,List.lookup_cons,hb];exact ih h
def af.has(S:af X scope xs ys Μ)(ok:X.Ok):∀p∈scope.names,p.2= .free->(X.env.cells.lookup p.1).isSome=true:=λp hp hf=>by have⟨c,e⟩:=ok.has p.1 (.inl (S.free p hp hf));rw[e];rfl
def Jz{α β:Type}:∀{xs:List α} {ys:List β} {j:Nat} {x:α} {y:β},xs[j]? =some x->ys[j]? =some y->(x,y)∈xs.zip ys
 | x::xs,y::ys,0,_,_,h1,h2=>by cases h1;cases h2;exact aad
 | x::xs,y::ys,j+1,_,_,h1,h2=>aac _ (Jz (xs:=xs) (ys:=ys) (j:=j) h1 h2)
 | [],_,_,_,_,h1,_=>by simp at h1
 | _::_,[],_,_,_,_,h2=>by simp at h2
def oO(Μ:List Nat)(σ:St):St:=Μ.map λi=>(σ[i]?).join
def vN(n:Nat)(gg:TG):Prop:=∀v (os cs:St) H (Q:St->Hp->Prop),os.length=n->gg v (os++cs) H Q->gg v (os++cs) H λσ' H'=>(∃Vd:St,Vd.length=n/\σ'=Vd++cs)/\Q σ' H'
def BY(J:It)(n:Nat)(gg:TG)(tc:TT)(te:TE)(cs:St)(Q:VK)(H1:Hp)(D:Addr):Prop:=
 ∃W:Nat->Nat->List V->Hp->Prop,(∃m,W 0 m [] (upd H1 D (.lst [])))/\∀i m ys H2,W i m ys H2->H2 D=some (.lst ys)/\
  ((J.stop i H2/\Q (.ref D) H2)\/(J.go i H2/\∀x H3,J.T9 i H2 x H3->∀os:St,os.length=n->gg x (os++cs) H3 λσ' H3'=>tc σ' H3' λb H4=>match b with
   | true=>te σ' H4 λy H5=>H5 D=some (.lst ys)/\ys.length < sizeLine/\∃m',m' < m/\W (i+1) m' (ys++[y]) (upd H5 D (.lst (ys++[y])))
   | false=>∃m',m' < m/\W (i+1) m' ys H4))
def J0(wi:TI)(n:Nat)(gg:TG)(tc:TT)(te:TE)(Μ:List Nat):TE:=λσ H Q=>wi σ H λJ H1=>∀D,H1 D=none->BY J n gg tc te (oO Μ σ) Q H1 D
def VT(cs:List Expr)(env:Env):Sem Bool:=match cs with
 | []=>pure true
 | c::_=>isTrue c env (eval c env)
def U3(X:Cx)(cs:List Expr)(t:TT):Prop:=
 (cs=[]\/∃c,cs=[c])/\∀(δ:List (Addr×Obj)) (s:Shared) (σ:St) (H:Hp) (Q:Bool->Hp->Prop),Inv X δ σ H s->t σ H Q->wpAny (model X.prog X.w) X.A (VT cs X.env) (TP X δ σ Q) X.xe s
def uF{elt target iter:Expr}{cs:List Expr}{scope:Scope}{pos:Pos}{it acc:Value}{env:Env}(h:cs=[]\/∃c,cs=[c]):
  compTurn (.ListComp elt [⟨target,iter,cs,0⟩] scope pos) 0 it acc env=(standAt iter.pos >>= λ_=>pyNext it >>= λr=>match r with
   | none=>pure (.done .next)
   | some v=>letOwnedTupleGo target it v >>= λ_=>assign target env v >>= λ_=>VT cs env >>= λok=>
    (if ok=true then (eval elt env >>= λx=>call (.builtin "list.append") [acc,x] >>= λ_=>pure Unit.unit) >>= λ_=>again (.compLoop (.ListComp elt [⟨target,iter,cs,0⟩] scope pos) 0 it acc env)
     else again (.compLoop (.ListComp elt [⟨target,iter,cs,0⟩] scope pos) 0 it acc env))):=by
 rcases h with rfl| ⟨c,rfl⟩ <;> (unfold compTurn VT;dsimp only[List.getElem?_cons_zero,List.getElem?_cons_succ,List.getElem?_nil];simp only[List.forIn_cons,List.forIn_nil,bind_assoc,pure_bind,if_true];rfl)
section
variable{elt iter tg:Expr}{cs:List Expr}{pos:Pos}{wi:TI}{gg:TG}{tc:TT}{te:TE}
def vB(S:af X scope xs ys Μ)(hc:X.calm=true)(hg:∀C s H fp,PG (Cx.comp X (xs++ys) scope C s H fp) tg gg)(hk:vN xs.length gg)(ht:∀C s H fp,U3 (Cx.comp X (xs++ys) scope C s H fp) cs tc)(he:∀C s H fp,PE (Cx.comp X (xs++ys) scope C s H fp) elt te)
   {σ:St} {H2:Hp} {s2:Shared} {it:Addr} {fp:List Addr} {tn:Nat->Heap->Prop} {J:It} {Q:V->Hp->Prop} {PQ:Value->Addr->Result->Shared->Prop} (I:Inv X δ σ H2 s2) (T:Turn X.prog X.w X.K tg J fp it tn) (t0:tn 0 s2.heap) (f2:∀b∈fp,rE X δ H2 b)
  (h:∀D,H2 D=none->BY J xs.length gg tc te (oO Μ σ) Q H2 D)
  (hPQ:∀D C s' H',Inv X δ σ H' s'->Q (.ref D) H'->(∃m,s'.heap.Ns C m)->H' C=none->X.s₀.heap.objs.size<=C->C≠X.env.locals->(∀z c,X.env.cells.lookup z=some c->c≠C)->(∀p∈X.pn++δ,p.1≠C)->PQ (.ref D) C (.ok .next) s'):
  wpAny (model X.prog X.w) X.A (newList []) (λacc s3=>wpAny (model X.prog X.w) X.A (newFunctionEnv scope X.env.globals (lW X.env scope.names []) [] X.env.qual none .none (some X.env)) (λTQ s4=>
   codeAny (model X.prog X.w) X.A (.compStart (.ListComp elt [⟨tg,iter,cs,0⟩] scope pos) 0 (.ref it) acc {TQ with scope:=relabel scope X.env}) (PQ acc TQ.locals) s4) X.xe s3) X.xe s2:=by
 have hD:H2 s2.heap.objs.size=none:=I.fresh;have⟨W,⟨m0,w0⟩,step⟩:=h _ hD;refine wpAny_newObj_type ?_;have I3:Inv X δ σ (upd H2 s2.heap.objs.size (.lst [])) {s2 with heap:=s2.heap.push {cls:=.type "list",data:=.seq ([]:List Value).toArray}}:=Inv.Qv (t':=s2.toks) I (ys:=[]) (its:=[]) .nil (abE _);generalize hH3:upd H2 s2.heap.objs.size (.lst [])=H3 at I3 w0;generalize hs3:({s2 with heap:=s2.heap.push {cls:=.type "list",data:=.seq ([]:List Value).toArray}}:Shared)=s3 at I3;have Ye:∀b∈fp,H3 b=none:=λb hb=>by have⟨o,e,_⟩:=T.obj _ _ t0 b hb;rw[<-hH3,Ζ (aaL (aap e))];exact(f2 b hb).1
 have t3:tn 0 s3.heap:=T.keep _ _ _ t0 λb hb o e=>by rw[<-hs3];exact aak _ e
 refine wpAny_newFunctionEnv S.GJ (λy hy=>nomatch hy) (λh4 ns4 sb4=>?_) S.kind;have hC:H3 s3.heap.objs.size=none:=I3.fresh
 have kp:∀b o,s3.heap.get? b=some o->h4.get? b=some o:=λb o e=>
  (sb4.2 b (aaL (aap e))).trans (aak _ e)
 generalize Xz:({s3 with heap:=h4,toks:=s3.toks+([]:List (Str×Value)).length}:Shared)=s4;have e4:s4.heap=h4:=by rw[<-Xz]
 have Lw:∀z c,X.env.cells.lookup z=some c->c≠s3.heap.objs.size:=λz c e q=>by have⟨v,w⟩:=I3.cell z c e;exact abB _ (q▸w.lt)
 have vJ:∀z c,(lW X.env scope.names []).lookup z=some c->X.env.cells.lookup z=some c:=λz c e=>uY scope.names [] (S.has I.ok) nofun e;have Lne:s3.heap.objs.size≠X.env.locals:=ack I3.lt;have ok:(Cx.comp X (xs++ys) scope s3.heap.objs.size s3 H3 fp).Ok:=by
  refine⟨I3.ok.mod,S.kind,I3.ok.glob,I3.ok.blt,aai _,λz z' c e1 e2=>I3.ok.inj z z' c (vJ z c e1) (vJ z' c e2),λz hz=>?_,λz c hz=>(by cases hz),I3.ok.hd,I3.ok.frames,.inl rfl,λb hb=>⟨?_,λz c e=>?_⟩,I3.bs,?_,λb o e hb=>?_,λb hb hf=>?_,I3.stack,I3.xM⟩
  ·have:=sM (env:=X.env) scope.names [] (.inl (KH S.GJ hz));exact aa7.mp this
  ·have⟨o,e,_⟩:=T.obj _ _ t3 b hb;exact aaL (aap e)
  ·exact(f2 b hb).2.2.2.2.1 z c (vJ z c e)
  ·exact aat I3.ok.Q9 I3.sz
  ·have⟨_,_,_,hy,_⟩:=f2 b hb;have e0:=(I3.ok.bs b o e).1;rcases hy with hy| hy
   ·exact I3.ok.Pp b o e hy
   ·exact aaC (aax (aap e0) hy) (abB _)
  ·have⟨_,hl,hfs,_⟩:=f2 b hb;exact(aaA.mp (I3.wG b hf)).elim hl hfs
 have hlen:((List.replicate xs.length (none:Option V))++oO Μ σ).length=(xs++ys).length:=by rw[aag,aag,aaX,S.len];unfold oO;rw[aae]
 have I4:Inv X δ σ H3 s4:=by rw[<-Xz];exact I3.kept kp
 have Ic:Inv (Cx.comp X (xs++ys) scope s3.heap.objs.size s3 H3 fp) [] ((List.replicate xs.length (none:Option V))++oO Μ σ) H3 s4:=by
  refine⟨ok,by rw[<-Xz];rfl,I4.bare,Un.kept (by rw[e4];exact kp),⟨_,by rw[e4];exact ns4,λi z v e1 e2 e3=>?_⟩,λz c e=>I4.cell z c (vJ z c e),hC,λz c e=>I4.pM z c (vJ z c e),(λp hp=>nomatch hp),I4.aQ,hlen⟩;have e1:(xs++ys)[i]? =some z:=e1;by_cases hi:i < xs.length
  ·rw[aao (by rw[aaX];exact hi),abT,aar hi]at e2;cases e2
  ·obtain⟨j,rfl⟩:∃j,i=xs.length+j:=⟨i - xs.length,()⟩;have e1:ys[j]? =some z:=by rw[aaw (),abq]at e1;exact e1
   have e2:(oO Μ σ)[j]? =some (some v):=by rw[aaw (by rw[aaX];omega),aaX,abq]at e2;exact e2
   unfold oO at e2;rw[aah]at e2;cases hi:Μ[j]? with
   | none=>rw[hi]at e2;cases e2
   | some i=>
    rw[hi]at e2;have e2:(σ[i]?).join=some v:=aas e2;have e2:σ[i]? =some (some v):=by
     cases q:σ[i]? with
     | none=>rw[q]at e2;cases e2
     | some o=>rw[q]at e2;exact aaP some e2
    have⟨c1,c2,c3⟩:=S.cap (z,i) (Jz e1 hi);have c4:=yW (env:=X.env) I.ok.kind c2 c3;have c3:(z,NameKind.free)∈scope.names:=PySem.mem_of_lookup c3;have⟨m,hn,hl⟩:=I4.loc;have⟨u,r,lk⟩:=hl i z v c1 e2 (.inr (.inl c2));refine⟨u,r,.inr ⟨.inl c4,?_⟩⟩;rcases lk with ⟨k,_⟩| ⟨_,c,AR,z'⟩
    ·exact aaC ((show X.env.scope.names.lookup z=some .local from k).symm.trans c2) @_
    ·have⟨d,hd⟩:=aa7.mp (sM (env:=X.env) scope.names [] (.inl c3));have:=vJ z d hd;rw[AR]at this;cases this;exact⟨c,hd,z'⟩
 have loop:codeAny (model X.prog X.w) X.A (.compLoop (.ListComp elt [⟨tg,iter,cs,0⟩] scope pos) 0 (.ref it) (.ref s2.heap.objs.size) (compEnvC scope (lW X.env scope.names []) s3.heap.objs.size X.env)) (PQ (.ref s2.heap.objs.size) s3.heap.objs.size) s4:=by
  have VO:∀{H':Hp},(∀b∈fp,H' b=none)->∀b∈fp,rE (Cx.comp X (xs++ys) scope s3.heap.objs.size s3 H3 fp) [] H' b:=λhn b hb=>
   ⟨hn b hb,(ok.exf b hb).1,ok.QF b hb,.inl hb,(ok.exf b hb).2,(λp hp=>nomatch hp)⟩
  refine codeAny_loop rfl (λn s'=>∃(i:Nat) (zs:List V) (os:St) (H':Hp),os.length=xs.length/\Inv (Cx.comp X (xs++ys) scope s3.heap.objs.size s3 H3 fp) [] (os++oO Μ σ) H' s'/\tn i s'.heap/\(∀b∈fp,H' b=none)/\W i n zs H') (λn s5 z=>?_) m0 ⟨0,[],List.replicate xs.length none,H3,by rw[aaX],Ic,T.keep _ _ _ t3 (λb hb o e=>by rw[e4];exact kp b o e),Ye,w0⟩;have⟨i,zs,os,H5,l5,I5,t5,Vy,w5⟩:=z;show wpAny _ _ ((compTurn _ 0 (.ref it) _ _).onRaise _) _ _ s5;refine wpAny_noted ?_;rw[uF (ht s3.heap.objs.size s3 H3 fp).1];refine aaF (wpAny_standAt (aaF ?_));obtain⟨E8,stop| go⟩:=step i n zs H5 w5
  ·have⟨stop,q⟩:=stop;refine bA (T.done (Cx.comp X (xs++ys) scope s3.heap.objs.size s3 H3 fp) rfl rfl rfl hc i [] s5 _ H5 _ I5 (VO Vy) t5 stop) λr s6 xz=>?_;have⟨hr,I6⟩:=xz;subst hr;refine abd (hPQ _ _ s6 H5 ?_ q ?_ I6.free ?_ Lne Lw λp hp z=>?_)
   ·refine I3.Th I6.os I6.base I6.aQ I6.bare λb hb=>?_;have⟨_,g1,_,g3,g4,g5⟩:=f2 b hb;exact⟨g3,g1,g4,g5⟩
   ·have⟨m,hn,_⟩:=I6.loc;exact⟨m,hn⟩
   ·exact I3.sz
   ·exact aaL (aap (I3.pin p hp).1) z
  ·have⟨go,turn⟩:=go;refine bA (T.item (Cx.comp X (xs++ys) scope s3.heap.objs.size s3 H3 fp) rfl rfl rfl hc i [] s5 _ H5 _ I5 (VO Vy) t5 go) λr s6 xz=>?_;have⟨u,hr,h6⟩:=xz;subst hr;refine aaF (bA h6 λ_ s7 xz=>?_);have⟨y,H7,I7,r7,y7,t7,fr7⟩:=xz;have I7':=I7.pinned (VO fr7) (T.obj _ _ t7);refine aaF (ab0 (hg _ _ _ _ _ s7 _ H7 y u _ I7' r7 (hk y os _ H7 _ l5 (turn y _ y7 os l5))) (λ_ s8 z8=>?_) λ_ _ f=>f.elim);have⟨σ8,H8,I8,⟨ZX,l8,e8⟩,q8⟩:=z8;subst e8;refine aaF (ab0 ((ht _ _ _ _).2 _ s8 _ _ _ I8 q8) (λb s9 z9=>?_) λ_ _ f=>f.elim);have⟨H9,I9,q9⟩:=z9;cases b with
   | false=>
    have⟨m9,hm9,w9⟩:=q9;refine abd ⟨rfl,m9,hm9,i+1,zs,ZX,_,l8,I9.j8,T.keep _ _ _ t7 λb hb o e=>(I9.pin (b,o) (aaE _ (aaE _ (eZ hb e)))).1,λb hb=>?_,w9⟩;have⟨o,e,_⟩:=T.obj _ _ t7 b hb;exact(I9.pin (b,o) (aaE _ (aaE _ (eZ hb e)))).2.1
   | true=>
    refine aaF (aaF (ab0 (he _ _ _ _ _ s9 _ _ _ I9 q9) (λu10 s10 z10=>?_) λ_ _ f=>f.elim));have⟨v10,ZV,I10,r10,X9,l10,m10,YH,w10⟩:=z10;refine aaF (ab0 (uP (X:=Cx.comp X (xs++ys) scope s3.heap.objs.size s3 H3 fp) _ s10 _ ZV (.ref s2.heap.objs.size) [v10] _ [u10] (λ_ H'=>H'=upd ZV s2.heap.objs.size (.lst (zs++[v10]))) I10 rfl (.cons r10 .nil) ⟨_,zs,v10,rfl,rfl,X9,l10,rfl⟩) (λ_ Vr z11=>?_) λ_ _ f=>f.elim);have⟨_,H11,Xs,_,e11⟩:=z11;subst e11;refine abd (abd ⟨rfl,m10,YH,i+1,zs++[v10],ZX,_,l8,Xs.j8,T.keep _ _ _ t7 λb hb o e=>(Xs.pin (b,o) (aaE _ (aaE _ (eZ hb e)))).1,λb hb=>?_,w10⟩);have⟨o,e,_⟩:=T.obj _ _ t7 b hb;exact(Xs.pin (b,o) (aaE _ (aaE _ (eZ hb e)))).2.1
 exact codeAny_compStart_list loop (T.self X.A 0 _ _ _ (T.keep _ _ _ t3 (λb hb o e=>by rw[e4];exact kp b o e)) loop)
def Hn(S:af X scope xs ys Μ)(hc:X.calm=true)(hi:PI X tg iter wi)(hg:∀C s H fp,PG (Cx.comp X (xs++ys) scope C s H fp) tg gg)(hk:vN xs.length gg)(ht:∀C s H fp,U3 (Cx.comp X (xs++ys) scope C s H fp) cs tc)(he:∀C s H fp,PE (Cx.comp X (xs++ys) scope C s H fp) elt te)(hs:∀x,foldedSetIterable iter X.env x=pure x:=by intro _;rfl):
  PE X (.ListComp elt [⟨tg,iter,cs,0⟩] scope pos) (J0 wi xs.length gg tc te Μ):=by
 intro δ s σ H Q I h;rw[eval_ListComp];refine wpAny_comprehension_free (use:=none) rfl hs (q_ (S.has I.ok)) S.kind S.names (bA (hi δ s σ H _ I h) λv s1 h1=>bA h1 λVg s2 h2=>?_);have⟨it,fp,tn,J,H2,rfl,I2,T,t0,f2,q⟩:=h2;refine vB S hc hg hk ht he (Q:=Q) I2 T t0 f2 q λD C s' H' I' q' n' hC hz hL Oc hp=>?_;have⟨m,n'⟩:=n';exact⟨m,n',λh' sb=>⟨.ref D,H',I'.turned (it:=C) (t':=s'.toks) (λb o hb e=>(sb.2 b hb).trans e) hC hL (.inr hz) Oc hp,rfl,q'⟩⟩
def Af{i:Nat}{y:Str}{py iO:Pos}(hN:X.N.Nodup)(FA:X.N[i]? =some y)(hy:Loc X.env.scope y)(S:af X scope xs ys Μ)(hc:X.calm=true)(hi:PI X tg iter wi)(hg:∀C s H fp,PG (Cx.comp X (xs++ys) scope C s H fp) tg gg)(hk:vN xs.length gg)(ht:∀C s H fp,U3 (Cx.comp X (xs++ys) scope C s H fp) cs tc)(he:∀C s H fp,PE (Cx.comp X (xs++ys) scope C s H fp) elt te)
  (ED:swapsWith (.ListComp elt [⟨tg,iter,cs,0⟩] scope pos) (some (.Name y py)) iO.line X.env=pure true) (hs:∀x,foldedSetIterable iter X.env x=pure x)
  (hf:X.fn y=true\/X.env.scope.names.lookup y=some .local):
  PS X (.Assign [.Name y py] (.ListComp elt [⟨tg,iter,cs,0⟩] scope pos) iO) (λD σ H=>J0 wi xs.length gg tc te Μ σ H λv H1=>D.nx (σ.set i (some v)) H1):=by
 intro δ s σ H D I h;rw[exec_Assign_Name_used _ _ _ _ ED];refine aaF (wpAny_standAt (aaF ?_));show wpAny _ _ (do let _<-comprehension (.ListComp elt [⟨tg,iter,cs,0⟩] scope pos) scope X.env _ (newList []) false (eval iter X.env) (some (assign (.Name y py) X.env))) _ _ s;refine aaF (ab0 (wpAny_comprehension_free (use:=some (assign (.Name y py) X.env)) (Q:=λ_ s'=>SP X δ D .next s') rfl hs (q_ (S.has I.ok)) S.kind S.names (bA (hi δ s σ H _ I h) λv s1 h1=>bA h1 λVg s2 h2=>?_)) (λ_ s' hq=>abd (abd hq)) λ_ _ e=>e);have⟨it,fp,tn,J,H2,rfl,I2,T,t0,f2,q⟩:=h2;refine vB S hc hg hk ht he (Q:=λv H1=>D.nx (σ.set i (some v)) H1) I2 T t0 f2 q λDl C s' H' I' q' n' hC hz hL Oc hp=>?_;have⟨m,n'⟩:=n';show wpAny _ _ (assign (.Name y py) X.env (.ref Dl)) _ _ s';refine wpAny_assign_Name (vx I' hN FA hy (v:=.ref Dl) rfl (λs3 I3 Yx=>?_) hf);have⟨a,Yx,ha⟩:=Yx;have hCa:C≠a:=by
  rcases ha with rfl| ha
  ·exact hL
  ·exact(Oc _ _ ha).symm
 exact⟨m,n'.sameBut Yx hCa,λh' sb=>⟨_,H',I3.turned (it:=C) (t':=s3.toks) (λb o hb e=>(sb.2 b hb).trans e) hC hL (.inr hz) Oc hp,q'⟩⟩
end
section
variable{K:fv}
def c_.okX{x:Str}{st:Stmt}{k:Nat}{sp:Sp}(F:c_ K x qual st f fd)(S:Γ N ps (τ st))(len:∀vs H Q E,sp vs H Q E->vs.length=ps.length)
  (zK:∀(bq:Value) (A:Around) (outer:List Env) (s:Shared) (H:Hp) (vs:List V) (Q:VK) (E:XK),bU k (A.deeper (envOfC qual (τ st) s.heap.objs.size f bq))->sp vs H Q E->
   ∃t,Gw (xo (cF P w) P w K mg base N qual (τ st) f bq A outer s H E) (hJ st) t/\t {nx:=λ_ H'=>Q .aP H',rt:=Q} (start N vs) H):ak P w K mg base (cF P w) (k+1) f fd ps sp:=by
 have⟨oc,od,kV,doc,pm,an,bq,ct,Ia,rfl,lk,JR⟩:=F.ex;exact T4 lk JR S len λA outer s H vs Q E hr Nd=>zK bq A outer s H vs Q E hr Nd
end
def eE:dG (cF P w) X (λ_=>E0):=by intro δ σ H s e s' _ hx;have⟨_,_,_,_,_,_,_,_,hE⟩:=hx;exact hE.elim
def log2_lt{n:Nat}{k:Nat}(h:n < 2 ^ k)(hk:0 < k):n.log2 < k:=by
 by_cases h0:n=0
 ·rw[h0,show Nat.log2 0=0 from rfl];exact hk
 ·exact(Nat.log2_lt h0).mpr h
def gS(i:Int):Prop:=i.natAbs < 2 ^ 8000
def FK{i j:Int}(hi:gS i)(hj:gS j):IntMulOk i j:=by
 have b:∀{i:Int},gS i->Builtin.Int.intBits i<=8000:=λ{i} h=>by
  unfold Builtin.Int.intBits;split
  ·exact abE _
  ·have:=log2_lt (k:=8000) h @_;omega
 have b1:=b hi;have b2:=b hj;have h3:Builtin.Int.intTooBig (Builtin.Int.intBits i+Builtin.Int.intBits j)=false:=by
  unfold Builtin.Int.intTooBig;refine aal ?_;have:(bitsLine:Int)=134217728:=@_
  omega
 unfold IntMulOk;rw[h3,Bool.and_false];exact aaz
section
def Lr:jF X (binaryOp .Mult) (rI (λi j=>gS i/\gS j) λi j=>.int (i * j)):=Vs λ_ _ _ _ _ _ _ hc q=>mul_int q (FK hc.1 hc.2)
def zy:jF X (binaryOp .FloorDiv) (rI (λ_ j=>j≠0/\gS j) λi j=>.int (i.fdiv j)):=Vs λ_ _ _ _ _ _ _ hc q=>
 floordiv_int hc.1 q (.inl (PyProof.noPylong_of_log2 (aax (log2_lt (k:=8000) hc.2 @_) @_)))
end
def G8:V->Option Value
 | .ty T=>some (.type T)
 | .ref C=>some (.ref C)
 | _=>none
def LD{c:V}{u t:Value}(r:aq c u)(h:G8 c=some t):u=t:=by
 cases c with
 | ty T=>cases r;exact aas h
 | ref C=>cases r;exact aas h
 | _=>cases h
section
def qe:dw X (.builtin "isinstance") (λxs H Q=>∃x c t t' b,xs=[x,c]/\ku X.K H x t/\G8 c=some t'/\PySem.W.kitOne X.K t t'=some b/\Q (.bl b) H):=by intro δ s σ H xs us Q I r h;have⟨x,c,t,t',b,rfl,ty,hc,hk,q⟩:=h;have⟨u,u',rfl,r1,r2⟩:=N6 r;cases LD r2 hc;exact Fo I r1 ty hk λtk=>⟨.bl b,H,I.tok tk,rfl,q⟩
end
def lE:List V->List V->Bool
 | [],[]=>true
 | x::xs,y::ys=>tX x y&&lE xs ys
 | _,_=>false
def mG:∀(xs ys:List V) (e:Nat->Bool),(∀j x y,xs[j]? =some x->ys[j]? =some y->e j=tX x y)->((List.range (min xs.length ys.length)).all e&&xs.length==ys.length)=lE xs ys
 | [],[],e,_=>rfl
 | [],_::_,e,_=>by simp[lE]
 | _::_,[],e,_=>by simp[lE]
 | x::xs,y::ys,e,h=>by
  have ih:=mG xs ys (λj=>e (j+1)) λj x y h1 h2=>h (j+1) x y h1 h2;have h0:e 0=tX x y:=h 0 x y rfl rfl;show _=(tX x y&&lE xs ys);rw[<-ih,<-h0];have e1:min (x::xs).length (y::ys).length=min xs.length ys.length+1:=by simp only[List.length_cons];omega
  rw[e1,abG,abL,acm];have e2:((x::xs).length==(y::ys).length)=(xs.length==ys.length):=by simp only[List.length_cons];rw[Bool.eq_iff_iff];simp
  rw[e2,Bool.and_assoc];rfl
def T_(K:fv):R2:=λx y H Q=>∃a b xs ys,x= .ref a/\y= .ref b/\mQ K H a xs/\mQ K H b ys/\xs.all eD=true/\ys.all eD=true/\Q (.bl (lE xs ys)) H
def Uz(K:fv):R2:=λx y H Q=>∃a b xs ys,x= .ref a/\y= .ref b/\mQ K H a xs/\mQ K H b ys/\xs.all eD=true/\ys.all eD=true/\Q (.bl (!lE xs ys)) H
def mS:∀{xs:List V} {j:Nat} {x:V},xs.all eD=true->xs[j]? =some x->eD x=true
 | _::_,0,_,h,e=>by rw[abL,aaB]at h;cases e;exact h.1
 | _::_,j+1,_,h,e=>by rw[abL,aaB]at h;exact mS h.2 e
section
def Ph(hu:X.A.units < cLine):jF X (compareOp .NotEq) (Uz X.K):=by
 intro δ s σ H x y v u Q I rx ry h;have⟨a,b,xs,ys,rfl,rfl,h1,h2,f1,f2,q⟩:=h;cases rx;cases ry;have⟨i1,v1,t1,_⟩:=I.tuple h1;have⟨i2,v2,t2,_⟩:=I.tuple h2;have l1:=v1.length;have l2:=v2.length;refine SeqAt.RcNeAt.tuples (e:=λj=>match xs[j]?,ys[j]? with| some x,some y=>tX x y| _,_=>true) (show s.heap.IsTuple a i1.toArray from t1) (show s.heap.IsTuple b i2.toArray from t2) hu (λj h1 h2=>?_) _ _ _ _ ?_
 ·have b1:j < i1.length:=by simpa using h1
  have b2:j < i2.length:=by simpa using h2
  have e1:xs[j]? =some (xs[j]'()):=aaa _;have e2:ys[j]? =some (ys[j]'()):=aaa _;have⟨u1,g1,r1⟩:=v1.get e1;have⟨u2,g2,r2⟩:=v2.get e2;rw[aaa b1]at g1;rw[aaa b2]at g2;have w1:i1.toArray[j]=u1:=by simpa using Option.some.inj g1
  have w2:i2.toArray[j]=u2:=by simpa using Option.some.inj g2
  rw[w1,w2];simp only[e1,e2];exact wI r1 r2 (mS f1 e1) (mS f2 e2)
 ·rw[List.size_toArray,List.size_toArray,<-l1,<-l2,mG xs ys _ (λj x y h1 h2=>by simp only[h1,h2])];exact⟨.bl (!lE xs ys),H,I,rfl,q⟩
def Kz(hu:X.A.units < cLine):jF X (compareOp .Eq) (T_ X.K):=by
 intro δ s σ H x y v u Q I rx ry h;have⟨a,b,xs,ys,rfl,rfl,h1,h2,f1,f2,q⟩:=h;cases rx;cases ry;have⟨i1,v1,t1,_⟩:=I.tuple h1;have⟨i2,v2,t2,_⟩:=I.tuple h2;have l1:=v1.length;have l2:=v2.length;refine SeqAt.eq_tupleAt (e:=λj=>match xs[j]?,ys[j]? with| some x,some y=>tX x y| _,_=>true) (show s.heap.IsTuple a i1.toArray from t1) (show s.heap.IsTuple b i2.toArray from t2) hu (λj h1 h2=>?_) ?_
 ·have b1:j < i1.length:=by simpa using h1
  have b2:j < i2.length:=by simpa using h2
  have e1:xs[j]? =some (xs[j]'()):=aaa _;have e2:ys[j]? =some (ys[j]'()):=aaa _;have⟨u1,g1,r1⟩:=v1.get e1;have⟨u2,g2,r2⟩:=v2.get e2;rw[aaa b1]at g1;rw[aaa b2]at g2;have w1:i1.toArray[j]=u1:=by simpa using Option.some.inj g1
  have w2:i2.toArray[j]=u2:=by simpa using Option.some.inj g2
  rw[w1,w2];simp only[e1,e2];exact wI r1 r2 (mS f1 e1) (mS f2 e2)
 ·rw[List.size_toArray,List.size_toArray,<-l1,<-l2,mG xs ys _ (λj x y h1 h2=>by simp only[h1,h2])];exact⟨.bl (lE xs ys),H,I,rfl,q⟩
end
def Gi(bs:List Bool):(List.range bs.length).any (λi=>bs.getD i false)=bs.any id:=by
 induction bs with
 | nil=>rfl
 | cons b bs ih=>
  rw[aaI,abG,abC,List.any_map,abC,<-ih];rfl
def yf:∀{bs:List Bool} {us:List Value},ar (bs.map V.bl) us->us=bs.map Value.bool
 | [],_,r=>by cases r;rfl
 | b::bs,_,r=>by
  cases r with
  | cons h t=>
   cases h;rw[yf t];rfl
def y9{prog:Program}{bs:List Bool}:TruthOf prog w A (λi v=>(bs.map Value.bool).toArray[i]? =some v) (λi=>bs.getD i false):=by
 intro i v s Q E h q;have h':(bs.map Value.bool)[i]? =some v:=by simpa using h
 rw[aah]at h';cases e:bs[i]? with
 | none=>rw[e]at h';cases h'
 | some b=>
  rw[e]at h';cases h';have q':Q b s:=by
   have eb:bs.getD i false=b:=by rw[aab,e];rfl
   exact eb▸q
  exact wpAny_truthy_bool q'
def Ri(K:fv):List V->Hp->VK->Prop:=λxs H Q=>∃(p:Addr) (bs:List Bool),xs=[.ref p]/\gu K H p (bs.map V.bl)/\Q (.bl (bs.any id)) H
section
def Gz (hc : X.calm = true) : dw X (.builtin "any") (Ri X.K) :=by
  intro δ s σ H xs us Q I r h;obtain⟨p,bs,rfl,hq,q⟩ :=h;obtain⟨u,rfl,r1⟩ :=kC r;cases r1;obtain⟨its,rv,pl,hz⟩ :=I.list hq;have Qi :=yf rv;subst Qi;refine call_any_walk (wpAny_pyIter_list pl.isList ?_);have lp : p < s.heap.objs.size :=by obtain⟨o,e,_⟩ :=pl.isList;exact aap e
  refine⟨s.heap.objs.size,_,_,_,_,_,λi =>bs.getD i false,rfl,Walks.list (show X.A.in1.handled = none from I.ok.hd hc) s.heap.objs.size p (aaL lp) (bs.map Value.bool).toArray,⟨⟨_,aaO _ rfl,rfl,rfl⟩,pl.isList.at λo e =>aak _ e⟩,y9,λh' tk hk =>?_⟩;refine⟨.bl (bs.any id),H,I.kept λb o e =>hk b o (λz =>by have : b = s.heap.objs.size :=(by simpa using z);exact Nat.lt_irrefl _ (this ▸ Heap.lt_size e)) (Heap.get?_push_of_some _ e),?_,q⟩;rw[aay,aae,Gi];rfl
end
end L2
namespace PySem
open Sem (wp)
end PySem
namespace PySem.W
open PySem PySem.Builtin PySem.Builtin.ObjectAttr
end PySem.W
namespace PySem
open Sem (wp)
end PySem
namespace L2
open PySem PySem.Spec PyProof.Rows
def xO(a C:Addr)(od:Option Addr):HO:=.ext λh=>∃ob vs,h.get? a=some ob/\ob.cls= .ref C/\ob.dict=od/\ob.data= .fields vs
inductive Dt where
 | aP
 | bl (b:Bool)
 | int (i:Int)
 | str (x:Str)
 | tup (xs:List Dt)
 | lst (xs:List Dt)
 | obj (C:Addr) (ns:List Str) (xs:List Dt)
 | loc (k:Nat)
 | ref (a:Addr)
 | ty (n:String)
 | ip (ns:List Int)
 | kt (xs:List Dt)
 | exc (C:Addr) (ns:List Str) (xs:List Dt)
 | RZ (x C:Addr) (od:Option Addr) (ns:List Str) (xs:List Dt)
inductive MO where
 | lst (xs:List Dt)
 | ins (C:Addr) (ns:List Str) (xs:List Dt)
 | iC (ks:List Key) (xs:List Dt)
 | raw (u:Addr->HO)
abbrev Ms:=List MO
abbrev En:=List (Option Dt)
mutual
def Den(K:fv)(G:Hp)(L:List Addr):Dt->V->Prop
 | .aP,v=>v= .aP
 | .bl b,v=>v= .bl b
 | .int i,v=>v= .int i
 | .str x,v=>v= .str x
 | .tup ds,v=>∃a vs,v= .ref a/\G a=some (.tup vs)/\Ξ K G L ds vs
 | .lst ds,v=>∃a vs,v= .ref a/\G a=some (.lst vs)/\Ξ K G L ds vs
 | .obj C ns ds,v=>∃a dx vs,v= .ref a/\G a=some (.ins C dx (ns.zip vs))/\ns.length=ds.length/\Ξ K G L ds vs
 | .loc k,v=>∃a,v= .ref a/\L[k]? =some a
 | .ref a,v=>v= .ref a
 | .ty n,v=>v= .ty n
 | .ip ns,v=>∃a,v= .ref a/\gu K G a (ns.map V.int)
 | .kt ds,v=>∃a vs,v= .ref a/\mQ K G a vs/\Ξ K G L ds vs
 | .exc C ns ds,v=>∃a od vs,v= .ref a/\G a=some (xO a C od)/\((ns=[]/\od=none)\/∃dx,od=some dx/\G dx=some (.xd (ns.zip vs)))/\ns.length=ds.length/\Ξ K G L ds vs
 | .RZ x _ od ns ds,v=>∃vs,v= .ref x/\((ns=[]/\od=none)\/∃dx,od=some dx/\G dx=some (.xd (ns.zip vs)))/\ns.length=ds.length/\Ξ K G L ds vs
def Ξ(K:fv)(G:Hp)(L:List Addr):List Dt->List V->Prop
 | [],vs=>vs=[]
 | d::ds,vs=>∃v r,vs=v::r/\Den K G L d v/\Ξ K G L ds r
end
def Pre(L L':List Addr):Prop:=∃t,L'=L++t
def Pre.refl(L:List Addr):Pre L L:=⟨[],by simp⟩
def Pre.trans{a b c:List Addr}(h:Pre a b)(h':Pre b c):Pre a c:=by have⟨t,rfl⟩:=h;have⟨u,rfl⟩:=h';exact⟨t++u,by simp⟩
def Pre.get{a b:List Addr}(h:Pre a b){k:Nat}{x:Addr}(e:a[k]? =some x):b[k]? =some x:=by have⟨t,rfl⟩:=h;have hk:k < a.length:=(aaf.mp e).1;rw[aao hk];exact e
def dQ.rd{H H':Hp}{a:Addr}{u:HO}(e:dQ H H')(h:Rd H a u):Rd H' a u:=by
 rcases h with h| ⟨o,h⟩
 ·exact .inl (e _ _ h)
 ·exact .inr ⟨o,e _ _ h⟩
def dQ.Sq{K:fv}{H H':Hp}{a:Addr}{xs:List V}(e:dQ H H')(h:mQ K H a xs):mQ K H' a xs:=by
 rcases h with h| h
 ·exact .inl (e.rd h)
 ·exact .inr h
section
variable{K:fv}{G G':Hp}{L L':List Addr}
mutual
def Den.mono(g:dQ G G')(l:Pre L L'):∀(d:Dt) (v:V),Den K G L d v->Den K G' L' d v
 | .aP,_,h=>h
 | .bl _,_,h=>h
 | .int _,_,h=>h
 | .str _,_,h=>h
 | .tup ds,_,⟨a,vs,e,h1,h2⟩=>⟨a,vs,e,g _ _ h1,Ξ.mono g l ds vs h2⟩
 | .lst ds,_,⟨a,vs,e,h1,h2⟩=>⟨a,vs,e,g _ _ h1,Ξ.mono g l ds vs h2⟩
 | .obj C ns ds,_,⟨a,dx,vs,e,h1,hn,h2⟩=>⟨a,dx,vs,e,g _ _ h1,hn,Ξ.mono g l ds vs h2⟩
 | .loc k,_,⟨a,e,h1⟩=>⟨a,e,l.get h1⟩
 | .ref _,_,h=>h
 | .ty _,_,h=>h
 | .ip _,_,⟨a,e,h1⟩=>⟨a,e,g.seq h1⟩
 | .kt ds,_,⟨a,vs,e,h1,h2⟩=>⟨a,vs,e,g.Sq h1,Ξ.mono g l ds vs h2⟩
 | .exc _ _ ds,_,⟨a,od,vs,e,h1,h2,h3,h4⟩=>⟨a,od,vs,e,g _ _ h1,h2.imp (λz=>z) (λ⟨dx,z1,z2⟩=>⟨dx,z1,g _ _ z2⟩),h3,Ξ.mono g l ds vs h4⟩
 | .RZ _ _ _ _ ds,_,⟨vs,e,h2,h3,h4⟩=>⟨vs,e,h2.imp (λz=>z) (λ⟨dx,z1,z2⟩=>⟨dx,z1,g _ _ z2⟩),h3,Ξ.mono g l ds vs h4⟩
def Ξ.mono(g:dQ G G')(l:Pre L L'):∀(ds:List Dt) (vs:List V),Ξ K G L ds vs->Ξ K G' L' ds vs
 | [],_,h=>h
 | d::ds,_,⟨v,r,e,h1,h2⟩=>⟨v,r,e,Den.mono g l d v h1,Ξ.mono g l ds r h2⟩
end
def Ξ.pair:∀{ds:List Dt} {vs:List V},Ξ K G L ds vs->Paired (Den K G L) ds vs
 | [],_,h=>by have h:_=_:=h;subst h;exact .nil
 | d::ds,_,⟨v,r,e,h1,h2⟩=>by subst e;exact .cons h1 (Ξ.pair h2)
def Ξ.of:∀{ds:List Dt} {vs:List V},Paired (Den K G L) ds vs->Ξ K G L ds vs
 | _,_,.nil=>rfl
 | _,_,.cons h t=>⟨_,_,rfl,h,Ξ.of t⟩
end
section
variable{α β:Type}{F:α->β->Prop}
def DH:∀{xs:List α} {us:List β} {i:Nat} {x:α},Paired F xs us->xs[i]? =some x->∃u,us[i]? =some u/\F x u
 | _,_,_,_,.nil,e=>by simp at e
 | _,_,0,_,.cons r _,e=>by simp at e;subst e;exact⟨_,rfl,r⟩
 | _,_,i+1,x,.cons _ t,e=>by have⟨u,h1,h2⟩:=DH (i:=i) (x:=x) t (by simpa using e);exact⟨u,by simpa using h1,h2⟩
def CO{x:α}{u:β}(r:F x u):∀{xs:List α} {us:List β} (i:Nat),Paired F xs us->Paired F (xs.set i x) (us.set i u)
 | _,_,_,.nil=>.nil
 | _,_,0,.cons _ t=>.cons r t
 | _,_,i+1,.cons q t=>.cons q (CO r i t)
def ym:∀{xs ys:List α} {us ws:List β},Paired F xs us->Paired F ys ws->Paired F (xs++ys) (us++ws)
 | _,_,_,_,.nil,s=>s
 | _,_,_,_,.cons r t,s=>.cons r (ym t s)
def si:∀{xs:List α} {us:List β} (n:Nat),Paired F xs us->Paired F (xs.take n) (us.take n)
 | _,_,0,_=>.nil
 | _,_,_+1,.nil=>.nil
 | _,_,n+1,.cons r t=>.cons r (si n t)
def sO:∀{xs:List α} {us:List β} (n:Nat),Paired F xs us->Paired F (xs.drop n) (us.drop n)
 | _,_,0,r=>r
 | _,_,_+1,.nil=>.nil
 | _,_,n+1,.cons _ t=>sO n t
def wm{xs:List α}{us:List β}(h:Paired F xs us):∀k:Nat,Paired F (List.replicate k xs).flatten (List.replicate k us).flatten
 | 0=>.nil
 | k+1=>by rw[abi,abi,abx,abx];exact ym h (wm h k)
end
section
variable{K:fv}{G:Hp}{L:List Addr}
def Ξ.length{ds:List Dt}{vs:List V}(h:Ξ K G L ds vs):ds.length=vs.length:=Paired.length h.pair
def Ξ.get{ds:List Dt}{vs:List V}{i:Nat}{d:Dt}(h:Ξ K G L ds vs)(e:ds[i]? =some d):∃v,vs[i]? =some v/\Den K G L d v:=DH h.pair e
def Ξ.app{ds es:List Dt}{vs us:List V}(h:Ξ K G L ds vs)(h':Ξ K G L es us):Ξ K G L (ds++es) (vs++us):=.of (ym h.pair h'.pair)
def iU:∀{ns:List Int},Ξ K G L (ns.map Dt.int) (ns.map V.int)
 | []=>rfl
 | n::ns=>⟨_,_,rfl,rfl,iU⟩
def a_{d:Dt}{vs:List V}(h:Ξ K G L [d] vs):∃v,vs=[v]/\Den K G L d v:=by have⟨v,r,rfl,h1,h2⟩:=h;have h2:r=[]:=h2;subst h2;exact⟨v,rfl,h1⟩
def fD{d e:Dt}{vs:List V}(h:Ξ K G L [d,e] vs):∃v u,vs=[v,u]/\Den K G L d v/\Den K G L e u:=by have⟨v,r,rfl,h1,h2⟩:=h;have⟨u,rfl,h3⟩:=a_ h2;exact⟨v,u,rfl,h1,h3⟩
end
def Gp(K:fv)(G:Hp)(L:List Addr)(H:Hp)(a:Addr):MO->Prop
 | .lst ds=>∃vs,H a=some (.lst vs)/\Ξ K G L ds vs
 | .ins C ns ds=>∃dx vs,H a=some (.ins C dx (ns.zip vs))/\ns.length=ds.length/\Ξ K G L ds vs
 | .iC ks ds=>∃vs,H a=some (.dK (ks.zip vs))/\ks.length=ds.length/\Ξ K G L ds vs
 | .raw u=>H a=some (u a)
structure Rl(K:fv)(G:Hp)(L:List Addr)(M:Ms)(H:Hp):Prop where
 sub:dQ G H
 len:L.length=M.length
 nd:L.Nodup
 fK:∀(k:Nat) (a:Addr) (m:MO),L[k]? =some a->M[k]? =some m->G a=none/\Gp K G L H a m
structure Ex(G:Hp)(L:List Addr)(H:Hp)(G':Hp)(L':List Addr)(H':Hp):Prop where
 g:dQ G G'
 l:Pre L L'
 fr:∀b,G b=none->H b≠none->G' b=none
 out:∀b o,H b=some o->b∉L->H' b=some o
 new:∀b∈L',b∈L\/H b=none
 C1:∀b,H b≠none->H' b≠none
def Ex.refl(G:Hp)(L:List Addr)(H:Hp):Ex G L H G L H:=⟨.refl _,.refl _,λ_ h _=>h,λ_ _ h _=>h,λ_ h=>.inl h,λ_ h=>h⟩
def Ex.trans{G:Hp}{L:List Addr}{H G1:Hp}{L1:List Addr}{H1 G2:Hp}{L2:List Addr}{H2:Hp}(a:Ex G L H G1 L1 H1)(b:Ex G1 L1 H1 G2 L2 H2):Ex G L H G2 L2 H2 where
 g:=a.g.trans b.g
 l:=a.l.trans b.l
 fr:=λx h1 h2=>b.fr x (a.fr x h1 h2) (a.C1 x h2)
 out:=λx o h1 h2=>b.out x o (a.out x o h1 h2) λz=>(a.new x z).elim h2 λq=>by rw[h1]at q;cases q
 new:=λx h=>by
  rcases b.new x h with z| z
  ·exact a.new x z
  ·right;cases q:H x with
   | none=>rfl
   | some o=>exact absurd z (a.C1 x (by rw[q];simp))
 C1:=λx h=>b.C1 x (a.C1 x h)
def Gp.there{K:fv}{G:Hp}{L:List Addr}{H:Hp}{a:Addr}{m:MO}(h:Gp K G L H a m):H a≠none:=by
 cases m with
 | lst ds=>have⟨vs,e,_⟩:=h;rw[e];simp
 | ins C ns ds=>have⟨dx,vs,e,_⟩:=h;rw[e];simp
 | iC ks ds=>have⟨vs,e,_⟩:=h;rw[e];simp
 | raw u=>have h:H a=some (u a):=h;rw[h];simp
def Gp.mono{K:fv}{G G':Hp}{L L':List Addr}{H H':Hp}{a:Addr}{m:MO}(g:dQ G G')(l:Pre L L')(e:H' a=H a)(h:Gp K G L H a m):Gp K G' L' H' a m:=by
 cases m with
 | lst ds=>have⟨vs,e1,h⟩:=h;exact⟨vs,e.trans e1,Ξ.mono g l _ _ h⟩
 | ins C ns ds=>have⟨dx,vs,e1,h0,h⟩:=h;exact⟨dx,vs,e.trans e1,h0,Ξ.mono g l _ _ h⟩
 | iC ks ds=>have⟨vs,e1,h0,h⟩:=h;exact⟨vs,e.trans e1,h0,Ξ.mono g l _ _ h⟩
 | raw u=>exact e.trans h
section
variable{K:fv}{G:Hp}{L:List Addr}{M:Ms}{H:Hp}{p:Addr}{o:HO}
def Rl.xD(r:Rl K G L M H){a:Addr}(h:a∈L):∃(k:Nat) (m:MO),L[k]? =some a/\M[k]? =some m/\G a=none/\Gp K G L H a m:=by
 have⟨k,hk,e⟩:=aba h;have e1:L[k]? =some a:=by rw[aaa hk,e]
 have e2:M[k]? =some (M[k]'(by rw[<-r.len];exact hk)):=aaa _;exact⟨k,_,e1,e2,r.fK k a _ e1 e2⟩
def Rl.P8(r:Rl K G L M H)(hp:H p=none):p∉L:=λz=>by have⟨k,m,_,_,_,h⟩:=r.xD z;exact h.there hp
def Rl.Ly(r:Rl K G L M H)(hp:H p=none):Rl K (upd G p o) L M (upd H p o) where
 sub:=λb u e=>by
  by_cases hb:b=p
  ·subst hb;rw[Ψ]at e⊢;exact e
  ·rw[Ζ hb]at e⊢;exact r.sub b u e
 len:=r.len
 nd:=r.nd
 fK:=λk a m h1 h2=>by have⟨q1,q2⟩:=r.fK k a m h1 h2;have hb:a≠p:=λz=>q2.there (by rw[z];exact hp);exact⟨by rw[Ζ hb];exact q1,q2.mono (λb u e=>by rw[Ζ (λz=>by rw[z,r.sub.free hp]at e;cases e)];exact e) (.refl _) (Ζ hb)⟩
def Rl.Q3(r:Rl K G L M H)(hp:H p=none):Ex G L H (upd G p o) L (upd H p o) where
 g:=λb u e=>by rw[Ζ (λz=>by rw[z,r.sub.free hp]at e;cases e)];exact e
 l:=.refl _
 fr:=λb h1 h2=>by rw[Ζ (λz=>h2 (by rw[z];exact hp))];exact h1
 out:=λb u h1 _=>by rw[Ζ (λz=>by rw[z,hp]at h1;cases h1)];exact h1
 new:=λb h=>.inl h
 C1:=λb h=>by rw[Ζ (λz=>h (by rw[z];exact hp))];exact h
def Rl.HS{m:MO}(r:Rl K G L M H)(hp:H p=none)(hm:Gp K G (L++[p]) (upd H p o) p m):Rl K G (L++[p]) (M++[m]) (upd H p o) where
 sub:=λb u e=>by rw[Ζ (λz=>by rw[z,r.sub.free hp]at e;cases e)];exact r.sub b u e
 len:=by rw[aag,aag,r.len];rfl
 nd:=List.nodup_append.mpr ⟨r.nd,by simp,λa ha b hb=>by
  have e:b=p:=by simpa using hb
  rw[e];exactλz=>r.P8 hp (z▸ha)⟩
 fK:=λk a m' h1 h2=>by
  by_cases hk:k < L.length
  ·rw[aao hk]at h1;rw[aao (by rw[<-r.len];exact hk)]at h2;have⟨q1,q2⟩:=r.fK k a m' h1 h2;exact⟨q1,q2.mono (.refl _) ⟨[p],rfl⟩ (Ζ λz=>q2.there (by rw[z];exact hp))⟩
  ·have e:k=L.length:=by have:=(aaf.mp h1).1;rw[aag]at this;simp at this;omega
   rw[e,aaw (aai _)]at h1;rw[e,r.len,aaw (aai _)]at h2;simp at h1 h2;subst h1 h2;exact⟨r.sub.free hp,hm⟩
def Rl.Uk(r:Rl K G L M H)(hp:H p=none):Ex G L H G (L++[p]) (upd H p o) where
 g:=.refl _
 l:=⟨[p],rfl⟩
 fr:=λb h1 _=>h1
 out:=λb u h1 _=>by rw[Ζ (λz=>by rw[z,hp]at h1;cases h1)];exact h1
 new:=λb h=>by
  rcases aaT.mp h with z| z
  ·exact .inl z
  ·have e:b=p:=by simpa using z
   right;rw[e];exact hp
 C1:=λb h=>by rw[Ζ (λz=>h (by rw[z];exact hp))];exact h
def Rl.setM{k:Nat}{a:Addr}{m:MO}(r:Rl K G L M H)(hk:L[k]? =some a)(hm:Gp K G L (upd H a o) a m):Rl K G L (M.set k m) (upd H a o) where
 sub:=λb u e=>by have⟨k',m',e1,e2,q1,_⟩:=r.xD (aaj hk);rw[Ζ (λz=>by rw[z,q1]at e;cases e)];exact r.sub b u e
 len:=by rw[aaZ];exact r.len
 nd:=r.nd
 fK:=λk' a' m' h1 h2=>by
  by_cases e:k'=k
  ·subst e;rw[hk]at h1;cases h1;have hl:k' < M.length:=by rw[<-r.len];exact(aaf.mp hk).1
   rw[aa5 hl]at h2;cases h2;have⟨_,_,_,_,q1,_⟩:=r.xD (aaj hk);exact⟨q1,hm⟩
  ·rw[aa6 (λz=>e z.symm)]at h2;have⟨q1,q2⟩:=r.fK k' a' m' h1 h2;have ne:a'≠a:=λz=>by subst z;exact e ((List.getElem?_inj (aaf.mp h1).1 r.nd).mp (h1.trans hk.symm))
   exact⟨q1,q2.mono (.refl _) (.refl _) (Ζ ne)⟩
def Rl.Gu{k:Nat}{a:Addr}(r:Rl K G L M H)(hk:L[k]? =some a):Ex G L H G L (upd H a o) where
 g:=.refl _
 l:=.refl _
 fr:=λb h1 _=>h1
 out:=λb u h1 h2=>by rw[Ζ (λz=>h2 (by rw[z];exact aaj hk))];exact h1
 new:=λb h=>.inl h
 C1:=λb h=>by
  by_cases e:b=a
  ·rw[e,Ψ];simp
  ·rw[Ζ e];exact h
end
structure lC(K:fv)(G:Hp)(L:List Addr)(ρ:En)(σ:St):Prop where
 len:ρ.length=σ.length
 fK:∀(i:Nat) (d:Dt),ρ[i]? =some (some d)->∃v,σ[i]? =some (some v)/\Den K G L d v
section
variable{K:fv}{G G':Hp}{L L':List Addr}{H H':Hp}{ρ:En}{σ:St}
def lC.mono(h:lC K G L ρ σ)(e:Ex G L H G' L' H'):lC K G' L' ρ σ:=⟨h.len,λi d q=>let ⟨v,a,b⟩:=h.fK i d q;⟨v,a,Den.mono e.g e.l d v b⟩⟩
def lC.set(h:lC K G L ρ σ)(i:Nat){d:Dt}{v:V}(q:Den K G L d v):lC K G L (ρ.set i (some d)) (σ.set i (some v)):=by
 refine⟨by rw[aaZ,aaZ];exact h.len,λj d' e=>?_⟩;by_cases hj:i=j
 ·subst hj;have hl:i < ρ.length:=by have:=(aaf.mp e).1;rwa[aaZ]at this
  rw[aa5 hl]at e;cases e;exact⟨v,aa5 (by rw[<-h.len];exact hl),q⟩
 ·rw[aa6 hj]at e;have⟨u,a,b⟩:=h.fK j d' e;exact⟨u,by rw[aa6 hj];exact a,b⟩
end
abbrev DQ:=Dt->Ms->Prop
abbrev DX:=En->Addr->List (Str×Dt)->Ms->Prop
def R_(K:fv)(G:Hp)(L:List Addr)(H:Hp)(fs:List (Str×Dt))(od:Option Addr):Prop:=
 (fs=[]/\od=none)\/fs≠[]/\∃dx vs,od=some dx/\G dx=some (.xd ((fs.map (·.1)).zip vs))/\Ξ K G L (fs.map (·.2)) vs
def uB(K:fv)(G:Hp)(L:List Addr)(H:Hp)(R:St->XK)(x:DX):Prop:=
 ∀σ ρ C fs M' G' L' H' od,x ρ C fs M'->Ex G L H G' L' H'->Rl K G' L' M' H'->lC K G' L' ρ σ->R_ K G' L' H' fs od->R σ (.ref C) od H'
def uB.on{K:fv}{G:Hp}{L:List Addr}{H G1:Hp}{L1:List Addr}{H1:Hp}{R:St->XK}{x:DX}(h:uB K G L H R x)(e:Ex G L H G1 L1 H1):uB K G1 L1 H1 R x:=
 λσ ρ C fs M' G' L' H' od q e' r n y=>h σ ρ C fs M' G' L' H' od q (e.trans e') r n y
def jP:DX:=λ_ _ _ _=>False
def Ih{K:fv}{G:Hp}{L:List Addr}{H:Hp}{R:St->XK}:uB K G L H R jP:=λ_ _ _ _ _ _ _ _ _ q=>q.elim
abbrev DE:=En->Ms->DQ->DX->Prop
abbrev DT:=En->Ms->(Bool->Ms->Prop)->DX->Prop
abbrev DA:=En->Ms->(List Dt->Ms->Prop)->DX->Prop
structure ly where
 nx:En->Ms->Prop
 rt:DQ
 bk:En->Ms->Prop:=λ_ _=>False
 ct:En->Ms->Prop:=λ_ _=>False
 x:DX:=jP
abbrev DS:=ly->En->Ms->Prop
inductive Fin(K:fv)(G0:Hp)(L0:List Addr)(H0:Hp)(q:DQ)(v:V)(H:Hp):Prop
 | mk (d:Dt) (G:Hp) (L:List Addr) (M:Ms) (e:Ex G0 L0 H0 G L H) (r:Rl K G L M H) (n:Den K G L d v) (h:q d M)
inductive tT(K:fv)(G0:Hp)(L0:List Addr)(H0:Hp)(q:Bool->Ms->Prop)(b:Bool)(H:Hp):Prop
 | mk (G:Hp) (L:List Addr) (M:Ms) (e:Ex G0 L0 H0 G L H) (r:Rl K G L M H) (h:q b M)
inductive MW(K:fv)(G0:Hp)(L0:List Addr)(H0:Hp)(q:List Dt->Ms->Prop)(vs:List V)(H:Hp):Prop
 | mk (ds:List Dt) (G:Hp) (L:List Addr) (M:Ms) (e:Ex G0 L0 H0 G L H) (r:Rl K G L M H) (n:Ξ K G L ds vs) (h:q ds M)
inductive eT(K:fv)(G0:Hp)(L0:List Addr)(H0:Hp)(q:En->Ms->Prop)(σ:St)(H:Hp):Prop
 | mk (ρ:En) (G:Hp) (L:List Addr) (M:Ms) (e:Ex G0 L0 H0 G L H) (r:Rl K G L M H) (n:lC K G L ρ σ) (h:q ρ M)
def uA(K:fv)(G0:Hp)(L0:List Addr)(H0:Hp)(Dn:ly):yn:=⟨eT K G0 L0 H0 Dn.nx,Fin K G0 L0 H0 Dn.rt,eT K G0 L0 H0 Dn.bk,eT K G0 L0 H0 Dn.ct⟩
inductive yQ(K:fv)(R:St->XK)(t:DE)(σ:St)(H:Hp)(Q:VK):Prop
 | mk (G:Hp) (L:List Addr) (ρ:En) (M:Ms) (q:DQ) (x:DX) (r:Rl K G L M H) (n:lC K G L ρ σ) (h:t ρ M q x) (hx:uB K G L H R x) (hQ:∀v H1,Fin K G L H q v H1->Q v H1)
inductive ES(K:fv)(R:St->XK)(t:DT)(σ:St)(H:Hp)(Q:Bool->Hp->Prop):Prop
 | mk (G:Hp) (L:List Addr) (ρ:En) (M:Ms) (q:Bool->Ms->Prop) (x:DX) (r:Rl K G L M H) (n:lC K G L ρ σ) (h:t ρ M q x) (hx:uB K G L H R x) (hQ:∀b H1,tT K G L H q b H1->Q b H1)
inductive S_(K:fv)(R:St->XK)(t:DA)(σ:St)(H:Hp)(Q:List V->Hp->Prop):Prop
 | mk (G:Hp) (L:List Addr) (ρ:En) (M:Ms) (q:List Dt->Ms->Prop) (x:DX) (r:Rl K G L M H) (n:lC K G L ρ σ) (h:t ρ M q x) (hx:uB K G L H R x) (hQ:∀vs H1,MW K G L H q vs H1->Q vs H1)
structure Qk(A B:yn):Prop where
 nx:∀σ H,A.nx σ H->B.nx σ H
 rt:∀v H,A.rt v H->B.rt v H
 bk:∀σ H,A.bk σ H->B.bk σ H
 ct:∀σ H,A.ct σ H->B.ct σ H
inductive UJ(K:fv)(R:St->XK)(t:DS)(De:yn)(σ:St)(H:Hp):Prop
 | mk (G:Hp) (L:List Addr) (ρ:En) (M:Ms) (Dn:ly) (r:Rl K G L M H) (n:lC K G L ρ σ) (h:t Dn ρ M) (hx:uB K G L H R Dn.x) (hQ:Qk (uA K G L H Dn) De)
def JE(X:Cx)(R:St->XK)(e:Expr)(t:DE):Prop:=PE X e (yQ X.K R t)
def JT(X:Cx)(R:St->XK)(e:Expr)(t:DT):Prop:=PT X e (ES X.K R t)
def JW(X:Cx)(R:St->XK)(e:Expr)(t:DT):Prop:=PW X e (ES X.K R t)
def JA(X:Cx)(R:St->XK)(es:List Expr)(t:DA):Prop:=PA X es (S_ X.K R t)
def JS(X:Cx)(R:St->XK)(st:Stmt)(t:DS):Prop:=PS X st (UJ X.K R t)
def CV(X:Cx)(R:St->XK)(st:List Stmt)(t:DS):Prop:=Gw X st (UJ X.K R t)
section
variable{K:fv}{G0:Hp}{L0:List Addr}{H0 G1:Hp}{L1:List Addr}{H1:Hp}
def Fin.back{q:DQ}(e:Ex G0 L0 H0 G1 L1 H1){v:V}{H:Hp}(h:Fin K G1 L1 H1 q v H):Fin K G0 L0 H0 q v H:=let ⟨d,G,L,M,a,b,c,f⟩:=h;⟨d,G,L,M,e.trans a,b,c,f⟩
def eT.back{q:En->Ms->Prop}(e:Ex G0 L0 H0 G1 L1 H1){v:St}{H:Hp}(h:eT K G1 L1 H1 q v H):eT K G0 L0 H0 q v H:=let ⟨d,G,L,M,a,b,c,f⟩:=h;⟨d,G,L,M,e.trans a,b,c,f⟩
def tT.back{q:Bool->Ms->Prop}(e:Ex G0 L0 H0 G1 L1 H1){v:Bool}{H:Hp}(h:tT K G1 L1 H1 q v H):tT K G0 L0 H0 q v H:=let ⟨G,L,M,a,b,f⟩:=h;⟨G,L,M,e.trans a,b,f⟩
def uA.back{Dn:ly}(e:Ex G0 L0 H0 G1 L1 H1):Qk (uA K G1 L1 H1 Dn) (uA K G0 L0 H0 Dn):=⟨λ_ _ h=>eT.back e h,λ_ _ h=>Fin.back e h,λ_ _ h=>eT.back e h,λ_ _ h=>eT.back e h⟩
def SP.imp{X:Cx}{δ:List (Addr×Obj)}{A B:yn}(e:Qk A B){f:Flow}{s:Shared}(h:SP X δ A f s):SP X δ B f s:=by
 cases f with
 | next=>have⟨a,b,I,q⟩:=h;exact⟨a,b,I,e.nx _ _ q⟩
 | brk=>have⟨a,b,I,q⟩:=h;exact⟨a,b,I,e.bk _ _ q⟩
 | cont=>have⟨a,b,I,q⟩:=h;exact⟨a,b,I,e.ct _ _ q⟩
 | ret u=>have⟨v,a,b,I,r,q⟩:=h;exact⟨v,a,b,I,r,e.rt _ _ q⟩
end
section
variable{X:Cx}{R:St->XK}{e:Expr}
def JE.of{te:TE}{t:DE}(h:PE X e te)(hw:∀σ H G L ρ M q x,Rl X.K G L M H->lC X.K G L ρ σ->t ρ M q x->uB X.K G L H R x->te σ H (Fin X.K G L H q)):JE X R e t:=by intro δ s σ H Q I ⟨G,L,ρ,M,q,x,r,n,ht,hx,hQ⟩;refine bA (h δ s σ H _ I (hw σ H G L ρ M q x r n ht hx)) λu s1 ⟨v,H1,I1,rv,f⟩=>⟨v,H1,I1,rv,hQ v H1 f⟩
def JT.of{te:TT}{t:DT}(h:PT X e te)(hw:∀σ H G L ρ M q x,Rl X.K G L M H->lC X.K G L ρ σ->t ρ M q x->uB X.K G L H R x->te σ H (tT X.K G L H q)):JT X R e t:=by intro δ s σ H Q I ⟨G,L,ρ,M,q,x,r,n,ht,hx,hQ⟩;refine bA (h δ s σ H _ I (hw σ H G L ρ M q x r n ht hx)) λu s1 ⟨H1,I1,f⟩=>⟨H1,I1,hQ u H1 f⟩
def JW.of{te:TT}{t:DT}(h:PW X e te)(hw:∀σ H G L ρ M q x,Rl X.K G L M H->lC X.K G L ρ σ->t ρ M q x->uB X.K G L H R x->te σ H (tT X.K G L H q)):JW X R e t:=by intro wh δ s σ H Q I ⟨G,L,ρ,M,q,x,r,n,ht,hx,hQ⟩;refine bA (h wh δ s σ H _ I (hw σ H G L ρ M q x r n ht hx)) λu s1 ⟨H1,I1,f⟩=>⟨H1,I1,hQ u H1 f⟩
def JA.of{es:List Expr}{te:TA}{t:DA}(h:PA X es te)(hw:∀σ H G L ρ M q x,Rl X.K G L M H->lC X.K G L ρ σ->t ρ M q x->uB X.K G L H R x->te σ H (MW X.K G L H q)):JA X R es t:=by intro pos δ s σ H Q I ⟨G,L,ρ,M,q,x,r,n,ht,hx,hQ⟩;refine bA (h pos δ s σ H _ I (hw σ H G L ρ M q x r n ht hx)) λu s1 ⟨v,H1,I1,rv,f⟩=>⟨v,H1,I1,rv,hQ v H1 f⟩
def JS.of{st:Stmt}{te:TS}{t:DS}(h:PS X st te)(hw:∀σ H G L ρ M Dn,Rl X.K G L M H->lC X.K G L ρ σ->t Dn ρ M->uB X.K G L H R Dn.x->te (uA X.K G L H Dn) σ H):JS X R st t:=by intro δ s σ H De I ⟨G,L,ρ,M,Dn,r,n,ht,hx,hQ⟩;exact bA (h δ s σ H _ I (hw σ H G L ρ M Dn r n ht hx)) λu s1 f=>SP.imp hQ f
def CV.of{st:List Stmt}{te:TS}{t:DS}(h:Gw X st te)(hw:∀σ H G L ρ M Dn,Rl X.K G L M H->lC X.K G L ρ σ->t Dn ρ M->uB X.K G L H R Dn.x->te (uA X.K G L H Dn) σ H):CV X R st t:=by intro δ s σ H De I ⟨G,L,ρ,M,Dn,r,n,ht,hx,hQ⟩;exact bA (h δ s σ H _ I (hw σ H G L ρ M Dn r n ht hx)) λu s1 f=>SP.imp hQ f
end
def x8(i:Nat):DE:=λρ M q _=>match ρ[i]? with
 | some (some d)=>q d M
 | _=>False
def dC(d:Dt):DE:=λ_ M q _=>q d M
def jB(f:Dt->Dt->Ms->DQ->Prop)(a b:DE):DE:=λρ M q x=>a ρ M (λd1 M1=>b ρ M1 (λd2 M2=>f d1 d2 M2 q) x) x
def UU(f:Dt->Ms->DQ->Prop)(a:DE):DE:=λρ M q x=>a ρ M (λd1 M1=>f d1 M1 q) x
def Qx:DA:=λ_ M q _=>q [] M
def GG(a:DE)(r:DA):DA:=λρ M q x=>a ρ M (λd M1=>r ρ M1 (λds M2=>q (d::ds) M2) x) x
def AE(f:List Dt->Ms->DQ->Prop)(a:DA):DE:=λρ M q x=>a ρ M (λds M1=>f ds M1 q) x
def pF(K:fv)(r:R2)(f:Dt->Dt->Ms->DQ->Prop):Prop:=
 ∀G0 L0 H0 G L M H v1 v2 d1 d2 q,Ex G0 L0 H0 G L H->Rl K G L M H->Den K G L d1 v1->Den K G L d2 v2->f d1 d2 M q->r v1 v2 H (Fin K G0 L0 H0 q)
def Y6(K:fv)(r:V->Hp->VK->Prop)(f:Dt->Ms->DQ->Prop):Prop:=
 ∀G0 L0 H0 G L M H v1 d1 q,Ex G0 L0 H0 G L H->Rl K G L M H->Den K G L d1 v1->f d1 M q->r v1 H (Fin K G0 L0 H0 q)
def Cc(K:fv)(r:List V->Hp->VK->Prop)(f:List Dt->Ms->DQ->Prop):Prop:=
 ∀G0 L0 H0 G L M H vs ds q,Ex G0 L0 H0 G L H->Rl K G L M H->Ξ K G L ds vs->f ds M q->r vs H (Fin K G0 L0 H0 q)
section
variable{K:fv}{R:St->XK}{ta tb:DE}{tc:DA}{σ:St}{H G:Hp}{L:List Addr}{ρ:En}{M:Ms}{q:DQ}{x:DX}
def AJ{r:R2}{f:Dt->Dt->Ms->DQ->Prop}(od:pF K r f)(rl:Rl K G L M H)(n:lC K G L ρ σ)(h:jB f ta tb ρ M q x)(hx:uB K G L H R x):Su r (yQ K R ta) (yQ K R tb) σ H (Fin K G L H q):=by refine⟨G,L,ρ,M,_,x,rl,n,h,hx,λv H1 xz=>?_⟩;have⟨d1,G1,L1,M1,e1,r1,n1,h1⟩:=xz;refine⟨G1,L1,ρ,M1,_,x,r1,n.mono e1,h1,hx.on e1,λv2 H2 xz=>?_⟩;have⟨d2,G2,L2,M2,e2,r2,n2,h2⟩:=xz;exact od G L H G2 L2 M2 H2 v v2 d1 d2 q (e1.trans e2) r2 (Den.mono e2.g e2.l _ _ n1) n2 h2
def UA{r:V->Hp->VK->Prop}{f:Dt->Ms->DQ->Prop}(od:Y6 K r f)(rl:Rl K G L M H)(n:lC K G L ρ σ)(h:UU f ta ρ M q x)(hx:uB K G L H R x):ZD r (yQ K R ta) σ H (Fin K G L H q):=by refine⟨G,L,ρ,M,_,x,rl,n,h,hx,λv H1 xz=>?_⟩;have⟨d1,G1,L1,M1,e1,r1,n1,h1⟩:=xz;exact od G L H G1 L1 M1 H1 v d1 q e1 r1 n1 h1
def NQ{r:List V->Hp->VK->Prop}{f:List Dt->Ms->DQ->Prop}(od:Cc K r f)(rl:Rl K G L M H)(n:lC K G L ρ σ)(h:AE f tc ρ M q x)(hx:uB K G L H R x):Yp r (S_ K R tc) σ H (Fin K G L H q):=by refine⟨G,L,ρ,M,_,x,rl,n,h,hx,λv H1 xz=>?_⟩;have⟨d1,G1,L1,M1,e1,r1,n1,h1⟩:=xz;exact od G L H G1 L1 M1 H1 v d1 q e1 r1 n1 h1
end
section
variable{X:Cx}{R:St->XK}{a b c:Expr}{ta tb:DE}{pos:Pos}
def jv(i:Nat){x:Str}{pos:Pos}(hN:X.N[i]? =some x:=by rfl)(hv:W3 X.env.scope x:=by first| exact Or.inl rfl| exact Or.inr (Or.inl rfl)| exact Or.inr (Or.inr rfl))(hd:(x==("__debug__":Str))=false:=by decide)
  (JR:(x==("__classdict__":Str))=false:=by decide):JE X R (.Name x pos) (x8 i):=.of (P6 hN hv hd JR) λσ H G L ρ M q x r n h hx=>by
 unfold x8 at h;split at h
 ·rename_i d e;have⟨v,e1,h1⟩:=n.fK i d e;exact⟨v,e1,d,G,L,M,.refl _ _ _,r,h1,h⟩
 ·exact h.elim
def Qa{d:Dt}{v:V}{e:Expr}(h:PE X e (tC v))(hd:∀G L,Den X.K G L d v):JE X R e (dC d):=.of h λσ H G L ρ M q x r n h hx=>⟨d,G,L,M,.refl _ _ _,r,hd G L,h⟩
def ο{i j pos}:JE X R (.Constant (.int i) j pos) (dC (.int i)):=Qa OT λ_ _=>rfl
def yH{b j pos}:JE X R (.Constant (.bool b) j pos) (dC (.bl b)):=Qa Sb λ_ _=>rfl
def yL{j pos}:JE X R (.Constant .none j pos) (dC .aP):=Qa QK λ_ _=>rfl
def fc{x j pos}:JE X R (.Constant (.str x) j pos) (dC (.str x)):=Qa Kk λ_ _=>rfl
def xP{op:Operator}{r:R2}{f:Dt->Dt->Ms->DQ->Prop}(ho:jF X (binaryOp op) r)(od:pF X.K r f)(ja:JE X R a ta)(jb:JE X R b tb):JE X R (.BinOp a op b pos) (jB f ta tb):=
 .of (SW ho ja jb) λσ H G L ρ M q x r n h hx=>AJ od r n h hx
def X_{op:UnaryOp}{r:V->Hp->VK->Prop}{f:Dt->Ms->DQ->Prop}(ho:U2 X (unaryOp op) r)(od:Y6 X.K r f)(ja:JE X R a ta):JE X R (.UnaryOp op a pos) (UU f ta):=
 .of (Uy ho ja) λσ H G L ρ M q x r n h hx=>UA od r n h hx
def pX{op:CmpOp}{r:R2}{f:Dt->Dt->Ms->DQ->Prop}(ho:jF X (compareOp op) r)(od:pF X.K r f)(ja:JE X R a ta)(jb:JE X R b tb)(hm:behindInMarks op b=false):JE X R (.Compare a [op] [b] pos) (jB f ta tb):=
 .of (Ld ho ja jb hm) λσ H G L ρ M q x r n h hx=>AJ od r n h hx
def Tt{r:R2}{f:Dt->Dt->Ms->DQ->Prop}(hr:KQ X r)(od:pF X.K r f)(ja:JE X R a ta)(jb:JE X R b tb)(hs:vY b):JE X R (.Subscript a b pos) (jB f ta tb):=
 .of (RL hr ja jb hs) λσ H G L ρ M q x r n h hx=>AJ od r n h hx
def bJ{env:Env}{es:List Expr}{c j p}:starEach (.Constant c j p::es) env=(false,eval (.Constant c j p) env)::starEach es env:=rfl
def NR{env:Env}{es:List Expr}{c p}:starEach (.Name c p::es) env=(false,eval (.Name c p) env)::starEach es env:=rfl
def cG{env:Env}{es:List Expr}{a o b p}:starEach (.BinOp a o b p::es) env=(false,eval (.BinOp a o b p) env)::starEach es env:=rfl
def aO{env:Env}{es:List Expr}{a b c p}:starEach (.Call a b c p::es) env=(false,eval (.Call a b c p) env)::starEach es env:=rfl
def aR{env:Env}{es:List Expr}{a b p}:starEach (.Subscript a b p::es) env=(false,eval (.Subscript a b p) env)::starEach es env:=rfl
def kq{env:Env}{es:List Expr}{a b p}:starEach (.Tuple a b p::es) env=(false,eval (.Tuple a b p) env)::starEach es env:=rfl
def Np{env:Env}{es:List Expr}{a o b p}:starEach (.Compare a o b p::es) env=(false,eval (.Compare a o b p) env)::starEach es env:=rfl
def η:JA X R [] Qx:=.of OY λσ H G L ρ M q x r n h hx=>⟨[],G,L,M,.refl _ _ _,r,rfl,h⟩
def θ{e:Expr}{es:List Expr}{te:DE}{t:DA}(ha:JE X R e te)(hr:JA X R es t)(hs:starEach (e::es) X.env=(false,eval e X.env)::starEach es X.env:=by first| exact bJ| exact NR| exact cG| exact aO| exact aR| exact kq| exact Np| exact Zr| rfl):JA X R (e::es) (GG te t):=
 .of (Mp ha hr hs) λσ H G L ρ M q x rl n h hx=>by refine⟨G,L,ρ,M,_,x,rl,n,h,hx,λv H1 xz=>?_⟩;have⟨d1,G1,L1,M1,e1,r1,n1,h1⟩:=xz;refine⟨G1,L1,ρ,M1,_,x,r1,n.mono e1,h1,hx.on e1,λv2 H2 xz=>?_⟩;have⟨d2,G2,L2,M2,e2,r2,n2,h2⟩:=xz;exact⟨d1::d2,G2,L2,M2,e1.trans e2,r2,⟨_,_,rfl,Den.mono e2.g e2.l _ _ n1,n2⟩,h2⟩
def Λ{c:Str}{p:Pos}{es:List Expr}{te:DE}{t:DA}(ha:JE X R (.Name c p) te)(hr:JA X R es t):JA X R (.Name c p::es) (GG te t):=θ ha hr NR
def To(t:DA):DE:=λρ M q x=>t ρ M (λds M1=>ds.length<=sizeLine/\q (.tup ds) M1) x
def TR(t:DA):DE:=λρ M q x=>t ρ M (λds M1=>ds.length<=sizeLine/\q (.lst ds) M1) x
def Ud(t:DA):DE:=λρ M q x=>t ρ M (λds M1=>ds.length<=sizeLine/\q (.loc M1.length) (M1++[.lst ds])) x
def kW{K:fv}{G0:Hp}{L0:List Addr}{H0 G:Hp}{L:List Addr}{M:Ms}{H:Hp}{p:Addr}{o:HO}{d:Dt}{q:DQ}(e:Ex G0 L0 H0 G L H)(r:Rl K G L M H)(hp:H p=none)(hd:Den K (upd G p o) L d (.ref p))(h:q d M):Fin K G0 L0 H0 q (.ref p) (upd H p o):=
 ⟨d,upd G p o,L,M,e.trans (r.Q3 hp),r.Ly hp,hd,h⟩
def qD{K:fv}{G:Hp}{L:List Addr}{M:Ms}{H:Hp}{p:Addr}{ds:List Dt}{vs:List V}(r:Rl K G L M H)(hp:H p=none)(h:Ξ K G L ds vs):Den K (upd G p (.tup vs)) L (.tup ds) (.ref p):=
 ⟨p,vs,rfl,Ψ,Ξ.mono (r.Q3 hp).g (.refl _) _ _ h⟩
def qE{K:fv}{G:Hp}{L:List Addr}{M:Ms}{H:Hp}{p:Addr}{ds:List Dt}{vs:List V}(r:Rl K G L M H)(hp:H p=none)(h:Ξ K G L ds vs):Den K (upd G p (.lst vs)) L (.lst ds) (.ref p):=
 ⟨p,vs,rfl,Ψ,Ξ.mono (r.Q3 hp).g (.refl _) _ _ h⟩
def kL{K:fv}{G0:Hp}{L0:List Addr}{H0 G:Hp}{L:List Addr}{M:Ms}{H:Hp}{p:Addr}{q:DQ}{ds:List Dt}{vs:List V}(e:Ex G0 L0 H0 G L H)(r:Rl K G L M H)(hp:H p=none)(hd:Ξ K G L ds vs)(h:q (.loc M.length) (M++[.lst ds])):Fin K G0 L0 H0 q (.ref p) (upd H p (.lst vs)):=
 ⟨.loc M.length,G,L++[p],M++[.lst ds],e.trans (r.Uk hp),r.HS (m:=.lst ds) hp ⟨vs,Ψ,Ξ.mono (.refl _) ⟨[p],rfl⟩ _ _ hd⟩,⟨p,rfl,by rw[<-r.len,List.getElem?_append_right (Nat.le_refl _)];simp⟩,h⟩
variable{es:List Expr}{t:DA}
def cb{x1}(h:JA X R es t):JE X R (.Tuple es x1 pos) (To t):=.of (OR h) λσ H G L ρ M q x rl n h hx=>by refine⟨G,L,ρ,M,_,x,rl,n,h,hx,fun v H1 ⟨d1,G1,L1,M1,e1,r1,n1,h1⟩=>⟨by rw[<-n1.length];exact h1.1,λp hp=>?_⟩⟩;exact kW e1 r1 hp (qD r1 hp n1) h1.2
def mV(h:JA X R es t):JE X R (.List es pos) (TR t):=.of (HQ h) λσ H G L ρ M q x rl n h hx=>by refine⟨G,L,ρ,M,_,x,rl,n,h,hx,fun v H1 ⟨d1,G1,L1,M1,e1,r1,n1,h1⟩=>⟨by rw[<-n1.length];exact h1.1,λp hp=>?_⟩⟩;exact kW e1 r1 hp (qE r1 hp n1) h1.2
def pH(h:JA X R es t):JE X R (.List es pos) (Ud t):=.of (HQ h) λσ H G L ρ M q x rl n h hx=>by refine⟨G,L,ρ,M,_,x,rl,n,h,hx,fun v H1 ⟨d1,G1,L1,M1,e1,r1,n1,h1⟩=>⟨by rw[<-n1.length];exact h1.1,λp hp=>?_⟩⟩;exact kL e1 r1 hp n1 h1.2
def mw(t:DE):DT:=λρ M q x=>t ρ M (λd M1=>match d with
 | .bl b=>q b M1
 | _=>False) x
def Rj(t u:DT):DT:=λρ M q x=>t ρ M (λc M1=>(c=true->u ρ M1 q x)/\(c=false->q false M1)) x
def Zk(t u:DT):DT:=λρ M q x=>t ρ M (λc M1=>(c=true->q true M1)/\(c=false->u ρ M1 q x)) x
def Tn(t:DT):DT:=λρ M q x=>t ρ M (λc M1=>q (!c) M1) x
def Pe{K:fv}{t:DE}{σ:St}{H G:Hp}{L:List Addr}{ρ:En}{M:Ms}{q:Bool->Ms->Prop}{x:DX}(rl:Rl K G L M H)(n:lC K G L ρ σ)(h:mw t ρ M q x)(hx:uB K G L H R x):tB (yQ K R t) σ H (tT K G L H q):=by
 refine⟨G,L,ρ,M,_,x,rl,n,h,hx,λv H1 xz=>?_⟩;have⟨d1,G1,L1,M1,e1,r1,n1,h1⟩:=xz
 (try dsimp only at h1)
 split at h1
 ·rename_i b;exact⟨b,n1,G1,L1,M1,e1,r1,h1⟩
 ·exact h1.elim
def bV{e:Expr}{t:DE}(h:JE X R e t)(he:∀whole,isTrue e X.env whole=(do let v<-whole;standAt e.pos;holding [v] (truthy v)):=by intro _;rfl):JT X R e (mw t):=
 .of (OX h he) λσ H G L ρ M q x rl n h hx=>Pe rl n h hx
def gO{op:CmpOp}{r:R2}{f:Dt->Dt->Ms->DQ->Prop}(ho:jF X (compareOp op) r)(od:pF X.K r f)(ja:JE X R a ta)(jb:JE X R b tb)(hm:behindInMarks op b=false):JT X R (.Compare a [op] [b] pos) (mw (jB f ta tb)):=
 .of (Mf ho ja jb hm) λσ H G L ρ M q x rl n h hx=>by
  have h:jB f ta tb ρ M (λd M1=>match d with| .bl b=>q b M1| _=>False) x:=h;refine⟨G,L,ρ,M,_,x,rl,n,h,hx,λv H1 xz=>?_⟩;have⟨d1,G1,L1,M1,e1,r1,n1,h1⟩:=xz;refine⟨G1,L1,ρ,M1,_,x,r1,n.mono e1,h1,hx.on e1,λv2 H2 xz=>?_⟩;have⟨d2,G2,L2,M2,e2,r2,n2,h2⟩:=xz;have:=od G L H G2 L2 M2 H2 v v2 d1 d2 _ (e1.trans e2) r2 (Den.mono e2.g e2.l _ _ n1) n2 h2;have e:(λx H'=>∃k,x=V.bl k/\tT X.K G L H q k H')=Fin X.K G L H (λd M1=>match d with| .bl b=>q b M1| _=>False):=by
   funext y H'
   apply propext;constructor
   ·rintro⟨k,rfl,G3,L3,M3,e3,r3,h3⟩;exact⟨.bl k,G3,L3,M3,e3,r3,rfl,h3⟩
   ·rintro⟨d,G3,L3,M3,e3,r3,n3,h3⟩;split at h3
    ·rename_i k;exact⟨k,n3,G3,L3,M3,e3,r3,h3⟩
    ·exact h3.elim
  rw[e];exact this
def JW.jt{e:Expr}{t:DT}(h:JW X R e t):JT X R e t:=h _
variable{t1 t2:DT}{rest:List Expr}
def kH(ha:JT X R a t1):JW X R (.BoolOp .And [a] pos) t1:=pw_and1 ha
def gK(ha:JT X R a t1):JW X R (.BoolOp .Or [a] pos) t1:=pw_or1 ha
def oP(ha:JT X R a t1)(hb:JW X R (.BoolOp .And (b::rest) pos) t2):JW X R (.BoolOp .And (a::b::rest) pos) (Rj t1 t2):=.of (pw_and ha hb) λσ H G L ρ M q x rl n h hx=>by
 refine⟨G,L,ρ,M,_,x,rl,n,h,hx,λc H1 xz=>?_⟩;have⟨G1,L1,M1,e1,r1,h1⟩:=xz;cases c with
 | true=>exact BH ⟨G1,L1,ρ,M1,_,x,r1,n.mono e1,h1.1 rfl,hx.on e1,λb H2 f=>tT.back e1 f⟩
 | false=>exact Bx ⟨G1,L1,M1,e1,r1,h1.2 rfl⟩
def gL(ha:JT X R a t1)(hb:JW X R (.BoolOp .Or (b::rest) pos) t2):JW X R (.BoolOp .Or (a::b::rest) pos) (Zk t1 t2):=.of (pw_or ha hb) λσ H G L ρ M q x rl n h hx=>by
 refine⟨G,L,ρ,M,_,x,rl,n,h,hx,λc H1 xz=>?_⟩;have⟨G1,L1,M1,e1,r1,h1⟩:=xz;cases c with
 | true=>exact BH ⟨G1,L1,M1,e1,r1,h1.1 rfl⟩
 | false=>exact Bx ⟨G1,L1,ρ,M1,_,x,r1,n.mono e1,h1.2 rfl,hx.on e1,λb H2 f=>tT.back e1 f⟩
def e7(ha:JT X R a t1):JT X R (.UnaryOp .Not a pos) (Tn t1):=.of (PR ha) λσ H G L ρ M q x rl n h hx=>
 ⟨G,L,ρ,M,_,x,rl,n,h,hx,λ_ _ ⟨G,L,M,e,r,h⟩=>⟨G,L,M,e,r,h⟩⟩
def RY(t u:DE):DE:=λρ M q x=>t ρ M (λd M1=>match d with
 | .bl c=>(c=true->u ρ M1 q x)/\(c=false->q (.bl false) M1)
 | _=>False) x
def Zw(t u:DE):DE:=λρ M q x=>t ρ M (λd M1=>match d with
 | .bl c=>(c=true->q (.bl true) M1)/\(c=false->u ρ M1 q x)
 | _=>False) x
def SE(t:DE):DE:=λρ M q x=>t ρ M (λd M1=>match d with
 | .bl c=>q (.bl (!c)) M1
 | _=>False) x
def ZL(t:DT)(u v:DE):DE:=λρ M q x=>t ρ M (λc M1=>(c=true->u ρ M1 q x)/\(c=false->v ρ M1 q x)) x
def i5{op}{t:DE}(h:JE X R a t):JE X R (.BoolOp op [a] pos) t:=Qb h
def ik(ha:JE X R a ta)(hb:JE X R (.BoolOp .And (b::rest) pos) tb):JE X R (.BoolOp .And (a::b::rest) pos) (RY ta tb):=.of (P9 ha hb) λσ H G L ρ M q x rl n h hx=>by
 refine⟨G,L,ρ,M,_,x,rl,n,h,hx,λv H1 xz=>?_⟩;have⟨d1,G1,L1,M1,e1,r1,n1,h1⟩:=xz
 (try dsimp only at h1)
 split at h1
 ·rename_i c;refine⟨c,n1,?_⟩;cases c with
  | true=>exact BH ⟨G1,L1,ρ,M1,_,x,r1,n.mono e1,h1.1 rfl,hx.on e1,λb H2 f=>Fin.back e1 f⟩
  | false=>exact Bx ⟨.bl false,G1,L1,M1,e1,r1,rfl,h1.2 rfl⟩
 ·exact h1.elim
def Uw(ha:JE X R a ta)(hb:JE X R (.BoolOp .Or (b::rest) pos) tb):JE X R (.BoolOp .Or (a::b::rest) pos) (Zw ta tb):=.of (SR ha hb) λσ H G L ρ M q x rl n h hx=>by
 refine⟨G,L,ρ,M,_,x,rl,n,h,hx,λv H1 xz=>?_⟩;have⟨d1,G1,L1,M1,e1,r1,n1,h1⟩:=xz
 (try dsimp only at h1)
 split at h1
 ·rename_i c;refine⟨c,n1,?_⟩;cases c with
  | true=>exact BH ⟨.bl true,G1,L1,M1,e1,r1,rfl,h1.1 rfl⟩
  | false=>exact Bx ⟨G1,L1,ρ,M1,_,x,r1,n.mono e1,h1.2 rfl,hx.on e1,λb H2 f=>Fin.back e1 f⟩
 ·exact h1.elim
def Pd(ha:JE X R a ta):JE X R (.UnaryOp .Not a pos) (SE ta):=.of (OQ ha) λσ H G L ρ M q x rl n h hx=>by
 refine⟨G,L,ρ,M,_,x,rl,n,h,hx,λv H1 xz=>?_⟩;have⟨d1,G1,L1,M1,e1,r1,n1,h1⟩:=xz
 (try dsimp only at h1)
 split at h1
 ·rename_i c;exact⟨c,n1,.bl (!c),G1,L1,M1,e1,r1,rfl,h1⟩
 ·exact h1.elim
def uL{c:Expr}(hc:JT X R c t1)(ha:JE X R a ta)(hb:JE X R b tb):JE X R (.IfExp c a b pos) (ZL t1 ta tb):=.of (HZ hc ha hb) λσ H G L ρ M q x rl n h hx=>by
 refine⟨G,L,ρ,M,_,x,rl,n,h,hx,λc H1 xz=>?_⟩;have⟨G1,L1,M1,e1,r1,h1⟩:=xz;cases c with
 | true=>exact BH ⟨G1,L1,ρ,M1,_,x,r1,n.mono e1,h1.1 rfl,hx.on e1,λb H2 f=>Fin.back e1 f⟩
 | false=>exact Bx ⟨G1,L1,ρ,M1,_,x,r1,n.mono e1,h1.2 rfl,hx.on e1,λb H2 f=>Fin.back e1 f⟩
end
def Nv:DS:=λDn ρ M=>Dn.nx ρ M
def OH(t u:DS):DS:=λDn ρ M=>t {Dn with nx:=u Dn} ρ M
def ZK(c:DT)(t u:DS):DS:=λDn ρ M=>c ρ M (λb M1=>(b=true->t Dn ρ M1)/\(b=false->u Dn ρ M1)) Dn.x
def Ue(t:DE):DS:=λDn ρ M=>t ρ M Dn.rt Dn.x
def xJ(i:Nat)(t:DE):DS:=λDn ρ M=>t ρ M (λd M1=>Dn.nx (ρ.set i (some d)) M1) Dn.x
def AA(t:DE):DS:=λDn ρ M=>t ρ M (λ_ M1=>Dn.nx ρ M1) Dn.x
def WL(t:DS):DS:=λDn ρ M=>∃J:En->Ms->Prop,t {Dn with nx:=J} ρ M/\∀ρ' M',J ρ' M'->Dn.nx ρ' M'
section
variable{X:Cx}{R:St->XK}{st:Stmt}{rest:List Stmt}{t u:DS}{e:Expr}{te:DE}{pos:Pos}
def Η:CV X R [] Nv:=.of K5 λσ H G L ρ M Dn rl n h hx=>⟨ρ,G,L,M,.refl _ _ _,rl,n,h⟩
def ι(h1:JS X R st t):CV X R [st] t:=MA h1
def ζ(h1:JS X R st t)(h2:CV X R rest u):CV X R (st::rest) (OH t u):=.of (GK h1 h2) λσ H G L ρ M Dn rl n h hx=>by refine⟨G,L,ρ,M,_,rl,n,h,hx,⟨λσ1 H1 xz=>?_,λ_ _ f=>f,λ_ _ f=>f,λ_ _ f=>f⟩⟩;have⟨ρ1,G1,L1,M1,e1,r1,n1,h1⟩:=xz;exact⟨G1,L1,ρ1,M1,Dn,r1,n1,h1,hx.on e1,uA.back e1⟩
def zw:JS X R (.Continue pos) (λDn ρ M=>Dn.ct ρ M):=.of zZ λσ H G L ρ M Dn rl n h hx=>⟨ρ,G,L,M,.refl _ _ _,rl,n,h⟩
def Β(he:JE X R e te):JS X R (.Return (some e) pos) (Ue te):=.of (Pa he) λσ H G L ρ M Dn rl n h hx=>⟨G,L,ρ,M,_,_,rl,n,h,hx,λ_ _ f=>f⟩
def eL(he:JE X R e te)(hs:swapsWith e none pos.line X.env=pure false:=by rfl):JS X R (.Expr e pos) (AA te):=.of (Mj he hs) λσ H G L ρ M Dn rl n h hx=>by refine⟨G,L,ρ,M,_,_,rl,n,h,hx,λv H1 ⟨d1,G1,L1,M1,e1,r1,n1,h1⟩=>⟨ρ,G1,L1,M1,e1,r1,n.mono e1,h1⟩⟩
def ao{c:Expr}{a b:List Stmt}{tc:DT}(hc:JT X R c tc)(ha:CV X R a t)(hb:CV X R b u):JS X R (.If c a b pos) (ZK tc t u):=.of (T5 hc ha hb) λσ H G L ρ M Dn rl n h hx=>by
 refine⟨G,L,ρ,M,_,_,rl,n,h,hx,λc H1 xz=>?_⟩;have⟨G1,L1,M1,e1,r1,h1⟩:=xz;cases c with
 | true=>exact BH ⟨G1,L1,ρ,M1,Dn,r1,n.mono e1,h1.1 rfl,hx.on e1,uA.back e1⟩
 | false=>exact Bx ⟨G1,L1,ρ,M1,Dn,r1,n.mono e1,h1.2 rfl,hx.on e1,uA.back e1⟩
def χ(i:Nat){x:Str}{pos':Pos}(hN:X.N.Nodup)(he:JE X R e te)(hi:X.N[i]? =some x:=by rfl)(hx:Loc X.env.scope x:=by first| exact .inl rfl| exact .inr rfl)(hs:swapsWith e (some (.Name x pos')) pos.line X.env=pure false:=by rfl)(hf:X.fn x=true\/X.env.scope.names.lookup x=some .local:=by first| exact .inl rfl| exact .inr rfl| assumption):
  JS X R (.Assign [.Name x pos'] e pos) (xJ i te):=.of (O_ hN hi hx he hs hf) λσ H G L ρ M Dn rl n h hx=>by
 refine⟨G,L,ρ,M,_,_,rl,n,h,hx,λv H1 ⟨d1,G1,L1,M1,e1,r1,n1,h1⟩=>⟨_,G1,L1,M1,e1,r1,(n.mono e1).set i n1,h1⟩⟩
def jq(h:JS X R st t):JS X R st (WL t):=.of h λσ H G L ρ M Dn rl n h hx=>by have⟨J,h1,h2⟩:=h;refine⟨G,L,ρ,M,_,rl,n,h1,hx,⟨λσ1 H1 ⟨ρ1,G1,L1,M1,e1,r1,n1,h1⟩=>⟨ρ1,G1,L1,M1,e1,r1,n1,h2 _ _ h1⟩,λ_ _ f=>f,λ_ _ f=>f,λ_ _ f=>f⟩⟩
end
abbrev Z':=Addr->List (Str×Dt)->Ms->Prop
abbrev DF:=List Dt->Ms->DQ->Z'->Prop
inductive cQ(K:fv)(T:DF)(vs:List V)(H:Hp)(Q:VK)(E:XK):Prop
 | mk (G:Hp) (L:List Addr) (ds:List Dt) (M:Ms) (q:DQ) (x:Z') (r:Rl K G L M H) (n:Ξ K G L ds vs) (h:T ds M q x) (hQ:∀v H1,Fin K G L H q v H1->Q v H1) (hE:∀C fs M1 G1 L1 H1 od,x C fs M1->Ex G L H G1 L1 H1->Rl K G1 L1 M1 H1->R_ K G1 L1 H1 fs od->E (.ref C) od H1)
def oB(N:List Str)(ds:List Dt):En:=ds.map some++List.replicate (N.length - ds.length) none
def J1{K:fv}{G:Hp}{L:List Addr}{N:List Str}{ds:List Dt}{vs:List V}(h:Ξ K G L ds vs):lC K G L (oB N ds) (start N vs):=by
 have hl:=h.length;refine⟨by unfold oB start;simp[hl],λi d e=>?_⟩;unfold oB at e;unfold start;by_cases hi:i < ds.length
 ·rw[List.getElem?_append_left (by simpa using hi),List.getElem?_map]at e;rw[List.getElem?_append_left (by simpa [<-hl] using hi),List.getElem?_map];cases q:ds[i]? with
  | none=>rw[q]at e;cases e
  | some d'=>
   rw[q]at e;cases e;have⟨v,e1,h1⟩:=h.get q;exact⟨v,by rw[e1];rfl,h1⟩
 ·rw[List.getElem?_append_right (by simpa using Nat.le_of_not_lt hi),List.getElem?_replicate]at e;split at e <;> cases e
section
variable{P:Program}{w:World}{K:fv}{mg:Str->Option Value}{base:Heap}
def c_.d7{x qual:Str}{st:Stmt}{f:Addr}{fd:FuncData}{N ps:List Str}{k:Nat}{T:DF}(F:c_ K x qual st f fd)(S:Γ N ps (τ st))(len:∀ds M q x,T ds M q x->ds.length=ps.length)
  (zK:∀(bq:Value) (A:Around) (outer:List Env) (s:Shared) (H:Hp) (E:XK),bU k (A.deeper (envOfC qual (τ st) s.heap.objs.size f bq))->
   ∃t,CV (xo (cF P w) P w K mg base N qual (τ st) f bq A outer s H E) (λ_=>E) (hJ st) t/\∀ds M q x,T ds M q x->t {nx:=λ_ M'=>q .aP M',rt:=q,x:=λ_=>x} (oB N ds) M):
  ak P w K mg base (cF P w) (k+1) f fd ps (cQ K T):=by
 refine F.okX S (λvs H Q E h=>?_) (λbq A outer s H vs Q E hr h=>?_)
 ·have⟨G,L,ds,M,q,x,rl,n,hT,_⟩:=h;rw[<-n.length];exact len _ _ _ _ hT
 ·have⟨t,j,ht⟩:=zK bq A outer s H E hr;have⟨G,L,ds,M,q,x,rl,n,hT,hQ,hE⟩:=h;refine⟨_,j,G,L,oB N ds,M,_,rl,J1 n,ht ds M q x hT,λσ ρ C fs M' G' L' H' od hx e r _ y=>hE C fs M' G' L' H' od hx e r y,⟨λσ' H' ⟨ρ',G',L',M',e,r,_,h⟩=>hQ _ _ ⟨.aP,G',L',M',e,r,rfl,h⟩,λv H' f=>hQ v H' f,λ_ _ ⟨_,_,_,_,_,_,_,h⟩=>h.elim,λ_ _ ⟨_,_,_,_,_,_,_,h⟩=>h.elim⟩⟩
structure aw(P:Program)(w:World)(K:fv)(mg:Str->Option Value)(base:Heap)(k:Nat)(x:Str)(ps:List Str)(T:DF)(f:Addr)(fd:FuncData):Prop where
 ok:ak P w K mg base (cF P w) k f fd ps (cQ K T)
 b:jE K fd ps []
 m:mg x=some (.ref f)
 kp:PySem.W.keepIn K (.ref f)=true
end
def Nq(T:DF)(t:DA):DE:=λρ M q x=>t ρ M (λds M1=>T ds M1 q (λC fs M'=>x ρ C fs M')) x
section
variable{X:Cx}{R:St->XK}{T:DF}{k k':Nat}{f:Addr}{fd:FuncData}{ps:List Str}{x:Str}{p pos:Pos}{e:Expr}{es:List Expr}{t:DA}
def Χ(C:aw X.prog X.w X.K X.mg X.base k x ps T f fd)(hr:bU k' X.A)(hx:dG (cF X.prog X.w) X R)(ha:JA X R (e::es) t)(hk:k<=k':=by decide)(hg:Gl X x:=by rfl)(Bt:(x==("__debug__":Str))=false:=by decide)
  (he:starEach (e::es) X.env=(false,eval e X.env)::starEach es X.env:=by rfl) (fk:(backTo pos (starEach es X.env)).any (·.1)=false:=by rfl):JE X R (.Call (.Name x p) (e::es) [] pos) (Nq T t):=
 .of (JP C.ok (hr.mono hk) hg C.m C.kp C.b .nil hx ha Bt he fk) λσ H G L ρ M q x rl n h hx=>by refine⟨G,L,ρ,M,_,x,rl,n,h,hx,λvs H1 xz=>?_⟩;have⟨ds,G1,L1,M1,e1,r1,n1,h1⟩:=xz;show cQ X.K T (vs++[]) H1 _ _;rw[aaV];exact⟨G1,L1,ds,M1,q,_,r1,n1,h1,λv H' f=>Fin.back e1 f,λC fs M' G' L' H' od hq e' r' y=>hx σ ρ C fs M' G' L' H' od hq (e1.trans e') r' (n.mono (e1.trans e')) y⟩
end
structure Yl(K:fv)(J:It)(xs:List Dt)(G0:Hp)(L0:List Addr):Prop where
 go:∀(i:Nat) G L M H (d:Dt),dQ G0 G->Pre L0 L->Rl K G L M H->xs[i]? =some d->J.go i H/\∀v H',J.T9 i H v H'->∃G',Ex G L H G' L H'/\Rl K G' L M H'/\Den K G' L d v
 stop:∀(i:Nat) G L M H,dQ G0 G->Pre L0 L->Rl K G L M H->xs.length<=i->J.stop i H
inductive UL(K:fv)(G0:Hp)(L0:List Addr)(H0:Hp)(q:List Dt->Ms->Prop)(J:It)(H:Hp):Prop
 | mk (xs:List Dt) (G:Hp) (L:List Addr) (M:Ms) (e:Ex G0 L0 H0 G L H) (r:Rl K G L M H) (y:Yl K J xs G L) (h:q xs M)
inductive Wc(K:fv)(R:St->XK)(t:DA)(σ:St)(H:Hp)(Q:It->Hp->Prop):Prop
 | mk (G:Hp) (L:List Addr) (ρ:En) (M:Ms) (q:List Dt->Ms->Prop) (x:DX) (r:Rl K G L M H) (n:lC K G L ρ σ) (h:t ρ M q x) (hx:uB K G L H R x) (hQ:∀J H1,UL K G L H q J H1->Q J H1)
def JI(X:Cx)(R:St->XK)(tg iter:Expr)(t:DA):Prop:=PI X tg iter (Wc X.K R t)
def KU.imp{X:Cx}{δ:List (Addr×Obj)}{σ:St}{tg:Expr}{R R':It->Hp->Prop}(hR:∀J H,R J H->R' J H){v:Value}{s:Shared}(h:KU X δ σ tg R v s):KU X δ σ tg R' v s:=by have⟨it,fp,tn,J,H',a,b,c,d,e,f⟩:=h;exact⟨it,fp,tn,J,H',a,b,c,d,e,hR J H' f⟩
def Df{K:fv}{G:Hp}{L:List Addr}{a:Addr}{ds:List Dt}{vs:List V}(h:∀G':Hp,dQ G G'->gu K G' a vs)(n:Ξ K G L ds vs):Yl K (Vi K a) ds G L where
 go:=λi G1 L1 M1 H1 d g l r e=>by
  have⟨v,e1,n1⟩:=n.get e;have hs:=h H1 (g.trans r.sub)
  exact⟨⟨vs,v,hs,e1⟩,fun v' H' ⟨eH,y⟩=>by
   subst eH;have e2:=y vs hs;rw[e1]at e2;cases e2
   exact⟨G1,.refl _ _ _,r,Den.mono g l _ _ n1⟩⟩
 stop:=λi G1 L1 M1 H1 g l r e=>⟨vs,h H1 (g.trans r.sub),by rw[<-n.length];exact e⟩
def Jy{K:fv}{G:Hp}{L:List Addr}{a:Addr}{ds:List Dt}{vs:List V}(h:∀G':Hp,dQ G G'->mQ K G' a vs)(n:Ξ K G L ds vs):Yl K (YE K a) ds G L where
 go:=λi G1 L1 M1 H1 d g l r e=>by
  have⟨v,e1,n1⟩:=n.get e;have hs:=h H1 (g.trans r.sub)
  exact⟨⟨vs,v,hs,e1⟩,fun v' H' ⟨eH,y⟩=>by
   subst eH;have e2:=y vs hs;rw[e1]at e2;cases e2
   exact⟨G1,.refl _ _ _,r,Den.mono g l _ _ n1⟩⟩
 stop:=λi G1 L1 M1 H1 g l r e=>⟨vs,h H1 (g.trans r.sub),by rw[<-n.length];exact e⟩
def cP(lo:Int)(n:Nat):List Dt:=(List.range n).map λk:Nat=>Dt.int (lo+(k:Int))
def IB{K:fv}{G:Hp}{L:List Addr}{lo:Int}{n:Nat}:Yl K (Ub lo n) (cP lo n) G L where
 go :=λi G1 L1 M1 H1 d g l r e=>by
  unfold cP at e;rw[aah]at e;have hi:i < n:=by
   cases q:(List.range n)[i]? with
   | none=>rw[q]at e;cases e
   | some j=>
    have:=(aaf.mp q).1;rwa[aa8]at this
  rw[aaK hi]at e;cases e;exact⟨hi,λv' H' ⟨eH,y⟩=>by subst eH y;exact⟨G1,.refl _ _ _,r,rfl⟩⟩
 stop:=λi G1 L1 M1 H1 g l r e=>by show n<=i;unfold cP at e;simpa using e
section
variable{X:Cx}{R:St->XK}{tg iter:Expr}
def JI.of{wi:TI}{t:DA}(h:PI X tg iter wi)(hw:∀σ H G L ρ M q x,Rl X.K G L M H->lC X.K G L ρ σ->t ρ M q x->uB X.K G L H R x->wi σ H (UL X.K G L H q)):JI X R tg iter t:=by intro δ s σ H Q I ⟨G,L,ρ,M,q,x,r,n,ht,hx,hQ⟩;exact bA (h δ s σ H _ I (hw σ H G L ρ M q x r n ht hx)) λu s1 f=>bA f λu2 s2 f2=>KU.imp hQ f2
def SU(t:DA):DA:=λρ M q x=>t ρ M (λds M1=>match ds with
 | [.int j]=>(-(2 ^ 62)<=j/\j < 2 ^ 62)/\q (cP 0 j.toNat) M1
 | _=>False) x
def cf{a:Expr}{t:DA}{p pos:Pos}(hm:X.mg "range"=none)(ha:JA X R [a] t)(hg:Gl X "range":=by rfl)(hs:starEach [a] X.env=[(false,eval a X.env)]:=by rfl):JI X R tg (.Call (.Name "range" p) [a] [] pos) (SU t):=
 .of (Ew hg hm ha hs) λσ H G L ρ M q x rl n h hx=>by
  refine⟨G,L,ρ,M,_,x,rl,n,h,hx,λvs H1 xz=>?_⟩;have⟨ds,G1,L1,M1,e1,r1,n1,h1⟩:=xz
  (try dsimp only at h1)
  split at h1
  ·rename_i j;have⟨v,rfl,n2⟩:=a_ n1;have n2:v= .int j:=n2;subst n2;exact⟨j,rfl,h1.1.1,h1.1.2,_,G1,L1,M1,e1,r1,IB,h1.2⟩
  ·exact h1.elim
def Ja(t:DA):DA:=λρ M q x=>t ρ M (λds M1=>match ds with
 | [.int i,.int j]=>(-(2 ^ 62)<=i/\i < 2 ^ 62/\ -(2 ^ 62)<=j/\j < 2 ^ 62)/\q (cP i (j - i).toNat) M1
 | _=>False) x
def E_{a b:Expr}{t:DA}{p pos:Pos}(hm:X.mg "range"=none)(ha:JA X R [a,b] t)(hg:Gl X "range":=by rfl)(hs:starEach [a,b] X.env=[(false,eval a X.env),(false,eval b X.env)]:=by rfl)(PZ:starEach [b] X.env=[(false,eval b X.env)]:=by rfl):
  JI X R tg (.Call (.Name "range" p) [a,b] [] pos) (Ja t):=
 .of (EM hg hm ha hs PZ) λσ H G L ρ M q x rl n h hx=>by
  refine⟨G,L,ρ,M,_,x,rl,n,h,hx,λvs H1 xz=>?_⟩;have⟨ds,G1,L1,M1,e1,r1,n1,h1⟩:=xz
  (try dsimp only at h1)
  split at h1
  ·rename_i i j;have⟨v,u,rfl,n3,n2⟩:=fD n1;have n3:v= .int i:=n3;have n2:u= .int j:=n2;subst n3 n2;exact⟨i,j,rfl,h1.1,_,G1,L1,M1,e1,r1,IB,h1.2⟩
  ·exact h1.elim
end
def GD(K:fv)(gg:TG)(g:Dt->En->(En->Prop)->Prop):Prop:=
 ∀G L M H d v ρ σ (k:En->Prop) (Q:St->Hp->Prop),Rl K G L M H->Den K G L d v->lC K G L ρ σ->g d ρ k->(∀ρ' σ',lC K G L ρ' σ'->k ρ'->Q σ' H)->gg v σ H Q
def gN(i:Nat):Dt->En->(En->Prop)->Prop:=λd ρ k=>k (ρ.set i (some d))
def az{K:fv}{i:Nat}:GD K (iN i) (gN i):=λG L M H d v ρ σ k Q rl n en h hQ=>hQ _ _ (en.set i n) h
def g2(i j:Nat):Dt->En->(En->Prop)->Prop:=λd ρ k=>match d with
 | .tup [a,b]=>k ((ρ.set i (some a)).set j (some b))
 | _=>False
def mP{K:fv}{i j:Nat}:GD K (Kb K 2 (nq (iN i) (nq (iN j) J8))) (g2 i j):=λG L M H d v ρ σ k Q rl n en h hQ=>by
 unfold g2 at h;split at h
 ·rename_i a b;have⟨p,vs,rfl,e,n⟩:=n;have⟨v1,v2,rfl,n1,n2⟩:=fD n;exact⟨p,_,rfl,.inl (.inl (rl.sub _ _ e)),rfl,v1,_,rfl,v2,_,rfl,rfl,hQ _ _ ((en.set i n1).set j n2) h⟩
 ·exact h.elim
def xa(g:Dt->En->(En->Prop)->Prop)(tb:DS)(Dn:ly):List Dt->En->Ms->Prop
 | [],ρ,M=>Dn.nx ρ M
 | x::xs,ρ,M=>g x ρ λρ'=>tb {Dn with nx:=xa g tb Dn xs,ct:=xa g tb Dn xs,bk:=Dn.nx} ρ' M
def RV(ti:DA)(g:Dt->En->(En->Prop)->Prop)(tb:DS):DS:=λDn ρ M=>ti ρ M (λxs M1=>xa g tb Dn xs ρ M1) Dn.x
section
variable{X:Cx}{R:St->XK}{tg iter:Expr}{body:List Stmt}{ti:DA}{gg:TG}{g:Dt->En->(En->Prop)->Prop}{tb:DS}{pos:Pos}
def jU(hi:JI X R tg iter ti)(hg:PG X tg gg)(gd:GD X.K gg g)(hb:CV X R body tb)(hp:PassesOwn (model X.prog X.w) X.A X.env X.xe:=by first| exact PassesOwn.never| exact PassesOwn.leaving)(hc:X.calm=true:=by rfl)(hs:∀x,foldedSetIterable iter X.env x=pure x:=by intro _;rfl):
  JS X R (.For tg iter body [] pos) (RV ti g tb):=.of (Cq hp hc hi hg hb hs) λσ H G L ρ M Dn rl n h hx=>by
 refine⟨G,L,ρ,M,_,_,rl,n,h,hx,λJ H1 xz=>?_⟩;have⟨xs,G1,L1,M1,e1,r1,y,h1⟩:=xz;refine⟨λi m σ' H'=>m+i=xs.length/\eT X.K G1 L1 H1 (λρ' M'=>xa g tb Dn (xs.drop i) ρ' M') σ' H',⟨xs.length,rfl,ρ,G1,L1,M1,.refl _ _ _,r1,n.mono e1,by rw[acj];exact h1⟩,?_⟩;rintro i m σ' H' ⟨hm,ρ',G',L',M',e',r',n',h'⟩;by_cases hi:i < xs.length
 ·right;have hd:xs[i]? =some xs[i]:=aaa hi;have⟨go,yl⟩:=y.go i G' L' M' H' _ e'.g e'.l r' hd;rw[abn hi]at h';refine⟨go,eT X.K G1 L1 H1 (λρ' M'=>xa g tb Dn (xs.drop (i+1)) ρ' M'),λσ2 H2 f=>⟨m - 1,(),(),f⟩,λv H2 hy=>?_⟩;have⟨G2,e2,r2,n2⟩:=yl v H2 hy;refine gd G2 L' M' H2 _ v ρ' σ' _ _ r2 n2 (n'.mono e2) h' λρ3 σ3 n3 h3=>?_;refine⟨G2,L',ρ3,M',_,r2,n3,h3,hx.on (e1.trans (e'.trans e2)),⟨λ_ _ f=>eT.back (e'.trans e2) f,λ_ _ f=>Fin.back (e1.trans (e'.trans e2)) f,λ_ _ f=>eT.back (e1.trans (e'.trans e2)) f,λ_ _ f=>eT.back (e'.trans e2) f⟩⟩
 ·left;refine⟨y.stop i G' L' M' H' e'.g e'.l r' (),ρ',G',L',M',e1.trans e',r',n',?_⟩;rw[abU ()]at h';exact h'
end
abbrev DK:=En->Ms->(List Dt->(Ms->Prop)->Ms->Prop)->DX->Prop
structure QE(K:fv)(J:It)(xs:List Dt)(ok:Ms->Prop)(G0:Hp)(L0:List Addr):Prop where
 go:∀(i:Nat) G L M H (d:Dt),dQ G0 G->Pre L0 L->Rl K G L M H->ok M->xs[i]? =some d->J.go i H/\∀v H',J.T9 i H v H'->∃G',Ex G L H G' L H'/\Rl K G' L M H'/\Den K G' L d v
 stop:∀(i:Nat) G L M H,dQ G0 G->Pre L0 L->Rl K G L M H->ok M->xs.length<=i->J.stop i H
inductive WX(K:fv)(G0:Hp)(L0:List Addr)(H0:Hp)(q:List Dt->(Ms->Prop)->Ms->Prop)(J:It)(H:Hp):Prop
 | mk (xs:List Dt) (ok:Ms->Prop) (G:Hp) (L:List Addr) (M:Ms) (e:Ex G0 L0 H0 G L H) (r:Rl K G L M H) (y:QE K J xs ok G L) (h:q xs ok M)
inductive VM(K:fv)(R:St->XK)(t:DK)(σ:St)(H:Hp)(Q:It->Hp->Prop):Prop
 | mk (G:Hp) (L:List Addr) (ρ:En) (M:Ms) (q:List Dt->(Ms->Prop)->Ms->Prop) (x:DX) (r:Rl K G L M H) (n:lC K G L ρ σ) (h:t ρ M q x) (hx:uB K G L H R x) (hQ:∀J H1,WX K G L H q J H1->Q J H1)
def JK(X:Cx)(R:St->XK)(tg iter:Expr)(t:DK):Prop:=PI X tg iter (VM X.K R t)
def kOf(t:DA):DK:=λρ M q x=>t ρ M (λxs M1=>q xs (λ_=>True) M1) x
def vz{X:Cx}{R:St->XK}{tg iter:Expr}{t:DA}(h:JI X R tg iter t):JK X R tg iter (kOf t):=by intro δ s σ H Q I ⟨G,L,ρ,M,q,x,r,n,ht,hx,hQ⟩;refine h δ s σ H Q I ⟨G,L,ρ,M,_,x,r,n,ht,hx,λJ H1 ⟨xs,G1,L1,M1,e1,r1,y,hq⟩=>hQ J H1 ⟨xs,_,G1,L1,M1,e1,r1,⟨λi G L M H d g l r _ e=>y.go i G L M H d g l r e,λi G L M H g l r _ e=>y.stop i G L M H g l r e⟩,hq⟩⟩
def mH(Μ:List Nat)(ρ:En):En:=Μ.map λi=>(ρ[i]?).join
def gY(g:Dt->En->(En->Prop)->Prop)(tc:DT)(te:DE)(ρ0:En)(ok:Ms->Prop):List Dt->List Dt->Ms->(List Dt->Ms->Prop)->Prop
 | [],acc,M,k=>ok M/\k acc M
 | x::xs,acc,M,k=>ok M/\g x ρ0 λρ'=>tc ρ' M (λb M1=>match b with
  | true=>te ρ' M1 (λd M2=>gY g tc te ρ0 ok xs (acc++[d]) M2 k) jP
  | false=>gY g tc te ρ0 ok xs acc M1 k) jP
def JH(n:Nat)(ti:DK)(g:Dt->En->(En->Prop)->Prop)(tc:DT)(te:DE)(Μ:List Nat):DE:=λρ M q x=>ti ρ M (λxs ok M1=>xs.length<=sizeLine/\gY g tc te (List.replicate n none++mH Μ ρ) ok xs [] M1 (λys M2=>q (.lst ys) M2)) x
def LA(n:Nat)(ti:DK)(g:Dt->En->(En->Prop)->Prop)(tc:DT)(te:DE)(Μ:List Nat):DE:=λρ M q x=>ti ρ M (λxs ok M1=>xs.length<=sizeLine/\gY g tc te (List.replicate n none++mH Μ ρ) ok xs [] M1 (λys M2=>q (.loc M2.length) (M2++[.lst ys]))) x
def LY{K:fv}{G:Hp}{L:List Addr}{ρ:En}{σ os:St}{n:Nat}(h:lC K G L ρ σ)(Μ:List Nat)(hl:os.length=n):lC K G L (List.replicate n none++mH Μ ρ) (os++oO Μ σ):=by
 have lc:(mH Μ ρ).length=(oO Μ σ).length:=by unfold mH oO;simp
 refine⟨by rw[aag,aag,aaX,hl,lc],λi d' e=>?_⟩;by_cases hi:i < n
 ·rw[aao (by rw[aaX];exact hi),abT,aar hi]at e;cases e
 ·rw[aaw (by rw[aaX];omega),aaX]at e;rw[aaw (),hl];unfold mH at e;unfold oO;rw[aah]at e⊢;cases q:Μ[i - n]? with
  | none=>rw[q]at e;cases e
  | some j=>
   rw[q]at e;have e:(ρ[j]?).join=some d':=aas e;have e:ρ[j]? =some (some d'):=by
    cases z:ρ[j]? with
    | none=>rw[z]at e;cases e
    | some o=>rw[z]at e;exact aaP some e
   have⟨v,hv,dn⟩:=h.fK j d' e;exact⟨v,by show some ((σ[j]?).join)=_;rw[hv];rfl,dn⟩
def zq{K:fv}{J:It}{gg:TG}{g:Dt->En->(En->Prop)->Prop}{tc:DT}{te:DE}{Μ:List Nat}{nn:Nat}{ρ:En}{σ:St}{G1:Hp}{L1:List Addr}{M1:Ms}{H1:Hp}{xs:List Dt}{ok:Ms->Prop}{Dl:Addr}{Q:VK}{k:List Dt->Ms->Prop}(gd:GD K gg g)(r1:Rl K G1 L1 M1 H1)(n:lC K G1 L1 ρ σ)(y:QE K J xs ok G1 L1)(hD:H1 Dl=none)(hz:xs.length<=sizeLine)
  (h:gY g tc te (List.replicate nn none++mH Μ ρ) ok xs [] M1 k)
  (fin:∀G2 L2 M2 H2 ds vs,Ex G1 L1 H1 G2 L2 H2->Rl K G2 L2 M2 H2->G2 Dl=none->Dl∉L2->H2 Dl=some (.lst vs)->Ξ K G2 L2 ds vs->k ds M2->Q (.ref Dl) H2):
  BY J nn gg (ES K (λ_=>E0) tc) (yQ K (λ_=>E0) te) (oO Μ σ) Q H1 Dl:=by
 refine⟨λi m ys H2=>m+i=xs.length/\H2 Dl=some (.lst ys)/\∃acc G2 L2 M2,Ex G1 L1 H1 G2 L2 H2/\Rl K G2 L2 M2 H2/\G2 Dl=none/\Dl∉L2/\Ξ K G2 L2 acc ys/\acc.length<=i/\gY g tc te (List.replicate nn none++mH Μ ρ) ok (xs.drop i) acc M2 k,⟨xs.length,rfl,Ψ,[],G1,L1,M1,?_⟩,?_⟩
 ·have gn:G1 Dl=none:=r1.sub.free hD;refine⟨⟨.refl _,.refl _,λ_ h _=>h,λb u h1 _=>by rw[Ζ (λz=>by rw[z,hD]at h1;cases h1)];exact h1,λ_ h=>.inl h,λb h=>by rw[Ζ (λz=>h (by rw[z];exact hD))];exact h⟩,⟨λb u e=>by rw[Ζ (λz=>by rw[z,gn]at e;cases e)];exact r1.sub b u e,r1.len,r1.nd,λi a m h1 h2=>?_⟩,gn,r1.P8 hD,rfl,aai _,by rw[acj];exact h⟩;have⟨q1,q2⟩:=r1.fK i a m h1 h2;exact⟨q1,q2.mono (.refl _) (.refl _) (Ζ λz=>q2.there (by rw[z];exact hD))⟩
 ·rintro i m ys H2 ⟨hm,E8,acc,G2,L2,M2,e2,r2,g2,l2,n2,la,h2⟩;refine⟨E8,?_⟩;have ne1:∀{b:Addr} {u:HO},H1 b=some u->b≠Dl:=λe z=>by rw[z,hD]at e;cases e
  by_cases hi:i < xs.length
  ·right;have hd:xs[i]? =some xs[i]:=aaa hi;rw[abn hi]at h2;have⟨aQ,h2⟩:=h2;have⟨go,yl⟩:=y.go i G2 L2 M2 H2 _ e2.g e2.l r2 aQ hd;refine⟨go,λv H3 hy os hos=>?_⟩;have⟨G3,e3,r3,n3⟩:=yl v H3 hy;have h3:H3 Dl=some (.lst ys):=e3.out _ _ E8 l2;have g3:G3 Dl=none:=e3.fr _ g2 (by rw[E8];simp);refine gd G3 L2 M2 H3 _ v _ _ _ _ r3 n3 (LY ((n.mono e2).mono e3) Μ hos) h2 λρ' σ' n' h'=>?_;refine⟨G3,L2,ρ',M2,_,jP,r3,n',h',Ih,λb H4 xz=>?_⟩;have⟨G4,L4,M4,e4,r4,h4⟩:=xz;have Vj:H4 Dl=some (.lst ys):=e4.out _ _ h3 l2;have g4:G4 Dl=none:=e4.fr _ g3 (by rw[h3];simp);have l4:Dl∉L4:=λz=>(e4.new _ z).elim l2 λq=>by rw[h3]at q;cases q
   have OB:=e3.trans e4;cases b with
   | false=>
    exact⟨m - 1,(),(),Vj,acc,G4,L4,M4,e2.trans OB,r4,g4,l4,Ξ.mono OB.g OB.l _ _ n2,(),h4⟩
   | true=>
    refine⟨G4,L4,ρ',M4,_,jP,r4,n'.mono e4,h4,Ih,λv5 H5 xz=>?_⟩;have⟨d5,G5,L5,M5,e5,r5,n5,h5⟩:=xz;have KR:H5 Dl=some (.lst ys):=e5.out _ _ Vj l4;have g5:G5 Dl=none:=e5.fr _ g4 (by rw[Vj];simp);have l5:Dl∉L5:=λz=>(e5.new _ z).elim l4 λq=>by rw[Vj]at q;cases q
    have Y_:=OB.trans e5;have Zm:ys.length=acc.length:=by rw[<-n2.length]
    refine⟨KR,(),m - 1,(),(),Ψ,acc++[d5],G5,L5,M5,?_,?_,g5,l5,(Ξ.mono Y_.g Y_.l _ _ n2).app ⟨_,_,rfl,n5,rfl⟩,by rw[aag];show acc.length+1<=i+1;omega,h5⟩
    ·have Q7:=e2.trans Y_
     exact⟨Q7.g,Q7.l,Q7.fr,λb u h1 h2=>by rw[Ζ (ne1 h1)];exact Q7.out b u h1 h2,Q7.new,λb h=>by
      by_cases hb:b=Dl
      ·rw[hb,Ψ];simp
      ·rw[Ζ hb];exact Q7.C1 b h⟩
    ·refine⟨λb u e=>by rw[Ζ (λz=>by rw[z,g5]at e;cases e)];exact r5.sub b u e,r5.len,r5.nd,λi a m h1 h2=>?_⟩;have⟨q1,q2⟩:=r5.fK i a m h1 h2;exact⟨q1,q2.mono (.refl _) (.refl _) (Ζ λz=>l5 (by rw[<-z];exact aaj h1))⟩
  ·left;rw[abU ()]at h2;exact⟨y.stop i G2 L2 M2 H2 e2.g e2.l r2 h2.1 (),fin G2 L2 M2 H2 acc ys e2 r2 g2 l2 E8 n2 h2.2⟩
section
variable{K:fv}{G1:Hp}{L1:List Addr}{H1 G:Hp}{L:List Addr}{M:Ms}{H:Hp}{p:Addr}{ds:List Dt}{vs:List V}{q:DQ}
def Lc(e:Ex G1 L1 H1 G L H)(r:Rl K G L M H)(N4:H1 p=none)(hg:G p=none)(hl:p∉L)(h:H p=some (.lst vs))(n:Ξ K G L ds vs)(k:q (.lst ds) M):Fin K G1 L1 H1 q (.ref p) H:=by
 have g1:dQ G (upd G p (.lst vs)):=λb u e=>by rw[Ζ (λz=>by rw[z,hg]at e;cases e)];exact e
 refine⟨.lst ds,upd G p (.lst vs),L,M,⟨e.g.trans g1,e.l,λb h1 h2=>?_,e.out,e.new,e.C1⟩,⟨λb u e=>?_,r.len,r.nd,λk a m h1 h2=>?_⟩,⟨p,vs,rfl,Ψ,Ξ.mono g1 (.refl _) _ _ n⟩,k⟩
 ·rw[Ζ (λz=>h2 (by rw[z];exact N4))];exact e.fr b h1 h2
 ·by_cases hb:b=p
  ·rw[hb,Ψ]at e;rw[hb];cases e;exact h
  ·rw[Ζ hb]at e;exact r.sub b u e
 ·have⟨q1,q2⟩:=r.fK k a m h1 h2;have hb:a≠p:=λz=>hl (by rw[<-z];exact aaj h1);exact⟨by rw[Ζ hb];exact q1,q2.mono g1 (.refl _) rfl⟩
def Le(e:Ex G1 L1 H1 G L H)(r:Rl K G L M H)(N4:H1 p=none)(hg:G p=none)(hl:p∉L)(h:H p=some (.lst vs))(n:Ξ K G L ds vs)(k:q (.loc M.length) (M++[.lst ds])):Fin K G1 L1 H1 q (.ref p) H:=by
 refine⟨.loc M.length,G,L++[p],M++[.lst ds],⟨e.g,e.l.trans ⟨[p],rfl⟩,e.fr,e.out,λb hb=>?_,e.C1⟩,⟨r.sub,by rw[List.length_append,List.length_append,r.len];rfl,List.nodup_append.mpr ⟨r.nd,by simp,λa ha b hb=>?_⟩,λk a m h1 h2=>?_⟩,⟨p,rfl,by rw[<-r.len,List.getElem?_append_right (Nat.le_refl _)];simp⟩,k⟩
 ·rcases aaT.mp hb with z| z
  ·exact e.new b z
  ·have e:b=p:=by simpa using z
   right;rw[e];exact N4
 ·have e:b=p:=by simpa using hb
  rw[e];exactλz=>hl (z▸ha)
 ·by_cases hk:k < L.length
  ·rw[aao hk]at h1;rw[aao (by rw[<-r.len];exact hk)]at h2;have⟨q1,q2⟩:=r.fK k a m h1 h2;exact⟨q1,q2.mono (.refl _) ⟨[p],rfl⟩ rfl⟩
  ·have e:k=L.length:=by have:=(aaf.mp h1).1;rw[aag]at this;simp at this;omega
   rw[e,aaw (aai _)]at h1;rw[e,r.len,aaw (aai _)]at h2;simp at h1 h2;subst h1 h2;exact⟨hg,vs,h,Ξ.mono (.refl _) ⟨[p],rfl⟩ _ _ n⟩
def UN(b:Bool)(q:DQ)(ys:List Dt)(M:Ms):Prop:=match b with
 | false=>q (.lst ys) M
 | true=>q (.loc M.length) (M++[.lst ys])
def Ec{b:Bool}(e:Ex G1 L1 H1 G L H)(r:Rl K G L M H)(N4:H1 p=none)(hg:G p=none)(hl:p∉L)(h:H p=some (.lst vs))(n:Ξ K G L ds vs)(k:UN b q ds M):Fin K G1 L1 H1 q (.ref p) H:=by
 cases b
 ·exact Lc e r N4 hg hl h n k
 ·exact Le e r N4 hg hl h n k
end
def cR{n i:Nat}(h:i < n):vN n (iN i):=λv os cs H Q hl hq=>⟨⟨os.set i (some v),by rw[aaZ];exact hl,abO _ _ ()⟩,hq⟩
def ph{K:fv}{n i j:Nat}(h:i < n)(h':j < n):vN n (Kb K 2 (nq (iN i) (nq (iN j) J8))):=
 fun v os cs H Q hl ⟨a,xs,e,s,l,v1,r,e1,v2,r2,e2,e3,q⟩=>⟨a,xs,e,s,l,v1,r,e1,v2,r2,e2,e3,⟨(os.set i (some v1)).set j (some v2),by simp[hl],by
  rw[abO _ _ (),abO _ _ (by rw[aaZ];omega)]⟩,q⟩
section
variable{X:Cx}{elt iter tg:Expr}{xs:List Str}{scope:Scope}{pos:Pos}{ys:List Str}{Μ:List Nat}
def dD{i:Nat}{x:Str}{px:Pos}(S:af X scope xs ys Μ)(h:xs[i]? =some x)(C:Addr)(s:Shared)(H:Hp)(fp:List Addr):PG (Cx.comp X (xs++ys) scope C s H fp) (.Name x px) (iN i):=by
 have hm:x∈xs:=aaj h;have hi:(xs++ys)[i]? =some x:=by rw[aao (aaf.mp h).1];exact h
 exact ai S.nd hi (.inl (lookup_relabel_local (S.own x hm))) (.inr (lookup_relabel_local (S.own x hm)))
def xk{x y:Str}{px py:Pos}{k:Nat}(hc:X.calm=true)(S:af X scope [x,y] ys Μ)(C:Addr)(s:Shared)(H:Hp)(fp:List Addr):PG (Cx.comp X ([x,y]++ys) scope C s H fp) (.Tuple [.Name x px,.Name y py] k pos) (Kb X.K 2 (nq (iN 0) (nq (iN 1) J8))):=
 oi (X:=Cx.comp X ([x,y]++ys) scope C s H fp) hc (cH (dD S (i:=0) rfl C s H fp) (cH (dD S (i:=1) rfl C s H fp) kQ))
end
def tL:DT:=λ_ M q _=>q true M
def WZ(X:Cx)(cs:List Expr)(t:DT):Prop:=U3 X cs (ES X.K (λ_=>E0) t)
def fU{X:Cx}:WZ X [] tL:=⟨.inl rfl,λδ s σ H Q I ⟨G,L,ρ,M,q,x,r,n,h,hx,hQ⟩=>abd ⟨H,I,hQ true H ⟨G,L,M,.refl _ _ _,r,h⟩⟩⟩
def C6{X:Cx}{c:Expr}{t:DT}(h:JT X (λ_=>E0) c t):WZ X [c] t:=⟨.inr ⟨c,rfl⟩,h⟩
def Ni(b:Bool)(g:Dt->En->(En->Prop)->Prop)(tc:DT)(te:DE)(cs:En)(q:DQ):List Dt->(Ms->Prop)->Ms->Prop:=λzs ok M1=>zs.length<=sizeLine/\gY g tc te cs ok zs [] M1 (UN b q)
section
variable{X:Cx}{R:St->XK}{elt iter tg:Expr}{cs:List Expr}{xs:List Str}{scope:Scope}{pos:Pos}{gg:TG}{g:Dt->En->(En->Prop)->Prop}{ti:DK}{tc:DT}{te:DE}{ys:List Str}{Μ:List Nat}(b:Bool)(S:af X scope xs ys Μ)(hi:JK X R tg iter ti)(hg:∀C s H fp,PG (Cx.comp X (xs++ys) scope C s H fp) tg gg)(gd:GD X.K gg g)(hk:vN xs.length gg)(ht:∀C s H fp,WZ (Cx.comp X (xs++ys) scope C s H fp) cs tc)(he:∀C s H fp,JE (Cx.comp X (xs++ys) scope C s H fp) (λ_=>E0) elt te)(hc:X.calm=true)(hs:∀x,foldedSetIterable iter X.env x=pure x)
include S hi hg gd hk ht he hc hs
def QX{t:DE}(e:∀ρ M q x,t ρ M q x->ti ρ M (Ni b g tc te (List.replicate xs.length none++mH Μ ρ) q) x):JE X R (.ListComp elt [⟨tg,iter,cs,0⟩] scope pos) t:=
 .of (Hn (tc:=ES X.K (λ_=>E0) tc) (te:=yQ X.K (λ_=>E0) te) S hc hi hg hk ht he hs) λσ H G L ρ M q x rl n h hx=>⟨G,L,ρ,M,_,x,rl,n,e _ _ _ _ h,hx,λJ H1 ⟨xs,ok,G1,L1,M1,e1,r1,y,hz,h1⟩ D hD=>zq gd r1 (n.mono e1) y hD hz h1 λG2 L2 M2 H2 ds vs e2 r2 g2 l2 h2 n2 k=>Fin.back e1 (Ec e2 r2 hD g2 l2 h2 n2 k)⟩
def R7{i:Nat}{y:Str}{py iO:Pos}(hN:X.N.Nodup)(FA:X.N[i]? =some y)(hy:Loc X.env.scope y)(ED:swapsWith (.ListComp elt [⟨tg,iter,cs,0⟩] scope pos) (some (.Name y py)) iO.line X.env=pure true)(hf:X.fn y=true\/X.env.scope.names.lookup y=some .local){t:DE}(e:∀ρ M q x,t ρ M q x->ti ρ M (Ni b g tc te (List.replicate xs.length none++mH Μ ρ) q) x):
  JS X R (.Assign [.Name y py] (.ListComp elt [⟨tg,iter,cs,0⟩] scope pos) iO) (xJ i t):=.of (Af (tc:=ES X.K (λ_=>E0) tc) (te:=yQ X.K (λ_=>E0) te) hN FA hy S hc hi hg hk ht he ED hs hf) λσ H G L ρ M Dn rl n h hx=>by
 refine⟨G,L,ρ,M,_,_,rl,n,e _ _ _ _ h,hx,fun J H1 ⟨xs,ok,G1,L1,M1,e1,r1,y,hz,h1⟩ D hD=>zq gd r1 (n.mono e1) y hD hz h1 λG2 L2 M2 H2 ds vs e2 r2 g2 l2 h2 n2 k=>?_⟩;have⟨d,G3,L3,M3,e3,r3,n3,h3⟩:=Ec (q:=λd M=>Dn.nx (ρ.set i (some d)) M) e2 r2 hD g2 l2 h2 n2 k;exact⟨_,G3,L3,M3,e1.trans e3,r3,((n.mono e1).mono e3).set i n3,h3⟩
end
def tw(te:DE)(cs:En):List Dt->List Dt->Ms->(List Dt->Ms->Prop)->Prop
 | [],acc,M,k=>k acc M
 | x::xs,acc,M,k=>te (some x::cs) M (λd M1=>tw te cs xs (acc++[d]) M1 k) jP
def An(ti:DA)(te:DE)(Μ:List Nat):DE:=λρ M q x=>ti ρ M (λxs M1=>xs.length<=sizeLine/\tw te (mH Μ ρ) xs [] M1 (λys M2=>q (.lst ys) M2)) x
def A6(ti:DA)(te:DE)(Μ:List Nat):DE:=λρ M q x=>ti ρ M (λxs M1=>xs.length<=sizeLine/\tw te (mH Μ ρ) xs [] M1 (λys M2=>q (.loc M2.length) (M2++[.lst ys]))) x
def qK{te:DE}{cs:En}:∀xs,tw te cs xs=gY (gN 0) tL te (none::cs) (λ_=>True) xs
 | []=>funext λacc=>funext λM=>funext λk=>(true_and _).symm
 | x::xs=>funext λacc=>funext λM=>funext λk=>by show te (some x::cs) M (λd M1=>tw te cs xs (acc++[d]) M1 k) jP=(True/\te (some x::cs) M (λd M1=>gY (gN 0) tL te (none::cs) (λ_=>True) xs (acc++[d]) M1 k) jP);rw[qK xs,true_and]
section
variable{X:Cx}{R:St->XK}{elt iter:Expr}{x:Str}{px:Pos}{scope:Scope}{pos:Pos}{ti:DA}{te:DE}{ys:List Str}{Μ:List Nat}
def Oi(S:af X scope [x] ys Μ)(hi:JI X R (.Name x px) iter ti)(he:∀C s H fp,JE (Cx.comp X (x::ys) scope C s H fp) (λ_=>E0) elt te)(hc:X.calm=true:=by rfl)(hs:∀x,foldedSetIterable iter X.env x=pure x:=by intro _;rfl):JE X R (.ListComp elt [⟨.Name x px,iter,[],0⟩] scope pos) (An ti te Μ):=QX false S (vz hi) (dD S (i:=0) rfl) az (cR (Nat.zero_lt_succ 0)) (λ_ _ _ _=>fU) he hc hs λρ M q x h=>by unfold An at h;simp only[qK]at h;exact h
def Mz(S:af X scope [x] ys Μ)(hi:JI X R (.Name x px) iter ti)(he:∀C s H fp,JE (Cx.comp X (x::ys) scope C s H fp) (λ_=>E0) elt te)(hc:X.calm=true:=by rfl)(hs:∀x,foldedSetIterable iter X.env x=pure x:=by intro _;rfl):JE X R (.ListComp elt [⟨.Name x px,iter,[],0⟩] scope pos) (A6 ti te Μ):=QX true S (vz hi) (dD S (i:=0) rfl) az (cR (Nat.zero_lt_succ 0)) (λ_ _ _ _=>fU) he hc hs λρ M q x h=>by unfold A6 at h;simp only[qK]at h;exact h
def Cy{i:Nat}{y:Str}{py iO:Pos}(hN:X.N.Nodup)(FA:X.N[i]? =some y)(hy:Loc X.env.scope y)(S:af X scope [x] ys Μ)(hi:JI X R (.Name x px) iter ti)(he:∀C s H fp,JE (Cx.comp X (x::ys) scope C s H fp) (λ_=>E0) elt te)(hc:X.calm=true:=by rfl)(ED:swapsWith (.ListComp elt [⟨.Name x px,iter,[],0⟩] scope pos) (some (.Name y py)) iO.line X.env=pure true:=by rfl)(hs:∀x,foldedSetIterable iter X.env x=pure x:=by intro _;rfl)(hf:X.fn y=true\/X.env.scope.names.lookup y=some .local:=by first| exact .inl rfl| exact .inr rfl| assumption):JS X R (.Assign [.Name y py] (.ListComp elt [⟨.Name x px,iter,[],0⟩] scope pos) iO) (xJ i (An ti te Μ)):=R7 false S (vz hi) (dD S (i:=0) rfl) az (cR (Nat.zero_lt_succ 0)) (λ_ _ _ _=>fU) he hc hs hN FA hy ED hf λρ M q x h=>by unfold An at h;simp only[qK]at h;exact h
end
def fin_same{K:fv}{G0:Hp}{L0:List Addr}{H0 G:Hp}{L:List Addr}{M:Ms}{H:Hp}{d:Dt}{v:V}{q:DQ}(e:Ex G0 L0 H0 G L H)(r:Rl K G L M H)(n:Den K G L d v)(h:q d M):Fin K G0 L0 H0 q v H:=⟨d,G,L,M,e,r,n,h⟩
def bK{K:fv}{G0:Hp}{L0:List Addr}{H0 G:Hp}{L:List Addr}{M:Ms}{H:Hp}{d:Dt}{v:V}{q:DQ}(e:Ex G0 L0 H0 G L H)(r:Rl K G L M H)(h:q d M)(n:Den K G L d v:=by rfl):Fin K G0 L0 H0 q v H:=⟨d,G,L,M,e,r,n,h⟩
def Jc:Dt->Dt->Ms->DQ->Prop
 | .int i,.int j,M,q=>q (.int (i+j)) M
 | .str a,.str b,M,q=>a.length+b.length<=sizeLine/\q (.str (a++b)) M
 | .lst a,.lst b,M,q=>a.length+b.length<=sizeLine/\q (.lst (a++b)) M
 | .tup a,.tup b,M,q=>(a≠[]/\a.length+b.length<=sizeLine)/\q (.tup (a++b)) M
 | _,_,_,_=>False
def Kn:Dt->Dt->Ms->DQ->Prop
 | .int i,.int j,M,q=>q (.int (i - j)) M
 | _,_,_,_=>False
def Jp:Dt->Dt->Ms->DQ->Prop
 | .int i,.int j,M,q=>(gS i/\gS j)/\q (.int (i * j)) M
 | .lst a,.int k,M,q=>(-(2 ^ 63)<=k/\k < 2 ^ 63/\a.length * k.toNat<=sizeLine)/\q (.lst (List.replicate k.toNat a).flatten) M
 | _,_,_,_=>False
def OF:Dt->Dt->Ms->DQ->Prop
 | .int i,.int j,M,q=>(0 < j/\gS j)/\q (.int (i / j)) M
 | _,_,_,_=>False
def C_:Dt->Dt->Ms->DQ->Prop
 | .int i,.int j,M,q=>(j≠0/\gS j)/\q (.int (i.fdiv j)) M
 | _,_,_,_=>False
def Oz:Dt->Dt->Ms->DQ->Prop
 | .int i,.int j,M,q=>0 < j/\q (.int (i % j)) M
 | _,_,_,_=>False
def QO:Dt->Dt->Ms->DQ->Prop
 | .int i,.int j,M,q=>x6 i j/\q (.int (i ^ j.toNat)) M
 | _,_,_,_=>False
def O9:Dt->Ms->DQ->Prop
 | .int i,M,q=>q (.int (-i)) M
 | _,_,_=>False
section
variable{K:fv}
def Y7:pF K (λx y H Q=>(∃i j,x=V.int i/\y= .int j/\Q (.int (i+j)) H)\/(∃i j,x=V.str i/\y= .str j/\i.length+j.length<=sizeLine/\Q (.str (i++j)) H)\/PY x y H Q\/NP K x y H Q) Jc:=by
 intro G0 L0 H0 G L M H v1 v2 d1 d2 q e r n1 n2 h;unfold Jc at h;split at h
 ·rename_i i j;exact .inl ⟨i,j,n1,n2,bK e r h⟩
 ·rename_i a b;exact .inr (.inl ⟨a,b,n1,n2,h.1,bK e r h.2⟩)
 ·rename_i a b;have⟨p1,w1,rfl,e1,m1⟩:=n1;have⟨p2,w2,rfl,e2,m2⟩:=n2;refine .inr (.inr (.inl ⟨p1,p2,w1,w2,rfl,rfl,r.sub _ _ e1,r.sub _ _ e2,by rw[<-m1.length,<-m2.length];exact h.1,λp hp=>?_⟩));exact kW e r hp (qE r hp (m1.app m2)) h.2
 ·rename_i a b;have⟨p1,w1,rfl,e1,m1⟩:=n1;have⟨p2,w2,rfl,e2,m2⟩:=n2;have ne:w1≠[]:=λz=>h.1.1 (by have:=m1.length;rw[z]at this;exact List.eq_nil_of_length_eq_zero this);refine .inr (.inr (.inr ⟨p1,p2,w1,w2,rfl,rfl,.inl (.inl (r.sub _ _ e1)),.inl (.inl (r.sub _ _ e2)),ne,by rw[<-m1.length,<-m2.length];exact h.1.2,λz=>?_,λ_ p hp=>?_⟩))
  ·have hb:b=[]:=by have:=m2.length;rw[z]at this;exact List.eq_nil_of_length_eq_zero this
   subst hb;rw[aaV]at h;exact fin_same (d:=.tup a) e r ⟨p1,w1,rfl,e1,m1⟩ h.2
  ·exact kW e r hp (qD r hp (m1.app m2)) h.2
 ·exact h.elim
def Xx:pF K (Fe λi j=>.int (i - j)) Kn:=by
 intro G0 L0 H0 G L M H v1 v2 d1 d2 q e r n1 n2 h;unfold Kn at h;split at h
 ·exact⟨_,_,n1,n2,bK e r h⟩
 ·exact h.elim
def YJ:pF K (λx y H Q=>(rI (λi j=>gS i/\gS j) λi j=>.int (i * j)) x y H Q\/OO x y H Q) Jp:=by
 intro G0 L0 H0 G L M H v1 v2 d1 d2 q e r n1 n2 h;unfold Jp at h;split at h
 ·exact .inl ⟨_,_,n1,n2,h.1,bK e r h.2⟩
 ·rename_i a k;have⟨p1,w1,rfl,e1,m1⟩:=n1;refine .inr ⟨p1,k,w1,rfl,n2,r.sub _ _ e1,h.1.1,h.1.2.1,by rw[<-m1.length];exact h.1.2.2,λp hp=>?_⟩;exact kW e r hp (qE r hp (.of (wm m1.pair k.toNat))) h.2
 ·exact h.elim
def Wf:pF K (rI (λ_ j=>j≠0/\gS j) λi j=>.int (i.fdiv j)) OF:=by
 intro G0 L0 H0 G L M H v1 v2 d1 d2 q e r n1 n2 h;unfold OF at h;split at h
 ·rename_i i j;have h0:=h.1.1;refine⟨_,_,n1,n2,⟨(),h.1.2⟩,fin_same (d:=.int (i.fdiv j)) e r rfl ?_⟩;rw[ab4 i (aav h0)];exact h.2
 ·exact h.elim
def R4:pF K (rI (λ_ j=>j≠0/\gS j) λi j=>.int (i.fdiv j)) C_:=by
 intro G0 L0 H0 G L M H v1 v2 d1 d2 q e r n1 n2 h;unfold C_ at h;split at h
 ·exact⟨_,_,n1,n2,h.1,bK e r h.2⟩
 ·exact h.elim
def YS:pF K (rI (λ_ j=>0 < j) λi j=>.int (i % j)) Oz:=by
 intro G0 L0 H0 G L M H v1 v2 d1 d2 q e r n1 n2 h;unfold Oz at h;split at h
 ·exact⟨_,_,n1,n2,h.1,bK e r h.2⟩
 ·exact h.elim
def Yo:pF K (rI x6 λi j=>.int (i ^ j.toNat)) QO:=by
 intro G0 L0 H0 G L M H v1 v2 d1 d2 q e r n1 n2 h;unfold QO at h;split at h
 ·exact⟨_,_,n1,n2,h.1,bK e r h.2⟩
 ·exact h.elim
def W4:Y6 K (rU λi=>.int (-i)) O9:=by
 intro G0 L0 H0 G L M H v1 d1 q e r n1 h;unfold O9 at h;split at h
 ·exact⟨_,n1,bK e r h⟩
 ·exact h.elim
end
section
variable{X:Cx}{R:St->XK}{a b c:Expr}{ta tb:DE}{pos:Pos}
def dh(ja:JE X R a ta)(jb:JE X R b tb):JE X R (.BinOp a .Add b pos) (jB Jc ta tb):=xP (OI.or (Br.or (Ko.or Mw))) Y7 ja jb
def pY(ja:JE X R a ta)(jb:JE X R b tb):JE X R (.BinOp a .Sub b pos) (jB Kn ta tb):=xP QD Xx ja jb
def bY(ja:JE X R a ta)(jb:JE X R b tb):JE X R (.BinOp a .Mult b pos) (jB Jp ta tb):=xP (Lr.or GW) YJ ja jb
def fC(ja:JE X R a ta)(jb:JE X R b tb):JE X R (.BinOp a .FloorDiv b pos) (jB OF ta tb):=xP zy Wf ja jb
def B8(ja:JE X R a ta)(jb:JE X R b tb):JE X R (.BinOp a .FloorDiv b pos) (jB C_ ta tb):=xP zy R4 ja jb
def dE(ja:JE X R a ta)(jb:JE X R b tb):JE X R (.BinOp a .Mod b pos) (jB Oz ta tb):=xP QM YS ja jb
def nc(ja:JE X R a ta)(jb:JE X R b tb):JE X R (.BinOp a .Pow b pos) (jB QO ta tb):=xP PL Yo ja jb
def NM(ja:JE X R a ta):JE X R (.UnaryOp .USub a pos) (UU O9 ta):=X_ QC W4 ja
end
def VB:Dt->Dt->Ms->DQ->Prop
 | .int i,.int j,M,q=>q (.bl (decide (i < j))) M
 | _,_,_,_=>False
def UZ:Dt->Dt->Ms->DQ->Prop
 | .int i,.int j,M,q=>q (.bl (decide (i<=j))) M
 | _,_,_,_=>False
def Vv:Dt->Dt->Ms->DQ->Prop
 | .int i,.int j,M,q=>q (.bl (decide (j < i))) M
 | _,_,_,_=>False
def UT:Dt->Dt->Ms->DQ->Prop
 | .int i,.int j,M,q=>q (.bl (decide (j<=i))) M
 | _,_,_,_=>False
def vo:Dt->Option V
 | .aP=>some .aP
 | .bl b=>some (.bl b)
 | .int i=>some (.int i)
 | .str x=>some (.str x)
 | _=>none
def h9:List Dt->Option (List V)
 | []=>some []
 | d::ds=>match vo d,h9 ds with
  | some v,some vs=>some (v::vs)
  | _,_=>none
section
variable{K:fv}{G:Hp}{L:List Addr}
def nU{d:Dt}{v u:V}(h:vo d=some u)(n:Den K G L d v):v=u/\eD u=true:=by cases d <;> first| (cases h;exact⟨n,rfl⟩)| cases h
def f_:∀{ds:List Dt} {vs us:List V},h9 ds=some us->Ξ K G L ds vs->vs=us/\us.all eD=true
 | [],vs,us,h,n=>by cases h;exact⟨n,rfl⟩
 | d::ds,_,us,h,⟨v,r,e,n1,n2⟩=>by
  subst e;unfold h9 at h;split at h
  ·rename_i u1 u2 h1 h2;cases h;have⟨a1,a2⟩:=nU h1 n1;have⟨b1,b2⟩:=f_ h2 n2;subst a1 b1;exact⟨rfl,by rw[abL,a2,b2];rfl⟩
  ·cases h
end
def LS:Dt->Dt->Ms->DQ->Prop
 | .int i,.int j,M,q=>q (.bl (decide (i=j))) M
 | .str i,.str j,M,q=>q (.bl (decide (i=j))) M
 | .bl i,.bl j,M,q=>q (.bl (decide (i=j))) M
 | .tup a,.tup b,M,q=>match h9 a,h9 b with
  | some us,some vs=>q (.bl (lE us vs)) M
  | _,_=>False
 | _,_,_,_=>False
def Hw:Dt->Dt->Ms->DQ->Prop
 | .int i,.int j,M,q=>q (.bl (!decide (i=j))) M
 | .str i,.str j,M,q=>q (.bl (!decide (i=j))) M
 | .bl i,.bl j,M,q=>q (.bl (!decide (i=j))) M
 | .tup a,.tup b,M,q=>match h9 a,h9 b with
  | some us,some vs=>q (.bl (!lE us vs)) M
  | _,_=>False
 | _,_,_,_=>False
def Lq:Dt->Dt->Ms->DQ->Prop
 | .aP,.aP,M,q=>q (.bl true) M
 | .bl _,.aP,M,q=>q (.bl false) M
 | .int _,.aP,M,q=>q (.bl false) M
 | .str _,.aP,M,q=>q (.bl false) M
 | .tup _,.aP,M,q=>q (.bl false) M
 | .lst _,.aP,M,q=>q (.bl false) M
 | _,_,_,_=>False
def uR:Dt->Dt->Ms->DQ->Prop
 | .aP,.aP,M,q=>q (.bl false) M
 | .bl _,.aP,M,q=>q (.bl true) M
 | .int _,.aP,M,q=>q (.bl true) M
 | .str _,.aP,M,q=>q (.bl true) M
 | .tup _,.aP,M,q=>q (.bl true) M
 | .lst _,.aP,M,q=>q (.bl true) M
 | _,_,_,_=>False
section
variable{K:fv}
def Z4:pF K (Fe λi j=>.bl (decide (i < j))) VB:=by
 intro G0 L0 H0 G L M H v1 v2 d1 d2 q e r n1 n2 h;unfold VB at h;split at h
 ·exact⟨_,_,n1,n2,bK e r h⟩
 ·exact h.elim
def Zp:pF K (Fe λi j=>.bl (decide (i<=j))) UZ:=by
 intro G0 L0 H0 G L M H v1 v2 d1 d2 q e r n1 n2 h;unfold UZ at h;split at h
 ·exact⟨_,_,n1,n2,bK e r h⟩
 ·exact h.elim
def gtD:pF K (Fe λi j=>.bl (decide (j < i))) Vv:=by
 intro G0 L0 H0 G L M H v1 v2 d1 d2 q e r n1 n2 h;unfold Vv at h;split at h
 ·exact⟨_,_,n1,n2,bK e r h⟩
 ·exact h.elim
def ZS:pF K (Fe λi j=>.bl (decide (j<=i))) UT:=by
 intro G0 L0 H0 G L M H v1 v2 d1 d2 q e r n1 n2 h;unfold UT at h;split at h
 ·exact⟨_,_,n1,n2,bK e r h⟩
 ·exact h.elim
def kR{p q:Prop} [Decidable p] [Decidable q](h:p↔q):decide p=decide q:=decide_eq_decide.mpr h
def Ts:pF K (λx y H Q=>Z5 x y H Q\/T_ K x y H Q) LS:=by
 intro G0 L0 H0 G L M H v1 v2 d1 d2 q e r n1 n2 h;unfold LS at h;split at h
 ·rename_i i j;cases n1;cases n2;exact .inl ⟨rfl,fin_same (d:=.bl _) e r (by show V.bl _=V.bl _;rw[kR (p:=V.int i=V.int j) (q:=i=j) ⟨λz=>V.int.inj z,λz=>by rw[z]⟩]) h⟩
 ·rename_i i j;cases n1;cases n2;exact .inl ⟨rfl,fin_same (d:=.bl _) e r (by show V.bl _=V.bl _;rw[kR (p:=V.str i=V.str j) (q:=i=j) ⟨λz=>V.str.inj z,λz=>by rw[z]⟩]) h⟩
 ·rename_i i j;cases n1;cases n2;exact .inl ⟨rfl,fin_same (d:=.bl _) e r (by show V.bl _=V.bl _;rw[kR (p:=V.bl i=V.bl j) (q:=i=j) ⟨λz=>V.bl.inj z,λz=>by rw[z]⟩]) h⟩
 ·rename_i a b;have⟨p1,w1,rfl,e1,m1⟩:=n1;have⟨p2,w2,rfl,e2,m2⟩:=n2;split at h
  ·rename_i us vs h1 h2;have⟨rfl,a2⟩:=f_ h1 m1;have⟨rfl,b2⟩:=f_ h2 m2;exact .inr ⟨p1,p2,_,_,rfl,rfl,.inl (.inl (r.sub _ _ e1)),.inl (.inl (r.sub _ _ e2)),a2,b2,bK e r h⟩
  ·exact h.elim
 ·exact h.elim
def YA:pF K (λx y H Q=>Z1 x y H Q\/Uz K x y H Q) Hw:=by
 intro G0 L0 H0 G L M H v1 v2 d1 d2 q e r n1 n2 h;unfold Hw at h;split at h
 ·rename_i i j;cases n1;cases n2;exact .inl ⟨rfl,fin_same (d:=.bl _) e r (by show V.bl _=V.bl _;rw[kR (p:=V.int i=V.int j) (q:=i=j) ⟨λz=>V.int.inj z,λz=>by rw[z]⟩]) h⟩
 ·rename_i i j;cases n1;cases n2;exact .inl ⟨rfl,fin_same (d:=.bl _) e r (by show V.bl _=V.bl _;rw[kR (p:=V.str i=V.str j) (q:=i=j) ⟨λz=>V.str.inj z,λz=>by rw[z]⟩]) h⟩
 ·rename_i i j;cases n1;cases n2;exact .inl ⟨rfl,fin_same (d:=.bl _) e r (by show V.bl _=V.bl _;rw[kR (p:=V.bl i=V.bl j) (q:=i=j) ⟨λz=>V.bl.inj z,λz=>by rw[z]⟩]) h⟩
 ·rename_i a b;have⟨p1,w1,rfl,e1,m1⟩:=n1;have⟨p2,w2,rfl,e2,m2⟩:=n2;split at h
  ·rename_i us vs h1 h2;have⟨rfl,a2⟩:=f_ h1 m1;have⟨rfl,b2⟩:=f_ h2 m2;exact .inr ⟨p1,p2,_,_,rfl,rfl,.inl (.inl (r.sub _ _ e1)),.inl (.inl (r.sub _ _ e2)),a2,b2,bK e r h⟩
  ·exact h.elim
 ·exact h.elim
def V2:pF K (λx y H Q=>y= .aP/\Q (.bl (decide (x= .aP))) H) Lq:=by
 intro G0 L0 H0 G L M H v1 v2 d1 d2 q e r n1 n2 h;unfold Lq at h;split at h
 ·cases n1;exact⟨n2,fin_same (d:=.bl true) e r (by show V.bl _=V.bl _;rw[aau rfl]) h⟩
 ·cases n1;exact⟨n2,fin_same (d:=.bl false) e r (by show V.bl _=V.bl _;rw[aal nofun]) h⟩
 ·cases n1;exact⟨n2,fin_same (d:=.bl false) e r (by show V.bl _=V.bl _;rw[aal nofun]) h⟩
 ·cases n1;exact⟨n2,fin_same (d:=.bl false) e r (by show V.bl _=V.bl _;rw[aal nofun]) h⟩
 ·have⟨p1,w1,rfl,_⟩:=n1;exact⟨n2,fin_same (d:=.bl false) e r (by show V.bl _=V.bl _;rw[aal nofun]) h⟩
 ·have⟨p1,w1,rfl,_⟩:=n1;exact⟨n2,fin_same (d:=.bl false) e r (by show V.bl _=V.bl _;rw[aal nofun]) h⟩
 ·exact h.elim
def NS:pF K (λx y H Q=>y= .aP/\Q (.bl (!decide (x= .aP))) H) uR:=by
 intro G0 L0 H0 G L M H v1 v2 d1 d2 q e r n1 n2 h;unfold uR at h;split at h
 ·cases n1;exact⟨n2,fin_same (d:=.bl false) e r (by show V.bl _=V.bl _;rw[aau rfl];rfl) h⟩
 ·cases n1;exact⟨n2,fin_same (d:=.bl true) e r (by show V.bl _=V.bl _;rw[aal nofun];rfl) h⟩
 ·cases n1;exact⟨n2,fin_same (d:=.bl true) e r (by show V.bl _=V.bl _;rw[aal nofun];rfl) h⟩
 ·cases n1;exact⟨n2,fin_same (d:=.bl true) e r (by show V.bl _=V.bl _;rw[aal nofun];rfl) h⟩
 ·have⟨p1,w1,rfl,_⟩:=n1;exact⟨n2,fin_same (d:=.bl true) e r (by show V.bl _=V.bl _;rw[aal nofun];rfl) h⟩
 ·have⟨p1,w1,rfl,_⟩:=n1;exact⟨n2,fin_same (d:=.bl true) e r (by show V.bl _=V.bl _;rw[aal nofun];rfl) h⟩
 ·exact h.elim
end
section
variable{X:Cx}{R:St->XK}{a b c:Expr}{ta tb:DE}{pos:Pos}
def JJ(ja:JE X R a ta)(jb:JE X R b tb):JE X R (.Compare a [.Lt] [b] pos) (jB VB ta tb):=pX NT Z4 ja jb (eN _)
def BO(ja:JE X R a ta)(jb:JE X R b tb):JE X R (.Compare a [.LtE] [b] pos) (jB UZ ta tb):=pX Ng Zp ja jb (eN _)
def V8(ja:JE X R a ta)(jb:JE X R b tb):JE X R (.Compare a [.Gt] [b] pos) (jB Vv ta tb):=pX N3 gtD ja jb (eN _)
def WA(ja:JE X R a ta)(jb:JE X R b tb):JE X R (.Compare a [.GtE] [b] pos) (jB UT ta tb):=pX NA ZS ja jb (eN _)
def Xc{k:Nat}(hr:bU k X.A)(ja:JE X R a ta)(jb:JE X R b tb):JE X R (.Compare a [.Eq] [b] pos) (jB LS ta tb):=pX (NX.or (Kz hr.Bk)) Ts ja jb (eN _)
def P1(ja:JE X R a ta)(jb:JE X R b tb):JE X R (.Compare a [.IsNot] [b] pos) (jB uR ta tb):=pX CY NS ja jb (eN _)
def pL(ja:JE X R a ta)(jb:JE X R b tb):JT X R (.Compare a [.Lt] [b] pos) (mw (jB VB ta tb)):=gO NT Z4 ja jb (eN _)
def KC(ja:JE X R a ta)(jb:JE X R b tb):JT X R (.Compare a [.LtE] [b] pos) (mw (jB UZ ta tb)):=gO Ng Zp ja jb (eN _)
def rG(ja:JE X R a ta)(jb:JE X R b tb):JT X R (.Compare a [.Gt] [b] pos) (mw (jB Vv ta tb)):=gO N3 gtD ja jb (eN _)
def Ti(ja:JE X R a ta)(jb:JE X R b tb):JT X R (.Compare a [.GtE] [b] pos) (mw (jB UT ta tb)):=gO NA ZS ja jb (eN _)
def d9{k:Nat}(hr:bU k X.A)(ja:JE X R a ta)(jb:JE X R b tb):JT X R (.Compare a [.Eq] [b] pos) (mw (jB LS ta tb)):=gO (NX.or (Kz hr.Bk)) Ts ja jb (eN _)
def gP{k:Nat}(hr:bU k X.A)(ja:JE X R a ta)(jb:JE X R b tb):JT X R (.Compare a [.NotEq] [b] pos) (mw (jB Hw ta tb)):=gO (Ua.or (Ph hr.Bk)) YA ja jb (eN _)
def Bw(ja:JE X R a ta)(jb:JE X R b tb):JT X R (.Compare a [.Is] [b] pos) (mw (jB Lq ta tb)):=gO OS V2 ja jb (eN _)
def Dm(ja:JE X R a ta)(jb:JE X R b tb):JT X R (.Compare a [.IsNot] [b] pos) (mw (jB uR ta tb)):=gO CY NS ja jb (eN _)
end
def ic(M:Ms):Dt->Option (List Dt)
 | .lst xs=>some xs
 | .tup xs=>some xs
 | .ip ns=>some (ns.map .int)
 | .kt xs=>some xs
 | .loc k=>match M[k]? with
  | some (.lst xs)=>some xs
  | _=>none
 | _=>none
def qG{K:fv}{G:Hp}{L:List Addr}{M:Ms}{H:Hp}{d:Dt}{v:V}{xs:List Dt}(r:Rl K G L M H)(n:Den K G L d v)(h:ic M d=some xs):∃a vs,v= .ref a/\(gu K H a vs\/mQ K H a vs)/\Ξ K G L xs vs:=by
 cases d with
 | lst ds=>cases h;have⟨a,vs,rfl,e,m⟩:=n;exact⟨a,vs,rfl,.inl (.of (r.sub _ _ e)),m⟩
 | tup ds=>cases h;have⟨a,vs,rfl,e,m⟩:=n;exact⟨a,vs,rfl,.inr (.of (r.sub _ _ e)),m⟩
 | kt ds=>cases h;have⟨a,vs,rfl,e,m⟩:=n;exact⟨a,vs,rfl,.inr (r.sub.Sq e),m⟩
 | ip ns=>cases h;have⟨a,rfl,e⟩:=n;exact⟨a,_,rfl,.inl (r.sub.seq e),iU⟩
 | loc k=>
  have⟨a,rfl,e⟩:=n;have h:(match M[k]? with| some (.lst xs)=>some xs| _=>none)=some xs:=h;split at h
  ·rename_i ys hm;cases h;have⟨_,vs,e1,m1⟩:=r.fK k a _ e hm;exact⟨a,vs,rfl,.inl (.of e1),m1⟩
  ·cases h
 | _=>cases h
def L6{K:fv}{G:Hp}{L:List Addr}{ds:List Dt}{vs:List V}{i:Int}{d:Dt}(n:Ξ K G L ds vs)(h:jA ds i=some d):∃v,jA vs i=some v/\Den K G L d v:=by
 unfold jA at h⊢;rw[<-n.length];cases q:G7 ds.length i with
 | none=>rw[q]at h;cases h
 | some j=>
  rw[q]at h;have⟨v,e,m⟩:=n.get h;exact⟨v,e,m⟩
def cx:Dt->Dt->Ms->DQ->Prop
 | .str z,.int i,M,q=>z.length<=sizeLine/\match jA z.cps.toList i with
  | some c=>q (.str ⟨#[c]⟩) M
  | none=>False
 | d,.int i,M,q=>match ic M d with
  | some xs=>(match jA xs i with
   | some y=>q y M
   | none=>False)
  | none=>False
 | _,_,_,_=>False
def fP:List Dt->Ms->DQ->Prop
 | [.str z],M,q=>z.length<=sizeLine/\q (.int z.length) M
 | [d],M,q=>match ic M d with
  | some xs=>q (.int xs.length) M
  | none=>False
 | _,_,_=>False
section
variable{K:fv}
def ixD:pF K (ZH K) cx:=by
 intro G0 L0 H0 G L M H v1 v2 d1 d2 q e r n1 n2 h;unfold cx at h;split at h
 ·rename_i z i;split at h
  ·rename_i c hc;exact .inr (.inr ⟨z,i,c,n1,n2,h.1,hc,bK e r h.2⟩)
  ·exact h.2.elim
 ·rename_i d i _;split at h
  ·rename_i xs hx;split at h
   ·rename_i y hy;have⟨a,vs,rfl,hs,m⟩:=qG r n1 hx;have⟨v,e1,m1⟩:=L6 m hy;rcases hs with hs| hs
    ·exact .inl ⟨a,vs,i,v,rfl,n2,hs,e1,fin_same e r m1 h⟩
    ·exact .inr (.inl ⟨a,vs,i,v,rfl,n2,hs,e1,fin_same e r m1 h⟩)
   ·exact h.elim
  ·exact h.elim
 ·exact h.elim
def W7:Cc K (λxs H Q=>(∃z,xs=[V.str z]/\z.length<=sizeLine/\Q (.int z.length) H)\/(∃p ys,xs=[V.ref p]/\(gu K H p ys\/mQ K H p ys)/\Q (.int ys.length) H)) fP:=by
 intro G0 L0 H0 G L M H vs ds q e r n h;unfold fP at h;split at h
 ·rename_i z;have⟨v,rfl,n1⟩:=a_ n;cases n1;exact .inl ⟨z,rfl,h.1,bK e r h.2⟩
 ·rename_i d _;have⟨v,rfl,n1⟩:=a_ n;split at h
  ·rename_i xs hx;have⟨a,ws,rfl,hs,m⟩:=qG r n1 hx;exact .inr ⟨a,ws,rfl,hs,fin_same (d:=.int xs.length) e r (by show V.int _=V.int _;rw[m.length]) h⟩
  ·exact h.elim
 ·exact h.elim
end
section
variable{X:Cx}{R:St->XK}{a b c:Expr}{ta tb:DE}{pos:Pos}
def Ε(ja:JE X R a ta)(jb:JE X R b tb)(hs:vY b:=by exactλ_ _=>rfl):JE X R (.Subscript a b pos) (jB cx ta tb):=Tt Ql ixD ja jb hs
variable{x:Str}{p:Pos}{e:Expr}{es:List Expr}{t:DA}{id T:String}{r:List V->Hp->VK->Prop}{f:List Dt->Ms->DQ->Prop}
def fL(hc:dw X (.builtin id) r)(cd:Cc X.K r f)(hm:X.mg x=none)(hv:bootBuiltins x=some (.builtin id))(ha:JA X R (e::es) t)(hg:Gl X x:=by rfl)(hn:x≠"__name__":=by decide)(Bt:(x==("__debug__":Str))=false:=by decide)
  (he:starEach (e::es) X.env=(false,eval e X.env)::starEach es X.env:=by rfl) (fk:(backTo pos (starEach es X.env)).any (·.1)=false:=by rfl):JE X R (.Call (.Name x p) (e::es) [] pos) (AE f t):=
 .of (Jj hc hg hm hv ha hn Bt he fk) λσ H G L ρ M q x r n h hx=>NQ cd r n h hx
def tK(hc:dw X (.type T) r)(cd:Cc X.K r f)(hm:X.mg x=none)(hv:bootBuiltins x=some (.type T))(ha:JA X R (e::es) t)(hg:Gl X x:=by rfl)(hn:x≠"__name__":=by decide)(Bt:(x==("__debug__":Str))=false:=by decide)
  (he:starEach (e::es) X.env=(false,eval e X.env)::starEach es X.env:=by rfl) (fk:(backTo pos (starEach es X.env)).any (·.1)=false:=by rfl):JE X R (.Call (.Name x p) (e::es) [] pos) (AE f t):=
 .of (FY hc hg hm hv ha hn Bt he fk) λσ H G L ρ M q x r n h hx=>NQ cd r n h hx
def cL(hm:X.mg "len"=none)(ha:JA X R [e] t)(he:starEach [e] X.env=(false,eval e X.env)::starEach [] X.env:=by rfl)(fk:(backTo pos (starEach [] X.env)).any (·.1)=false:=by rfl)(hg:Gl X "len":=by rfl):JE X R (.Call (.Name "len" p) [e] [] pos) (AE fP t):=
 fL (vR.or xr) W7 hm PySem.boot_len ha hg @_ @_ he fk
end
section
variable{X:Cx}
def wW:dw X (.type "int") (λxs H Q=>∃x n,xs=[.str x]/\PySem.intText? x=some n/\x.length<=640/\Q (.int n) H):=by intro δ s σ H xs us Q I rs h;have⟨x,n,rfl,hn,hl,q⟩:=h;have⟨w,rfl,u,rfl⟩:=kC rs;exact PySem.W.KIN.call_text hn hl ⟨.int n,H,I.tok _,⟨_,rfl⟩,q⟩
end
def Pu:List Dt->Ms->DQ->Prop
 | [.int i],M,q=>q (.int i) M
 | [.bl b],M,q=>q (.int (if b then 1 else 0)) M
 | [.str x],M,q=>x.length<=640/\match PySem.intText? x with
  | some n=>q (.int n) M
  | none=>False
 | _,_,_=>False
def Qe:List Dt->Ms->DQ->Prop
 | [.int i],M,q=>q (.int (if i < 0 then -i else i)) M
 | _,_,_=>False
def H_:List Dt->Ms->DQ->Prop
 | [.int i,.int j],M,q=>q (.int (if j < i then j else i)) M
 | _,_,_=>False
def Pt:List Dt->Ms->DQ->Prop
 | [d],M,q=>∃bs:List Bool,ic M d=some (bs.map Dt.bl)/\(∀k,d≠ .kt k)/\(∀k,d≠ .tup k)/\q (.bl (bs.any id)) M
 | _,_,_=>False
def zj:Dt->Option Value
 | .aP=>some (.type "NoneType")
 | .bl _=>some (.type "bool")
 | .int _=>some (.type "int")
 | .str _=>some (.type "str")
 | .lst _=>some (.type "list")
 | .tup _=>some (.type "tuple")
 | _=>none
def Ie:Dt->Option Value
 | .ty T=>some (.type T)
 | .ref C=>some (.ref C)
 | _=>none
def FC(K:fv):List Dt->Ms->DQ->Prop
 | [d,c],M,q=>match zj d,Ie c with
  | some t,some t'=>(match PySem.W.kitOne K t t' with
   | some b=>q (.bl b) M
   | none=>False)
  | _,_=>False
 | _,_,_=>False
section
variable{K:fv}
def ve{G:Hp}{L:List Addr}:∀{l:List Str},Ξ K G L (l.map Dt.str) (l.map V.str)
 | []=>rfl
 | _::_=>⟨_,_,rfl,rfl,ve⟩
def nB{G:Hp}{L:List Addr}:∀{bs:List Bool} {vs:List V},Ξ K G L (bs.map Dt.bl) vs->vs=bs.map V.bl
 | [],_,h=>h
 | b::bs,_,⟨v,r,e,h1,h2⟩=>by subst e;rw[nB h2,show v=V.bl b from h1];rfl
def Zb:Cc K (λxs H Q=>((∃i,xs=[V.int i]/\Q (.int i) H)\/∃k,xs=[V.bl k]/\Q (.int (if k then 1 else 0)) H)\/∃x n,xs=[V.str x]/\PySem.intText? x=some n/\x.length<=640/\Q (.int n) H) Pu:=by
 intro G0 L0 H0 G L M H vs ds q e r n h;unfold Pu at h;split at h
 ·rename_i i;have⟨v,rfl,n1⟩:=a_ n;cases n1;exact .inl (.inl ⟨i,rfl,bK e r h⟩)
 ·rename_i i;have⟨v,rfl,n1⟩:=a_ n;cases n1;exact .inl (.inr ⟨i,rfl,bK e r h⟩)
 ·rename_i x;have⟨v,rfl,n1⟩:=a_ n;cases n1;split at h
  ·rename_i m hm;exact .inr ⟨x,m,rfl,hm,h.1,bK e r h.2⟩
  ·exact h.2.elim
 ·exact h.elim
def WK:Cc K (λxs H Q=>∃i,xs=[V.int i]/\Q (.int (if i < 0 then -i else i)) H) Qe:=by
 intro G0 L0 H0 G L M H vs ds q e r n h;unfold Qe at h;split at h
 ·rename_i i;have⟨v,rfl,n1⟩:=a_ n;cases n1;exact⟨i,rfl,bK e r h⟩
 ·exact h.elim
def Zc:Cc K (λxs H Q=>∃i j,xs=[V.int i,.int j]/\Q (.int (if j < i then j else i)) H) H_:=by
 intro G0 L0 H0 G L M H vs ds q e r n h;unfold H_ at h;split at h
 ·rename_i i j;have⟨v,u,rfl,n1,n2⟩:=fD n;cases n1;cases n2;exact⟨i,j,rfl,bK e r h⟩
 ·exact h.elim
def X6:Cc K (Ri K) Pt:=by
 intro G0 L0 H0 G L M H vs ds q e r n h;unfold Pt at h;split at h
 ·rename_i d;have⟨bs,hs,nk,nt,h⟩:=h;have⟨v,rfl,n1⟩:=a_ n;cases d with
  | lst xs=>
   cases hs;have⟨a,ws,rfl,e1,m⟩:=n1;exact⟨a,bs,rfl,by rw[<-nB m];exact .of (r.sub _ _ e1),bK e r h⟩
  | loc k=>
   have⟨a,rfl,e1⟩:=n1;have hs:(match M[k]? with| some (.lst xs)=>some xs| _=>none)=some (bs.map Dt.bl):=hs;split at hs
   ·rename_i ys hm;cases hs;have⟨_,ws,e2,m⟩:=r.fK k a _ e1 hm;exact⟨a,bs,rfl,by rw[<-nB m];exact .of e2,bK e r h⟩
   ·cases hs
  | tup xs=>exact aaC rfl (nt xs)
  | kt xs=>exact aaC rfl (nk xs)
  | ip ns=>
   have e0:ns.map Dt.int=bs.map Dt.bl:=aas hs;cases ns with
   | nil=>
    cases bs with
    | nil=>have⟨a,rfl,e1⟩:=n1;exact⟨a,[],rfl,r.sub.seq e1,bK e r h⟩
    | cons _ _=>cases e0
   | cons _ _=>
    cases bs with
    | nil=>cases e0
    | cons _ _=>cases e0
  | _=>cases hs
 ·exact h.elim
def u9{G:Hp}{L:List Addr}{M:Ms}{H:Hp}{d:Dt}{v:V}{t:Value}(r:Rl K G L M H)(n:Den K G L d v)(h:zj d=some t):ku K H v t:=by
 cases d with
 | aP=>cases h;cases n;exact .aP
 | bl b=>cases h;cases n;exact .bl _
 | int i=>cases h;cases n;exact .int _
 | str x=>cases h;cases n;exact .str _
 | lst xs=>cases h;have⟨a,ws,rfl,e,_⟩:=n;exact .lst (r.sub _ _ e)
 | tup xs=>cases h;have⟨a,ws,rfl,e,_⟩:=n;exact .tup (r.sub _ _ e)
 | _=>cases h
def C4{G:Hp}{L:List Addr}{d:Dt}{v:V}{t:Value}(n:Den K G L d v)(h:Ie d=some t):G8 v=some t:=by
 cases d with
 | ty T=>cases n;exact h
 | ref C=>cases n;exact h
 | _=>cases h
def Wz:Cc K (λxs H Q=>∃x c t t' b,xs=[x,c]/\ku K H x t/\G8 c=some t'/\PySem.W.kitOne K t t'=some b/\Q (.bl b) H) (FC K):=by
 intro G0 L0 H0 G L M H vs ds q e r n h;unfold FC at h;split at h
 ·rename_i d c;have⟨v,u,rfl,n1,n2⟩:=fD n;split at h
  ·rename_i t t' h1 h2;split at h
   ·rename_i b hb;exact⟨v,u,t,t',b,rfl,u9 r n1 h1,C4 n2 h2,hb,bK e r h⟩
   ·exact h.elim
  ·exact h.elim
 ·exact h.elim
end
section
variable{X:Cx}{R:St->XK}{o a e e1 e2:Expr}{es:List Expr}{to ta te:DE}{t:DA}{name:Str}{apos aU pos p p2:Pos}{T id:String}
def va:bootBuiltins "int"=some (.type "int"):=by decide+kernel
def Gd:bootBuiltins "abs"=some (.builtin "abs"):=by decide+kernel
def Fv:bootBuiltins "any"=some (.builtin "any"):=by decide+kernel
def Gg:bootBuiltins "min"=some (.builtin "min"):=by decide+kernel
def iT:bootBuiltins "isinstance"=some (.builtin "isinstance"):=by decide+kernel
def Bc:bootBuiltins "bool"=some (.type "bool"):=by decide+kernel
def pS:bootBuiltins "tuple"=some (.type "tuple"):=by decide+kernel
def rA:bootBuiltins "list"=some (.type "list"):=by decide+kernel
def IY{x:Str}{T:String}(hm:X.mg x=none)(hv:bootBuiltins x=some (.type T))(hg:Gl X x:=by rfl)(hn:x≠"__name__":=by decide)(hd:(x==("__debug__":Str))=false:=by decide):JE X R (.Name x p) (dC (.ty T)):=Qa (LP (v:=.ty T) hg hm hv rfl hn hd) λ_ _=>rfl
def sA{x:Str}{z:Int}(hm:∃tk,X.mg x=some (.int z tk))(hg:Gl X x:=by rfl)(hd:(x==("__debug__":Str))=false:=by decide):JE X R (.Name x p) (dC (.int z)):=let ⟨tk,hm⟩:=hm;Qa (Dj (v:=.int z) hg hm ⟨tk,rfl⟩ hd) λ_ _=>rfl
end
def UX(x:Str):It:=⟨λi _=>i < x.cps.size,λi H v H'=>H'=H/\∃c,x.cps[i]? =some c/\v= .str ⟨#[c]⟩,λi _=>x.cps.size<=i⟩
def FZ{P:Program}{w:World}{K:fv}{tg:Expr}(x:Str)(t:Tok)(it:Addr):Turn P w K tg (UX x) [it] it (λi h=>h.IsStrIter it "str_ascii_iterator" x t i) where
 mem:=by simp
 obj:=λi h st b hb=>by
  have e:b=it:=by simpa using hb
  subst e;have⟨o,e,c,d⟩:=st;exact⟨o,e,λv z=>by rw[d]at z;cases z⟩
 keep:=λi h h' st k=>let ⟨o,ho,r⟩:=st;⟨o,k it (by simp) o ho,r⟩
 item:=by intro X hP hw hK hc i δ s σ H E I hf st hg;subst hP hw hK;have⟨f0,f1,f2,f3,f4,f5⟩:=hf it (by simp);have hg:i < x.cps.size:=hg;refine wpAny_pyNext_ascii_item st (c:=x.cps[i]) (by simp[hg]) λh' xi sb=>?_;have I1:Inv X δ σ H {s with heap:=h',toks:=s.toks+1}:=I.turned (λb o hb e=>(sb.2 b hb).trans e) f0 f1 f3 f4 f5;have⟨o,e,c,d⟩:=id xi;exact⟨_,rfl,uK (s:={s with heap:=h',toks:=s.toks+1}) e c d @_ ⟨.str ⟨#[x.cps[i]]⟩,H,I1,⟨_,rfl⟩,⟨rfl,_,by simp[hg],rfl⟩,xi,λb hb=>(hf b hb).1⟩⟩
 done:=by intro X hP hw hK hc i δ s σ H E I hf st hg;subst hP hw hK;have⟨f0,f1,f2,f3,f4,f5⟩:=hf it (by simp);have hg:x.cps.size<=i:=hg;exact wpAny_pyNext_ascii_end (I.ok.hd hc) st (by simp;omega) λh' eb=>⟨rfl,I.turned (t':=s.toks) (λb o hb e=>eb b o hb e) f0 f1 f3 f4 f5⟩
 self:=λ_ _ _ _ _ st h=>wpAny_pyIter_striter_ascii st h
def Fq{P:Program}{w:World}{K:fv}{tg:Expr}(x:Str)(t:Tok)(it:Addr):Turn P w K tg (UX x) [it] it (λi h=>h.IsStrIter it "str_iterator" x t i) where
 mem:=by simp
 obj:=λi h st b hb=>by
  have e:b=it:=by simpa using hb
  subst e;have⟨o,e,c,d⟩:=st;exact⟨o,e,λv z=>by rw[d]at z;cases z⟩
 keep:=λi h h' st k=>let ⟨o,ho,r⟩:=st;⟨o,k it (by simp) o ho,r⟩
 item:=by intro X hP hw hK hc i δ s σ H E I hf st hg;subst hP hw hK;have⟨f0,f1,f2,f3,f4,f5⟩:=hf it (by simp);have hg:i < x.cps.size:=hg;refine wpAny_pyNext_wide_item st (c:=x.cps[i]) (by simp[hg]) λh' xi sb=>?_;have I1:Inv X δ σ H {s with heap:=h',toks:=s.toks+1}:=I.turned (λb o hb e=>(sb.2 b hb).trans e) f0 f1 f3 f4 f5;have⟨o,e,c,d⟩:=id xi;exact⟨_,rfl,uK (s:={s with heap:=h',toks:=s.toks+1}) e c d @_ ⟨.str ⟨#[x.cps[i]]⟩,H,I1,⟨_,rfl⟩,⟨rfl,_,by simp[hg],rfl⟩,xi,λb hb=>(hf b hb).1⟩⟩
 done:=by intro X hP hw hK hc i δ s σ H E I hf st hg;subst hP hw hK;have⟨f0,f1,f2,f3,f4,f5⟩:=hf it (by simp);have hg:x.cps.size<=i:=hg;exact wpAny_pyNext_wide_end (I.ok.hd hc) st (by simp;omega) λh' eb=>⟨rfl,I.turned (t':=s.toks) (λb o hb e=>eb b o hb e) f0 f1 f3 f4 f5⟩
 self:=λ_ _ _ _ _ st h=>wpAny_pyIter_striter_wide st h
def xB(z:Str):List Dt:=z.cps.toList.map λc=>Dt.str ⟨#[c]⟩
def Qw{K:fv}{G:Hp}{L:List Addr}{z:Str}:Yl K (UX z) (xB z) G L where
 go :=λi G1 L1 M1 H1 d g l r e=>by
  unfold xB at e;rw[aah]at e;cases q:z.cps.toList[i]? with
  | none=>rw[q]at e;cases e
  | some c=>
   rw[q]at e;cases e;have hi:i < z.cps.size:=by have:=(aaf.mp q).1;simpa using this
   refine⟨hi,λv' H' xz=>?_⟩;have⟨eH,c',e',y⟩:=xz;subst eH y;have:c'=c:=by rw[<-Array.getElem?_toList,q]at e';exact(aas e').symm
   subst this;exact⟨G1,.refl _ _ _,r,rfl⟩
 stop:=λi G1 L1 M1 H1 g l r e=>by unfold xB at e;show z.cps.size<=i;simpa using e
def T'(M:Ms):Dt->Option (List Dt)
 | .lst xs=>some xs
 | .tup xs=>some xs
 | .ip ns=>some (ns.map .int)
 | .kt xs=>some xs
 | .str z=>some (xB z)
 | _=>none
section
variable{X:Cx}{R:St->XK}{tg e:Expr}{te:DE}
def w_{δ:List (Addr×Obj)}{σ:St}{H:Hp}{s:Shared}{a:Addr}{vs:List V}{Q:It->Hp->Prop}{E:Value->Shared->Prop}(I:Inv X δ σ H s)(hq:gu X.K H a vs)(q:Q (Vi X.K a) H):wpAny (model X.prog X.w) X.A (pyIter (.ref a)) (KU X δ σ tg Q) E s:=by
 have⟨its,rv,p,hz⟩:=I.list hq;refine wpAny_pyIter_list p.isList ?_;refine⟨s.heap.objs.size,[s.heap.objs.size],_,_,H,rfl,I.kept (t':=s.toks) λb o e=>aak _ e,EV a _,⟨_,aaO _ rfl,rfl,rfl⟩,λb hb=>?_,q⟩;have e:b=s.heap.objs.size:=by simpa using hb
 subst e;exact I.A5 (aai _) (I.aQ.fresh (aai _))
def HL{δ:List (Addr×Obj)}{σ:St}{H:Hp}{s:Shared}{a:Addr}{vs:List V}{Q:It->Hp->Prop}{E:Value->Shared->Prop}(I:Inv X δ σ H s)(hq:mQ X.K H a vs)(q:Q (YE X.K a) H):wpAny (model X.prog X.w) X.A (pyIter (.ref a)) (KU X δ σ tg Q) E s:=by
 have⟨its,rv,p,hz⟩:=I.tuple hq;refine wpAny_pyIter_tuple (show s.heap.IsTuple a its.toArray from p) ?_;refine⟨s.heap.objs.size,[s.heap.objs.size],_,_,H,rfl,I.kept (t':=s.toks) λb o e=>aak _ e,AU a _,⟨_,aaO _ rfl,rfl,rfl⟩,λb hb=>?_,q⟩;have e:b=s.heap.objs.size:=by simpa using hb
 subst e;exact I.A5 (aai _) (I.aQ.fresh (aai _))
def Ot{δ:List (Addr×Obj)}{σ:St}{H:Hp}{s:Shared}{z:Str}{t:Tok}{Q:It->Hp->Prop}{E:Value->Shared->Prop}(I:Inv X δ σ H s)(q:Q (UX z) H):wpAny (model X.prog X.w) X.A (pyIter (.str z t)) (KU X δ σ tg Q) E s:=by
 have fp:∀b∈[s.heap.objs.size],rE X δ H b:=λb hb=>by
  have e:b=s.heap.objs.size:=by simpa using hb
  subst e;exact I.A5 (aai _) (I.aQ.fresh (aai _))
 cases ha:z.cps.all (· < 128)
 ·exact wpAny_pyIter_wide ha ⟨s.heap.objs.size,[s.heap.objs.size],_,_,H,rfl,I.kept (t':=s.toks) λb o e=>aak _ e,Fq z t _,⟨_,aaO _ rfl,rfl,rfl⟩,fp,q⟩
 ·exact wpAny_pyIter_ascii ha ⟨s.heap.objs.size,[s.heap.objs.size],_,_,H,rfl,I.kept (t':=s.toks) λb o e=>aak _ e,FZ z t _,⟨_,aaO _ rfl,rfl,rfl⟩,fp,q⟩
end
def Qp:DF:=λds _ q _=>∃ns:List Int,ds=[.ip ns]/\ns.length<=63/\∀M',q (.bl true) M'
def zC(K:fv):Sp:=λvs H Q _=>∃(a:Addr) (ns:List Int),vs=[.ref a]/\gu K H a (ns.map V.int)/\ns.length<=63/\∀H',Q (.bl true) H'
def PD{P:Program}{w:World}{K:fv}{mg:Str->Option Value}{base:Heap}{k:Nat}{f:Addr}{fd:FuncData}{x:Str}(F:ak P w K mg base (cF P w) k f fd [x] (cQ K Qp)):ak P w K mg base VA k f fd [x] (zC K):=by
 have sp:∀vs H Q E,zC K vs H Q E->cQ K Qp vs H Q E0:=by rintro vs H Q E ⟨a,ns,rfl,hS,hl,hQ⟩;refine⟨H,[],[.ip ns],[],λd _=>d= .bl true,λ_ _ _=>False,⟨.refl _,rfl,List.nodup_nil,λk a m h=>by simp at h⟩,⟨_,_,rfl,⟨a,rfl,hS⟩,rfl⟩,⟨ns,rfl,hl,λ_=>rfl⟩,fun v H' ⟨d,G',L',M',_,_,n,e⟩=>?_,λ_ _ _ _ _ _ _ h=>h.elim⟩;subst e;rw[show v=V.bl true from n];exact hQ H'
 refine⟨λvs H Q E h=>F.len vs H Q E0 (sp vs H Q E h),λA outer s H args us vs Q E hr he hb hv h=>codeAny_mono (F.run A outer s H args us vs Q E0 hr he hb hv (sp vs H Q E h)) λr s' hq=>?_⟩;cases r with
 | error e=>
  have⟨_,_,_,_,_,_,_,_,hE⟩:=hq;exact hE.elim
 | ok fl=>cases fl <;> exact hq
def O6(c:DT)(tb:DS):DS:=λDn ρ M=>∃W:Nat->En->Ms->Prop,(∃m,W m ρ M)/\∀m ρ M,W m ρ M->
 c ρ M (λb M1=>(b=true->∃N:En->Ms->Prop,(∀ρ' M',N ρ' M'->∃m',m' < m/\W m' ρ' M')/\tb {Dn with nx:=N,ct:=N,bk:=Dn.nx} ρ M1)/\(b=false->Dn.nx ρ M1)) Dn.x
def X7(i j:Nat)(t:DA):DS:=λDn ρ M=>t ρ M (λds M1=>match ds with
 | [a,b]=>Dn.nx ((ρ.set i (some a)).set j (some b)) M1
 | _=>False) Dn.x
section
variable{X:Cx}{R:St->XK}{c a b:Expr}{body:List Stmt}{tc:DT}{tb:DS}{pos:Pos}
def j6(hc:JT X R c tc)(hb:CV X R body tb)(hp:PassesOwn (model X.prog X.w) X.A X.env X.xe:=by first| exact PassesOwn.never| exact PassesOwn.leaving):JS X R (.While c body [] pos) (O6 tc tb):=.of (GB hp hc hb) λσ H G L ρ M Dn rl n h hx=>by
 have⟨W,⟨m0,w0⟩,turn⟩:=h;refine⟨λm σ' H'=>eT X.K G L H (W m) σ' H',⟨m0,ρ,G,L,M,.refl _ _ _,rl,n,w0⟩,λm σ' H' xz=>?_⟩;have⟨ρ',G',L',M',e',r',n',w'⟩:=xz;refine⟨G',L',ρ',M',_,_,r',n',turn m ρ' M' w',hx.on e',λv H1 xz=>?_⟩;have⟨G1,L1,M1,e1,r1,h1⟩:=xz;cases v with
 | true=>
  have⟨N,hN,hb⟩:=h1.1 rfl;refine BH ⟨eT X.K G L H N,fun σ2 H2 ⟨ρ2,G2,L2,M2,e2,r2,n2,h2⟩=>?_,?_⟩
  ·have⟨m',hm,w2⟩:=hN ρ2 M2 h2;exact⟨m',hm,ρ2,G2,L2,M2,e2,r2,n2,w2⟩
  ·have Rf:=e'.trans e1;exact⟨G1,L1,ρ',M1,_,r1,n'.mono e1,hb,hx.on Rf,⟨λ_ _ f=>eT.back Rf f,λ_ _ f=>Fin.back Rf f,λ_ _ f=>eT.back Rf f,λ_ _ f=>eT.back Rf f⟩⟩
 | false=>exact Bx ⟨ρ',G1,L1,M1,e'.trans e1,r1,n'.mono e1,h1.2 rfl⟩
def ON{i j:Nat}{x y:Str}{t:DA}{px py pt:Pos}{kt k2 O7}(hN:X.N.Nodup)(hi:X.N[i]? =some x)(hj:X.N[j]? =some y)(ha:JA X R [a,b] t)(XG:i≠j:=by decide)
  (hx:X.env.scope.names.lookup x=some .local:=by rfl) (hy:X.env.scope.names.lookup y=some .local:=by rfl)
  (hw:swappedStores [.Tuple [.Name x px,.Name y py] kt pt] (.Tuple [a,b] k2 O7) X.env=pure (some [x,y]):=by rfl) (hc:X.calm=true:=by rfl)
  (hs:swapsWithSole [.Tuple [.Name x px,.Name y py] kt pt] (.Tuple [a,b] k2 O7) pos.line X.env=pure false:=by rfl):
  JS X R (.Assign [.Tuple [.Name x px,.Name y py] kt pt] (.Tuple [a,b] k2 O7) pos) (X7 i j t):=.of (Qy hc hN hi hj XG hx hy ha hw hs) λσ H G L ρ M Dn rl n h hx=>by
 refine⟨G,L,ρ,M,_,_,rl,n,h,hx,λvs H1 xz=>?_⟩;have⟨ds,G1,L1,M1,e1,r1,n1,h1⟩:=xz
 (try dsimp only at h1)
 split at h1
 ·have⟨v,u,rfl,m1,m2⟩:=fD n1;exact⟨v,u,rfl,_,G1,L1,M1,e1,r1,((n.mono e1).set i m1).set j m2,h1⟩
 ·exact h1.elim
end
section
variable{X:Cx}{R:St->XK}{e e2 o:Expr}{es:List Expr}{t:DA}{to ta tb:DE}{a b:Expr}{p pos apos aU:Pos}
def C5(hm:X.mg "abs"=none)(ha:JA X R [e] t)(he:starEach [e] X.env=(false,eval e X.env)::starEach [] X.env:=by rfl)(fk:(backTo pos (starEach [] X.env)).any (·.1)=false:=by rfl)(hg:Gl X "abs":=by rfl):JE X R (.Call (.Name "abs" p) [e] [] pos) (AE Qe t):=
 fL Hx WK hm Gd ha hg @_ @_ he fk
def Sw(hm:X.mg "min"=none)(ha:JA X R [e,e2] t)(hc:X.calm=true:=by rfl)(he:starEach [e,e2] X.env=(false,eval e X.env)::starEach [e2] X.env:=by rfl)(fk:(backTo pos (starEach [e2] X.env)).any (·.1)=false:=by rfl)(hg:Gl X "min":=by rfl):JE X R (.Call (.Name "min" p) [e,e2] [] pos) (AE H_ t):=
 fL (Fi hc) Zc hm Gg ha hg @_ @_ he fk
def Hf(hm:X.mg "any"=none)(ha:JA X R [e] t)(hc:X.calm=true:=by rfl)(he:starEach [e] X.env=(false,eval e X.env)::starEach [] X.env:=by rfl)(fk:(backTo pos (starEach [] X.env)).any (·.1)=false:=by rfl)(hg:Gl X "any":=by rfl):JE X R (.Call (.Name "any" p) [e] [] pos) (AE Pt t):=
 fL (Gz hc) X6 hm Fv ha hg @_ @_ he fk
def NF(K:fv)(hm:X.mg "isinstance"=none)(ha:JA X R [e,e2] t)(he:starEach [e,e2] X.env=(false,eval e X.env)::starEach [e2] X.env:=by rfl)(fk:(backTo pos (starEach [e2] X.env)).any (·.1)=false:=by rfl)(hg:Gl X "isinstance":=by rfl)(hK:X.K=K:=by rfl):JE X R (.Call (.Name "isinstance" p) [e,e2] [] pos) (AE (FC K) t):=by subst hK;exact fL qe Wz hm iT ha hg @_ @_ he fk
def Rm(hm:X.mg "int"=none)(ha:JA X R [e] t)(he:starEach [e] X.env=(false,eval e X.env)::starEach [] X.env:=by rfl)(fk:(backTo pos (starEach [] X.env)).any (·.1)=false:=by rfl)(hg:Gl X "int":=by rfl):JE X R (.Call (.Name "int" p) [e] [] pos) (AE Pu t):=
 tK (Fu.or wW) Zb hm va ha hg @_ @_ he fk
end
def pf{te:DE}{cs:En}{f:Dt->Dt}{M:Ms}{k:List Dt->Ms->Prop}:∀(xs acc:List Dt),(∀x∈xs,∀q:DQ,q (f x) M->te (some x::cs) M q jP)->k (acc++xs.map f) M->tw te cs xs acc M k
 | [],acc,_,h=>by rw[List.map_nil,aaV]at h;exact h
 | x::xs,acc,ht,h=>ht x List.mem_cons_self _ (pf xs (acc++[f x]) (λy hy=>ht y (List.mem_cons_of_mem _ hy)) (by simpa using h))
def Α{d y:Dt}{xs:List Dt}{i:Int}{M:Ms}{q:DQ}(hs:ic M d=some xs)(h:jA xs i=some y)(k:q y M):cx d (.int i) M q:=by
 cases d with
 | str z=>cases hs
 | _=>
  unfold cx;simp only[hs,h];exact k
def aC{d:Dt}{xs:List Dt}{M:Ms}{q:DQ}(hs:ic M d=some xs)(k:q (.int xs.length) M):fP [d] M q:=by
 cases d with
 | str z=>cases hs
 | _=>
  unfold fP;simp only[hs];exact k
def DZ{K:fv}{d c:Dt}{t t':Value}{b:Bool}{M:Ms}{q:DQ}(h1:zj d=some t)(h2:Ie c=some t')(h3:PySem.W.kitOne K t t'=some b)(k:q (.bl b) M):FC K [d,c] M q:=by show(match zj d,Ie c with| some t,some t'=>(match PySem.W.kitOne K t t' with| some b=>q (.bl b) M| none=>False)| _,_=>False);rw[h1,h2];show(match PySem.W.kitOne K t t' with| some b=>q (.bl b) M| none=>False);rw[h3];exact k
def aN{α:Type}{x:α}{xs:List α}:jA (x::xs) 0=some x:=Ω (j:=0) rfl
def Gj(bs:List Bool):(List.range bs.length).all (λi=>bs.getD i false)=bs.all id:=by
 induction bs with
 | nil=>rfl
 | cons b bs ih=>
  rw[aaI,abG,abL,acm,abL,<-ih];rfl
def RB(K:fv):List V->Hp->VK->Prop:=λxs H Q=>∃(p:Addr) (bs:List Bool),xs=[.ref p]/\gu K H p (bs.map V.bl)/\Q (.bl (bs.all id)) H
section
variable{X:Cx}
def GA (hc : X.calm = true) : dw X (.builtin "all") (RB X.K) :=by
  intro δ s σ H xs us Q I r h;obtain⟨p,bs,rfl,hq,q⟩ :=h;obtain⟨u,rfl,r1⟩ :=kC r;cases r1;obtain⟨its,rv,pl,hz⟩ :=I.list hq;have Qi :=yf rv;subst Qi;refine call_all_walk (wpAny_pyIter_list pl.isList ?_);have lp : p < s.heap.objs.size :=by obtain⟨o,e,_⟩ :=pl.isList;exact aap e
  refine⟨s.heap.objs.size,_,_,_,_,_,λi =>bs.getD i false,rfl,Walks.list (show X.A.in1.handled = none from I.ok.hd hc) s.heap.objs.size p (aaL lp) (bs.map Value.bool).toArray,⟨⟨_,aaO _ rfl,rfl,rfl⟩,pl.isList.at λo e =>aak _ e⟩,y9,λh' tk hk =>?_⟩;refine⟨.bl (bs.all id),H,I.kept λb o e =>hk b o (λz =>by have : b = s.heap.objs.size :=(by simpa using z);exact Nat.lt_irrefl _ (this ▸ Heap.lt_size e)) (Heap.get?_push_of_some _ e),?_,q⟩;rw[aay,aae,Gj];rfl
end
def QL:List Dt->Ms->DQ->Prop
 | [.lst xs],M,q=>∃bs:List Bool,xs=bs.map Dt.bl/\q (.bl (bs.all id)) M
 | _,_,_=>False
def WJ{K:fv}:Cc K (RB K) QL:=by
 intro G0 L0 H0 G L M H vs ds q e r n h;unfold QL at h;split at h
 ·rename_i xs;have⟨bs,rfl,h⟩:=h;have⟨v,rfl,n1⟩:=a_ n;have⟨a,ws,rfl,e1,m⟩:=n1;exact⟨a,bs,rfl,by rw[<-nB m];exact .of (r.sub _ _ e1),bK e r h⟩
 ·exact h.elim
def NO(i j:Nat)(t:DE):DS:=λDn ρ M=>t ρ M (λd M1=>match d with
 | .tup [a,b]=>Dn.nx ((ρ.set i (some a)).set j (some b)) M1
 | _=>False) Dn.x
section
variable{X:Cx}{R:St->XK}{e o:Expr}{es:List Expr}{t:DA}{to te:DE}{p pos apos aU:Pos}
def Ei:bootBuiltins "all"=some (.builtin "all"):=by decide+kernel
def Hl(hm:X.mg "all"=none)(ha:JA X R [e] t)(hc:X.calm=true:=by rfl)(he:starEach [e] X.env=(false,eval e X.env)::starEach [] X.env:=by rfl)(fk:(backTo pos (starEach [] X.env)).any (·.1)=false:=by rfl)(hg:Gl X "all":=by rfl):JE X R (.Call (.Name "all" p) [e] [] pos) (AE QL t):=
 fL (GA hc) WJ hm Ei ha hg @_ @_ he fk
variable{i j k:Nat}{tg:Expr}
def LX(he:JE X R e te)(hg:PG X tg (Kb X.K 2 (nq (iN i) (nq (iN j) J8))))(hs:swapsWithSole [tg] e pos.line X.env=pure false:=by rfl)(hw:swappedStores [tg] e X.env=pure none:=by rfl)
  (h1:(assignEach [tg] X.env).map (·.2)=[assign tg X.env]:=by rfl):JS X R (.Assign [tg] e pos) (NO i j te):=.of (Iv he hg hs hw h1) λσ H G L ρ M Dn rl n h hx=>by
 refine⟨G,L,ρ,M,_,_,rl,n,h,hx,λv H1 xz=>?_⟩;have⟨d1,G1,L1,M1,e1,r1,n1,h1⟩:=xz
 (try dsimp only at h1)
 split at h1
 ·rename_i a b;have⟨p,vs,rfl,e,m⟩:=n1;have⟨v1,v2,rfl,m1,m2⟩:=fD m;exact⟨p,_,rfl,.inl (.inl (r1.sub _ _ e)),rfl,v1,_,rfl,v2,_,rfl,rfl,_,G1,L1,M1,e1,r1,((n.mono e1).set i m1).set j m2,h1⟩
 ·exact h1.elim
end
mutual
def Dt.under(n:Nat):Dt->Prop
 | .aP=>True
 | .bl _=>True
 | .int _=>True
 | .str _=>True
 | .tup ds=>Dt.aV n ds
 | .lst ds=>Dt.aV n ds
 | .obj _ _ ds=>Dt.aV n ds
 | .loc k=>k < n
 | .ref _=>True
 | .ty _=>True
 | .ip _=>True
 | .kt ds=>Dt.aV n ds
 | .exc _ _ ds=>Dt.aV n ds
 | .RZ _ _ _ _ ds=>Dt.aV n ds
def Dt.aV(n:Nat):List Dt->Prop
 | []=>True
 | d::ds=>Dt.under n d/\Dt.aV n ds
end
def MO.under(n:Nat):MO->Prop
 | .lst ds=>Dt.aV n ds
 | .ins _ _ ds=>Dt.aV n ds
 | .iC _ ds=>Dt.aV n ds
 | .raw _=>True
mutual
inductive Gr(n:Nat)(E:Ms):Dt->Dt->Prop
 | old {d:Dt} (h:d.under n):Gr n E d d
 | tup {ds es:List Dt} (h:fN n E ds es):Gr n E (.tup ds) (.tup es)
 | lst {ds es:List Dt} (h:fN n E ds es):Gr n E (.lst ds) (.lst es)
 | obj {C:Addr} {ns:List Str} {ds es:List Dt} (h:fN n E ds es):Gr n E (.obj C ns ds) (.obj C ns es)
 | w6 {k:Nat} {ds es:List Dt} (hk:n<=k) (e:E[k - n]? =some (.lst ds)) (h:fN n E ds es):Gr n E (.loc k) (.lst es)
 | TY {k:Nat} {C:Addr} {ns:List Str} {ds es:List Dt} (hk:n<=k) (e:E[k - n]? =some (.ins C ns ds)) (h:fN n E ds es):Gr n E (.loc k) (.obj C ns es)
inductive fN(n:Nat)(E:Ms):List Dt->List Dt->Prop
 | nil:fN n E [] []
 | cons {d e:Dt} {ds es:List Dt} (h:Gr n E d e) (t:fN n E ds es):fN n E (d::ds) (e::es)
end
def fN.length{n:Nat}{E:Ms}:∀{ds es:List Dt},fN n E ds es->ds.length=es.length
 | [],es,h=>by cases h;rfl
 | d::ds,es,h=>by
  cases h with
  | cons h t=>rw[aaI,aaI,fN.length t]
def fN.old{n:Nat}{E:Ms}:∀{ds:List Dt},Dt.aV n ds->fN n E ds ds
 | [],_=>.nil
 | _::_,h=>.cons (.old h.1) (fN.old h.2)
section
variable{K:fv}{G G':Hp}{L0 t:List Addr}{n:Nat}
mutual
def vj(hn:L0.length=n)(g:dQ G G'):∀(d:Dt) (v:V),d.under n->Den K G (L0++t) d v->Den K G' L0 d v
 | .aP,_,_,h=>h
 | .bl _,_,_,h=>h
 | .int _,_,_,h=>h
 | .str _,_,_,h=>h
 | .tup ds,_,u,⟨a,vs,e,h1,h2⟩=>⟨a,vs,e,g _ _ h1,bT hn g ds vs u h2⟩
 | .lst ds,_,u,⟨a,vs,e,h1,h2⟩=>⟨a,vs,e,g _ _ h1,bT hn g ds vs u h2⟩
 | .obj C ns ds,_,u,⟨a,dx,vs,e,h1,hl,h2⟩=>⟨a,dx,vs,e,g _ _ h1,hl,bT hn g ds vs u h2⟩
 | .loc k,_,u,⟨a,e,h1⟩=>⟨a,e,by
   have u:k < n:=u
   rwa[aao (by rw[hn];exact u)]at h1⟩
 | .ref _,_,_,h=>h
 | .ty _,_,_,h=>h
 | .ip _,_,_,⟨a,e,h1⟩=>⟨a,e,g.seq h1⟩
 | .kt ds,_,u,⟨a,vs,e,h1,h2⟩=>⟨a,vs,e,g.Sq h1,bT hn g ds vs u h2⟩
 | .exc _ _ ds,_,u,⟨a,od,vs,e,h1,h2,h3,h4⟩=>⟨a,od,vs,e,g _ _ h1,h2.imp (λz=>z) (λ⟨dx,z1,z2⟩=>⟨dx,z1,g _ _ z2⟩),h3,bT hn g ds vs u h4⟩
 | .RZ _ _ _ _ ds,_,u,⟨vs,e,h2,h3,h4⟩=>⟨vs,e,h2.imp (λz=>z) (λ⟨dx,z1,z2⟩=>⟨dx,z1,g _ _ z2⟩),h3,bT hn g ds vs u h4⟩
def bT(hn:L0.length=n)(g:dQ G G'):∀(ds:List Dt) (vs:List V),Dt.aV n ds->Ξ K G (L0++t) ds vs->Ξ K G' L0 ds vs
 | [],_,_,h=>h
 | d::ds,_,u,⟨v,r,e,h1,h2⟩=>⟨v,r,e,vj hn g d v u.1 h1,bT hn g ds r u.2 h2⟩
end
def Gh{H:Hp}{a:Addr}(hn:L0.length=n)(g:dQ G G'){m:MO}(u:m.under n)(h:Gp K G (L0++t) H a m):Gp K G' L0 H a m:=by
 cases m with
 | lst ds=>have⟨vs,e,h⟩:=h;exact⟨vs,e,bT hn g _ _ u h⟩
 | ins C ns ds=>have⟨dx,vs,e,hl,h⟩:=h;exact⟨dx,vs,e,hl,bT hn g _ _ u h⟩
 | iC ks ds=>have⟨vs,e,hl,h⟩:=h;exact⟨vs,e,hl,bT hn g _ _ u h⟩
 | raw u=>exact h
end
open Classical in
noncomputable def qu(G H:Hp)(t:List Addr):Hp:=λb=>if b∈t then H b else G b
def Dk{G H:Hp}{t:List Addr}{b:Addr}(h:b∈t):qu G H t b=H b:=by unfold qu;rw[if_pos h]
def nO{G H:Hp}{t:List Addr}{b:Addr}(h:b∉t):qu G H t b=G b:=by unfold qu;rw[if_neg h]
section
variable{K:fv}{G:Hp}{L0 t:List Addr}{M0 E:Ms}{H:Hp}
def iG(r:Rl K G (L0++t) (M0++E) H):dQ G (qu G H t):=λb u e=>by
 by_cases hb:b∈t
 ·have⟨_,_,_,_,g,_⟩:=r.xD (a:=b) (aaE _ hb);rw[g]at e;cases e
 ·rw[nO hb];exact e
def GN(r:Rl K G (L0++t) (M0++E) H)(hn:L0.length=M0.length){k:Nat}{a:Addr}{m:MO}(hk:M0.length<=k)(e:(L0++t)[k]? =some a)(em:E[k - M0.length]? =some m):qu G H t a=H a/\Gp K G (L0++t) H a m:=by
 have e2:(M0++E)[k]? =some m:=by rw[aaw hk];exact em
 have⟨_,q⟩:=r.fK k a m e e2;rw[aaw (by rw[hn];exact hk)]at e;exact⟨Dk (aaj e),q⟩
def Lm(r:Rl K G (L0++t) (M0++E) H)(hn:L0.length=M0.length){d d':Dt}(f:Gr M0.length E d d'):∀v,Den K G (L0++t) d v->Den K (qu G H t) L0 d' v:=by
 refine Gr.rec (motive_1:=λd d' _=>∀v,Den K G (L0++t) d v->Den K (qu G H t) L0 d' v) (motive_2:=λds es _=>∀vs,Ξ K G (L0++t) ds vs->Ξ K (qu G H t) L0 es vs) ?_ ?_ ?_ ?_ ?_ ?_ ?_ ?_ f
 ·exactλ{d} u v h=>vj hn (iG r) d v u h
 ·exactλ{ds es} f ih v ⟨a,vs,e,h1,h2⟩=>⟨a,vs,e,iG r _ _ h1,ih vs h2⟩
 ·exactλ{ds es} f ih v ⟨a,vs,e,h1,h2⟩=>⟨a,vs,e,iG r _ _ h1,ih vs h2⟩
 ·exactλ{C ns ds es} f ih v ⟨a,dx,vs,e,h1,hl,h2⟩=>⟨a,dx,vs,e,iG r _ _ h1,hl.trans f.length,ih vs h2⟩
 ·intro k ds es hk em f ih v ⟨a,e,h1⟩;have⟨o,vs,e1,h2⟩:=GN r hn hk h1 em;exact⟨a,vs,e,o.trans e1,ih vs h2⟩
 ·intro k C ns ds es hk em f ih v ⟨a,e,h1⟩;have⟨o,dx,vs,e1,hl,h2⟩:=GN r hn hk h1 em;exact⟨a,dx,vs,e,o.trans e1,hl.trans f.length,ih vs h2⟩
 ·exactλvs h=>h
 ·exactλ{d e ds es} f t ih1 ih2 vs ⟨v,r,e,h1,h2⟩=>⟨v,r,e,ih1 v h1,ih2 r h2⟩
end
def XN(n:Nat)(q:DQ):DQ:=λd M=>∃M' E d',M=M'++E/\M'.length=n/\(∀m∈M',MO.under n m)/\Gr n E d d'/\q d' M'
def Fin.yp{K:fv}{G0:Hp}{L0:List Addr}{M0:Ms}{H0:Hp}{q:DQ}{v:V}{H:Hp}(r0:Rl K G0 L0 M0 H0)(f:Fin K G0 L0 H0 (XN M0.length q) v H):Fin K G0 L0 H0 q v H:=by
 have⟨d,G,L,M,ex,r,dn,M',E,d',rfl,hl,hu,fz,hq⟩:=f;have⟨t,rfl⟩:=ex.l;have hn:L0.length=M'.length:=by rw[hl];exact r0.len
 have ZN:∀b,b∈L0->b∉t:=λb h1 h2=>(ab1.mp r.nd).2.2 b h1 b h2 rfl;have sm:=iG r;refine⟨d',qu G H t,L0,M',⟨ex.g.trans sm,.refl _,λb h1 h2=>?_,ex.out,λb h=>.inl h,ex.C1⟩,⟨λb u e=>?_,hn,(ab1.mp r.nd).1,λk a m h1 h2=>?_⟩,Lm r hn (hl▸fz) v dn,hq⟩
 ·have hb:b∉t:=λz=>(ex.new b (aaE _ z)).elim (λy=>ZN b y z) h2;rw[nO hb];exact ex.fr b h1 h2
 ·by_cases hb:b∈t
  ·rw[Dk hb]at e;exact e
  ·rw[nO hb]at e;exact r.sub b u e
 ·have k1:k < L0.length:=(aaf.mp h1).1;have e1:(L0++t)[k]? =some a:=by rw[aao k1];exact h1
  have e2:(M'++E)[k]? =some m:=by rw[aao (by rw[<-hn];exact k1)];exact h2
  have⟨g,q⟩:=r.fK k a m e1 e2;exact⟨by rw[nO (ZN a (aaj h1))];exact g,Gh (n:=M'.length) hn sm (by rw[hl];exact hu m (aaj h2)) q⟩
section
variable{X:Cx}{R:St->XK}{e:Expr}{t:DE}
def gI{st:Stmt}:JS X R st (λ_ _ _=>False):=λ_ _ _ _ _ _ ⟨_,_,_,_,_,_,_,h,_,_⟩=>h.elim
end
def G_(C:Addr)(m:Str)(sp:Sp)(qI:List V)(R:St->XK)(ta:TE)(t:TA):TE:=λσ H Q=>ta σ H λx H1=>∃a dx fs,x= .ref a/\H1 a=some (.ins C dx fs)/\fs.lookup m=none/\
 t σ H1 λvs H2=>sp (x::(vs++qI)) H2 Q (R σ)
def O2(C:Addr)(sp:Sp)(qI:List V)(R:St->XK)(t:TA):TE:=λσ H Q=>t σ H λvs H1=>∀x dx,H1 x=none->H1 dx=none->dx≠x->
 sp (.ref x::(vs++qI)) (upd (upd H1 dx (.own x)) x (.ins C dx [])) (λv H2=>v= .aP/\Q (.ref x) H2) (R σ)
section
variable{X:Cx}{CX:AH}{k:Nat}{f C:Addr}{fd:FuncData}{ps:List Str}{sp:Sp}{qI:List V}{ds:List Value}{R:St->XK}{x m:Str}{p pos apos:Pos}{e o:Expr}{es:List Expr}{ta:TE}{t:TA}
def HM{pl:Sem Bool}(he:PE X o ta)(c:Dd X.K C)(hm:MU X.K C m f)(F:ak X.prog X.w X.K X.mg X.base CX k f fd ps sp)(hr:bU k X.A)(hb:jE X.K fd ps ds)(hd:ar qI ds)(hx:dG CX X R)(ha:PA X (e::es) t)
  (OL:starEach (e::es) X.env=(false,eval e X.env)::starEach es X.env:=by rfl) (fk:(backTo pos (starEach es X.env)).any (·.1)=false:=by rfl)
  (ht:eval (.Call (.Attribute o m apos) (e::es) [] pos) X.env=(do
   let ov<-eval o X.env
   standAt apos.atName
   let (f,first)<-holding [ov] (getMethod ov m pl)
   callWith pos f first (backTo pos (starEach (e::es) X.env)) (backToKw pos (keywordEach [] X.env))):=by rfl):
  PE X (.Call (.Attribute o m apos) (e::es) [] pos) (G_ C m sp qI R ta t):=by
 intro δ s σ H Q I h;refine PySem.W.methodCall_KW (pl:=pl) (bA (he δ s σ H _ I h) λu s1 xz=>?_) ht;have⟨x,H1,I1,rx,a,dx,fs,ex,ea,l,q⟩:=xz;subst ex;obtain rfl:u=Value.ref a:=rx;refine qW I1 ea c hm l ?_;refine PySem.W.callWith_K (first:=[.ref a]) (h₀:=X.base) I.ok.mod.Tz hm.kp (bA (ha pos δ s1 σ H1 _ I1 q) fun us s2 ⟨vs,H2,I2,r,q2⟩=>⟨I2.qp,?_⟩) OL fk;exact vU (us:=.ref a::us) (vs:=.ref a::vs) F hr hb hd hx I2 (.cons rfl r) q2
def Ge{pl:Sem Bool}(he:PE X o ta)(c:Dd X.K C)(hm:MU X.K C m f)(F:ak X.prog X.w X.K X.mg X.base CX k f fd ps sp)(hr:bU k X.A)(hb:jE X.K fd ps ds)(hd:ar qI ds)(hx:dG CX X R)
  (ht:eval (.Call (.Attribute o m apos) [] [] pos) X.env=(do
   let ov<-eval o X.env
   standAt apos.atName
   let (f,first)<-holding [ov] (getMethod ov m pl)
   callWith pos f first (backTo pos (starEach [] X.env)) (backToKw pos (keywordEach [] X.env))):=by rfl):
  PE X (.Call (.Attribute o m apos) [] [] pos) (G_ C m sp qI R ta UG):=by
 intro δ s σ H Q I h;refine PySem.W.methodCall_KW (pl:=pl) (bA (he δ s σ H _ I h) λu s1 xz=>?_) ht;have⟨x,H1,I1,rx,a,dx,fs,ex,ea,l,q⟩:=xz;subst ex;obtain rfl:u=Value.ref a:=rx;refine qW I1 ea c hm l ?_;exact PySem.W.callWith_K0 (first:=[.ref a]) I1.qp hm.kp (vU (us:=[.ref a]) (vs:=[.ref a]) F hr hb hd hx I1 (.cons rfl .nil) q)
def Fj{δ:List (Addr×Obj)}{σ:St}{H:Hp}{s:Shared}{Q:VK}{us:List Value}{vs:List V}(M:Mk X.K C f)(F:ak X.prog X.w X.K X.mg X.base CX k f fd ps sp)(hr:bU (k+1) X.A)(hb:jE X.K fd ps ds)(hd:ar qI ds)
  (hx:dG CX X R) (I:Inv X δ σ H s) (r:ar vs us)
  (h:∀x dx,H x=none->H dx=none->dx≠x->sp (.ref x::(vs++qI)) (upd (upd H dx (.own x)) x (.ins C dx [])) (λv H2=>v= .aP/\Q (.ref x) H2) (R σ)):
  wpAny (model X.prog X.w) X.A (call (.ref C) us) (EP X δ σ Q) X.xe s:=by
 have hq:=h (s.heap.objs.size+1) s.heap.objs.size (I.aQ.fresh (Nat.le_succ _)) (I.aQ.fresh (aai _)) (aaL (abr _));have I2:=Inv.made (C:=C) I;have r2:ar (V.ref (s.heap.objs.size+1)::(vs++qI)) (Value.ref (s.heap.objs.size+1)::(us++ds)):=.cons rfl (r.append hd);have hl:(Value.ref (s.heap.objs.size+1)::us++ds).length=ps.length:=by have e:=r2.length;rw[F.len _ _ _ _ hq]at e;exact e.symm
 refine wpAny_call (Ik (f:=f) I.qp M.makes M.init (abJ.mp M.fn) (codeAny_mono (F.run _ X.stack _ _ ⟨Value.ref (s.heap.objs.size+1)::us,[]⟩ (Value.ref (s.heap.objs.size+1)::(us++ds)) _ _ (R σ) (hr.make C us [])
  (I2.Rz.make C us []) (hb _ (Value.ref (s.heap.objs.size+1)::us) I2.qp hl) r2 hq) λr s' lD=>?_))
 cases r with
 | error e=>exact hx δ σ _ _ e s' I2 lD
 | ok fl=>
  cases fl with
  | ret u=>
   have⟨v,H',I3,rv,ev,q3⟩:=I2.after lD;subst ev;exact⟨rv,⟨V.ref (s.heap.objs.size+1),H',I3,rfl,q3⟩⟩
  | next=>exact False.elim lD
  | brk=>exact False.elim lD
  | cont=>exact False.elim lD
def GP(M:Mk X.K C f)(F:ak X.prog X.w X.K X.mg X.base CX k f fd ps sp)(hr:bU (k+1) X.A)(hg:Gl X x)(hm:X.mg x=some (.ref C))(hb:jE X.K fd ps ds)(hd:ar qI ds)(hx:dG CX X R)
  (ha:PA X (e::es) t) (Bt:(x==("__debug__":Str))=false:=by decide) (he:starEach (e::es) X.env=(false,eval e X.env)::starEach es X.env:=by rfl) (fk:(backTo pos (starEach es X.env)).any (·.1)=false:=by rfl):
  PE X (.Call (.Name x p) (e::es) [] pos) (O2 C sp qI R t):=by
 intro δ s σ H Q I h;refine wpAny_Call_Name_kw (x_ I hg hm ?_ Bt);refine PySem.W.callWith_K (h₀:=X.base) I.ok.mod.Tz M.kp (bA (ha pos δ s σ H _ I h) fun us s1 ⟨vs,H1,I1,r,q⟩=>⟨I1.qp,?_⟩) he fk;exact Fj M F hr hb hd hx I1 r q
end
def Mr(C:Addr)(M:Ms)(d:Dt)(ns:List Str)(ds:List Dt):Prop:=d= .obj C ns ds\/∃k,d= .loc k/\M[k]? =some (.ins C ns ds)
section
variable{K:fv}{G:Hp}{L:List Addr}{M:Ms}{H:Hp}{C:Addr}{d:Dt}{v:V}{ns:List Str}{ds:List Dt}
def Hr(r:Rl K G L M H)(n:Den K G L d v)(o:Mr C M d ns ds):∃a dx vs,v= .ref a/\H a=some (.ins C dx (ns.zip vs))/\ns.length=ds.length/\Ξ K G L ds vs:=by
 rcases o with rfl| ⟨k,rfl,hm⟩
 ·have⟨a,dx,vs,e,h1,hl,h2⟩:=n;exact⟨a,dx,vs,e,r.sub _ _ h1,hl,h2⟩
 ·have⟨a,e,h1⟩:=n;have⟨_,dx,vs,h2,hl,h3⟩:=r.fK k a _ h1 hm;exact⟨a,dx,vs,e,h2,hl,h3⟩
def yr{f:Str}:∀{ns:List Str} {ds:List Dt} {vs:List V} {d:Dt},Ξ K G L ds vs->(ns.zip ds).lookup f=some d->∃v,(ns.zip vs).lookup f=some v/\Den K G L d v
 | [],_,_,_,_,h=>by simp at h
 | _::_,[],_,_,_,h=>by simp at h
 | g::ns,d::ds,_,d',⟨v,r,rfl,h1,h2⟩,h=>by
  rw[abg,abK]at h;rw[abg,abK];cases q:f==g with
  | true=>rw[q]at h;cases h;exact⟨v,rfl,h1⟩
  | false=>rw[q]at h;exact yr h2 h
def rJ{f:Str}:∀{ns:List Str} {ds:List Dt} {vs:List V},Ξ K G L ds vs->(ns.zip ds).lookup f=none->(ns.zip vs).lookup f=none
 | [],_,_,_,_=>by simp
 | _::_,[],_,h,_=>by have h:_=_:=h;subst h;simp
 | g::ns,d::ds,_,⟨v,r,rfl,h1,h2⟩,h=>by
  rw[abg,abK]at h;rw[abg,abK];cases q:f==g with
  | true=>rw[q]at h;cases h
  | false=>rw[q]at h;exact rJ h2 h
def zF{f:Str}{v:V}:∀{ns:List Str} {vs:List V},ns.length=vs.length->f∉ns->jI f v (ns.zip vs)=(ns++[f]).zip (vs++[v])
 | [],[],_,_=>rfl
 | g::ns,x::vs,hl,h=>by have hg:¬g=f:=λz=>h (by rw[z];exact aad);show(if g=f then (g,v)::ns.zip vs else (g,x)::jI f v (ns.zip vs))=(g,x)::(ns++[f]).zip (vs++[v]);rw[if_neg hg,zF (by simpa using hl) λz=>h (List.mem_cons_of_mem _ z)]
 | [],_::_,hl,_=>by simp at hl
 | _::_,[],hl,_=>by simp at hl
end
def QI(C:Addr)(f:Str)(t:DE):DE:=λρ M q x=>t ρ M (λd M1=>∃ns ds v,Mr C M1 d ns ds/\(ns.zip ds).lookup f=some v/\q v M1) x
def N5(C:Addr)(m:Str)(T:DF)(to:DE)(ta:DA):DE:=λρ M q x=>to ρ M (λd M1=>(∃ns ds,Mr C M1 d ns ds/\(ns.zip ds).lookup m=none)/\ta ρ M1 (λds M2=>T (d::ds) M2 q (λC fs M'=>x ρ C fs M')) x) x
def RT(C:Addr)(T:DF)(ta:DA):DE:=λρ M q x=>ta ρ M (λds M1=>T (.loc M1.length::ds) (M1++[.ins C [] []]) (λd M2=>d= .aP/\q (.loc M1.length) M2) (λC fs M'=>x ρ C fs M')) x
def NJ(C:Addr)(f:Str)(to tv:DE):DS:=λDn ρ M=>tv ρ M (λy M1=>to ρ M1 (λd M2=>∃k ns ds,d= .loc k/\M2[k]? =some (.ins C ns ds)/\f∉ns/\ns.length < 1000/\Dn.nx ρ (M2.set k (.ins C (ns++[f]) (ds++[y])))) Dn.x) Dn.x
structure fG(P:Program)(w:World)(K:fv)(mg:Str->Option Value)(base:Heap)(k:Nat)(C:Addr)(m:Str)(ps:List Str)(T:DF)(f:Addr)(fd:FuncData):Prop where
 ok:ak P w K mg base (cF P w) k f fd ps (cQ K T)
 b:jE K fd ps []
 c:Dd K C
 m:MU K C m f
structure MS(P:Program)(w:World)(K:fv)(mg:Str->Option Value)(base:Heap)(k:Nat)(x:Str)(C:Addr)(ps:List Str)(T:DF)(f:Addr)(fd:FuncData):Prop where
 ok:ak P w K mg base (cF P w) k f fd ps (cQ K T)
 b:jE K fd ps []
 k:Mk K C f
 m:mg x=some (.ref C)
section
variable{X:Cx}{R:St->XK}{C:Addr}{f m x:Str}{T:DF}{k k':Nat}{a:Addr}{fd:FuncData}{ps:List Str}{e o value:Expr}{es:List Expr}{pos pos' apos p:Pos}{to te tv:DE}{ta:DA}
def yD(c:Dd X.K C)(n:ir X.K C f)(he:JE X R e te)(hb:attributeBase e f X.env (eval e X.env)=eval e X.env:=by rfl):JE X R (.Attribute e f pos) (QI C f te):=
 .of (O4 he hb) λσ H G L ρ M q x rl en h hx=>by refine⟨G,L,ρ,M,_,x,rl,en,h,hx,λv H1 xz=>?_⟩;have⟨d1,G1,L1,M1,e1,r1,n1,ns,ds,y,ob,hl,h1⟩:=xz;have⟨p,dx,vs,rfl,hp,_,dn⟩:=Hr r1 n1 ob;have⟨u,hu,du⟩:=yr dn hl;exact⟨p,C,dx,_,u,rfl,hp,c,n,hu,y,G1,L1,M1,e1,r1,du,h1⟩
def gE{pl:Sem Bool}(D:fG X.prog X.w X.K X.mg X.base k C m ps T a fd)(hr:bU k' X.A)(hx:dG (cF X.prog X.w) X R)(ho:JE X R o to)(ha:JA X R (e::es) ta)(hk:k<=k':=by decide)
  (OL:starEach (e::es) X.env=(false,eval e X.env)::starEach es X.env:=by rfl) (fk:(backTo pos (starEach es X.env)).any (·.1)=false:=by rfl)
  (ht:eval (.Call (.Attribute o m apos) (e::es) [] pos) X.env=(do
   let ov<-eval o X.env
   standAt apos.atName
   let (f,first)<-holding [ov] (getMethod ov m pl)
   callWith pos f first (backTo pos (starEach (e::es) X.env)) (backToKw pos (keywordEach [] X.env))):=by rfl):
  JE X R (.Call (.Attribute o m apos) (e::es) [] pos) (N5 C m T to ta):=
 .of (HM (pl:=pl) ho D.c D.m D.ok (hr.mono hk) D.b .nil hx ha OL fk ht) λσ H G L ρ M q x rl en h hx=>by refine⟨G,L,ρ,M,_,x,rl,en,h,hx,λv H1 xz=>?_⟩;have⟨d1,G1,L1,M1,e1,r1,n1,⟨ns,ds,ob,hl⟩,h1⟩:=xz;have⟨p,dx,vs,rfl,hp,_,dn⟩:=Hr r1 n1 ob;refine⟨p,dx,_,rfl,hp,rJ dn hl,G1,L1,ρ,M1,_,x,r1,en.mono e1,h1,hx.on e1,λus H2 xz=>?_⟩;have⟨zR,G2,L2,M2,e2,r2,n2,h2⟩:=xz;show cQ X.K T (V.ref p::(us++[])) H2 _ _;rw[aaV];have Ip:=e1.trans e2;exact⟨G2,L2,d1::zR,M2,q,_,r2,⟨_,_,rfl,Den.mono e2.g e2.l _ _ n1,n2⟩,h2,λv H' f=>Fin.back Ip f,λC fs M' G' L' H' od hq e' r' y=>hx σ ρ C fs M' G' L' H' od hq (Ip.trans e') r' (en.mono (Ip.trans e')) y⟩
def g_{pl:Sem Bool}(D:fG X.prog X.w X.K X.mg X.base k C m ps T a fd)(hr:bU k' X.A)(hx:dG (cF X.prog X.w) X R)(ho:JE X R o to)(hk:k<=k':=by decide)
  (ht:eval (.Call (.Attribute o m apos) [] [] pos) X.env=(do
   let ov<-eval o X.env
   standAt apos.atName
   let (f,first)<-holding [ov] (getMethod ov m pl)
   callWith pos f first (backTo pos (starEach [] X.env)) (backToKw pos (keywordEach [] X.env))):=by rfl):
  JE X R (.Call (.Attribute o m apos) [] [] pos) (N5 C m T to Qx):=
 .of (Ge (pl:=pl) ho D.c D.m D.ok (hr.mono hk) D.b .nil hx ht) λσ H G L ρ M q x rl en h hx=>by refine⟨G,L,ρ,M,_,x,rl,en,h,hx,λv H1 xz=>?_⟩;have⟨d1,G1,L1,M1,e1,r1,n1,⟨ns,ds,ob,hl⟩,h1⟩:=xz;have⟨p,dx,vs,rfl,hp,_,dn⟩:=Hr r1 n1 ob;refine⟨p,dx,_,rfl,hp,rJ dn hl,?_⟩;show cQ X.K T (V.ref p::([]++[])) H1 _ _;exact⟨G1,L1,[d1],M1,q,_,r1,⟨_,_,rfl,n1,rfl⟩,h1,λv H' f=>Fin.back e1 f,λC fs M' G' L' H' od hq e' r' y=>hx σ ρ C fs M' G' L' H' od hq (e1.trans e') r' (en.mono (e1.trans e')) y⟩
def Bu(D:MS X.prog X.w X.K X.mg X.base k x C ps T a fd)(hr:bU k' X.A)(hx:dG (cF X.prog X.w) X R)(ha:JA X R (e::es) ta)(hk:k+1<=k':=by decide)(hg:Gl X x:=by rfl)(Bt:(x==("__debug__":Str))=false:=by decide)
  (he:starEach (e::es) X.env=(false,eval e X.env)::starEach es X.env:=by rfl) (fk:(backTo pos (starEach es X.env)).any (·.1)=false:=by rfl):JE X R (.Call (.Name x p) (e::es) [] pos) (RT C T ta):=
 .of (GP D.k D.ok (hr.mono hk) hg D.m D.b .nil hx ha Bt he fk) λσ H G L ρ M q x rl en h hx=>by
  refine⟨G,L,ρ,M,_,x,rl,en,h,hx,λvs H1 xz y dx hy hdx mR=>?_⟩;have⟨ds,G1,L1,M1,e1,r1,n1,h1⟩:=xz;show cQ X.K T (V.ref y::(vs++[])) _ _ _;rw[aaV];have ra:=r1.Ly (o:=.own y) hdx;have ea:=r1.Q3 (o:=.own y) hdx;have U6:upd H1 dx (HO.own y) y=none:=by rw[Ζ (Ne.symm mR)];exact hy
  have rb:=ra.HS (p:=y) (o:=.ins C dx []) (m:=.ins C [] []) U6 ⟨dx,[],Ψ,rfl,rfl⟩;have eb:=ra.Uk (p:=y) (o:=.ins C dx []) U6;have e2:=ea.trans eb;have Ip:=e1.trans e2;refine⟨_,_,.loc M1.length::ds,_,_,_,rb,⟨_,_,rfl,⟨y,rfl,?_⟩,Ξ.mono e2.g e2.l _ _ n1⟩,h1,fun v H' ⟨d,G',L',M',e',r',dn,hd,hq⟩=>?_,λC fs M' G' L' H' od hq e' r' z=>hx σ ρ C fs M' G' L' H' od hq (Ip.trans e') r' (en.mono (Ip.trans e')) z⟩
  ·rw[<-r1.len,List.getElem?_append_right (Nat.le_refl _)];simp
  ·subst hd;refine⟨dn,.loc M1.length,G',L',M',Ip.trans e',r',⟨y,rfl,e'.l.get ?_⟩,hq⟩;rw[<-r1.len,List.getElem?_append_right (Nat.le_refl _)];simp
def DJ(c:Dd X.K C)(n:ir X.K C f)(ho:JE X R o to)(hv:JE X R value tv)(hs:swapsWith value (some (.Attribute o f pos')) pos.line X.env=pure false:=by rfl):JS X R (.Assign [.Attribute o f pos'] value pos) (NJ C f to tv):=
 .of (Qg ho hv hs) λσ H G L ρ M Dn rl en h hx=>by refine⟨G,L,ρ,M,_,_,rl,en,h,hx,λy H1 xz=>?_⟩;have⟨dy,G1,L1,M1,e1,r1,n1,h1⟩:=xz;refine⟨G1,L1,ρ,M1,_,_,r1,en.mono e1,h1,hx.on e1,λu H2 xz=>?_⟩;have⟨du,G2,L2,M2,e2,r2,n2,k,ns,ds,ed,hm,hf,hz,h2⟩:=xz;subst ed;have⟨p,rfl,hp⟩:=n2;have⟨_,dx,vs,hH,hl,dn⟩:=r2.fK k p _ hp hm;have hlv:ns.length=vs.length:=hl.trans dn.length;refine⟨p,C,dx,_,rfl,hH,c,n,by rw[abQ,<-hlv,Nat.min_self];exact hz,?_⟩;rw[zF hlv hf];exact⟨ρ,G2,L2,_,(e1.trans e2).trans (r2.Gu hp),r2.setM (m:=.ins C (ns++[f]) (ds++[dy])) hp ⟨dx,_,Ψ,by rw[aag,aag,hl];rfl,dn.app ⟨_,_,rfl,Den.mono e2.g e2.l _ _ n1,rfl⟩⟩,(en.mono (e1.trans e2)).mono (r2.Gu (o:=.own p) hp),h2⟩
end
def zf:List Dt->Ms->DQ->Prop
 | [d],M,q=>match ic M d with
  | some xs=>q (.loc M.length) (M++[.lst xs])
  | none=>False
 | _,_,_=>False
section
variable{K:fv}
def Sm:Cc K (λxs H Q=>∃p ys,xs=[V.ref p]/\(gu K H p ys\/mQ K H p ys)/\∀l,H l=none->Q (.ref l) (upd H l (.lst ys))) zf:=by
 intro G0 L0 H0 G L M H vs ds q e r n h;unfold zf at h;split at h
 ·rename_i d;have⟨v,rfl,n1⟩:=a_ n;split at h
  ·rename_i xs hs;have⟨a,us,rfl,hq,dn⟩:=qG r n1 hs;exact⟨a,us,rfl,hq,λl hl=>kL e r hl dn h⟩
  ·exact h.elim
 ·exact h.elim
end
section
variable{X:Cx}{R:St->XK}{e o i value:Expr}{t:DA}{to ti tv:DE}{p pos apos aU t_:Pos}
def i8(hm:X.mg "list"=none)(ha:JA X R [e] t)(hg:Gl X "list":=by rfl)(he:starEach [e] X.env=(false,eval e X.env)::starEach [] X.env:=by rfl)(fk:(backTo pos (starEach [] X.env)).any (·.1)=false:=by rfl):JE X R (.Call (.Name "list" p) [e] [] pos) (AE zf t):=
 tK xN Sm hm rA ha hg @_ @_ he fk
def X2(to:DE)(t:DA):DE:=λρ M q x=>to ρ M (λd M1=>(∃k xs,d= .loc k/\M1[k]? =some (.lst xs))/\t ρ M1 (λds M2=>∃k xs y,d= .loc k/\ds=[y]/\M2[k]? =some (.lst xs)/\xs.length < sizeLine/\q .aP (M2.set k (.lst (xs++[y])))) x) x
def iR(ho:JE X R o to)(ha:JA X R [e] t)(ng:attributeBase o "append" X.env (eval o X.env)=eval o X.env:=by rfl)
  (J_:((backTo aU (starEach [e] X.env)).all (λx=> !x.1)&&(backToKw aU (keywordEach [] X.env)).all (λx=>x.1.isSome)
   &&decide (([e]:List Expr).length+([]:List Keyword).length+(if ([]:List Keyword).isEmpty then 0 else 1) < 30))=true:=by rfl)
  (nG:(apos.endLine==aU.line)=true:=by rfl) (hs:starEach [e] X.env=(false,eval e X.env)::starEach [] X.env:=by rfl) (qX:(backTo aU (starEach [] X.env)).any (·.1)=false:=by rfl):
  JE X R (.Call (.Attribute o "append" apos) [e] [] aU) (X2 to t):=
 .of (Nk PySem.F.plainAttrs_list PySem.F.slot_list_append PySem.F.type_list_append (r:=CW) uP ho ha ng J_ nG hs qX) λσ H G L ρ M q x rl n h hx=>by refine⟨G,L,ρ,M,_,x,rl,n,h,hx,λv H1 xz=>?_⟩;have⟨d1,G1,L1,M1,e1,r1,n1,⟨k,xs,ed,hm⟩,h1⟩:=xz;subst ed;have⟨a,rfl,hk⟩:=n1;have⟨_,vs,hH,_⟩:=r1.fK k a _ hk hm;refine⟨.inl ⟨rfl,vs,.of hH⟩,G1,L1,ρ,M1,_,x,r1,n.mono e1,h1,hx.on e1,λus H2 xz=>?_⟩;have⟨ds,G2,L2,M2,e2,r2,n2,k',xs',y,ek,ed,SM,hz,h2⟩:=xz;cases ek;subst ed;have⟨u,rfl,n3⟩:=a_ n2;have CA:=e2.l.get hk;have⟨_,Gx,Vu,Q4⟩:=r2.fK k a _ CA SM;refine⟨a,Gx,u,rfl,rfl,Vu,by rw[<-Q4.length];exact hz,.aP,G2,L2,_,(e1.trans e2).trans (r2.Gu CA),r2.setM (m:=.lst (xs'++[y])) CA ⟨_,Ψ,Q4.app ⟨_,_,rfl,n3,rfl⟩⟩,rfl,h2⟩
def o9(to ti tv:DE):DS:=λDn ρ M=>tv ρ M (λy M1=>to ρ M1 (λd M2=>ti ρ M2 (λdi M3=>∃k i xs j,d= .loc k/\di= .int i/\M3[k]? =some (.lst xs)/\G7 xs.length i=some j/\Dn.nx ρ (M3.set k (.lst (xs.set j y)))) Dn.x) Dn.x) Dn.x
def gq(ho:JE X R o to)(hi:JE X R i ti)(hv:JE X R value tv)(hs:swapsWithSole [.Subscript o i t_] value pos.line X.env=pure false:=by rfl)(hw:swappedStores [.Subscript o i t_] value X.env=pure none:=by rfl)
  (h1:(assignEach [.Subscript o i t_] X.env).map (·.2)=[assign (.Subscript o i t_) X.env]:=by rfl)
  (ha:∀v,assign (.Subscript o i t_) X.env v=(do
   let ov<-holding [v] (eval o X.env)
   let iv<-holding [v,ov] (eval i X.env)
   standAt t_
   holding [v,ov,iv] (setItem ov iv v)
   release [v,ov,iv] []):=by intro _;rfl):JS X R (.Assign [.Subscript o i t_] value pos) (o9 to ti tv):=
 .of (Iv hv (OJ (t:=M6) ho hi KN ha) hs hw h1) λσ H G L ρ M Dn rl n h hx=>by refine⟨G,L,ρ,M,_,_,rl,n,h,hx,λv H1 xz=>?_⟩;have⟨dv,G1,L1,M1,e1,r1,n1,h1⟩:=xz;refine⟨G1,L1,ρ,M1,_,_,r1,n.mono e1,h1,hx.on e1,λov H2 xz=>?_⟩;have⟨d,G2,L2,M2,e2,r2,n2,h2⟩:=xz;refine⟨G2,L2,ρ,M2,_,_,r2,(n.mono e1).mono e2,h2,(hx.on e1).on e2,λiv H3 xz=>?_⟩;have⟨di,G3,L3,M3,e3,r3,n3,k,i,xs,j,ed,ei,hm,hj,h3⟩:=xz;subst ed ei;have⟨a,rfl,hk⟩:=n2;have n3:iv= .int i:=n3;subst n3;have zS:=e3.l.get hk;have⟨_,vs,hH,dn⟩:=r3.fK k a _ zS hm;have EW:=e2.trans e3;have US:=Den.mono EW.g EW.l _ _ n1;refine⟨a,vs,i,j,rfl,rfl,hH,by rw[<-dn.length];exact hj,ρ,G3,L3,_,((e1.trans e2).trans e3).trans (r3.Gu zS),r3.setM (m:=.lst (xs.set j dv)) zS ⟨_,Ψ,.of (CO US j dn.pair)⟩,(((n.mono e1).mono e2).mono e3).mono (r3.Gu (o:=.own a) zS),h3⟩
end
structure Src(K:fv)(a:Addr)(xs:List Dt)(ok:Ms->Prop)(G0:Hp)(L0:List Addr):Prop where
 at_:∀G L M H,dQ G0 G->Pre L0 L->Rl K G L M H->ok M->∃vs,gu K H a vs/\Ξ K G L xs vs
def iA(M:Ms):Dt->Option (List Dt×(Ms->Prop))
 | .lst xs=>some (xs,λ_=>True)
 | .ip ns=>some (ns.map .int,λ_=>True)
 | .loc k=>match M[k]? with
  | some (.lst xs)=>some (xs,λM'=>M'[k]? =some (.lst xs))
  | _=>none
 | _=>none
def sP{K:fv}{G:Hp}{L:List Addr}{M:Ms}{H:Hp}{d:Dt}{v:V}{xs:List Dt}{ok:Ms->Prop}(r:Rl K G L M H)(n:Den K G L d v)(h:iA M d=some (xs,ok)):∃a vs,v= .ref a/\gu K H a vs/\Src K a xs ok G L/\ok M:=by
 cases d with
 | lst ds=>
  cases h;have⟨a,vs,rfl,e,m⟩:=n;exact⟨a,vs,rfl,.of (r.sub _ _ e),⟨λG' L' M' H' g l r' _=>⟨vs,.of (r'.sub _ _ (g _ _ e)),Ξ.mono g l _ _ m⟩⟩,trivial⟩
 | ip ns=>
  cases h;have⟨a,rfl,e⟩:=n;exact⟨a,_,rfl,r.sub.seq e,⟨λG' L' M' H' g l r' _=>⟨_,r'.sub.seq (g.seq e),iU⟩⟩,trivial⟩
 | loc k=>
  have⟨a,rfl,e⟩:=n;have h:(match M[k]? with| some (.lst xs)=>some (xs,λM':Ms=>M'[k]? =some (.lst xs))| _=>none)=some (xs,ok):=h;split at h
  ·rename_i ys hm;cases h;have⟨_,vs,e1,m1⟩:=r.fK k a _ e hm;refine⟨a,vs,rfl,.of e1,⟨λG' L' M' H' g l r' hk=>?_⟩,hm⟩;have⟨_,Gx,e2,m2⟩:=r'.fK k a _ (l.get e) hk;exact⟨Gx,.of e2,m2⟩
  ·cases h
 | _=>cases h
def Kg{K:fv}{G:Hp}{L:List Addr}{a:Addr}{xs:List Dt}{ok:Ms->Prop}(s:Src K a xs ok G L):QE K (Vi K a) xs ok G L where
 go:=λi G1 L1 M1 H1 d g l r k e=>by
  have⟨vs,hs,n⟩:=s.at_ G1 L1 M1 H1 g l r k;have⟨v,e1,n1⟩:=n.get e
  exact⟨⟨vs,v,hs,e1⟩,fun v' H' ⟨eH,y⟩=>by
   subst eH;have e2:=y vs hs;rw[e1]at e2;cases e2
   exact⟨G1,.refl _ _ _,r,n1⟩⟩
 stop:=λi G1 L1 M1 H1 g l r k e=>by have⟨vs,hs,n⟩:=s.at_ G1 L1 M1 H1 g l r k;exact⟨vs,hs,by rw[<-n.length];exact e⟩
def j9(M:Ms):Dt->Option (List Dt×(Ms->Prop))
 | .loc k=>iA M (.loc k)
 | d=>(T' M d).map λxs=>(xs,λ_=>True)
def eJ(t:DE):DK:=λρ M q x=>t ρ M (λd M1=>match j9 M1 d with
 | some (xs,ok)=>q xs ok M1
 | none=>False) x
def aY{X:Cx}{R:St->XK}{tg e:Expr}{te:DE}(h:JE X R e te):JK X R tg e (eJ te):=by
 intro δ s σ H Q I ⟨G,L,ρ,M,q,x,rl,n,ht,hx,hQ⟩;refine bA (h δ s σ H (Fin X.K G L H _) I ⟨G,L,ρ,M,_,x,rl,n,ht,hx,λ_ _ f=>f⟩) λu s1 xz=>?_;have⟨v,H1,I1,rv,d,G1,L1,M1,e1,r1,n1,h1⟩:=xz
 (try dsimp only at h1)
 cases hi:j9 M1 d with
 | none=>rw[hi]at h1;exact h1.elim
 | some p=>
  have⟨xs,ok⟩:=p;rw[hi]at h1;have fin:∀J,QE X.K J xs ok G1 L1->Q J H1:=λJ y=>hQ J H1 ⟨xs,ok,G1,L1,M1,e1,r1,y,h1⟩;have up:∀{J},ok=(λ_=>True)->Yl X.K J xs G1 L1->QE X.K J xs ok G1 L1:=λeo y=>by subst eo;exact⟨λi G L M H d g l r _ e=>y.go i G L M H d g l r e,λi G L M H g l r _ e=>y.stop i G L M H g l r e⟩
  cases d with
  | loc k=>
   have⟨a,vs,rfl,hs,sr,_⟩:=sP r1 n1 hi;cases rv;exact w_ I1 hs (fin _ (Kg sr))
  | lst ds=>
   cases hi;have⟨a,vs,rfl,e,m⟩:=n1;cases rv;exact w_ I1 (vs:=vs) (.of (r1.sub _ _ e)) (fin _ (up rfl (Df (λG' g=>.of (g _ _ e)) m)))
  | ip ns=>
   cases hi;have⟨a,rfl,e⟩:=n1;cases rv;exact w_ I1 (r1.sub.seq e) (fin _ (up rfl (Df (λG' g=>g.seq e) iU)))
  | tup ds=>
   cases hi;have⟨a,vs,rfl,e,m⟩:=n1;cases rv;exact HL I1 (vs:=vs) (.of (r1.sub _ _ e)) (fin _ (up rfl (Jy (λG' g=>.of (g _ _ e)) m)))
  | kt ds=>
   cases hi;have⟨a,vs,rfl,e,m⟩:=n1;cases rv;exact HL I1 (r1.sub.Sq e) (fin _ (up rfl (Jy (λG' g=>g.Sq e) m)))
  | str z=>
   cases hi;cases n1;have⟨t,rfl⟩:=rv;exact Ot I1 (fin _ (up rfl Qw))
  | _=>cases hi
def vV(g:Dt->En->(En->Prop)->Prop)(tb:DS)(Dn:ly)(ok:Ms->Prop):List Dt->En->Ms->Prop
 | [],ρ,M=>ok M/\Dn.nx ρ M
 | x::xs,ρ,M=>ok M/\g x ρ λρ'=>tb {Dn with nx:=vV g tb Dn ok xs,ct:=vV g tb Dn ok xs,bk:=Dn.nx} ρ' M
def pQ(ti:DK)(g:Dt->En->(En->Prop)->Prop)(tb:DS):DS:=λDn ρ M=>ti ρ M (λxs ok M1=>vV g tb Dn ok xs ρ M1) Dn.x
section
variable{X:Cx}{R:St->XK}{tg iter:Expr}{body:List Stmt}{ti:DK}{gg:TG}{g:Dt->En->(En->Prop)->Prop}{tb:DS}{pos:Pos}
def b9(hi:JK X R tg iter ti)(hg:PG X tg gg)(gd:GD X.K gg g)(hb:CV X R body tb)(hp:PassesOwn (model X.prog X.w) X.A X.env X.xe:=by first| exact PassesOwn.never| exact PassesOwn.leaving)(hc:X.calm=true:=by rfl)(hs:∀x,foldedSetIterable iter X.env x=pure x:=by intro _;rfl):
  JS X R (.For tg iter body [] pos) (pQ ti g tb):=.of (Cq hp hc hi hg hb hs) λσ H G L ρ M Dn rl n h hx=>by
 refine⟨G,L,ρ,M,_,_,rl,n,h,hx,λJ H1 xz=>?_⟩;have⟨xs,ok,G1,L1,M1,e1,r1,y,h1⟩:=xz;refine⟨λi m σ' H'=>m+i=xs.length/\eT X.K G1 L1 H1 (λρ' M'=>vV g tb Dn ok (xs.drop i) ρ' M') σ' H',⟨xs.length,rfl,ρ,G1,L1,M1,.refl _ _ _,r1,n.mono e1,by rw[acj];exact h1⟩,?_⟩;rintro i m σ' H' ⟨hm,ρ',G',L',M',e',r',n',h'⟩;by_cases hi:i < xs.length
 ·right;have hd:xs[i]? =some xs[i]:=aaa hi;rw[abn hi]at h';have⟨aQ,h'⟩:=h';have⟨go,yl⟩:=y.go i G' L' M' H' _ e'.g e'.l r' aQ hd;refine⟨go,eT X.K G1 L1 H1 (λρ' M'=>vV g tb Dn ok (xs.drop (i+1)) ρ' M'),λσ2 H2 f=>⟨m - 1,(),(),f⟩,λv H2 hy=>?_⟩;have⟨G2,e2,r2,n2⟩:=yl v H2 hy;refine gd G2 L' M' H2 _ v ρ' σ' _ _ r2 n2 (n'.mono e2) h' λρ3 σ3 n3 h3=>?_;refine⟨G2,L',ρ3,M',_,r2,n3,h3,hx.on (e1.trans (e'.trans e2)),⟨λ_ _ f=>eT.back (e'.trans e2) f,λ_ _ f=>Fin.back (e1.trans (e'.trans e2)) f,λ_ _ f=>eT.back (e1.trans (e'.trans e2)) f,λ_ _ f=>eT.back (e'.trans e2) f⟩⟩
 ·left;rw[abU ()]at h';exact⟨y.stop i G' L' M' H' e'.g e'.l r' h'.1 (),ρ',G',L',M',e1.trans e',r',n',h'.2⟩
end
def pO(te:DE)(cs:En)(ok:Ms->Prop):List Dt->List Dt->Ms->(List Dt->Ms->Prop)->Prop
 | [],acc,M,k=>ok M/\k acc M
 | x::xs,acc,M,k=>ok M/\te (some x::cs) M (λd M1=>pO te cs ok xs (acc++[d]) M1 k) jP
def ot(ti:DK)(te:DE)(Μ:List Nat):DE:=λρ M q x=>ti ρ M (λxs ok M1=>xs.length<=sizeLine/\pO te (mH Μ ρ) ok xs [] M1 (λys M2=>q (.lst ys) M2)) x
def qz(ti:DK)(te:DE)(Μ:List Nat):DE:=λρ M q x=>ti ρ M (λxs ok M1=>xs.length<=sizeLine/\pO te (mH Μ ρ) ok xs [] M1 (λys M2=>q (.loc M2.length) (M2++[.lst ys]))) x
def mU{te:DE}{cs:En}{ok:Ms->Prop}:∀xs,pO te cs ok xs=gY (gN 0) tL te (none::cs) ok xs
 | []=>rfl
 | x::xs=>funext λacc=>funext λM=>funext λk=>by show(ok M/\te (some x::cs) M (λd M1=>pO te cs ok xs (acc++[d]) M1 k) jP)=(ok M/\te (some x::cs) M (λd M1=>gY (gN 0) tL te (none::cs) ok xs (acc++[d]) M1 k) jP);rw[mU xs]
section
variable{X:Cx}{R:St->XK}{elt iter:Expr}{x:Str}{px:Pos}{scope:Scope}{pos:Pos}{ti:DK}{te:DE}{ys:List Str}{Μ:List Nat}
def iY(S:af X scope [x] ys Μ)(hi:JK X R (.Name x px) iter ti)(he:∀C s H fp,JE (Cx.comp X (x::ys) scope C s H fp) (λ_=>E0) elt te)(hc:X.calm=true:=by rfl)(hs:∀x,foldedSetIterable iter X.env x=pure x:=by intro _;rfl):JE X R (.ListComp elt [⟨.Name x px,iter,[],0⟩] scope pos) (ot ti te Μ):=QX false S hi (dD S (i:=0) rfl) az (cR (Nat.zero_lt_succ 0)) (λ_ _ _ _=>fU) he hc hs λρ M q x h=>by unfold ot at h;simp only[mU]at h;exact h
def Kl(S:af X scope [x] ys Μ)(hi:JK X R (.Name x px) iter ti)(he:∀C s H fp,JE (Cx.comp X (x::ys) scope C s H fp) (λ_=>E0) elt te)(hc:X.calm=true:=by rfl)(hs:∀x,foldedSetIterable iter X.env x=pure x:=by intro _;rfl):JE X R (.ListComp elt [⟨.Name x px,iter,[],0⟩] scope pos) (qz ti te Μ):=QX true S hi (dD S (i:=0) rfl) az (cR (Nat.zero_lt_succ 0)) (λ_ _ _ _=>fU) he hc hs λρ M q x h=>by unfold qz at h;simp only[mU]at h;exact h
def cT{i:Nat}{y:Str}{py iO:Pos}(hN:X.N.Nodup)(FA:X.N[i]? =some y)(hy:Loc X.env.scope y)(S:af X scope [x] ys Μ)(hi:JK X R (.Name x px) iter ti)(he:∀C s H fp,JE (Cx.comp X (x::ys) scope C s H fp) (λ_=>E0) elt te)(hc:X.calm=true:=by rfl)(ED:swapsWith (.ListComp elt [⟨.Name x px,iter,[],0⟩] scope pos) (some (.Name y py)) iO.line X.env=pure true:=by rfl)(hs:∀x,foldedSetIterable iter X.env x=pure x:=by intro _;rfl)(hf:X.fn y=true\/X.env.scope.names.lookup y=some .local:=by first| exact .inl rfl| exact .inr rfl| assumption):JS X R (.Assign [.Name y py] (.ListComp elt [⟨.Name x px,iter,[],0⟩] scope pos) iO) (xJ i (ot ti te Μ)):=R7 false S hi (dD S (i:=0) rfl) az (cR (Nat.zero_lt_succ 0)) (λ_ _ _ _=>fU) he hc hs hN FA hy ED hf λρ M q x h=>by unfold ot at h;simp only[mU]at h;exact h
def wt{i:Nat}{y:Str}{py iO:Pos}(hN:X.N.Nodup)(FA:X.N[i]? =some y)(hy:Loc X.env.scope y)(S:af X scope [x] ys Μ)(hi:JK X R (.Name x px) iter ti)(he:∀C s H fp,JE (Cx.comp X (x::ys) scope C s H fp) (λ_=>E0) elt te)(hc:X.calm=true:=by rfl)(ED:swapsWith (.ListComp elt [⟨.Name x px,iter,[],0⟩] scope pos) (some (.Name y py)) iO.line X.env=pure true:=by rfl)(hs:∀x,foldedSetIterable iter X.env x=pure x:=by intro _;rfl)(hf:X.fn y=true\/X.env.scope.names.lookup y=some .local:=by first| exact .inl rfl| exact .inr rfl| assumption):JS X R (.Assign [.Name y py] (.ListComp elt [⟨.Name x px,iter,[],0⟩] scope pos) iO) (xJ i (qz ti te Μ)):=R7 true S hi (dD S (i:=0) rfl) az (cR (Nat.zero_lt_succ 0)) (λ_ _ _ _=>fU) he hc hs hN FA hy ED hf λρ M q x h=>by unfold qz at h;simp only[mU]at h;exact h
end
def uX:∀{ns:List Int} {us:List Value},ar (ns.map V.int) us->∃ts:List (Int×Tok),us=ts.map (λp=>Value.int p.1 p.2)/\ts.map (·.1)=ns
 | [],_,h=>by cases h;exact⟨[],rfl,rfl⟩
 | n::ns,_,h=>by
  cases h with
  | cons r t=>
   have⟨tk,rfl⟩:=r;have⟨ts,rfl,rfl⟩:=uX t;exact⟨(n,tk)::ts,rfl,rfl⟩
def RS(K:fv):List V->Hp->VK->Prop:=λxs H Q=>∃(p:Addr) (ns:List Int),xs=[.ref p]/\gu K H p (ns.map V.int)/\Q (.int ns.sum) H
def Js{X:Cx}(hc:X.calm=true):dw X (.builtin "sum") (RS X.K):=by
 intro δ s σ H xs us Q I r h;have⟨p,ns,rfl,hq,q⟩:=h;have⟨u,rfl,r1⟩:=kC r;cases r1;have⟨its,rv,pl,hz⟩:=I.list hq;have⟨ts,rfl,rfl⟩:=uX rv;have e:(ts.map λp=>Value.int p.1 p.2).toArray=intItems ts.toArray:=by simp[intItems]
 have hl:=pl.isList;rw[e]at hl;refine sum_intListG (I.ok.hd hc) hl λh' tk t' hk=>?_;refine⟨.int (ts.map (·.1)).sum,H,I.kept hk,⟨t',?_⟩,q⟩;rw[preSum_eq,List.take_of_length_le (by simp)]
def Qc:List Dt->Ms->DQ->Prop
 | [d],M,q=>∃ns:List Int,ic M d=some (ns.map .int)/\(∃xs ok,iA M d=some (xs,ok))/\q (.int ns.sum) M
 | _,_,_=>False
def qV{K:fv}{G:Hp}{L:List Addr}:∀{ns:List Int} {vs:List V},Ξ K G L (ns.map Dt.int) vs->vs=ns.map V.int
 | [],_,h=>h
 | _::_,_,⟨v,r,e,h1,h2⟩=>by have h1:v=_:=h1;rw[e,h1,qV h2];rfl
def gJ{M:Ms}{d:Dt}{xs:List Dt}{ok:Ms->Prop}(h:iA M d=some (xs,ok)):ic M d=some xs:=by
 cases d with
 | lst ds=>cases h;rfl
 | ip ns=>cases h;rfl
 | loc k=>
  have h:(match M[k]? with| some (.lst xs)=>some (xs,λM':Ms=>M'[k]? =some (.lst xs))| _=>none)=some (xs,ok):=h;show(match M[k]? with| some (.lst xs)=>some xs| _=>none)=some xs;split at h
  ·rename_i ys hm;cases h;rfl
  ·cases h
 | _=>cases h
def XJ{K:fv}:Cc K (RS K) Qc:=by
 intro G0 L0 H0 G L M H vs ds q e r n h;unfold Qc at h;split at h
 ·rename_i d;have⟨v,rfl,n1⟩:=a_ n;have⟨ns,hs,⟨xs,ok,hl⟩,hq⟩:=h;have⟨a,us,rfl,sq,sr,aQ⟩:=sP r n1 hl;rw[gJ hl]at hs;cases hs;have⟨ws,Vm,dn⟩:=sr.at_ G L M H (.refl _) (.refl _) r aQ;rw[qV dn]at Vm;exact⟨a,ns,rfl,Vm,.int ns.sum,G,L,M,e,r,rfl,hq⟩
 ·exact h.elim
def Gb:bootBuiltins "sum"=some (.builtin "sum"):=by decide+kernel
def BE:bootBuiltins "enumerate"=some (.type "enumerate"):=by decide+kernel
section
variable{X:Cx}{R:St->XK}{e a b:Expr}{t:DA}{ta tb:DE}{p pos:Pos}
def NY(hm:X.mg "sum"=none)(ha:JA X R [e] t)(hc:X.calm=true:=by rfl)(hg:Gl X "sum":=by rfl)(he:starEach [e] X.env=(false,eval e X.env)::starEach [] X.env:=by rfl)(fk:(backTo pos (starEach [] X.env)).any (·.1)=false:=by rfl):JE X R (.Call (.Name "sum" p) [e] [] pos) (AE Qc t):=
 fL (Js hc) XJ hm Gb ha hg @_ @_ he fk
def Qn:Dt->Dt->Ms->DQ->Prop:=λd e M q=>∃u xs us,vo d=some u/\ic M e=some xs/\h9 xs=some us/\q (.bl (QT u us)) M
def UB{K:fv}:pF K (Z7 K false) Qn:=by intro G0 L0 H0 G L M H v1 v2 d1 d2 q e r n1 n2 ⟨u,xs,us,h1,h2,h3,hq⟩;have⟨rfl,fu⟩:=nU h1 n1;have⟨a,vs,rfl,sq,dn⟩:=qG r n2 h2;have⟨rfl,fs⟩:=f_ h3 dn;exact⟨a,vs,rfl,sq,fu,fs,.bl _,G,L,M,e,r,rfl,hq⟩
def Nt(ja:JE X R a ta)(jb:JE X R b tb)(hm:behindInMarks .In b=false:=by rfl):JE X R (.Compare a [.In] [b] pos) (jB Qn ta tb):=pX vv UB ja jb hm
def Bi(ja:JE X R a ta)(jb:JE X R b tb)(hm:behindInMarks .In b=false:=by rfl):JT X R (.Compare a [.In] [b] pos) (mw (jB Qn ta tb)):=gO vv UB ja jb hm
end
def Inv.vk{X:Cx}{δ:List (Addr×Obj)}{σ:St}{H:Hp}{s:Shared}{h':Heap}{its:List Addr}{T:Addr}{o:HO}{t':Nat}(I:Inv X δ σ H s)(k:∀b u,b∉its->s.heap.get? b=some u->h'.get? b=some u)(f:∀b∈its,rE X δ H b)(hT:s.heap.objs.size<=T)(new:bZ X.prog X.w (upd H T o) h' T o):
  Inv X δ σ (upd H T o) {s with heap:=h',toks:=t'}:=by
 have hn:=I.aQ.fresh hT;have Te:∀b u,H b=some u->b∉its:=λb u e z=>by rw[(f b z).1]at e;cases e
 refine I.call (ch:=its) (g':=s.gens) (d':=s.drawn) (t':=t') ⟨λb u q _ _ hb=>k b u hb q,λb u q _ _ hb=>⟨u.slots,k b u hb q⟩,λb u q n _=>?_,λb u q hb=>⟨u,k b u hb q⟩,λb xs q=>?_,λb u xs q=>?_,λb ps q=>⟨#[],?_⟩⟩ (λb u e=>?_) I.bare λb hb=>?_
 ·rw[Ζ (aaL (aax (aap q) hT))];exact n
 ·rw[Ζ (bX q hn)];exact q
 ·rw[Ζ (bX q hn)];exact q
 ·rw[Ζ (bX q hn),q];simp
 ·by_cases hb:b=T
  ·subst hb;rw[Ψ]at e;cases e;exact new
  ·rw[Ζ hb]at e;refine(I.aQ b u e).A_ (λc v hc q=>k c v ?_ q) (λc q=>by rw[Ζ (bX q hn)];exact q) λc xs q=>by rw[Ζ (bX q hn)];exact q
   rcases hc with z| z
   ·rw[z];exact Te b u e
   ·exact Te c _ z
 ·have⟨f0,f1,f2,f3,f4,f5⟩:=f b hb;exact⟨f3,f1,f4,f5⟩
def Zx(K:fv)(l:Addr):It:=
 ⟨λi H=>∃xs x,gu K H l xs/\xs[i]? =some x,λi H v H'=>∃p x,H p=none/\v= .ref p/\H'=upd H p (.tup [.int i,x])/\∀xs,gu K H l xs->xs[i]? =some x,λi H=>∃xs,gu K H l xs/\xs.length<=i⟩
def EN{P:Program}{w:World}{K:fv}{elts:List Expr}{x1:Nat}{tp:Pos}(l it e:Addr)(mR:e≠it):Turn P w K (.Tuple elts x1 tp) (Zx K l) [e,it] e (λi h=>(∃old,IsEnum h e it i old)/\h.IsListIter it l i) where
 mem:=by simp
 obj:=λi h st b hb=>by
  have⟨⟨old,he⟩,hi⟩:=st;rcases aaA.mp hb with rfl| hb
  ·exact⟨_,he,λv z=>by
    have z':Data.fields _=Data.cell v:=z
    cases z'⟩
  ·have e:b=it:=by simpa using hb
   subst e;have⟨o,e,c,d⟩:=hi;exact⟨o,e,λv z=>by rw[d]at z;cases z⟩
 keep:=λi h h' st k=>by have⟨⟨old,he⟩,hi⟩:=st;exact⟨⟨old,k e (by simp) _ he⟩,hi.at λo q=>k it (by simp) o q⟩
 item:=by
  intro X hP hw hK hc i δ s σ H E I hf st hg;subst hP hw hK;have⟨⟨old,he⟩,hi⟩:=st;have⟨xs,x,hq,hx⟩:=hg;have⟨its,rv,p,hz⟩:=I.list hq;have⟨u,hu,ru⟩:=rv.get hx;refine wpAny_pyNext_enum_item he hi p.isList (x:=u) (by simpa using hu) mR λh' ho Hi hT hsz hk=>?_;refine⟨_,rfl,wpAny_letOwnedTupleGo_enum (s:={s with heap:=h',toks:=s.toks+1}) ho λh2 he2 sb=>?_⟩;have sb:Heap.SameBut e h' h2:=sb;have elt:e < s.heap.objs.size:=aap he;have ilt:it < s.heap.objs.size:=by have⟨o,q,_⟩:=hi;exact aap q
  have neT:s.heap.objs.size≠e:=ack elt;have hT2:h2.get? s.heap.objs.size=some {cls:=.type "tuple",data:=.seq #[.int i s.toks,u]}:=(sb.2 _ neT).trans hT;have I2:Inv X δ σ (upd H s.heap.objs.size (.tup [.int i,x])) {s with heap:=h2,toks:=s.toks+1}:=by
   refine I.vk (its:=[e,it]) (λb o hb q=>?_) hf (aai _) ?_
   ·have h1:b≠e:=λz=>hb (by simp[z]);have h3:b≠it:=λz=>hb (by simp[z]);exact(sb.2 b h1).trans (hk b o h1 h3 q)
   ·refine⟨by simp[sizeLine_eq],[.int i s.toks,u],.cons ⟨_,rfl⟩ (.cons ru .nil),?_⟩;exact⟨_,hT2,rfl,0,rfl⟩
  have iter:h2.IsListIter it l (i+1):=Hi.at λo q=>(sb.2 it (Ne.symm mR)).trans q;refine⟨.ref s.heap.objs.size,_,I2,rfl,⟨s.heap.objs.size,x,I.aQ.fresh (Nat.le_refl _),rfl,rfl,λys hy=>by rw[I.cj hy hq];exact hx⟩,⟨⟨u,by simpa using he2⟩,iter⟩,λb hb=>?_⟩;have nb:b≠s.heap.objs.size:=by
   rcases aaA.mp hb with rfl| hb
   ·exact aaL elt
   ·have:b=it:=by simpa using hb
    subst this;exact aaL ilt
  rw[Ζ nb];exact(hf b hb).1
 done:=by intro X hP hw hK hc i δ s σ H E I hf st hg;subst hP hw hK;have⟨⟨old,he⟩,hi⟩:=st;have⟨xs,hq,hx⟩:=hg;have⟨its,rv,p,hz⟩:=I.list hq;have hl:=rv.length;have⟨f0,f1,f2,f3,f4,f5⟩:=hf it (by simp);refine wpAny_pyNext_enum_end (I.ok.hd hc) he hi p.isList (by simp;omega) λh' ext=>⟨rfl,I.turned (t':=s.toks) (λb o hb q=>ext b o hb q) f0 f1 f3 f4 f5⟩
 self:=λ_ _ _ _ _ st h=>by have⟨⟨old,he⟩,_⟩:=st;exact wpAny_pyIter_enum he h
def g8:Nat->List Dt->List Dt
 | _,[]=>[]
 | n,x::xs=>.tup [.int n,x]::g8 (n+1) xs
def fW:∀(n:Nat) (xs:List Dt),(g8 n xs).length=xs.length
 | _,[]=>rfl
 | n,_::xs=>by unfold g8;rw[List.length_cons,List.length_cons,fW]
def oR:∀{n i:Nat} {xs:List Dt} {d:Dt},(g8 n xs)[i]? =some d->∃x,xs[i]? =some x/\d= .tup [.int ((n+i:Nat):Int),x]
 | n,i,[],d,h=>by simp[g8]at h
 | n,0,x::xs,d,h=>by unfold g8 at h;simp at h;exact⟨x,rfl,by rw[<-h];simp⟩
 | n,i+1,x::xs,d,h=>by unfold g8 at h;have⟨y,h1,h2⟩:=oR (n:=n+1) (i:=i) (xs:=xs) (d:=d) (by simpa using h);exact⟨y,by simpa using h1,by rw[h2,show n+1+i=n+(i+1) by omega]⟩
def JY{K:fv}{G:Hp}{L:List Addr}{a:Addr}{xs:List Dt}{ok:Ms->Prop}(s:Src K a xs ok G L):QE K (Zx K a) (g8 0 xs) ok G L where
 go:=λi G1 L1 M1 H1 d g l r k e=>by have⟨vs,hs,n⟩:=s.at_ G1 L1 M1 H1 g l r k;have⟨y,ey,rfl⟩:=oR e;have⟨v,e1,n1⟩:=n.get ey;refine⟨⟨vs,v,hs,e1⟩,λv' H' xz=>?_⟩;have⟨p,x,hp,ev,eH,hx⟩:=xz;subst ev eH;have e2:=hx vs hs;rw[e1]at e2;cases e2;refine⟨_,r.Q3 hp,r.Ly hp,qD (ds:=[.int ((0+i:Nat):Int),y]) r hp ⟨_,_,rfl,?_,_,_,rfl,n1,rfl⟩⟩;show V.int i=V.int _;rw[acd]
 stop:=λi G1 L1 M1 H1 g l r k e=>by have⟨vs,hs,n⟩:=s.at_ G1 L1 M1 H1 g l r k;exact⟨vs,hs,by rw[<-n.length,<-fW 0];exact e⟩
def Us(t:DA):DK:=λρ M q x=>t ρ M (λds M1=>∃d xs ok,ds=[d]/\iA M1 d=some (xs,ok)/\q (g8 0 xs) ok M1) x
def nQ{X:Cx}{R:St->XK}{elts:List Expr}{x1:Nat}{tp:Pos}{a:Expr}{t:DA}{p pos:Pos}(hm:X.mg "enumerate"=none)(ha:JA X R [a] t)(hg:Gl X "enumerate":=by rfl)(hs:starEach [a] X.env=[(false,eval a X.env)]:=by rfl):JK X R (.Tuple elts x1 tp) (.Call (.Name "enumerate" p) [a] [] pos) (Us t):=by
 intro δ s σ H Q I ⟨G,L,ρ,M,q,x,rl,n,ht,hx,hQ⟩;refine Call_ (mO I hg hm BE (PyProof.Rows.callWith_type1 (bA (ha pos δ s σ H (MW X.K G L H _) I ⟨G,L,ρ,M,_,x,rl,n,ht,hx,λ_ _ f=>f⟩) λus s1 xz=>?_) hs rfl));have⟨vs,H1,I1,rv,ds,G1,L1,M1,e1,r1,n1,d,xs,ok,ed,hl,h1⟩:=xz;subst ed;have⟨v,rfl,n2⟩:=a_ n1;have⟨b,ws,rfl,sq,sr,_⟩:=sP r1 n2 hl;have⟨u,rfl,ru⟩:=ar.one rv;cases ru;have⟨its,_,pl,_⟩:=I1.list sq;refine call_enumerate_list pl.isList λh' he hi hz hk=>?_;have I2:Inv X δ σ H1 {s1 with heap:=h'}:=I1.kept (t':=s1.toks) hk;refine wpAny_pyIter_enum (s:={s1 with heap:=h'}) he ⟨s1.heap.objs.size+1,[s1.heap.objs.size+1,s1.heap.objs.size],_,_,H1,rfl,I2,EN b s1.heap.objs.size (s1.heap.objs.size+1) (ack (abr _)),⟨⟨_,he⟩,hi⟩,λc hc=>?_,hQ _ _ ⟨_,ok,G1,L1,M1,e1,r1,JY sr,h1⟩⟩;have hc:s1.heap.objs.size<=c:=by
  rcases aaA.mp hc with rfl| hc
  ·exact Nat.le_succ _
  ·have:c=s1.heap.objs.size:=by simpa using hc
   rw[this];exact aai _
 have f:=I1.A5 (H':=H1) hc (I1.aQ.fresh hc);exact f
def I0(M:Ms):Dt->Option Value
 | .loc k=>match M[k]? with
  | some (.lst _)=>some (.type "list")
  | _=>none
 | d=>zj d
def NZ(K:fv):List Dt->Ms->DQ->Prop:=λds M q=>∃d c t t' b,ds=[d,c]/\I0 M d=some t/\Ie c=some t'/\PySem.W.kitOne K t t'=some b/\q (.bl b) M
section
variable{K:fv}
def Cd{G:Hp}{L:List Addr}{M:Ms}{H:Hp}{d:Dt}{v:V}{t:Value}(r:Rl K G L M H)(n:Den K G L d v)(h:I0 M d=some t):ku K H v t:=by
 by_cases hd:∃k,d= .loc k
 ·have⟨k,rfl⟩:=hd;have⟨a,rfl,e⟩:=n;have h:(match M[k]? with| some (.lst _)=>some (Value.type "list")| _=>none)=some t:=h;split at h
  ·rename_i xs hm;cases h;have⟨_,vs,e1,_⟩:=r.fK k a _ e hm;exact .lst e1
  ·cases h
 ·refine u9 r n ?_;cases d with
  | loc k=>exact aaC ⟨k,rfl⟩ hd
  | _=>exact h
def Td:Cc K (λxs H Q=>∃x c t t' b,xs=[x,c]/\ku K H x t/\G8 c=some t'/\PySem.W.kitOne K t t'=some b/\Q (.bl b) H) (NZ K):=by intro G0 L0 H0 G L M H vs ds q e r n ⟨d,c,t,t',b,ed,h1,h2,hb,h⟩;subst ed;have⟨v,u,rfl,n1,n2⟩:=fD n;exact⟨v,u,t,t',b,rfl,Cd r n1 h1,C4 n2 h2,hb,bK e r h⟩
end
section
variable{X:Cx}{R:St->XK}{e e2:Expr}{t:DA}{p pos:Pos}
def By(K:fv)(hm:X.mg "isinstance"=none)(ha:JA X R [e,e2] t)(he:starEach [e,e2] X.env=(false,eval e X.env)::starEach [e2] X.env:=by rfl)(fk:(backTo pos (starEach [e2] X.env)).any (·.1)=false:=by rfl)(hg:Gl X "isinstance":=by rfl)(hK:X.K=K:=by rfl):JE X R (.Call (.Name "isinstance" p) [e,e2] [] pos) (AE (NZ K) t):=by subst hK;exact fL qe Td hm iT ha hg @_ @_ he fk
def vi:∀{zs:List Str} {us:List Value},Paired (λ(z:Str) (u:Value)=>∃tk,u= .str z tk) zs us->ar (zs.map V.str) us
 | _,_,.nil=>.nil
 | _,_,.cons h t=>.cons h (vi t)
def Nw{x:Str}{zs:List Str}(hm:∃a o its n,X.mg x=some (.ref a)/\X.K.lookup a=some o/\o.cls= .type "tuple"/\o.data= .seq its n/\its.size<=sizeLine/\Paired (λ(z:Str) (u:Value)=>∃tk,u= .str z tk) zs its.toList)(hg:Gl X x:=by rfl)(hd:(x==("__debug__":Str))=false:=by decide):JE X R (.Name x pos) (dC (.kt (zs.map .str))):=by have⟨a,o,its,n,h1,h2,h3,h4,h5,h6⟩:=hm;exact Qa (v:=.ref a) (Dj hg h1 rfl hd) λG L=>⟨a,zs.map V.str,rfl,.inr ⟨o,its,n,h2,h3,h4,h5,vi h6⟩,ve⟩
end
def d_{te:DE}{cs:En}{ok:Ms->Prop}{f:Dt->Dt}:∀{xs acc:List Dt} {M:Ms} {k:List Dt->Ms->Prop},ok M->(∀x∈xs,∀q:DQ,q (f x) M->te (some x::cs) M q jP)->k (acc++xs.map f) M->pO te cs ok xs acc M k
 | [],acc,M,k,ho,_,h=>⟨ho,by simpa using h⟩
 | x::xs,acc,M,k,ho,hf,h=>⟨ho,hf x List.mem_cons_self _ (d_ ho (λy hy=>hf y (List.mem_cons_of_mem _ hy)) (by simpa using h))⟩
def aZ{g:Dt->En->(En->Prop)->Prop}{tb:DS}{Dn:ly}{ok:Ms->Prop}(J:List Dt->En->Ms->Prop)(aQ:∀xs ρ M,J xs ρ M->ok M)
  (step:∀x xs ρ M,J (x::xs) ρ M->(∀ρ M,J xs ρ M->vV g tb Dn ok xs ρ M)->g x ρ λρ'=>tb {Dn with nx:=vV g tb Dn ok xs,ct:=vV g tb Dn ok xs,bk:=Dn.nx} ρ' M)
  (fin:∀ρ M,J [] ρ M->Dn.nx ρ M):∀(xs:List Dt) (ρ:En) (M:Ms),J xs ρ M->vV g tb Dn ok xs ρ M
 | [],ρ,M,h=>⟨aQ _ _ _ h,fin _ _ h⟩
 | x::xs,ρ,M,h=>⟨aQ _ _ _ h,step x xs ρ M h λρ' M' h'=>aZ J aQ step fin xs ρ' M' h'⟩
section
variable{K:fv}{G:Hp}{L:List Addr}
mutual
def Od:∀(d:Dt) (v:V),Den K G L d v->d.under L.length
 | .aP,_,_=>trivial
 | .bl _,_,_=>trivial
 | .int _,_,_=>trivial
 | .str _,_,_=>trivial
 | .tup ds,_,⟨a,vs,e,h1,h2⟩=>fg ds vs h2
 | .lst ds,_,⟨a,vs,e,h1,h2⟩=>fg ds vs h2
 | .obj C ns ds,_,⟨a,dx,vs,e,h1,hl,h2⟩=>fg ds vs h2
 | .loc k,_,⟨a,e,h1⟩=>(aaf.mp h1).1
 | .ref _,_,_=>trivial
 | .ty _,_,_=>trivial
 | .ip _,_,_=>trivial
 | .kt ds,_,⟨a,vs,e,h1,h2⟩=>fg ds vs h2
 | .exc _ _ ds,_,⟨a,od,vs,e,h1,h2,h3,h4⟩=>fg ds vs h4
 | .RZ _ _ _ _ ds,_,⟨vs,e,h2,h3,h4⟩=>fg ds vs h4
def fg:∀(ds:List Dt) (vs:List V),Ξ K G L ds vs->Dt.aV L.length ds
 | [],_,_=>trivial
 | d::ds,_,⟨v,r,e,h1,h2⟩=>⟨Od d v h1,fg ds r h2⟩
end
def Rl.un{M:Ms}{H:Hp}(r:Rl K G L M H):∀m∈M,MO.under M.length m:=λm hm=>by
 have⟨k,hk,e⟩:=aba hm;have em:M[k]? =some m:=by rw[aaa hk,e]
 have el:L[k]? =some (L[k]'(by rw[r.len];exact hk)):=aaa _;have⟨_,q⟩:=r.fK k _ m el em;rw[<-r.len];cases m with
 | lst ds=>have⟨vs,_,h⟩:=q;exact fg _ _ h
 | ins C ns ds=>have⟨dx,vs,_,_,h⟩:=q;exact fg _ _ h
 | iC ks ds=>have⟨vs,_,_,h⟩:=q;exact fg _ _ h
 | raw u=>trivial
end
def nJ(M0:Ms)(q:DQ):DQ:=λd M=>∃E d',M=M0++E/\Gr M0.length E d d'/\q d' M0
def Fin.nJ{K:fv}{G0:Hp}{L0:List Addr}{M0:Ms}{H0:Hp}{q:DQ}{v:V}{H:Hp}(r0:Rl K G0 L0 M0 H0)(f:Fin K G0 L0 H0 (nJ M0 q) v H):Fin K G0 L0 H0 q v H:=by have⟨d,G,L,M,ex,r,dn,E,d',e,fz,hq⟩:=f;exact Fin.yp r0 ⟨d,G,L,M,ex,r,dn,M0,E,d',e,rfl,r0.un,fz,hq⟩
def Uv(t:DE):DE:=λρ M q x=>t ρ M (nJ M q) x
def bo{X:Cx}{R:St->XK}{e:Expr}{t:DE}(h:JE X R e t):JE X R e (Uv t):=.of h λσ H G L ρ M q x rl n ht hx=>⟨G,L,ρ,M,_,x,rl,n,ht,hx,λv H1 f=>Fin.nJ rl f⟩
def MP{M0:Ms}{q:DQ}{d:Dt}(hu:d.under M0.length)(h:q d M0):nJ M0 q d M0:=⟨[],d,by simp,.old hu,h⟩
def gF{M0 E:Ms}{q:DQ}{d d':Dt}(f:Gr M0.length E d d')(h:q d' M0):nJ M0 q d (M0++E):=⟨E,d',rfl,f,h⟩
def fV(f:Expr->Option Dt):List Expr->Option (List Dt)
 | []=>some []
 | e::es=>match f e,fV f es with
  | some d,some ds=>some (d::ds)
  | _,_=>none
def gr:Nat->Expr->Option Dt
 | 0,e=>match e with
  | .Constant (.int i) _ _=>some (.int i)
  | .Constant (.str x) _ _=>some (.str x)
  | _=>none
 | n+1,e=>match e with
  | .Constant (.int i) _ _=>some (.int i)
  | .Constant (.str x) _ _=>some (.str x)
  | .Tuple es _ _=>if es.length<=100 then (fV (gr n) es).map .tup else none
  | .List es _=>if es.length<=100 then (fV (gr n) es).map .lst else none
  | _=>none
def Bh{n:Nat}{e:Expr}{d:Dt}{es:List Expr}{env:Env}(h:gr n e=some d):starEach (e::es) env=(false,eval e env)::starEach es env:=by cases n <;> (unfold gr at h;split at h <;> first| rfl| cases h)
def kj{f:Expr->Option Dt}:∀{es:List Expr} {ds:List Dt},fV f es=some ds->ds.length=es.length
 | [],ds,h=>by cases h;rfl
 | e::es,ds,h=>by
  unfold fV at h;split at h
  ·rename_i d Hh h1 h2;cases h;rw[aaI,aaI,kj h2]
  ·cases h
section
variable{X:Cx}{R:St->XK}
def tD{n:Nat}(ih:∀(e:Expr) (d:Dt),gr n e=some d->JE X R e (dC d)):∀(es:List Expr) (ds:List Dt),fV (gr n) es=some ds->JA X R es (λ_ M q _=>q ds M)
 | [],ds,h=>by cases h;exact η
 | e::es,ds,h=>by
  unfold fV at h;split at h
  ·rename_i d Hh h1 h2;cases h;exact θ (ih e d h1) (tD ih es Hh h2) (hs:=Bh h1)
  ·cases h
def DD{n:Nat}(h:n<=100):n<=sizeLine:=aat h @_
def JE.imp{e:Expr}{t t':DE}(h:JE X R e t)(hi:∀ρ M q x,t' ρ M q x->t ρ M q x):JE X R e t':=.of h λσ H G L ρ M q x rl n ht hx=>⟨G,L,ρ,M,q,x,rl,n,hi _ _ _ _ ht,hx,λ_ _ f=>f⟩
def dH:∀(n:Nat) {e:Expr} {d:Dt},gr n e=some d->JE X R e (dC d)
 | 0,e,d,h=>by
  unfold gr at h;split at h
  ·cases h;exact ο
  ·cases h;exact fc
  ·cases h
 | n +1,e,d,h=>by
  unfold gr at h;split at h
  ·cases h;exact ο
  ·cases h;exact fc
  ·split at h
   ·rename_i es _ _ hl;cases hc:fV (gr n) es with
    | none=>rw[hc]at h;cases h
    | some ds=>
     rw[hc]at h;cases h;exact(cb (tD (λe d=>dH n) es ds hc)).imp λρ M q x hq=>⟨DD (by rw[kj hc];exact hl),hq⟩
   ·cases h
  ·split at h
   ·rename_i es _ hl;cases hc:fV (gr n) es with
    | none=>rw[hc]at h;cases h
    | some ds=>
     rw[hc]at h;cases h;exact(mV (tD (λe d=>dH n) es ds hc)).imp λρ M q x hq=>⟨DD (by rw[kj hc];exact hl),hq⟩
   ·cases h
  ·cases h
end
def EC:bootBuiltins "zip"=some (.type "zip"):=by decide+kernel
def Inv.K8{X:Cx}{δ:List (Addr×Obj)}{σ:St}{H:Hp}{s:Shared}{h':Heap}{its:List Addr}{t':Nat}(I:Inv X δ σ H s)(k:∀b u,b∉its->s.heap.get? b=some u->h'.get? b=some u)(f:∀b∈its,rE X δ H b):
  Inv X δ σ H {s with heap:=h',toks:=t'}:=by
 have Te:∀b u,H b=some u->b∉its:=λb u e z=>by rw[(f b z).1]at e;cases e
 refine I.call (ch:=its) (g':=s.gens) (d':=s.drawn) (t':=t') ⟨λb u q _ _ hb=>k b u hb q,λb u q _ _ hb=>⟨u.slots,k b u hb q⟩,λb u q n _=>n,λb u q hb=>⟨u,k b u hb q⟩,λb xs q=>q,λb u xs q=>q,λb ps q=>⟨#[],by rw[q];simp⟩⟩ (λb u e=>?_) I.bare λb hb=>?_
 ·refine(I.aQ b u e).A_ (λc v hc q=>k c v ?_ q) (λc q=>q) λc xs q=>q;rcases hc with z| z
  ·rw[z];exact Te b u e
  ·exact Te c _ z
 ·have⟨f0,f1,f2,f3,f4,f5⟩:=f b hb;exact⟨f3,f1,f4,f5⟩
def Zt(K:fv)(l1 l2:Addr):It:=
 ⟨λi H=>∃xs ys x y,gu K H l1 xs/\gu K H l2 ys/\xs[i]? =some x/\ys[i]? =some y,
  λi H v H'=>∃p x y,H p=none/\v= .ref p/\H'=upd H p (.tup [x,y])/\(∀xs,gu K H l1 xs->xs[i]? =some x)/\∀ys,gu K H l2 ys->ys[i]? =some y,
  λi H=>∃xs ys,gu K H l1 xs/\gu K H l2 ys/\(xs.length<=i\/ys.length<=i)⟩
def GU{P:Program}{w:World}{K:fv}{elts:List Expr}{x1:Nat}{tp:Pos}{l1 l2 i1 i2 TI TO z:Addr}(D:ZipApart z TI TO i1 i2 l1 l2):Turn P w K (.Tuple elts x1 tp) (Zt K l1 l2) [z,TI,TO,i1,i2] z (λi h=>(∃a b,IsZip h z TI TO .none/\IsPair h TI (.ref i1) (.ref i2)/\IsPair h TO a b)/\h.IsListIter i1 l1 i/\h.IsListIter i2 l2 i) where
 mem:=by simp
 obj:=λi h st b hb=>by
  have⟨⟨a,c,hz,HE,KW⟩,h1,h2⟩:=st;simp only[List.mem_cons,List.not_mem_nil,or_false]at hb;rcases hb with rfl| rfl| rfl| rfl| rfl
  ·exact⟨_,hz,λv z=>by
    have z':Data.fields _=Data.cell v:=z
    cases z'⟩
  ·exact⟨_,HE,λv z=>by
    have z':Data.seq _=Data.cell v:=z
    cases z'⟩
  ·exact⟨_,KW,λv z=>by
    have z':Data.seq _=Data.cell v:=z
    cases z'⟩
  ·have⟨o,e,c,d⟩:=h1;exact⟨o,e,λv z=>by rw[d]at z;cases z⟩
  ·have⟨o,e,c,d⟩:=h2;exact⟨o,e,λv z=>by rw[d]at z;cases z⟩
 keep:=λi h h' st k=>by have⟨⟨a,c,hz,HE,KW⟩,h1,h2⟩:=st;exact⟨⟨a,c,k z (by simp) _ hz,k TI (by simp) _ HE,k TO (by simp) _ KW⟩,h1.at λo q=>k i1 (by simp) o q,h2.at λo q=>k i2 (by simp) o q⟩
 item:=by
  intro X hP hw hK hc i δ s σ H E I hf st hg;subst hP hw hK;have⟨⟨a,c,hz,HE,KW⟩,h1,h2⟩:=st;have⟨xs,ys,x,y,T1,Q6,hx,hy⟩:=hg;have⟨Xq,XM,p1,_⟩:=I.list T1;have⟨u1,hu1,ru1⟩:=XM.get hx;have⟨Jd,X3,p2,_⟩:=I.list Q6;have⟨u2,hu2,ru2⟩:=X3.get hy;refine wpAny_pyNext_zip_item D hz HE KW h1 h2 p1.isList p2.isList (x:=u1) (y:=u2) (by simpa using hu1) (by simpa using hu2) λh' UY VX nY Mo hT hsz hk=>?_;refine⟨_,rfl,wpAny_letOwnedTupleGo_zip (s:={s with heap:=h'}) UY λh3 hz3 sb=>?_⟩;have sb:Heap.SameBut z h' h3:=sb;have ZM:z < s.heap.objs.size:=aap hz;have neT:s.heap.objs.size≠z:=ack ZM;have hT3:h3.get? s.heap.objs.size=some {cls:=.type "tuple",data:=.seq #[u1,u2]}:=(sb.2 _ neT).trans hT;have lt:∀b∈[z,TI,TO,i1,i2],b < s.heap.objs.size:=λb hb=>by
   simp only[List.mem_cons,List.not_mem_nil,or_false]at hb;rcases hb with rfl| rfl| rfl| rfl| rfl
   ·exact ZM
   ·exact aap HE
   ·exact aap KW
   ·have⟨o,q,_⟩:=h1;exact aap q
   ·have⟨o,q,_⟩:=h2;exact aap q
  have I2:Inv X δ σ (upd H s.heap.objs.size (.tup [x,y])) {s with heap:=h3,toks:=s.toks}:=by
   refine I.vk (its:=[z,TI,TO,i1,i2]) (λb o hb q=>?_) hf (aai _) ?_
   ·simp only[List.mem_cons,List.not_mem_nil,or_false,not_or]at hb;have⟨b1,b2,b3,b4,b5⟩:=hb;exact(sb.2 b b1).trans (hk b o b1 b3 b4 b5 q)
   ·refine⟨by simp[sizeLine_eq],[u1,u2],.cons ru1 (.cons ru2 .nil),?_⟩;exact⟨_,hT3,rfl,0,rfl⟩
  refine⟨.ref s.heap.objs.size,_,I2,rfl,⟨s.heap.objs.size,x,y,I.aQ.fresh (aai _),rfl,rfl,λzs Xu=>by rw[I.cj Xu T1];exact hx,λzs Xu=>by rw[I.cj Xu Q6];exact hy⟩,⟨⟨u1,u2,hz3,(sb.2 _ D.TIz).trans (hk _ _ D.TIz D.TITO D.TIi1 D.TIi2 HE),(sb.2 _ D.TOz).trans VX⟩,nY.at λo q=>(sb.2 i1 D.i1z).trans q,Mo.at λo q=>(sb.2 i2 D.i2z).trans q⟩,λb hb=>?_⟩;rw[Ζ (aaL (lt b hb))];exact(hf b hb).1
 done:=by intro X hP hw hK hc i δ s σ H E I hf st hg;subst hP hw hK;have⟨⟨a,c,hz,HE,KW⟩,h1,h2⟩:=st;have⟨xs,ys,T1,Q6,hx⟩:=hg;have⟨Xq,XM,p1,_⟩:=I.list T1;have⟨Jd,X3,p2,_⟩:=I.list Q6;have Xg:=XM.length;have KA:=X3.length;refine wpAny_pyNext_zip_end (I.ok.hd hc) D hz HE KW h1 h2 p1.isList p2.isList (by rcases hx with hx| hx;(left;simp;omega);(right;simp;omega)) λh' ext=>⟨rfl,I.K8 (t':=s.toks) (its:=[z,TI,TO,i1,i2]) (λb o hb q=>?_) hf⟩;simp only[List.mem_cons,List.not_mem_nil,or_false,not_or]at hb;have⟨b1,b2,b3,b4,b5⟩:=hb;exact ext b o b1 b3 b4 b5 q
 self:=λ_ _ _ _ _ st h=>by have⟨⟨a,c,hz,_,_⟩,_⟩:=st;exact wpAny_pyIter_zip hz h
def ug(xs ys:List Dt):List Dt:=(xs.zip ys).map λp=>.tup [p.1,p.2]
def Hg{xs ys:List Dt}{i:Nat}{d:Dt}(h:(ug xs ys)[i]? =some d):∃x y,xs[i]? =some x/\ys[i]? =some y/\d= .tup [x,y]:=by
 unfold ug at h;rw[aah]at h;cases e:(xs.zip ys)[i]? with
 | none=>rw[e]at h;cases h
 | some p=>
  rw[e]at h;cases h;have⟨h1,h2⟩:=List.getElem?_zip_eq_some.mp e;exact⟨p.1,p.2,h1,h2,rfl⟩
def Ad(xs ys:List Dt):(ug xs ys).length=min xs.length ys.length:=by unfold ug;rw[List.length_map,List.length_zip]
def Mv{K:fv}{G:Hp}{L:List Addr}{a b:Addr}{xs ys:List Dt}{ok QR:Ms->Prop}(s:Src K a xs ok G L)(s':Src K b ys QR G L):QE K (Zt K a b) (ug xs ys) (λM=>ok M/\QR M) G L where
 go:=λi G1 L1 M1 H1 d g l r k e=>by have⟨vs,hs,n⟩:=s.at_ G1 L1 M1 H1 g l r k.1;have⟨Vq,Vf,n'⟩:=s'.at_ G1 L1 M1 H1 g l r k.2;have⟨x,y,ex,ey,rfl⟩:=Hg e;have⟨v,e1,n1⟩:=n.get ex;have⟨v',ZE,n1'⟩:=n'.get ey;refine⟨⟨vs,Vq,v,v',hs,Vf,e1,ZE⟩,λw H' xz=>?_⟩;have⟨p,x2,y2,hp,ev,eH,hx,hy⟩:=xz;subst ev eH;have e2:=hx vs hs;rw[e1]at e2;cases e2;have e3:=hy Vq Vf;rw[ZE]at e3;cases e3;exact⟨_,r.Q3 hp,r.Ly hp,qD (ds:=[x,y]) r hp ⟨_,_,rfl,n1,_,_,rfl,n1',rfl⟩⟩
 stop:=λi G1 L1 M1 H1 g l r k e=>by have⟨vs,hs,n⟩:=s.at_ G1 L1 M1 H1 g l r k.1;have⟨Vq,Vf,n'⟩:=s'.at_ G1 L1 M1 H1 g l r k.2;refine⟨vs,Vq,hs,Vf,?_⟩;rw[<-n.length,<-n'.length];rw[Ad]at e;omega
def Wg(t:DA):DK:=λρ M q x=>t ρ M (λds M1=>∃d d' xs ys ok QR,ds=[d,d']/\iA M1 d=some (xs,ok)/\iA M1 d'=some (ys,QR)/\q (ug xs ys) (λM=>ok M/\QR M) M1) x
def Kw{X:Cx}{R:St->XK}{elts:List Expr}{x1:Nat}{tp:Pos}{a a':Expr}{t:DA}{p pos:Pos}(hm:X.mg "zip"=none)(ha:JA X R [a,a'] t)(hg:Gl X "zip":=by rfl)(hs:starEach [a,a'] X.env=(false,eval a X.env)::starEach [a'] X.env:=by rfl)(fk:(backTo pos (starEach [a'] X.env)).any (·.1)=false:=by rfl):JK X R (.Tuple elts x1 tp) (.Call (.Name "zip" p) [a,a'] [] pos) (Wg t):=by
 intro δ s σ H Q I ⟨G,L,ρ,M,q,x,rl,n,ht,hx,hQ⟩;refine Call_ (mO I hg hm EC (PyProof.Rows.callWith_type1 (bA (ha pos δ s σ H (MW X.K G L H _) I ⟨G,L,ρ,M,_,x,rl,n,ht,hx,λ_ _ f=>f⟩) λus s1 xz=>?_) hs fk));have⟨vs,H1,I1,rv,ds,G1,L1,M1,e1,r1,n1,d,d',xs,ys,ok,QR,ed,hl,NH,h1⟩:=xz;subst ed;have⟨v,v',rfl,n2,n2'⟩:=fD n1;have⟨b,ws,rfl,sq,sr,_⟩:=sP r1 n2 hl;have⟨b',ws',rfl,sq',sr',_⟩:=sP r1 n2' NH;cases rv with
 | cons ru rv=>
  cases rv with
  | cons ru' rv=>
   cases rv;cases ru;cases ru';have⟨its,_,pl,_⟩:=I1.list sq;have⟨its',_,pl',_⟩:=I1.list sq';have lt1:b < s1.heap.objs.size:=by have⟨o,q,_⟩:=pl.isList;exact aap q
   have lt2:b' < s1.heap.objs.size:=by have⟨o,q,_⟩:=pl'.isList;exact aap q
   refine call_zip_2 pl.isList pl'.isList λh' hz HE KW hi Hi hsz hk=>?_;have I2:Inv X δ σ H1 {s1 with heap:=h'}:=I1.kept (t':=s1.toks) hk;have D:ZipApart (s1.heap.objs.size+4) (s1.heap.objs.size+2) (s1.heap.objs.size+3) s1.heap.objs.size (s1.heap.objs.size+1) b b':=by have ne:∀i j:Nat,i≠j->s1.heap.objs.size+i≠s1.heap.objs.size+j:=λi j h z=>h (Nat.add_left_cancel z);have n1:∀i:Nat,b≠s1.heap.objs.size+i:=λi=>aaL (aax lt1 (abu _ _));have n2:∀i:Nat,b'≠s1.heap.objs.size+i:=λi=>aaL (aax lt2 (abu _ _));exact⟨ne 2 4 @_,ne 3 4 @_,ne 0 4 @_,ne 1 4 @_,ne 2 3 @_,ne 2 0 @_,ne 2 1 @_,ne 3 0 @_,ne 3 1 @_,ne 0 1 @_,n1 4,n1 3,n1 0,n1 1,n2 4,n2 3,n2 0,n2 1⟩
   refine wpAny_pyIter_zip (s:={s1 with heap:=h'}) hz ⟨s1.heap.objs.size+4,[s1.heap.objs.size+4,s1.heap.objs.size+2,s1.heap.objs.size+3,s1.heap.objs.size,s1.heap.objs.size+1],_,_,H1,rfl,I2,GU D,⟨⟨_,_,hz,HE,KW⟩,hi,Hi⟩,λc hc=>?_,hQ _ _ ⟨_,_,G1,L1,M1,e1,r1,Mv sr sr',h1⟩⟩;have hc:s1.heap.objs.size<=c:=by
    simp only[List.mem_cons,List.not_mem_nil,or_false]at hc;rcases hc with rfl| rfl| rfl| rfl| rfl
    ·exact abu _ _
    ·exact abu _ _
    ·exact abu _ _
    ·exact aai _
    ·exact abu _ _
   have f:=I1.A5 (H':=H1) hc (I1.aQ.fresh hc);exact f
section
variable{X:Cx}{R:St->XK}{elt iter c:Expr}{x y:Str}{px py tp:Pos}{scope:Scope}{pos:Pos}{ti:DK}{tc:DT}{te:DE}{ys:List Str}{Μ:List Nat}{kk:Nat}
def zD(S:af X scope [x] ys Μ)(hi:JK X R (.Name x px) iter ti)(ht:∀C s H fp,JT (Cx.comp X (x::ys) scope C s H fp) (λ_=>E0) c tc)(he:∀C s H fp,JE (Cx.comp X (x::ys) scope C s H fp) (λ_=>E0) elt te)(hc:X.calm=true:=by rfl)(hs:∀x,foldedSetIterable iter X.env x=pure x:=by intro _;rfl):JE X R (.ListComp elt [⟨.Name x px,iter,[c],0⟩] scope pos) (JH 1 ti (gN 0) tc te Μ):=QX false S hi (dD S (i:=0) rfl) az (cR (Nat.zero_lt_succ 0)) (λC s H fp=>C6 (ht C s H fp)) he hc hs λ_ _ _ _ h=>h
end
def eO{g:Dt->En->(En->Prop)->Prop}{tc:DT}{te:DE}{ρ0:En}{ok:Ms->Prop}{M:Ms}{k:List Dt->Ms->Prop}(ho:ok M)(b:Dt->Bool)(f:Dt->Dt):∀(xs acc:List Dt),(∀x∈xs,∀(q:DQ) (p:Ms->Prop),(b x=true->q (f x) M)->(b x=false->p M)->g x ρ0 λρ'=>tc ρ' M (λb' M1=>match b' with| true=>te ρ' M1 q jP| false=>p M1) jP)->
  k (acc++(xs.filter b).map f) M->gY g tc te ρ0 ok xs acc M k
 | [],acc,_,h=>⟨ho,by simpa using h⟩
 | x::xs,acc,ht,h=>⟨ho,ht x List.mem_cons_self _ _ (λhb=>eO ho b f xs _ (λy hy=>ht y (List.mem_cons_of_mem _ hy)) (by simpa [hb] using h)) λhb=>eO ho b f xs _ (λy hy=>ht y (List.mem_cons_of_mem _ hy)) (by simpa [hb] using h)⟩
def Gf(xs:List V)(k:Nat):ui xs (some (k:Int)) none=xs.drop k:=by
 unfold ui;rw[HT.qx,HT.Ah];by_cases h:k<=xs.length
 ·rw[ach h,abH (by rw[abt];omega)]
 ·rw[Nat.min_eq_right (),List.drop_eq_nil_of_le (Nat.le_refl _),List.drop_eq_nil_of_le ()];simp
section
variable{κ:Type} [DecidableEq κ]
def jm(kvs:List (κ×V))(k:κ):Option V:=(kvs.find? λkv=>decide (kv.1=k)).map (·.2)
def iB(kvs:List (κ×V))(k:κ)(v:V):List (κ×V):=
 if (kvs.any λkv=>decide (kv.1=k))=true then kvs.map (λkv=>if kv.1=k then (kv.1,v) else kv) else kvs++[(k,v)]
def eQ{p:κ×V}{r:List (κ×V)}{k:κ}(e:p.1=k):jm (p::r) k=some p.2:=by simp[jm,List.find?_cons,e]
def dz{p:κ×V}{r:List (κ×V)}{k:κ}(e:¬p.1=k):jm (p::r) k=jm r k:=by simp[jm,List.find?_cons,e]
def nZ(k:κ):∀kvs:List (κ×V),(kvs.any λkv=>decide (kv.1=k))=(jm kvs k).isSome
 | []=>rfl
 | p::r=>by
  rw[abC];by_cases e:p.1=k
  ·simp only[eQ e,decide_eq_true e,Bool.true_or,Option.isSome_some]
  ·rw[dz e,aal e,Bool.false_or];exact nZ k r
def vy(k j:κ)(y:V):∀kvs:List (κ×V),jm kvs k=none->jm (kvs++[(k,y)]) j=if j=k then some y else jm kvs j
 | [],_=>by
  by_cases e:k=j
  ·rw[aar e.symm];exact eQ (p:=(k,y)) e
  ·rw[aaq (λz=>e z.symm)];exact dz (p:=(k,y)) e
 | p::r,hn=>by
  rw[List.cons_append];have hk:¬p.1=k:=λz=>by rw[eQ z]at hn;cases hn
  rw[dz hk]at hn;have ih:=vy k j y r hn;by_cases e:p.1=j
  ·rw[eQ e,eQ e,aaq (λz=>hk (e.trans z))]
  ·rw[dz e,dz e,ih]
def kh(kvs:List (κ×V))(k:κ)(v:V):(iB kvs k v).length<=kvs.length+1:=by
 unfold iB;split
 ·rw[aae];omega
 ·rw[aag,aaI,List.length_nil];omega
def JO{kvs:List (κ×V)}{k:κ}(v:V)(h:jm kvs k=none):iB kvs k v=kvs++[(k,v)]:=by unfold iB;rw[nZ,h];exact aaq @_
def i4.oo{o:Option V}{u:Option Value}(r:i4 o u):o.isSome=u.isSome:=by
 cases o with
 | none=>cases u with
  | none=>rfl
  | some _=>exact(show False from r).elim
 | some _=>cases u with
  | none=>exact(show False from r).elim
  | some _=>rfl
def i4.getD{o:Option V}{u:Option Value}{d:V}{d':Value}(r:i4 o u)(rd:aq d d'):aq (o.getD d) (u.getD d'):=by
 cases o with
 | none=>cases u with
  | none=>exact rd
  | some _=>exact(show False from r).elim
 | some _=>cases u with
  | none=>exact(show False from r).elim
  | some _=>exact r
def KV.val{kvs:List (κ×V)}{vs:List (κ×Value)}(r:KV kvs vs)(k:κ):i4 (jm kvs k) (valueAt vs k):=by
 unfold KV at r
 induction r with
 | nil=>exact True.intro
 | @cons p q ps qs h t ih=>
  have⟨h1,h2⟩:=h;by_cases e:p.1=k
  ·have e':q.1=k:=h1.symm.trans e;have b:valueAt (q::qs) k=some q.2:=by simp[valueAt,List.find?_cons,e']
   rw[eQ e,b];exact h2
  ·have e':¬q.1=k:=λz=>e (h1.trans z);have b:valueAt (q::qs) k=valueAt qs k:=by simp[valueAt,List.find?_cons,e']
   rw[dz e,b];exact ih
def KV.any{kvs:List (κ×V)}{vs:List (κ×Value)}(r:KV kvs vs)(k:κ):(kvs.any λkv=>decide (kv.1=k))=vs.any λkv=>decide (kv.1=k):=by
 unfold KV at r
 induction r with
 | nil=>rfl
 | cons h t ih=>rw[abC,abC,ih,h.1]
def KV.Pk{kvs:List (κ×V)}{vs:List (κ×Value)}(r:KV kvs vs)(k:κ){y:V}{u:Value}(ry:aq y u):
  KV (kvs.map λkv=>if kv.1=k then (kv.1,y) else kv) (vs.map λkv=>if kv.1=k then (kv.1,u) else kv):=by
 unfold KV at r⊢
 induction r with
 | nil=>exact .nil
 | @cons p q ps qs h t ih=>
  rw[aaM,aaM];refine .cons ?_ ih;have⟨h1,h2⟩:=h;by_cases e:p.1=k
  ·rw[aar e,aar (h1.symm.trans e)];exact⟨h1,ry⟩
  ·rw[aaq e,aaq (λz=>e (h1.trans z))];exact⟨h1,h2⟩
def KV.put{kvs:List (κ×V)}{vs:List (κ×Value)}(r:KV kvs vs)(k:κ){y:V}{u:Value}(ry:aq y u):KV (iB kvs k y) (stored vs k u):=by
 unfold iB stored;rw[r.any k];by_cases e:(vs.any λkv=>decide (kv.1=k))=true
 ·rw[aar e,aar e];exact r.Pk k ry
 ·rw[aaq e,aaq e];exact Paired.snoc r ⟨rfl,ry⟩
def KV.length{kvs:List (κ×V)}{vs:List (κ×Value)}(r:KV kvs vs):kvs.length=vs.length:=Paired.length r
end
def qQ{P:Program}{w:World}{k:Key}{u:Value}(r:aq (kV k) u):(bf P w).is k u=true:=by
 cases k with
 | inl i=>have⟨t,e⟩:=(show∃t,u=Value.int i t from r);subst e;exact zP P w i t
 | inr x=>have⟨t,e⟩:=(show∃t,u=Value.str x t from r);subst e;exact yB P w x t
def vb{P:Program}{w:World}:∀{ks:List Key} {us:List Value},ar (ks.map kV) us->ItemsAre (bf P w) ks us
 | [],_,r=>by rw[List.map_nil]at r;cases r;exact .nil
 | k::ks,_,r=>by
  rw[aaM]at r;cases r with
  | cons h t=>exact .cons (qQ h) (vb t)
abbrev KT(H:Hp):List (List Key×V)->List (List Key×Addr×Value)->Prop:=Paired λp q=>p.1=q.1/\H q.2.1=some (.tup (p.1.map kV))/\aq p.2 q.2.2
def KT.val{H:Hp}{kvs:List (List Key×V)}{xs:List (List Key×Addr×Value)}(r:KT H kvs xs)(k:List Key):i4 (jm kvs k) ((atKey xs k).map (·.2)):=by
 induction r with
 | nil=>exact True.intro
 | @cons p q ps qs h t ih=>
  have⟨h1,_,h2⟩:=h;by_cases e:p.1=k
  ·have e':q.1=k:=h1.symm.trans e;have b:atKey (q::qs) k=some q.2:=by simp[atKey,List.find?_cons,e']
   rw[eQ e,b];exact h2
  ·have e':¬q.1=k:=λz=>e (h1.trans z);have b:atKey (q::qs) k=atKey qs k:=by simp[atKey,List.find?_cons,e']
   rw[dz e,b];exact ih
def KT.Pk{H:Hp}{kvs:List (List Key×V)}{xs:List (List Key×Addr×Value)}(r:KT H kvs xs)(k:List Key){y:V}{u:Value}(ry:aq y u):
  KT H (kvs.map λkv=>if kv.1=k then (kv.1,y) else kv) (xs.map (putAt k u)):=by
 induction r with
 | nil=>exact .nil
 | @cons p q ps qs h t ih=>
  rw[aaM,aaM];refine .cons ?_ ih;have⟨h1,h2,h3⟩:=h;unfold putAt;by_cases e:p.1=k
  ·rw[aar e,aar (h1.symm.trans e)];exact⟨h1,h2,ry⟩
  ·rw[aaq e,aaq (λz=>e (h1.trans z))];exact⟨h1,h2,h3⟩
def KT.put{H:Hp}{kvs:List (List Key×V)}{xs:List (List Key×Addr×Value)}(r:KT H kvs xs)(k:List Key){b:Addr}{y:V}{u:Value}(hb:H b=some (.tup (k.map kV)))(ry:aq y u):
  KT H (iB kvs k y) (storedH xs k b u):=by
 have e:(kvs.any λkv=>decide (kv.1=k))=(atKey xs k).isSome:=by rw[nZ,(r.val k).oo,Option.isSome_map]
 unfold iB storedH;rw[e];by_cases q:(atKey xs k).isSome=true
 ·rw[aar q,aar q];exact r.Pk k ry
 ·rw[aaq q,aaq q];exact Paired.snoc r ⟨rfl,hb,ry⟩
def KT.keeps{H H':Hp}{kvs:List (List Key×V)}{xs:List (List Key×Addr×Value)}(r:KT H kvs xs)(ht:∀b ys,H b=some (.tup ys)->H' b=some (.tup ys)):KT H' kvs xs:=
 Paired.Qh r λ_ _ z=>⟨z.1,ht _ _ z.2.1,z.2.2⟩
section
variable{P:Program}{w:World}{H:Hp}{h:Heap}{a:Addr}
def NW{u:HO}(ok:lh P w H h)(e:Rd H a u):bZ P w H h a u:=e.ok ok
def nK{kvs:List (Key×V)}(ok:lh P w H h)(e:Rd H a (.dK kvs)):kvs.length<=sizeLine/\(a==sysModules)=false/\∃vs,KV kvs vs/\h.DictOf (bf P w) a vs:=
 show bZ P w H h a (.dK kvs) from NW ok e
def Dc{kvs:List (Key×V)}(ok:lh P w H h)(e:H a=some (.dK kvs)):kvs.length<=sizeLine/\(a==sysModules)=false/\∃vs,KV kvs vs/\h.DictOf (bf P w) a vs:=nK ok (.inl e)
def qR{ks:List Key}(ok:lh P w H h)(e:H a=some (.tup (ks.map kV))):(tupleKind (bf P w)).is h ks a:=by have⟨_,its,r,o,h1,h2,n,h3⟩:=(show bZ P w H h a (.tup (ks.map kV)) from ok a _ e);exact⟨o,its.toArray,n,h1,h2,h3,by simpa using vb r⟩
def uO{kvs:List (List Key×V)}(ok:lh P w H h)(e:Rd H a (.dT kvs)):kvs.length<=sizeLine/\(a==sysModules)=false/\
  ∃xs,KT H kvs xs/\h.DictOfH (tupleKind (bf P w)) a xs:=by
 have⟨z,y,xs,r,o,es,ep,h1,h2,h3,h4,h5⟩:=(show bZ P w H h a (.dT kvs) from NW ok e);refine⟨z,y,xs,r,o,es,ep,h1,h2,h3,h4,λx hx=>?_,h5⟩;have all:∀{l:List (List Key×V)} {m:List (List Key×Addr×Value)},KT H l m->∀x∈m,(tupleKind (bf P w)).is h x.1 x.2.1:=by
  intro l m q
  induction q with
  | nil=>intro x hx;exact nomatch hx
  | @cons p q ps qs hq t ih=>
   intro x hx;rcases aaA.mp hx with e| hx
   ·subst e;exact qR ok (by rw[<-hq.1];exact hq.2.1)
   ·exact ih x hx
 exact all r x hx
def SF{kvs:List (List Key×V)}(ok:lh P w H h)(e:H a=some (.dT kvs)):kvs.length<=sizeLine/\(a==sysModules)=false/\
  ∃xs,KT H kvs xs/\h.DictOfH (tupleKind (bf P w)) a xs:=uO ok (.inl e)
end
def zI(H:Hp)(a:Addr)(y:V)(r:Option V):Prop:=
 (∃kvs k,Rd H a (.dK kvs)/\y=kV k/\r=jm kvs k)\/∃kvs k b,Rd H a (.dT kvs)/\y= .ref b/\H b=some (.tup (k.map kV))/\r=jm kvs k
def HD(H:Hp)(a:Addr)(y v:V)(H':Hp):Prop:=
 (∃kvs k,H a=some (.dK kvs)/\y=kV k/\kvs.length < sizeLine/\H'=upd H a (.dK (iB kvs k v)))\/
 ∃kvs k b,H a=some (.dT kvs)/\y= .ref b/\H b=some (.tup (k.map kV))/\kvs.length < sizeLine/\H'=upd H a (.dT (iB kvs k v))
def HD.k{H:Hp}{a:Addr}{kvs:List (Key×V)}{k:Key}{v:V}(e:H a=some (.dK kvs))(hl:kvs.length < sizeLine):HD H a (kV k) v (upd H a (.dK (iB kvs k v))):=.inl ⟨kvs,k,e,rfl,hl,rfl⟩
section
variable{X:Cx}{δ:List (Addr×Obj)}{σ:St}{H:Hp}{s:Shared}{a:Addr}{y v:V}{u r:Value}{o:Option V}{A:Around}{E:Value->Shared->Prop}
def Inv.big(I:Inv X δ σ H s):sysModules < s.heap.objs.size:=by have h:mainGlobals < s.heap.objs.size:=(I.mod.glob.keeps I.bk).lt;exact Nat.lt_trans @_ h
def FG{Q:Value->Shared->Prop}(hu:A.units+1 < cLine)(I:Inv X δ σ H s)(g:zI H a y (some v))(ry:aq y u)(h:∀w' s',Inv X δ σ H s'->aq v w'->Q w' s'):
  wpAny (model X.prog X.w) A (getItem (.ref a) u) Q E s:=by
 rcases g with ⟨kvs,k,e,ey,l⟩| ⟨kvs,k,b,e,ey,eb,l⟩
 ·subst ey;have⟨z,hd,vs,rel,dd⟩:=nK I.aQ e;have⟨w',hw,BR⟩:=i4.some_of (v:=v) (o:=valueAt vs k) (by rw[l];exact rel.val k);exact wpAny_getItem_of (qQ ry) dd.mapOf hw (h w' _ (I.tok _) BR)
 ·subst ey;cases(show u=Value.ref b from ry);have⟨z,hd,xs,rel,dd⟩:=uO I.aQ e;have⟨w',hw,BR⟩:=i4.some_of (v:=v) (o:=(atKey xs k).map (·.2)) (by rw[l];exact rel.val k);have⟨p,hp,W_⟩:=abV.mp hw;refine wpAny_getItem_heap (tupleKind_room_in1 hu) (qR I.aQ eb) dd hp ?_;rw[W_];exact h w' _ (I.tok _) BR
def Wb{Q:Value->Shared->Prop}(hu:A.units+1 < cLine)(I:Inv X δ σ H s)(g:zI H a y o)(ry:aq y u)(h:∀s',Inv X δ σ H s'->Q (.bool o.isSome) s'):
  wpAny (model X.prog X.w) A (compareOp .In u (.ref a)) Q E s:=by
 rcases g with ⟨kvs,k,e,ey,l⟩| ⟨kvs,k,b,e,ey,eb,l⟩
 ·subst ey;have⟨z,hd,vs,rel,dd⟩:=nK I.aQ e;refine wpAny_in_of (qQ ry) hd dd.mapOf ?_;rw[<-(rel.val k).oo,<-l];exact h _ (I.tok _)
 ·subst ey;cases(show u=Value.ref b from ry);have⟨z,hd,xs,rel,dd⟩:=uO I.aQ e;refine wpAny_in_heap (tupleKind_room_in1 hu) (qR I.aQ eb) hd dd ?_;have q:=(rel.val k).oo;rw[Option.isSome_map]at q;rw[<-q,<-l];exact h _ (I.tok _)
def qy{h':Heap}{t':Nat}{ob:HO}(I:Inv X δ σ H s)(mu:Q_ (H a))(hs:Heap.SameBut a s.heap h')(he:∃q,h'.get? a=some q)(new:bZ X.prog X.w (upd H a ob) h' a ob):
  Inv X δ σ (upd H a ob) {s with heap:=h',toks:=t'}:=
 I.write (x:=a) (e:=a) mu (.inl rfl) (λb q hb z=>(hs.2 b hb).trans z) he new
def rQ{P:Program}{w:World}{H':Hp}{h':Heap}{kvs:List (Key×V)}{vs:List (Key×Value)}(z:kvs.length<=sizeLine)(hd:(a==sysModules)=false)(rel:KV kvs vs)(dd:h'.DictOf (bf P w) a vs):
  bZ P w H' h' a (.dK kvs):=⟨z,hd,vs,rel,dd⟩
def EH{H':Hp}{Q:Unit->Shared->Prop}(hu:A.units+1 < cLine)(I:Inv X δ σ H s)(g:HD H a y v H')(ry:aq y u)(rv:aq v r)(h:∀s',Inv X δ σ H' s'->Q Unit.unit s'):
  wpAny (model X.prog X.w) A (setItem (.ref a) u r) Q E s:=by
 rcases g with ⟨kvs,k,e,ey,l,eH⟩| ⟨kvs,k,b,e,ey,eb,l,eH⟩
 ·subst ey eH;have⟨z,hd,vs,rel,dd⟩:=Dc I.aQ e;have hz:vs.length<=sizeLine:=by rw[<-rel.length];exact z
  have hl:(iB kvs k v).length<=sizeLine:=by have:=kh kvs k v;omega
  refine wpAny_setItem_pairs (hsz:=hz) (qQ ry) dd λh' L_ hs=>h _ ?_;have he:∃q,h'.get? a=some q:=let ⟨q,_,_,hq,_⟩:=L_;⟨q,hq⟩
  exact qy I (by rw[e];exact True.intro) hs he (rQ hl hd (rel.put k rv) L_)
 ·subst ey eH;cases(show u=Value.ref b from ry);have⟨z,hd,xs,rel,dd⟩:=SF I.aQ e;have hz:xs.length<=sizeLine:=by rw[<-Paired.length rel];exact z
  have hl:(iB kvs k v).length<=sizeLine:=by have:=kh kvs k v;omega
  refine wpAny_setItem_heap (hsz:=hz) (tupleKind_room_in1 hu) (qR I.aQ eb) dd λh' L_ hs=>h _ ?_;have⟨q,es,ep,hq,h2,h3,h4,_,h5⟩:=L_;refine qy I (by rw[e];exact True.intro) hs ⟨q,hq⟩ ⟨hl,hd,_,(rel.put k eb rv).keeps λc ys ec=>?_,q,es,ep,hq,h2,h3,h4,h5⟩;rw[Ζ (Sf ec e nofun)];exact ec
end
section
variable{X:Cx}{δ:List (Addr×Obj)}{σ:St}{H:Hp}{s:Shared}{a:Addr}{kvs:List (Key×V)}{k:Key}{u:Value}{A:Around}{E:Value->Shared->Prop}
def UC{Q:Value->Shared->Prop}(I:Inv X δ σ H s)(e:Rd H a (.dK kvs))(h:∀t s',Inv X δ σ H s'->Q (.int kvs.length t) s'):wpAny (model X.prog X.w) A (call (.builtin "len") [.ref a]) Q E s:=by have⟨z,hd,vs,rel,dd⟩:=nK I.aQ e;refine call_len_dict hd dd (by rw[<-rel.length];rw[sizeLine_eq]at z;omega) ?_;rw[<-rel.length];exact h _ _ (I.tok _)
end
def JB(i:Expr):Prop:=∀ov iv,subscripted i false ov iv=operate [ov,iv] (getItem ov iv)
def Dh{prog:Program}{w:World}{A:Around}{E:Value->Shared->Prop}{s:Shared}{env:Env}{value slice:Expr}{pos:Pos}{T id:String}{Q:Value->Shared->Prop}
  (hl:typeLookup (.type T) "__getitem__"=pure (some (.builtin id))) (hs:JB slice)
  (h:wpAny (model prog w) A (eval value env) (λo s₁=>wpAny (model prog w) A (eval slice env) (λi s₂=>s₂.TypeIs o T/\wpAny (model prog w) A (getItem o i) Q E s₂) E s₁) E s):
  wpAny (model prog w) A (eval (.Subscript value slice pos) env) Q E s:=by
 refine Subscript_ (ab0 h (λo s₁ h₁=>ab0 h₁ (λi s₂ h₂=>?_) λ_ _ x=>x) λ_ _ x=>x);have⟨hT,h₂⟩:=h₂;unfold subscriptTail;refine aaF ?_;rw[getitemInPython_of_ne hT.not_modules];refine aaF (wpAny_specialOf hT hl ?_);have fin:wpAny (model prog w) A (subscripted slice false o i) (λr s₃=>wpAny (model prog w) A (letTemporaryGo value o r >>= λ_=>pure r) Q E s₃) E s₂:=by rw[hs o i];exact wpAny_operating (ab0 h₂ (λr s₃ h₃=>aaF (wpAny_letTemporaryGo (abd h₃))) λ_ _ x=>x)
 first
  | exact abd (aaF fin)
  | exact aaF (abd (aaF fin))
  | exact aaF fin
def yJ{X:Cx}{δ:List (Addr×Obj)}{σ:St}{H:Hp}{s:Shared}{a:Addr}{y:V}{o:Option V}(I:Inv X δ σ H s)(g:zI H a y o):s.TypeIs (.ref a) "dict":=by
 rcases g with ⟨kvs,k,e,_,_⟩| ⟨kvs,k,b,e,_,_,_⟩
 ·have⟨_,_,vs,_,dd⟩:=nK I.aQ e;exact dd.typeIs
 ·have⟨_,_,xs,_,dd⟩:=uO I.aQ e;exact dd.typeIs
def Sj(td ty:TE):TE:=λσ H Q=>td σ H λx H1=>ty σ H1 λy H2=>∃a v,x= .ref a/\zI H2 a y (some v)/\Q v H2
def UM(td ty tv:TE):TS:=λD σ H=>tv σ H λv H1=>td σ H1 λx H2=>ty σ H2 λy H3=>∃a H4,x= .ref a/\HD H3 a y v H4/\D.nx σ H4
section
variable{X:Cx}{o i e value:Expr}{pos pos' t_:Pos}{td ty tv:TE}
def Mq(hu:X.A.units+1 < cLine)(ho:PE X o td)(hi:PE X i ty)(hs:JB i):PE X (.Subscript o i pos) (Sj td ty):=by intro δ s σ H Q I h;refine Dh PySem.F.slot_dict_getitem.lookup hs (bA (ho δ s σ H _ I h) fun u s1 ⟨x,H1,I1,rx,q1⟩=>bA (hi δ s1 σ H1 _ I1 q1) λiv s2 xz=>?_);have⟨y,H2,I2,ry,a,v,ex,g,q2⟩:=xz;subst ex;obtain rfl:u=Value.ref a:=rx;exact⟨yJ I2 g,FG hu I2 g ry λw' s3 I3 BR=>⟨v,H2,I3,BR,q2⟩⟩
def ML(hu:X.A.units+1 < cLine)(ho:PE X o td)(hi:PE X i ty)(hv:PE X value tv)(hs:swapsWith value (some (.Subscript o i pos')) pos.line X.env=pure false):
  PS X (.Assign [.Subscript o i pos'] value pos) (UM td ty tv):=by
 intro δ s σ H D I h;refine wpAny_Assign_Subscript (bA (hv δ s σ H _ I h) fun r s1 ⟨v,H1,I1,rv,q1⟩=>bA (ho δ s1 σ H1 _ I1 q1) fun u s2 ⟨x,H2,I2,rx,q2⟩=>bA (hi δ s2 σ H2 _ I2 q2) λiv s3 xz=>?_) hs;have⟨y,H3,I3,ry,a,H4,ex,g,q3⟩:=xz;subst ex;obtain rfl:u=Value.ref a:=rx;exact EH hu I3 g ry rv λs4 I4=>⟨σ,H4,I4,q3⟩
end
def zt{P:Program}{w:World}{H:Hp}(h:Heap)(hb:sysModules < h.objs.size):bZ P w H (h.push {cls:=.type "dict",data:=.dict #[]}) h.objs.size (.dK []):=
 ⟨abE _,beq_eq_false_iff_ne.mpr (Ne.symm (aaL hb)),[],.nil,Heap.DictOf.new h⟩
def Ow:TE:=λ_ H Q=>∀p,H p=none->Q (.ref p) (upd H p (.dK []))
section
variable{X:Cx}{pos:Pos}
def Kx:PE X (.Dict [] [] pos) Ow:=λδ s σ H Q I h=>
 wpAny_Dict_empty ⟨.ref s.heap.objs.size,_,I.laid (a:=s.heap.objs.size) (o:=.dK []) (t':=s.toks) (λ_ _ q=>aak _ q) (aai _) (zt s.heap I.big),rfl,h _ (I.aQ.fresh (aai _))⟩
end
def wN:List (TE×TE)->St->Hp->(List (V×V)->Hp->Prop)->Prop
 | [],_,H,Q=>Q [] H
 | (tk,tv)::r,σ,H,Q=>tk σ H λx H1=>tv σ H1 λy H2=>wN r σ H2 λps H3=>Q ((x,y)::ps) H3
abbrev VV:List (V×V)->List (Value×Value)->Prop:=Paired λp q=>aq p.1 q.1/\aq p.2 q.2
def T7(X:Cx)(pos:Pos)(keys:List (Option Expr))(values:List Expr)(K2:List (TE×TE)):Prop:=
 ∀(δ:List (Addr×Obj)) (s:Shared) (σ:St) (H:Hp) (Q:List (V×V)->Hp->Prop),Inv X δ σ H s->wN K2 σ H Q->
  wpAny (model X.prog X.w) X.A (evalPairs (pairTrees keys values X.env pos)) (λvs s'=>∃ps H',Inv X δ σ H' s'/\VV ps vs/\Q ps H') X.xe s
def Dx{X:Cx}{pos:Pos}:T7 X pos [] [] []:=λδ s σ H Q I h=>pairTrees_nil_walk ⟨[],H,I,.nil,h⟩
def m_{X:Cx}{pos:Pos}{k v:Expr}{ks:List (Option Expr)}{vs:List Expr}{tk tv:TE}{K2:List (TE×TE)}(hk:PE X k tk)(hv:PE X v tv)(hr:T7 X pos ks vs K2):
  T7 X pos (some k::ks) (v::vs) ((tk,tv)::K2):=λδ s σ H Q I h=>
 pairTrees_cons_walk (bA (hk δ s σ H _ I h) fun u s1 ⟨x,H1,I1,rx,q1⟩=>bA (hv δ s1 σ H1 _ I1 q1) fun w2 s2 ⟨y,H2,I2,ry,q2⟩=>
  bA (hr δ s2 σ H2 _ I2 q2) λws s3 ⟨ps,H3,I3,rel,q3⟩=>⟨(x,y)::ps,H3,I3,.cons ⟨rx,ry⟩ rel,q3⟩)
def ig(kvs more:List (Key×V)):List (Key×V):=more.foldl (λacc kv=>iB acc kv.1 kv.2) kvs
def KV.merge:∀{more:List (Key×V)} {rs:List (Key×Value)} {kvs:List (Key×V)} {vs:List (Key×Value)},KV more rs->KV kvs vs->KV (ig kvs more) (merged vs rs):=by
 intro more rs kvs vs r;unfold KV at r
 induction r generalizing kvs vs with
 | nil=>intro q;exact q
 | @cons p q ps qs h t ih=>
  intro r0;have e:KV (iB kvs p.1 p.2) (stored vs q.1 q.2):=by have:=r0.put p.1 h.2;rw[<-h.1];exact this
  exact ih e
def ix:∀(more kvs:List (Key×V)),(ig kvs more).length<=kvs.length+more.length
 | [],kvs=>by show kvs.length<=kvs.length+0;omega
 | p::r,kvs=>by have h1:=ix r (iB kvs p.1 p.2);have h2:=kh kvs p.1 p.2;show(ig (iB kvs p.1 p.2) r).length<=_;rw[aaI];omega
def sY{P:Program}{w:World}:∀{kvs:List (Key×V)} {ws:List (Value×Value)},VV (kvs.map λkv=>(kV kv.1,kv.2)) ws->∃rs,Carries (bf P w) ws rs/\KV kvs rs
 | [],_,r=>by rw[List.map_nil]at r;cases r;exact⟨[],True.intro,.nil⟩
 | p::kvs,_,r=>by
  rw[aaM]at r;cases r with
  | @cons a b as bs h t=>
   have⟨rs,c,q⟩:=sY (P:=P) (w:=w) t;have⟨b1,b2⟩:=b;exact⟨(p.1,b2)::rs,⟨qQ h.1,rfl,c⟩,.cons ⟨rfl,h.2⟩ q⟩
def RC(K2:List (TE×TE)):TE:=λσ H Q=>∀p,H p=none->wN K2 σ (upd H p (.dK [])) λps H2=>H2 p=some (.dK [])/\∃kvs:List (Key×V),ps=kvs.map (λkv=>(kV kv.1,kv.2))/\kvs.length<=15/\Q (.ref p) (upd H2 p (.dK (ig [] kvs)))
def CP{X:Cx}{pos:Pos}{keys:List (Option Expr)}{values:List Expr}{K2:List (TE×TE)}(h:T7 X pos keys values K2)(z5:keys.all (·.isSome)=true)(hl:keys.length=values.length)(h0:keys≠[])
  (YR:keys.length<=15):PE X (.Dict keys values pos) (RC K2):=by
 intro δ s σ H Q I q;have hn:=I.aQ.fresh (aai s.heap.objs.size);have I1:=I.laid (a:=s.heap.objs.size) (o:=.dK []) (h':=s.heap.push {cls:=.type "dict",data:=.dict #[]}) (t':=s.toks) (λ_ _ q=>aak _ q) (aai _) (zt s.heap I.big);refine wpAny_Dict_walk (knd:=bf X.prog X.w) z5 hl h0 YR (bA (h δ _ σ _ _ I1 (q _ hn)) λws s2 xz=>?_);have⟨ps,H2,I2,rel,e,kvs,ep,lk,q2⟩:=xz;subst ep;have⟨rs,c,rk⟩:=sY (P:=X.prog) (w:=X.w) rel;have⟨z,hd,Zs,r0,dd⟩:=Dc I2.aQ e;cases r0;refine⟨rs,c,dd,λh' L_ hs=>⟨.ref s.heap.objs.size,_,?_,rfl,q2⟩⟩;have hz:(ig [] kvs).length<=sizeLine:=by have h1:=ix kvs [];rw[List.length_nil]at h1;rw[sizeLine_eq];omega
 have he:∃q,h'.get? s.heap.objs.size=some q:=let ⟨q,_,_,hq,_⟩:=L_;⟨q,hq⟩
 exact qy I2 (by rw[e];exact True.intro) hs he (rQ hz hd (rk.merge .nil) L_)
structure M1(X:Cx)(o:Expr)(m:Str)(apos:Pos)(e:Expr)(aU:Pos):Prop where
 base:attributeBase o m X.env (eval o X.env)=eval o X.env
 Wy:((backTo aU (starEach [e] X.env)).all (λx=> !x.1)&&(backToKw aU (keywordEach [] X.env)).all (λx=>x.1.isSome)
  &&decide (([e]:List Expr).length+([]:List Keyword).length+(if ([]:List Keyword).isEmpty then 0 else 1) < 30))=true
 line:(apos.endLine==aU.line)=true
 trees:backTo aU (starEach [e] X.env)=[(false,eval e X.env)]
structure M2(X:Cx)(o:Expr)(m:Str)(apos:Pos)(e f:Expr)(aU:Pos):Prop where
 base:attributeBase o m X.env (eval o X.env)=eval o X.env
 Wy:((backTo aU (starEach [e,f] X.env)).all (λx=> !x.1)&&(backToKw aU (keywordEach [] X.env)).all (λx=>x.1.isSome)
  &&decide (([e,f]:List Expr).length+([]:List Keyword).length+(if ([]:List Keyword).isEmpty then 0 else 1) < 30))=true
 line:(apos.endLine==aU.line)=true
 trees:backTo aU (starEach [e,f] X.env)=[(false,eval e X.env),(false,eval f X.env)]
def VL(H:Hp)(a:Addr):Prop:=(∃kvs,Rd H a (.dK kvs))\/∃kvs,Rd H a (.dT kvs)
def IG{X:Cx}{δ:List (Addr×Obj)}{σ:St}{H:Hp}{s:Shared}{a:Addr}(I:Inv X δ σ H s)(d:VL H a):
  s.TypeIs (.ref a) "dict"/\(∀b,Value.ref a= .ref b->∃ob,s.heap.get? b=some ob/\ob.dict=none)/\(a==sysModules)=false:=by
 rcases d with ⟨kvs,e⟩| ⟨kvs,e⟩
 ·have⟨_,hd,vs,_,dd⟩:=nK I.aQ e;refine⟨dd.typeIs,λb q=>?_,hd⟩;cases q;have⟨ob,_,_,h1,h2,_⟩:=dd;exact⟨ob,h1,h2.2.1⟩
 ·have⟨_,hd,xs,_,dd⟩:=uO I.aQ e;refine⟨dd.typeIs,λb q=>?_,hd⟩;cases q;have⟨ob,_,_,h1,h2,_⟩:=dd;exact⟨ob,h1,h2.2.1⟩
section
variable{X:Cx}{δ:List (Addr×Obj)}{σ:St}{H:Hp}{s:Shared}{a:Addr}{y d:V}{u r:Value}{o:Option V}{A:Around}{E:Value->Shared->Prop}
def PC{Q:Value->Shared->Prop}(hu:A.units+1 < cLine)(I:Inv X δ σ H s)(g:zI H a y o)(ry:aq y u)(rd:aq d r)(h:∀w' s',Inv X δ σ H s'->aq (o.getD d) w'->Q w' s'):
  wpAny (model X.prog X.w) A (call (.builtin "dict.get") [.ref a,u,r]) Q E s:=by
 rcases g with ⟨kvs,k,e,ey,l⟩| ⟨kvs,k,b,e,ey,eb,l⟩
 ·subst ey;have⟨z,hd,vs,rel,dd⟩:=nK I.aQ e;refine call_meetsIn PySem.F.slot_dict_get dd.typeIs PySem.F.entry_dict_get (PySem.F.args_dict_get_3 _ _ _) (meets_dict_get_default (bf X.prog X.w) a (qQ ry) hd r) ⟨_,dd.mapOf,h _ _ (I.tok _) ?_⟩;rw[l];exact(rel.val k).getD rd
 ·subst ey;cases(show u=Value.ref b from ry);have⟨z,hd,xs,rel,dd⟩:=uO I.aQ e;refine call_meetsIn PySem.F.slot_dict_get dd.typeIs PySem.F.entry_dict_get (PySem.F.args_dict_get_3 _ _ _) (meetsH_dict_get_default (tupleKind (bf X.prog X.w)) a b hd r) ⟨tupleKind_room_in1 hu,k,xs,qR I.aQ eb,dd,h _ _ (I.tok _) ?_⟩;rw[l];exact(rel.val k).getD rd
end
def Py(td ty tx:TE):TE:=λσ H Q=>td σ H λx H1=>∃a,x= .ref a/\VL H1 a/\ty σ H1 λy H2=>tx σ H2 λz H3=>∃o,zI H3 a y o/\Q (o.getD z) H3
section
variable{X:Cx}{o e f:Expr}{apos aU:Pos}{td ty tx:TE}
def Ho(hu:X.A.units+1 < cLine)(ho:PE X o td)(he:PE X e ty)(hf:PE X f tx)(m:M2 X o "get" apos e f aU):PE X (.Call (.Attribute o "get" apos) [e,f] [] aU) (Py td ty tx):=by
 intro δ s σ H Q I h;refine wpAny_Call_method m.base m.Wy m.line PySem.F.plainAttrs_dict PySem.F.slot_dict_get PySem.F.type_dict_get (bA (ho δ s σ H _ I h) λu s1 xz=>?_);have⟨x,H1,I1,rx,a,ex,d,q1⟩:=xz;subst ex;obtain rfl:u=Value.ref a:=rx;have⟨t1,t2,_⟩:=IG I1 d;refine⟨t1,t2,?_⟩;rw[m.trees]
 refine Calls.callWith_builtin rfl (Calls.evalArgs_plain (Calls.spliced_cons (bA (he δ s1 σ H1 _ I1 q1) fun iv s2 ⟨y,H2,I2,ry,q2⟩=>
  Calls.spliced_cons (bA (hf δ s2 σ H2 _ I2 q2) fun fv s3 ⟨z,H3,I3,rz,ov,g,q3⟩=>Calls.spliced_nil ?_))))
 exact PC hu I3 g ry rz λw' s4 I4 BR=>⟨_,H3,I4,BR,q3⟩
end
section
variable{X:Cx}{δ:List (Addr×Obj)}{σ:St}{H:Hp}{s:Shared}{a:Addr}{kvs:List (Key×V)}{A:Around}{E:Value->Shared->Prop}
def Hj{Q:Value->Shared->Prop}(I:Inv X δ σ H s)(e:Rd H a (.dK kvs))(h:∀p s',H p=none->Inv X δ σ (upd H p (.dK kvs)) s'->Q (.ref p) s'):wpAny (model X.prog X.w) A (call (.type "dict") [.ref a]) Q E s:=by have⟨z,hd,vs,rel,dd⟩:=nK I.aQ e;refine kt_call_dict hd dd (by rw[<-rel.length];exact z) λh' L_ hs=>?_;refine h _ _ (I.aQ.fresh (aai _)) (I.laid (a:=s.heap.objs.size) (o:=.dK kvs) (t':=s.toks) (λb q hq=>?_) (aai _) (rQ z (beq_eq_false_iff_ne.mpr (Ne.symm (aaL I.big))) rel L_));exact(hs.2 b (aaL (aap hq))).trans (aak _ hq)
end
end L2
namespace Att
open PySem PySem.W PySem.Calls PyProof.Rows
end Att
namespace L2
open PySem PySem.Spec PyProof.Rows
end L2
/- THE XW K7 (shape;LID,My.* are Tj):
  My.Adr:a structure of LV addresses Xe VE Tg names (classes,FH);My.Txt K t:a structure (Prop) of LV equations qu K;
  My.AW:{K} {implicit addresses ..} (e1:nsIn K mainGlobals "law"=some (some (.ref f))) (e2:K.lookup f=some ⟨oc,od,.func (fnOf "law" "law" params body scope dV kV doc pm an bq ct),sl⟩) (e3:codeIn K bq "law"=true) .. :∃t,My.Txt K t
set_option maxRecDepth 100000 in
set_option maxHeartbeats 0 in
def PySem.Challenge.cw_LID_holds : PySem.Challenge.rw_LID.Holds := by
 w_on;o_law;k_head;(case hw=>w_witness2)
 k_fill
 refine L2.vX (l:=PySem.Challenge.rw_LID) (n:=63) (k:=40) (x:="script") (CX:=fun w=>..) (sp:=fun _=>My.Pb) rfl @_ rfl ⟨rfl,@_,@_⟩ (fun w h Y=>PySem.W.kIn_of Y) ?F ?S ?C
 case F=>
  intro w mg fa h KX G LG;have T:∃t,My.Txt (L2.Xw KX) t:=by
   dsimp only[L2.Xw]
   refine' My.AW ?e1 ?e2 ?e3 ..
   (case e1=>PySem.W.k_is)
   (case e2=>PySem.W.k_is)
   ..
  have⟨t,T⟩:=T;have e0:=LG.symm.trans (PySem.W.mg_of KX G T.law);cases e0;exact⟨_,λs u=>.of_eq rfl,λbase kb nb=>My.Cj T kb nb⟩
 case S=>exactλw H a ns hl hO hS=>..
 case C=>exact ..
(LV tactic k_is has no namespace:write k_is) -/
namespace L2
open PySem PySem.Spec PyProof.Rows
section
variable{X:Cx}
def EE:dw X (.builtin "len") (λxs H Q=>∃a kvs,xs=[V.ref a]/\H a=some (.dK kvs)/\Q (.int kvs.length) H):=by intro δ s σ H xs us Q I r h;have⟨a,kvs,rfl,ha,q⟩:=h;have⟨u,rfl,ru⟩:=kC r;cases ru;exact UC I (.inl ha) λt s' I'=>⟨.int kvs.length,H,I',⟨t,rfl⟩,q⟩
end
variable{X:Cx}{G:Hp}{L:List Addr}{d:Dt}{v:V}{R:St->XK}{o e iter tg:Expr}{to te ta tb:DE}{p a:Addr}{k' n kk:Nat}{δ:List (Addr×Obj)}{σ:St}{s:Shared}{b:Bool}{M:Ms}{ds:List Dt}{vs:List V}{t:DA}{apos aU:Pos}{scope:Scope}{ti:DK}{ys:List Str}{Μ:List Nat}{ks:List Key}{P:Program}{kvs:List (Key×V)}
def Am:Dt->Option Key
 | .int i=>some (.inl i)
 | .str z=>some (.inr z)
 | _=>none
def bH(ks:List Key)(ds:List Dt)(k:Key):Option Dt:=((ks.zip ds).find? λp=>decide (p.1=k)).map (·.2)
def jr{K:fv}{k:Key}(h:Am d=some k)(n:Den K G L d v):v=kV k:=by
 cases d with
 | int i=>cases h;exact n
 | str z=>cases h;exact n
 | _=>cases h
def kY{K:fv}{G:Hp}{L:List Addr}{k:Key}:∀{ks:List Key} {ds:List Dt} {vs:List V} {d:Dt},Ξ K G L ds vs->bH ks ds k=some d->∃v,jm (ks.zip vs) k=some v/\Den K G L d v
 | [],_,_,_,_,h=>by cases h
 | _::_,[],_,_,_,h=>by cases h
 | c::ks,d0::ds,_,d,⟨v0,vs,e,n0,n⟩,h=>by
  subst e;rw[abg];by_cases hc:c=k
  ·have h':bH (c::ks) (d0::ds) k=some d0:=by unfold bH;rw[List.zip_cons_cons,List.find?_cons_of_pos (by simpa using hc)];rfl
   rw[h']at h;cases h;exact⟨v0,eQ hc,n0⟩
  ·have h':bH (c::ks) (d0::ds) k=bH ks ds k:=by unfold bH;rw[List.zip_cons_cons,List.find?_cons_of_neg (by simpa using hc)]
   rw[h']at h;have⟨v,h1,h2⟩:=kY n h;exact⟨v,by rw[dz hc];exact h1,h2⟩
def SX(to ti:DE):DE:=λρ M q x=>to ρ M (λd M1=>ti ρ M1 (λdi M2=>∃k ks ds key v,d= .loc k/\M2[k]? =some (.iC ks ds)/\Am di=some key/\bH ks ds key=some v/\q v M2) x) x
def pk:∀(more acc:List (Key×V)),(∀p∈more,jm acc p.1=none)->(more.map (·.1)).Nodup->ig acc more=acc++more
 | [],acc,_,_=>by show acc=acc++[];rw[aaV]
 | p::more,acc,h,nd=>by
  show ig (iB acc p.1 p.2) more=_;rw[JO p.2 (h p aad),pk more _ (λq hq=>?_) (abz.mp nd).2]
  ·simp
  ·have e:=vy p.1 q.1 p.2 acc (h p aad);rw[show(acc++[(p.1,p.2)])=acc++[(p.1,p.2)] from rfl,e,aaq]
   ·exact h q (aac _ hq)
   ·intro z;exact(abz.mp nd).1 (aam.mpr ⟨q,hq,z⟩)
def SK(z:Str):TE:=λ_ H Q=>Q (.str z) H
def UR{z:Str}{k:Nat}{pos:Pos}:PE X (.Constant (.str z) k pos) (SK z):=Kk
def Aa:∀(kvs:List (Str×Str)) (σ:St) (H:Hp) (Q:List (V×V)->Hp->Prop),Q (kvs.map λp=>(V.str p.1,V.str p.2)) H->wN (kvs.map λp=>(SK p.1,SK p.2)) σ H Q
 | [],_,_,_,h=>h
 | p::kvs,σ,H,Q,h=>Aa kvs σ H (λps H3=>Q ((.str p.1,.str p.2)::ps) H3) h
def Ds:∀kvs:List (Str×Str),(kvs.map λp=>((Sum.inr p.1:Key),V.str p.2))=(kvs.map λp=>(Sum.inr p.1:Key)).zip (kvs.map λp=>V.str p.2)
 | []=>rfl
 | p::kvs=>by rw[aaM,aaM,aaM,abg,<-Ds kvs]
def Dg{K:fv}{G:Hp}{L:List Addr}:∀kvs:List (Str×Str),Ξ K G L (kvs.map λp=>Dt.str p.2) (kvs.map λp=>V.str p.2)
 | []=>rfl
 | _::kvs=>⟨_,_,rfl,rfl,Dg kvs⟩
section
variable{i:Expr}{ti:DE}{pos p:Pos}
def wz(hr:bU k' X.A)(ho:JE X R o to)(hi:JE X R i ti)(hs:JB i:=by intro _ _;rfl):JE X R (.Subscript o i pos) (SX to ti):=
 .of (Mq (DV hr) ho hi hs) λσ H G L ρ M q x rl n h hx=>by refine⟨G,L,ρ,M,_,x,rl,n,h,hx,λv H1 xz=>?_⟩;have⟨d1,G1,L1,M1,e1,r1,n1,h1⟩:=xz;refine⟨G1,L1,ρ,M1,_,x,r1,n.mono e1,h1,hx.on e1,λv2 H2 xz=>?_⟩;have⟨d2,G2,L2,M2,e2,r2,n2,k,ks,ds,key,y,ed,hm,hk,hg,h2⟩:=xz;subst ed;have⟨a,rfl,K4⟩:=n1;have CA:=e2.l.get K4;have⟨_,vs,hH,hl,dn⟩:=r2.fK k a _ CA hm;have⟨u,hu,du⟩:=kY dn hg;refine⟨a,u,rfl,.inl ⟨_,key,.inl hH,jr hk n2,hu.symm⟩,fin_same (e1.trans e2) r2 du h2⟩
def MG{keys:List (Option Expr)}{values:List Expr}{kvs:List (Str×Str)}(hk0:T7 X pos keys values (kvs.map λp=>(SK p.1,SK p.2)))(nd:(kvs.map (·.1)).Nodup)(z5:keys.all (·.isSome)=true:=by rfl)(hl:keys.length=values.length:=by rfl)(h0:keys≠[]:=by simp)(YR:keys.length<=15:=by decide)(hk:kvs.length<=15:=by decide):
  JE X R (.Dict keys values pos) (λ_ M q _=>q (.loc M.length) (M++[.iC (kvs.map λp=>Sum.inr p.1) (kvs.map λp=>.str p.2)])):=
 .of (CP hk0 z5 hl h0 YR) λσ H G L ρ M q x rl n h hx=>by
  intro p hp;refine Aa kvs σ _ _ ⟨Ψ,kvs.map (λp=>(Sum.inr p.1,V.str p.2)),by rw[aaG];rfl,by rw[aae];exact hk,?_⟩
  rw[pk _ [] (λ_ _=>rfl) (by
   rw[aaG];have:(kvs.map ((λx:Key×V=>x.1) ∘ λp=>(Sum.inr p.1,V.str p.2)))=(kvs.map (·.1)).map (Sum.inr (α:=Int)):=by rw[aaG];rfl
   rw[this]
   exact List.Pairwise.map _ (λa b (h:a≠b) z=>h (Sum.inr.inj z)) nd),aaH]
  have e2:upd (upd H p (HO.dK [])) p (.dK (kvs.map λp=>(Sum.inr p.1,V.str p.2)))=upd H p (.dK (kvs.map λp=>(Sum.inr p.1,V.str p.2))):=by
   funext b;unfold upd;split <;> rfl
  rw[e2];rw[Ds kvs];have dn:=Dg (K:=X.K) (G:=G) (L:=L) kvs;exact⟨.loc M.length,G,L++[p],_,rl.Uk hp,rl.HS (m:=.iC (kvs.map λp=>Sum.inr p.1) (kvs.map λp=>.str p.2)) hp ⟨_,Ψ,by rw[List.length_map,List.length_map],Ξ.mono (.refl _) ⟨[p],rfl⟩ _ _ dn⟩,⟨p,rfl,by rw[<-rl.len,List.getElem?_append_right (Nat.le_refl _)];simp⟩,h⟩
end
inductive CQ(K:fv)(H:Hp):Nat->V->V->Bool->Prop
 | flat {n:Nat} {x y:V} (h1:eD x=true) (h2:eD y=true):CQ K H n x y (tX x y)
 | tup {n:Nat} {a b:Addr} {xs ys:List V} {f:Nat->Bool} (h1:mQ K H a xs) (h2:mQ K H b ys) (h:∀j x y,xs[j]? =some x->ys[j]? =some y->CQ K H n x y (f j)):CQ K H (n+1) (.ref a) (.ref b) ((List.range (min xs.length ys.length)).all f&&xs.length==ys.length)
 | lst {n:Nat} {a b:Addr} {xs ys:List V} {f:Nat->Bool} (h1:gu K H a xs) (h2:gu K H b ys) (hl:xs.length=ys.length) (h:∀j x y,xs[j]? =some x->ys[j]? =some y->CQ K H n x y (f j)):CQ K H (n+1) (.ref a) (.ref b) ((List.range xs.length).all f)
 | len {n:Nat} {a b:Addr} {xs ys:List V} (h1:gu K H a xs) (h2:gu K H b ys) (hl:xs.length≠ys.length):CQ K H (n+1) (.ref a) (.ref b) false
def IJ{x:V}(h:eD x=true):tX x x=true:=by cases x <;> first| rfl| (show(_==_)=true;simp)| cases h
section
variable{H:Hp}
def y3(I:Inv X δ σ H s){x y:V}(h:CQ X.K H n x y b):x=y->b=true:=by
 induction h with
 | flat h1 h2=>intro e;subst e;exact IJ h1
 | @tup n a b xs ys f h1 h2 h ih=>
  intro e;cases e;cases I.kS h1 h2;rw[Nat.min_self,ab9,Bool.and_true];refine aaS.mpr λj hj=>?_;have hj:=aa9.mp hj;exact ih j _ _ (aaa hj) (aaa hj) rfl
 | @lst n a b xs ys f h1 h2 hl h ih=>
  intro e;cases e;cases I.cj h1 h2;refine aaS.mpr λj hj=>?_;have hj:=aa9.mp hj;exact ih j _ _ (aaa hj) (aaa hj) rfl
 | len h1 h2 hl=>
  intro e;cases e;cases I.cj h1 h2;exact aaC rfl hl
def bN{xs:List V}{its:List Value}(r:ar xs its){j:Nat}(h:j < its.toArray.size):∃x,xs[j]? =some x/\aq x its.toArray[j]:=by
 have hj:j < its.length:=by simpa using h
 have hx:j < xs.length:=by rw[r.length];exact hj
 have⟨u,g,ru⟩:=r.get (aaa hx);rw[aaa hj]at g;cases g;exact⟨_,List.getElem?_eq_getElem hx,by simpa using ru⟩
def sd(I:Inv X δ σ H s){x y:V}(h:CQ X.K H n x y b):∀{A:Around} {u v:Value},aq x u->aq y v->A.units+n < cLine->SeqAt.EqAt A s u v b:=by
 induction h with
 | flat h1 h2=>exactλru rv _=>wI ru rv h1 h2
 | @tup n a b xs ys f h1 h2 h ih=>
  intro A u v ru rv hu;cases ru;cases rv;by_cases e:a=b
  ·have:=y3 I (.tup h1 h2 h) (aaP V.ref e);rw[this,e];exact SeqAt.EqAt.same _
  ·have⟨i1,v1,t1,_⟩:=I.tuple h1;have⟨i2,v2,t2,_⟩:=I.tuple h2
   have:=SeqAt.RcAt.tuples (A:=A) (e:=f) (show s.heap.IsTuple a i1.toArray from t1) (show s.heap.IsTuple b i2.toArray from t2) () (λj g1 g2=>by
    have⟨x,hx,rx⟩:=bN v1 g1;have⟨y,hy,ry⟩:=bN v2 g2
    exact ih j x y hx hy rx ry (by show A.units+1+n < cLine;omega))
   rw[aay,aay,<-v1.length,<-v2.length]at this;exact SeqAt.EqAt.of_refs e this
 | @lst n a b xs ys f h1 h2 hl h ih=>
  intro A u v ru rv hu;cases ru;cases rv;by_cases e:a=b
  ·have:=y3 I (.lst h1 h2 hl h) (aaP V.ref e);rw[this,e];exact SeqAt.EqAt.same _
  ·have⟨i1,v1,t1,_⟩:=I.list h1;have⟨i2,v2,t2,_⟩:=I.list h2
   have:=SeqAt.RcAt.lists (A:=A) (e:=f) t1.isList t2.isList (by rw[aay,aay,<-v1.length,<-v2.length];exact hl) () (λj g1 g2=>by
    have⟨x,hx,rx⟩:=bN v1 g1;have⟨y,hy,ry⟩:=bN v2 g2
    exact ih j x y hx hy rx ry (by show A.units+1+n < cLine;omega))
   rw[aay,<-v1.length]at this;exact SeqAt.EqAt.of_refs e this
 | @len n a b xs ys h1 h2 hl=>
  intro A u v ru rv hu;cases ru;cases rv;have e:a≠b:=λe=>by subst e;cases I.cj h1 h2;exact hl rfl
  have⟨i1,v1,t1,_⟩:=I.list h1;have⟨i2,v2,t2,_⟩:=I.list h2;exact SeqAt.EqAt.of_refs e (SeqAt.RcAt.lists_lengths t1.isList t2.isList (by rw[List.size_toArray,List.size_toArray,<-v1.length,<-v2.length];simpa using hl) ())
end
def T2(K:fv)(n:Nat):R2:=λx y H Q=>∃a b c,x= .ref a/\y= .ref b/\CQ K H n x y c/\Q (.bl c) H
def TZ(K:fv)(n:Nat):R2:=λx y H Q=>∃a b c,x= .ref a/\y= .ref b/\CQ K H n x y c/\Q (.bl (!c)) H
section
def Qt(hu:X.A.units+n < cLine):jF X (compareOp .Eq) (T2 X.K n):=by
 intro δ s σ H x y v u Q I rx ry h;have⟨a,b,c,rfl,rfl,h,q⟩:=h;cases rx;cases ry;cases h with
 | flat h1 h2=>cases h1
 | @tup n _ _ xs ys f h1 h2 h=>
  have⟨i1,v1,t1,_⟩:=I.tuple h1;have⟨i2,v2,t2,_⟩:=I.tuple h2;refine SeqAt.eq_tupleAt (e:=f) (show s.heap.IsTuple a i1.toArray from t1) (show s.heap.IsTuple b i2.toArray from t2) () (λj g1 g2=>?_) ?_
  ·have⟨x,hx,rx⟩:=bN v1 g1;have⟨y,hy,ry⟩:=bN v2 g2;exact sd I (h j x y hx hy) rx ry (by show X.A.units+1+n < cLine;omega)
  ·rw[aay,aay,<-v1.length,<-v2.length];exact⟨.bl _,H,I,rfl,q⟩
 | @lst n _ _ xs ys f h1 h2 hl h=>
  have⟨i1,v1,t1,_⟩:=I.list h1;have⟨i2,v2,t2,_⟩:=I.list h2;refine SeqAt.eq_listAt (e:=f) t1.isList t2.isList (by rw[aay,aay,<-v1.length,<-v2.length];exact hl) () (λj g1 g2=>?_) ?_
  ·have⟨x,hx,rx⟩:=bN v1 g1;have⟨y,hy,ry⟩:=bN v2 g2;exact sd I (h j x y hx hy) rx ry (by show X.A.units+1+n < cLine;omega)
  ·rw[aay,<-v1.length];exact⟨.bl _,H,I,rfl,q⟩
 | @len n _ _ xs ys h1 h2 hl=>
  have⟨i1,v1,t1,_⟩:=I.list h1;have⟨i2,v2,t2,_⟩:=I.list h2;exact SeqAt.eq_list_lengthsAt t1.isList t2.isList (by rw[List.size_toArray,List.size_toArray,<-v1.length,<-v2.length];simpa using hl) () ⟨.bl _,H,I,rfl,q⟩
def OZ(hu:X.A.units+n < cLine):jF X (compareOp .NotEq) (TZ X.K n):=by
 intro δ s σ H x y v u Q I rx ry h;have⟨a,b,c,rfl,rfl,h,q⟩:=h;cases rx;cases ry;cases h with
 | flat h1 h2=>cases h1
 | @tup n _ _ xs ys f h1 h2 h=>
  have⟨i1,v1,t1,_⟩:=I.tuple h1;have⟨i2,v2,t2,_⟩:=I.tuple h2;refine SeqAt.RcNeAt.tuples (e:=f) (show s.heap.IsTuple a i1.toArray from t1) (show s.heap.IsTuple b i2.toArray from t2) () (λj g1 g2=>?_) _ _ _ _ ?_
  ·have⟨x,hx,rx⟩:=bN v1 g1;have⟨y,hy,ry⟩:=bN v2 g2;exact sd I (h j x y hx hy) rx ry (by show X.A.units+1+n < cLine;omega)
  ·rw[aay,aay,<-v1.length,<-v2.length];exact⟨.bl _,H,I,rfl,q⟩
 | @lst n _ _ xs ys f h1 h2 hl h=>
  have⟨i1,v1,t1,_⟩:=I.list h1;have⟨i2,v2,t2,_⟩:=I.list h2;refine SeqAt.RcNeAt.lists (e:=f) t1.isList t2.isList (by rw[aay,aay,<-v1.length,<-v2.length];exact hl) () (λj g1 g2=>?_) _ _ _ _ ?_
  ·have⟨x,hx,rx⟩:=bN v1 g1;have⟨y,hy,ry⟩:=bN v2 g2;exact sd I (h j x y hx hy) rx ry (by show X.A.units+1+n < cLine;omega)
  ·rw[aay,<-v1.length];exact⟨.bl _,H,I,rfl,q⟩
 | @len n _ _ xs ys h1 h2 hl=>
  have⟨i1,v1,t1,_⟩:=I.list h1;have⟨i2,v2,t2,_⟩:=I.list h2;exact SeqAt.RcNeAt.lists_lengths t1.isList t2.isList (by rw[List.size_toArray,List.size_toArray,<-v1.length,<-v2.length];simpa using hl) () _ _ _ _ ⟨.bl _,H,I,rfl,q⟩
end
def jH(M:Ms):Dt->Option (List Dt)
 | .lst xs=>some xs
 | .ip ns=>some (ns.map .int)
 | .loc k=>match M[k]? with
  | some (.lst xs)=>some xs
  | _=>none
 | _=>none
inductive pV(M:Ms):Nat->Dt->Dt->Bool->Prop
 | flat {n:Nat} {d e:Dt} {x y:V} (h1:vo d=some x) (h2:vo e=some y):pV M n d e (tX x y)
 | tup {n:Nat} {ds es:List Dt} {f:Nat->Bool} (h:∀j d e,ds[j]? =some d->es[j]? =some e->pV M n d e (f j)):pV M (n+1) (.tup ds) (.tup es) ((List.range (min ds.length es.length)).all f&&ds.length==es.length)
 | lst {n:Nat} {d e:Dt} {ds es:List Dt} {f:Nat->Bool} (h1:jH M d=some ds) (h2:jH M e=some es) (hl:ds.length=es.length) (h:∀j d e,ds[j]? =some d->es[j]? =some e->pV M n d e (f j)):pV M (n+1) d e ((List.range ds.length).all f)
 | len {n:Nat} {d e:Dt} {ds es:List Dt} (h1:jH M d=some ds) (h2:jH M e=some es) (hl:ds.length≠es.length):pV M (n+1) d e false
def fi{K:fv}{H:Hp}{xs:List Dt}(r:Rl K G L M H)(n:Den K G L d v)(h:jH M d=some xs):∃a vs,v= .ref a/\gu K H a vs/\Ξ K G L xs vs:=by
 cases d with
 | lst ds=>cases h;have⟨a,vs,rfl,e,m⟩:=n;exact⟨a,vs,rfl,.of (r.sub _ _ e),m⟩
 | ip ns=>cases h;have⟨a,rfl,e⟩:=n;exact⟨a,_,rfl,r.sub.seq e,iU⟩
 | loc k=>
  have⟨a,rfl,e⟩:=n;have h:(match M[k]? with| some (.lst xs)=>some xs| _=>none)=some xs:=h;split at h
  ·rename_i ys hm;cases h;have⟨_,vs,e1,m1⟩:=r.fK k a _ e hm;exact⟨a,vs,rfl,.of e1,m1⟩
  ·cases h
 | _=>cases h
def Ξ.back{K:fv}{i:Nat}(h:Ξ K G L ds vs)(e:vs[i]? =some v):∃d,ds[i]? =some d/\Den K G L d v:=by
 have hi:i < ds.length:=by rw[h.length];exact(aaf.mp e).1
 have⟨v',e',n⟩:=h.get (aaa hi);rw[e]at e';cases e';exact⟨_,aaa hi,n⟩
def HG{K:fv}{H:Hp}(r:Rl K G L M H){e:Dt}(h:pV M n d e b):∀{v u:V},Den K G L d v->Den K G L e u->CQ K H n v u b:=by
 induction h with
 | flat h1 h2=>
  intro v u n1 n2;have⟨rfl,f1⟩:=nU h1 n1;have⟨rfl,f2⟩:=nU h2 n2;exact .flat f1 f2
 | @tup n ds es f h ih=>
  intro v u n1 n2;have⟨a,vs,rfl,e1,m1⟩:=n1;have⟨b,us,rfl,e2,m2⟩:=n2;rw[m1.length,m2.length];refine .tup (.of (r.sub _ _ e1)) (.of (r.sub _ _ e2)) λj x y hx hy=>?_;have⟨d,hd,dn⟩:=m1.back hx;have⟨e,he,en⟩:=m2.back hy;exact ih j d e hd he dn en
 | @lst n d e ds es f h1 h2 hl h ih=>
  intro v u n1 n2;have⟨a,vs,rfl,s1,m1⟩:=fi r n1 h1;have⟨b,us,rfl,s2,m2⟩:=fi r n2 h2;rw[m1.length];refine .lst s1 s2 (by rw[<-m1.length,<-m2.length];exact hl) λj x y hx hy=>?_;have⟨d,hd,dn⟩:=m1.back hx;have⟨e,he,en⟩:=m2.back hy;exact ih j d e hd he dn en
 | @len n d e ds es h1 h2 hl=>
  intro v u n1 n2;have⟨a,vs,rfl,s1,m1⟩:=fi r n1 h1;have⟨b,us,rfl,s2,m2⟩:=fi r n2 h2;exact .len s1 s2 (by rw[<-m1.length,<-m2.length];exact hl)
def I_(M:Ms)(d:Dt):Prop:=(∃ds,d= .tup ds)\/∃xs,jH M d=some xs
def qC{K:fv}{H:Hp}(r:Rl K G L M H)(n:Den K G L d v)(h:I_ M d):∃a,v= .ref a:=by
 rcases h with ⟨ds,rfl⟩| ⟨xs,h⟩
 ·have⟨a,vs,rfl,_⟩:=n;exact⟨a,rfl⟩
 ·have⟨a,vs,rfl,_⟩:=fi r n h;exact⟨a,rfl⟩
def RQ(n:Nat):Dt->Dt->Ms->DQ->Prop:=λd e M q=>∃b,I_ M d/\I_ M e/\pV M n d e b/\q (.bl b) M
def TX(n:Nat):Dt->Dt->Ms->DQ->Prop:=λd e M q=>∃b,I_ M d/\I_ M e/\pV M n d e b/\q (.bl (!b)) M
def Wa{K:fv}:pF K (T2 K n) (RQ n):=by intro G0 L0 H0 G L M H v1 v2 d1 d2 q e r n1 n2 ⟨b,h1,h2,h,hq⟩;have⟨a,rfl⟩:=qC r n1 h1;have⟨a',rfl⟩:=qC r n2 h2;exact⟨a,a',b,rfl,rfl,HG r h n1 n2,bK e r hq⟩
def Y1{K:fv}:pF K (TZ K n) (TX n):=by intro G0 L0 H0 G L M H v1 v2 d1 d2 q e r n1 n2 ⟨b,h1,h2,h,hq⟩;have⟨a,rfl⟩:=qC r n1 h1;have⟨a',rfl⟩:=qC r n2 h2;exact⟨a,a',b,rfl,rfl,HG r h n1 n2,bK e r hq⟩
section
variable{a b l u:Expr}{tl tu:DE}{pos p p2:Pos}
def Oy{A:Around}{k:Nat}(hr:bU k A)(hn:n<=64):A.units+n < cLine:=aaY (Nat.add_le_add_left hn _) hr.units
def Tu(n:Nat)(hr:bU k' X.A)(ja:JE X R a ta)(jb:JE X R b tb)(hn:n<=64:=by decide)(hm:behindInMarks .Eq b=false:=by rfl):JE X R (.Compare a [.Eq] [b] pos) (jB (RQ n) ta tb):=pX (Qt (Oy hr hn)) Wa ja jb hm
def Oq(n:Nat)(hr:bU k' X.A)(ja:JE X R a ta)(jb:JE X R b tb)(hn:n<=64:=by decide)(hm:behindInMarks .NotEq b=false:=by rfl):JT X R (.Compare a [.NotEq] [b] pos) (mw (jB (TX n) ta tb)):=gO (OZ (Oy hr hn)) Y1 ja jb hm
def EJ(xs:List V)(k:Nat):ui xs none (some (k:Int))=xs.take k:=by
 unfold ui;rw[HT.qx,HT.Ah,acj,Nat.sub_zero];by_cases h:k<=xs.length
 ·rw[ach h]
 ·rw[Nat.min_eq_right (),abH (aai _),abH ()]
def Mb(te tl:DE):DE:=λρ M q x=>te ρ M (λd M1=>tl ρ M1 (λdi M2=>∃ds n,jH M2 d=some ds/\di= .int (n:Nat)/\q (.loc M2.length) (M2++[.lst (ds.drop n)])) x) x
def fX(he:JE X R e te)(hl:JE X R l tl):JE X R (.Subscript e (.Slice (some l) none none p2) pos) (Mb te tl):=
 .of (sH xw he (qJ hl) Dy) λσ H G L ρ M q x rl n h hx=>by refine⟨G,L,ρ,M,_,x,rl,n,h,hx,λv H1 xz=>?_⟩;have⟨d1,G1,L1,M1,e1,r1,n1,h1⟩:=xz;refine⟨G1,L1,ρ,M1,_,x,r1,n.mono e1,h1,hx.on e1,λv2 H2 xz=>?_⟩;have⟨d2,G2,L2,M2,e2,r2,n2,ds,k,ed,ei,h2⟩:=xz;subst ei;have⟨a,vs,rfl,sq,m⟩:=fi r2 (Den.mono e2.g e2.l _ _ n1) ed;have n2:v2= .int k:=n2;subst n2;refine⟨k,rfl,a,vs,rfl,sq,λp hp=>?_⟩;rw[Gf];exact kL (e1.trans e2) r2 hp (Ξ.of (sO k m.pair)) h2
end
open PySem PySem.SeqAt
section
variable{a b f:Expr}{tf:DE}{pos p:Pos}
def OD(to:DE):DE:=λρ M q x=>to ρ M (λd M1=>∃k xs,d= .loc k/\M1[k]? =some (.lst xs)/\q .aP (M1.set k (.lst []))) x
def Me(ho:JE X R o to)(ng:attributeBase o "clear" X.env (eval o X.env)=eval o X.env:=by rfl)(nG:(apos.endLine==aU.line)=true:=by rfl):JE X R (.Call (.Attribute o "clear" apos) [] [] aU) (OD to):=
 .of (Om PySem.F.plainAttrs_list PySem.F.slot_list_clear PySem.F.type_list_clear (r:=IS) GQ ho ng nG) λσ H G L ρ M q x rl n h hx=>by refine⟨G,L,ρ,M,_,x,rl,n,h,hx,λv H1 xz=>?_⟩;have⟨d1,G1,L1,M1,e1,r1,n1,k,xs,ed,hm,h1⟩:=xz;subst ed;have⟨a,rfl,hk⟩:=n1;have⟨_,vs,hH,dn⟩:=r1.fK k a _ hk hm;exact⟨.inl ⟨rfl,vs,.of hH⟩,a,vs,rfl,rfl,hH,.aP,G1,L1,_,e1.trans (r1.Gu hk),r1.setM (m:=.lst []) hk ⟨[],Ψ,rfl⟩,rfl,h1⟩
def Tp(to te tf:DE):DE:=λρ M q x=>to ρ M (λd M1=>(∃k ks ds,d= .loc k/\M1[k]? =some (.iC ks ds))/\te ρ M1 (λdk M2=>tf ρ M2 (λdx M3=>∃k ks ds key,d= .loc k/\M3[k]? =some (.iC ks ds)/\Am dk=some key/\q ((bH ks ds key).getD dx) M3) x) x) x
def vq{K:fv}{G:Hp}{L:List Addr}{k:Key}:∀{ks:List Key} {ds:List Dt} {vs:List V},Ξ K G L ds vs->bH ks ds k=none->jm (ks.zip vs) k=none
 | [],_,_,_,_=>rfl
 | _::_,[],_,h,_=>by cases h;rfl
 | c::ks,d0::ds,_,⟨v0,vs,e,n0,n⟩,h=>by
  subst e;rw[abg];by_cases hc:c=k
  ·have h':bH (c::ks) (d0::ds) k=some d0:=by unfold bH;rw[List.zip_cons_cons,List.find?_cons_of_pos (by simpa using hc)];rfl
   rw[h']at h;cases h
  ·have h':bH (c::ks) (d0::ds) k=bH ks ds k:=by unfold bH;rw[List.zip_cons_cons,List.find?_cons_of_neg (by simpa using hc)]
   rw[h']at h;rw[dz hc];exact vq n h
def HB(hr:bU k' X.A)(ho:JE X R o to)(he:JE X R e te)(hf:JE X R f tf)(m:M2 X o "get" apos e f aU:=by exact⟨rfl,rfl,rfl,rfl⟩):JE X R (.Call (.Attribute o "get" apos) [e,f] [] aU) (Tp to te tf):=
 .of (Ho (DV hr) ho he hf m) λσ H G L ρ M q x rl n h hx=>by
  refine⟨G,L,ρ,M,_,x,rl,n,h,hx,λv H1 xz=>?_⟩;have⟨d1,G1,L1,M1,e1,r1,n1,⟨k0,ks0,ds0,Xr,Sn⟩,h1⟩:=xz;subst Xr;have⟨a,rfl,hk⟩:=n1;have⟨_,Zs,Xa,_,_⟩:=r1.fK k0 a _ hk Sn;refine⟨a,rfl,.inl ⟨_,.inl Xa⟩,G1,L1,ρ,M1,_,x,r1,n.mono e1,h1,hx.on e1,λv2 H2 xz=>?_⟩;have⟨d2,G2,L2,M2,e2,r2,n2,h2⟩:=xz;refine⟨G2,L2,ρ,M2,_,x,r2,(n.mono e1).mono e2,h2,(hx.on e1).on e2,λv3 H3 xz=>?_⟩;have⟨d3,G3,L3,M3,e3,r3,n3,k,ks,ds,key,ed,hm,Qo,h3⟩:=xz;cases ed;have EW:=e2.trans e3;have zS:=EW.l.get hk;have⟨_,vs,hH,_,dn⟩:=r3.fK k0 a _ zS hm;have RH:v2=kV key:=jr Qo n2;refine⟨_,.inl ⟨_,key,.inl hH,RH,rfl⟩,?_⟩;cases hg:bH ks ds key with
  | none=>
   rw[hg]at h3;rw[vq dn hg];exact fin_same (e1.trans EW) r3 n3 h3
  | some d=>
   rw[hg]at h3;have⟨u,hu,du⟩:=kY dn hg;rw[hu];exact fin_same (e1.trans EW) r3 du h3
end
section
variable{elt c:Expr}{x z:Str}{px pz tp:Pos}{pos:Pos}{tc:DT}
def tR{i:Nat}{y:Str}{py iO:Pos}(hN:X.N.Nodup)(FA:X.N[i]? =some y)(hy:Loc X.env.scope y)(S:af X scope [x,z] ys Μ)(hi:JK X R (.Tuple [.Name x px,.Name z pz] kk tp) iter ti)(ht:∀C s H fp,JT (Cx.comp X (x::z::ys) scope C s H fp) (λ_=>E0) c tc)(he:∀C s H fp,JE (Cx.comp X (x::z::ys) scope C s H fp) (λ_=>E0) elt te)(hc:X.calm=true:=by rfl)(ED:swapsWith (.ListComp elt [⟨.Tuple [.Name x px,.Name z pz] kk tp,iter,[c],0⟩] scope pos) (some (.Name y py)) iO.line X.env=pure true:=by rfl)(hs:∀x,foldedSetIterable iter X.env x=pure x:=by intro _;rfl)(hf:X.fn y=true\/X.env.scope.names.lookup y=some .local:=by first| exact .inl rfl| exact .inr rfl| assumption):JS X R (.Assign [.Name y py] (.ListComp elt [⟨.Tuple [.Name x px,.Name z pz] kk tp,iter,[c],0⟩] scope pos) iO) (xJ i (LA 2 ti (g2 0 1) tc te Μ)):=R7 true S hi (xk hc S) mP (ph (Nat.zero_lt_succ 1) (abr 1)) (λC s H fp=>C6 (ht C s H fp)) he hc hs hN FA hy ED hf λ_ _ _ _ h=>h
end
def y_(M:Ms):Dt->Option (List Dt)
 | .lst xs=>some xs
 | .loc k=>match M[k]? with
  | some (.lst xs)=>some xs
  | _=>none
 | _=>none
def xn{K:fv}{H:Hp}{xs:List Dt}(r:Rl K G L M H)(n:Den K G L d v)(h:y_ M d=some xs):∃a vs,v= .ref a/\H a=some (.lst vs)/\Ξ K G L xs vs:=by
 cases d with
 | lst ds=>cases h;have⟨a,vs,rfl,e,m⟩:=n;exact⟨a,vs,rfl,r.sub _ _ e,m⟩
 | loc k=>
  have⟨a,rfl,e⟩:=n;have h:(match M[k]? with| some (.lst xs)=>some xs| _=>none)=some xs:=h;split at h
  ·rename_i ys hm;cases h;have⟨_,vs,e1,m1⟩:=r.fK k a _ e hm;exact⟨a,vs,rfl,e1,m1⟩
  ·cases h
 | _=>cases h
def Nj:Dt->Dt->Ms->DQ->Prop:=λd e M q=>∃xs ys,y_ M d=some xs/\y_ M e=some ys/\xs.length+ys.length<=sizeLine/\q (.lst (xs++ys)) M
def RM{K:fv}:pF K PY Nj:=by intro G0 L0 H0 G L M H v1 v2 d1 d2 q e r n1 n2 ⟨xs,ys,h1,h2,hz,hq⟩;have⟨p1,w1,rfl,e1,m1⟩:=xn r n1 h1;have⟨p2,w2,rfl,e2,m2⟩:=xn r n2 h2;refine⟨p1,p2,w1,w2,rfl,rfl,e1,e2,by rw[<-m1.length,<-m2.length];exact hz,λp hp=>?_⟩;exact kW e r hp (qE r hp (m1.app m2)) hq
section
variable{a b:Expr}{pos:Pos}
def jK(ja:JE X R a ta)(jb:JE X R b tb):JE X R (.BinOp a .Add b pos) (jB Nj ta tb):=xP Ko RM ja jb
end
section
variable{l:Expr}{tl:DE}{pos p2:Pos}
def Qu(te tl:DE):DE:=λρ M q x=>te ρ M (λd M1=>tl ρ M1 (λdi M2=>∃ds n,jH M2 d=some ds/\di= .int (n:Nat)/\q (.loc M2.length) (M2++[.lst (ds.take n)])) x) x
def D_(he:JE X R e te)(hl:JE X R l tl):JE X R (.Subscript e (.Slice none (some l) none p2) pos) (Qu te tl):=
 .of (sH xw he Dy (qJ hl)) λσ H G L ρ M q x rl n h hx=>by refine⟨G,L,ρ,M,_,x,rl,n,h,hx,λv H1 xz=>?_⟩;have⟨d1,G1,L1,M1,e1,r1,n1,h1⟩:=xz;refine⟨G1,L1,ρ,M1,_,x,r1,n.mono e1,h1,hx.on e1,λv2 H2 xz=>?_⟩;have⟨d2,G2,L2,M2,e2,r2,n2,ds,k,ed,ei,h2⟩:=xz;subst ei;have⟨a,vs,rfl,sq,m⟩:=fi r2 (Den.mono e2.g e2.l _ _ n1) ed;have n2:v2= .int k:=n2;subst n2;refine⟨k,rfl,a,vs,rfl,sq,λp hp=>?_⟩;rw[EJ];exact kL (e1.trans e2) r2 hp (Ξ.of (si k m.pair)) h2
end
def vd(g:Dt->En->(En->Prop)->Prop)(te:DE)(ρ0:En)(ok:Ms->Prop):List Dt->List Dt->Ms->(List Dt->Ms->Prop)->Prop
 | [],acc,M,k=>ok M/\k acc M
 | x::xs,acc,M,k=>ok M/\g x ρ0 λρ'=>te ρ' M (λd M2=>vd g te ρ0 ok xs (acc++[d]) M2 k) jP
def w8(n:Nat)(ti:DK)(g:Dt->En->(En->Prop)->Prop)(te:DE)(Μ:List Nat):DE:=λρ M q x=>ti ρ M (λxs ok M1=>xs.length<=sizeLine/\vd g te (List.replicate n none++mH Μ ρ) ok xs [] M1 (λys M2=>q (.lst ys) M2)) x
def xI{g:Dt->En->(En->Prop)->Prop}{te:DE}{cs:En}{ok:Ms->Prop}:∀xs,vd g te cs ok xs=gY g tL te cs ok xs
 | []=>rfl
 | x::xs=>funext λacc=>funext λM=>funext λk=>by show(ok M/\g x cs λρ'=>te ρ' M (λd M1=>vd g te cs ok xs (acc++[d]) M1 k) jP)=(ok M/\g x cs λρ'=>te ρ' M (λd M1=>gY g tL te cs ok xs (acc++[d]) M1 k) jP);rw[xI xs]
section
variable{elt:Expr}{x y:Str}{px py tp:Pos}{pos:Pos}
def LN(S:af X scope [x,y] ys Μ)(hi:JK X R (.Tuple [.Name x px,.Name y py] kk tp) iter ti)(he:∀C s H fp,JE (Cx.comp X (x::y::ys) scope C s H fp) (λ_=>E0) elt te)(hc:X.calm=true:=by rfl)(hs:∀x,foldedSetIterable iter X.env x=pure x:=by intro _;rfl):JE X R (.ListComp elt [⟨.Tuple [.Name x px,.Name y py] kk tp,iter,[],0⟩] scope pos) (w8 2 ti (g2 0 1) te Μ):=QX false S hi (xk hc S) mP (ph (Nat.zero_lt_succ 1) (Nat.lt_succ_self 1)) (λ_ _ _ _=>fU) he hc hs λρ M q x h=>by unfold w8 at h;simp only[xI]at h;exact h
end
def u_{g:Dt->En->(En->Prop)->Prop}{te:DE}{ρ0:En}{ok:Ms->Prop}{M:Ms}{k:List Dt->Ms->Prop}(ho:ok M)(f:Dt->Dt):∀(xs acc:List Dt),(∀x∈xs,∀q:DQ,q (f x) M->g x ρ0 λρ'=>te ρ' M q jP)->k (acc++xs.map f) M->vd g te ρ0 ok xs acc M k
 | [],acc,_,h=>⟨ho,by simpa using h⟩
 | x::xs,acc,ht,h=>⟨ho,ht x List.mem_cons_self _ (u_ ho f xs _ (λy hy=>ht y (List.mem_cons_of_mem _ hy)) (by simpa using h))⟩
def El(xs:List V)(a b:Nat):ui xs (some (a:Int)) (some (b:Int))=(xs.drop a).take (b - a):=by
 unfold ui;rw[HT.qx,HT.qx];by_cases ha:a<=xs.length
 ·rw[ach ha];by_cases hb:b<=xs.length
  ·rw[ach hb]
  ·rw[Nat.min_eq_right (),abH (by rw[abt];omega),abH (by rw[abt];omega)]
 ·have h1:min a xs.length=xs.length:=Nat.min_eq_right ();rw[h1,List.drop_of_length_le (aai xs.length),List.drop_of_length_le (show xs.length<=a by omega)];simp
section
variable{l u a b:Expr}{tl tu:DE}{pos p2:Pos}
def Sl(te tl tu:DE):DE:=λρ M q x=>te ρ M (λd M1=>tl ρ M1 (λdi M2=>∃n:Nat,di= .int n/\tu ρ M2 (λdu M3=>∃ds m,jH M3 d=some ds/\du= .int (m:Nat)/\q (.loc M3.length) (M3++[.lst ((ds.drop n).take (m - n))])) x) x) x
def EB(he:JE X R e te)(hl:JE X R l tl)(hu:JE X R u tu):JE X R (.Subscript e (.Slice (some l) (some u) none p2) pos) (Sl te tl tu):=
 .of (sH xw he (qJ hl) (qJ hu)) λσ H G L ρ M q x rl n h hx=>by refine⟨G,L,ρ,M,_,x,rl,n,h,hx,λv H1 xz=>?_⟩;have⟨d1,G1,L1,M1,e1,r1,n1,h1⟩:=xz;refine⟨G1,L1,ρ,M1,_,x,r1,n.mono e1,h1,hx.on e1,λv2 H2 xz=>?_⟩;have⟨d2,G2,L2,M2,e2,r2,n2,k,ek,h2⟩:=xz;subst ek;have n2:v2= .int k:=n2;subst n2;refine⟨k,rfl,G2,L2,ρ,M2,_,x,r2,(n.mono e1).mono e2,h2,(hx.on e1).on e2,λv3 H3 xz=>?_⟩;have⟨d3,G3,L3,M3,e3,r3,n3,ds,m,ed,em,h3⟩:=xz;subst em;have EW:=e2.trans e3;have⟨a,vs,rfl,sq,dn⟩:=fi r3 (Den.mono EW.g EW.l _ _ n1) ed;have n3:v3= .int m:=n3;subst n3;refine⟨m,rfl,a,vs,rfl,sq,λp hp=>?_⟩;rw[El];exact kL (e1.trans EW) r3 hp (Ξ.of (si (m - k) (sO k dn.pair))) h3
def NG:Dt->Dt->Ms->DQ->Prop:=λd e M q=>∃xs k,y_ M d=some xs/\e= .int k/\ -(2 ^ 63)<=k/\k < 2 ^ 63/\xs.length * k.toNat<=sizeLine/\q (.loc M.length) (M++[.lst (List.replicate k.toNat xs).flatten])
def Tb{K:fv}:pF K OO NG:=by intro G0 L0 H0 G L M H v1 v2 d1 d2 q e r n1 n2 ⟨xs,k,h1,h2,a,b,hz,hq⟩;have⟨p1,w1,rfl,e1,m1⟩:=xn r n1 h1;subst h2;have n2:v2= .int k:=n2;subst n2;refine⟨p1,k,w1,rfl,rfl,e1,a,b,by rw[<-m1.length];exact hz,λp hp=>?_⟩;exact kL e r hp (Ξ.of (wm m1.pair k.toNat)) hq
def Bf(ja:JE X R a ta)(jb:JE X R b tb):JE X R (.BinOp a .Mult b pos) (jB NG ta tb):=xP GW Tb ja jb
end
def K0(ks:List Key)(k:Key):Bool:=ks.any λc=>decide (c=k)
def q5{k:Key}:∀{ks:List Key} {vs:List V},ks.length=vs.length->(jm (ks.zip vs) k).isSome=K0 ks k
 | [],[],_=>rfl
 | c::ks,v::vs,h=>by
  have h:ks.length=vs.length:=by simpa using h
  rw[abg];by_cases e:c=k
  ·rw[eQ e];subst e;simp[K0]
  ·rw[dz e,q5 h];unfold K0;rw[abC,aal e,Bool.false_or]
section
variable{i a b:Expr}{ti:DE}{pos p:Pos}
def B_:JE X R (.Dict [] [] pos) (λ_ M q _=>q (.loc M.length) (M++[.iC [] []])):=
 .of Kx λσ H G L ρ M q x rl n h hx=>by intro p hp;exact⟨.loc M.length,G,L++[p],_,rl.Uk hp,rl.HS (m:=.iC [] []) hp ⟨[],Ψ,rfl,rfl⟩,⟨p,rfl,by rw[<-rl.len,List.getElem?_append_right (Nat.le_refl _)];simp⟩,h⟩
def T6:Dt->Dt->Ms->DQ->Prop:=λdi d M q=>∃k ks ds key,d= .loc k/\M[k]? =some (.iC ks ds)/\Am di=some key/\q (.bl (K0 ks key)) M
def PF(hu:X.A.units+1 < cLine):jF X (compareOp .In) (λy x H Q=>∃a o,x=V.ref a/\zI H a y o/\Q (.bl o.isSome) H):=by intro δ s σ H x y u v Q I rx ry ⟨a,o,ex,g,q⟩;subst ex;obtain rfl:v=Value.ref a:=ry;exact Wb hu I g rx λs3 I3=>⟨.bl o.isSome,H,I3,rfl,q⟩
def Xk{K:fv}:pF K (λy x H Q=>∃a o,x=V.ref a/\zI H a y o/\Q (.bl o.isSome) H) T6:=by intro G0 L0 H0 G L M H v1 v2 d1 d2 q e r n1 n2 ⟨k,ks,ds,key,ed,hm,hk,h⟩;subst ed;have⟨a,rfl,K4⟩:=n2;have⟨_,vs,hH,hl,dn⟩:=r.fK k a _ K4 hm;refine⟨a,_,rfl,.inl ⟨_,key,.inl hH,jr hk n1,rfl⟩,?_⟩;have KA:ks.length=vs.length:=hl.trans dn.length;rw[q5 KA];exact bK e r h
def Jv(hr:bU k' X.A)(ja:JE X R a ta)(jb:JE X R b tb)(hm:behindInMarks .In b=false:=by rfl):JT X R (.Compare a [.In] [b] pos) (mw (jB T6 ta tb)):=gO (PF (DV hr)) Xk ja jb hm
end
def gM(ks:List Key)(k:Key):List Key:=if K0 ks k=true then ks else ks++[k]
def lq{α:Type}(k:Key)(v:α):List Key->List α->List α
 | c::ks,x::xs=>(if c=k then v else x)::lq k v ks xs
 | _,_=>[]
def eV{α:Type}(ks:List Key)(k:Key)(xs:List α)(v:α):List α:=if K0 ks k=true then lq k v ks xs else xs++[v]
def pe{α:Type}{k:Key}{v:α}:∀{ks:List Key} {xs:List α},ks.length=xs.length->(lq k v ks xs).length=ks.length
 | [],[],_=>rfl
 | _::ks,_::xs,h=>by
  have h:ks.length=xs.length:=by simpa using h
  show(lq k v ks xs).length+1=ks.length+1;rw[pe h]
def uH{k:Key}{v:V}:∀{ks:List Key} {vs:List V},ks.length=vs.length->(ks.zip vs).map (λkv=>if kv.1=k then (kv.1,v) else kv)=ks.zip (lq k v ks vs)
 | [],[],_=>rfl
 | c::ks,x::vs,h=>by
  have h:ks.length=vs.length:=by simpa using h
  rw[abg,aaM,uH h];show _=(c,if c=k then v else x)::ks.zip (lq k v ks vs)
  congr 1
  show(if c=k then (c,v) else (c,x))=_;split <;> rfl
def pv{K:fv}{G:Hp}{L:List Addr}{k:Key}{d:Dt}{v:V}(n:Den K G L d v):∀{ks:List Key} {ds:List Dt} {vs:List V},Ξ K G L ds vs->ks.length=ds.length->Ξ K G L (lq k d ks ds) (lq k v ks vs)
 | [],[],_,h,_=>by cases h;rfl
 | c::ks,x::ds,_,⟨y,vs,e,n0,ns⟩,hl=>by
  subst e;have hl:ks.length=ds.length:=by simpa using hl
  refine⟨_,_,rfl,?_,pv n ns hl⟩;show Den K G L (if c=k then d else x) (if c=k then v else y);split
  ·exact n
  ·exact n0
def Iy{k:Key}(h:ks.length=vs.length):iB (ks.zip vs) k v=(gM ks k).zip (eV ks k vs v):=by
 unfold iB gM eV;rw[nZ,q5 h];split
 ·exact uH h
 ·rw[List.zip_append h];rfl
def o7(to ti tv:DE):DS:=λDn ρ M=>tv ρ M (λy M1=>to ρ M1 (λd M2=>ti ρ M2 (λdi M3=>∃k ks ds key,d= .loc k/\M3[k]? =some (.iC ks ds)/\Am di=some key/\ks.length < 1000/\Dn.nx ρ (M3.set k (.iC (gM ks key) (eV ks key ds y)))) Dn.x) Dn.x) Dn.x
section
variable{i value:Expr}{ti tv:DE}{pos pos':Pos}
def qB(hr:bU k' X.A)(ho:JE X R o to)(hi:JE X R i ti)(hv:JE X R value tv)(hs:swapsWith value (some (.Subscript o i pos')) pos.line X.env=pure false:=by rfl):JS X R (.Assign [.Subscript o i pos'] value pos) (o7 to ti tv):=
 .of (ML (DV hr) ho hi hv hs) λσ H G L ρ M Dn rl n h hx=>by
  refine⟨G,L,ρ,M,_,_,rl,n,h,hx,λv H1 xz=>?_⟩;have⟨dv,G1,L1,M1,e1,r1,n1,h1⟩:=xz;refine⟨G1,L1,ρ,M1,_,_,r1,n.mono e1,h1,hx.on e1,λov H2 xz=>?_⟩;have⟨d,G2,L2,M2,e2,r2,n2,h2⟩:=xz;refine⟨G2,L2,ρ,M2,_,_,r2,(n.mono e1).mono e2,h2,(hx.on e1).on e2,λiv H3 xz=>?_⟩;have⟨di,G3,L3,M3,e3,r3,n3,k,ks,ds,key,ed,hm,hk,hlen,h3⟩:=xz;subst ed;have⟨a,rfl,IW⟩:=n2;have zS:=e3.l.get IW;have⟨_,vs,hH,hl,dn⟩:=r3.fK k a _ zS hm;have EW:=e2.trans e3;have US:=Den.mono EW.g EW.l _ _ n1;have KA:ks.length=vs.length:=hl.trans dn.length;obtain rfl:iv=kV key:=jr hk n3;have z:(ks.zip vs).length < sizeLine:=by rw[abQ];exact aaY (Nat.min_le_left _ _) (Nat.lt_trans hlen @_)
  refine⟨a,_,rfl,HD.k hH z,ρ,G3,L3,_,((e1.trans e2).trans e3).trans (r3.Gu zS),r3.setM (m:=.iC (gM ks key) (eV ks key ds dv)) zS ⟨eV ks key vs v,by rw[Ψ,Iy KA],?_,?_⟩,(((n.mono e1).mono e2).mono e3).mono (r3.Gu (o:=.own a) zS),h3⟩
  ·unfold gM eV;split
   ·rw[pe hl]
   ·rw[aag,aag,hl];rfl
  ·unfold eV;split
   ·exact pv US dn hl
   ·exact dn.app ⟨_,_,rfl,US,rfl⟩
end
section
variable{i f a b v1 v2:Expr}{ti tx t1 t2:DE}{pos p:Pos}
def xK:dw X (.type "dict") (λxs H Q=>∃a kvs,xs=[V.ref a]/\Rd H a (.dK kvs)/\∀p,H p=none->Q (.ref p) (upd H p (.dK kvs))):=by
 intro δ s σ H xs us Q I r ⟨a,kvs,ex,e,q⟩;subst ex;cases r with
 | cons r1 r2=>
  cases r2;cases r1;exact Hj I e λp s' hp I'=>⟨.ref p,_,I',rfl,q p hp⟩
def HX:List Dt->Ms->DQ->Prop
 | [d],M,q=>∃k ks ds,d= .loc k/\M[k]? =some (.iC ks ds)/\q (.loc M.length) (M++[.iC ks ds])
 | _,_,_=>False
def T8{K:fv}:Cc K (λxs H Q=>∃a kvs,xs=[V.ref a]/\Rd H a (.dK kvs)/\∀p,H p=none->Q (.ref p) (upd H p (.dK kvs))) HX:=by
 intro G0 L0 H0 G L M H vs ds q e r n h;unfold HX at h;split at h
 ·rename_i d;have⟨v,rfl,n1⟩:=a_ n;have⟨k,ks,ds,ed,hm,h⟩:=h;subst ed;have⟨a,rfl,hk⟩:=n1;have⟨_,vs,hH,hl,dn⟩:=r.fK k a _ hk hm;refine⟨a,_,rfl,.inl hH,λp hp=>?_⟩;exact⟨.loc M.length,G,L++[p],_,e.trans (r.Uk hp),r.HS (m:=.iC ks ds) hp ⟨vs,Ψ,hl,Ξ.mono (.refl _) ⟨[p],rfl⟩ _ _ dn⟩,⟨p,rfl,by rw[<-r.len,List.getElem?_append_right (Nat.le_refl _)];simp⟩,h⟩
 ·exact h.elim
def BK:bootBuiltins "dict"=some (.type "dict"):=by decide+kernel
def Qz(hm:X.mg "dict"=none)(ha:JA X R [e] t)(hg:Gl X "dict":=by rfl)(he:starEach [e] X.env=(false,eval e X.env)::starEach [] X.env:=by rfl)(fk:(backTo pos (starEach [] X.env)).any (·.1)=false:=by rfl):JE X R (.Call (.Name "dict" p) [e] [] pos) (AE HX t):=
 tK xK T8 hm BK ha hg @_ @_ he fk
end
section
variable{f v1 v2:Expr}{tx t1 t2:DE}{pos:Pos}
def KZ{K:fv}{G1:Hp}{L1:List Addr}{H1:Hp}{H:Hp}{q:DQ}(e:Ex G1 L1 H1 G L H)(r:Rl K G L M H)(N4:H1 p=none)(hg:G p=none)(hl:p∉L)(h:H p=some (.dK (ks.zip vs)))(hk:ks.length=ds.length)(n:Ξ K G L ds vs)(k:q (.loc M.length) (M++[.iC ks ds])):Fin K G1 L1 H1 q (.ref p) H:=by
 refine⟨.loc M.length,G,L++[p],M++[.iC ks ds],⟨e.g,e.l.trans ⟨[p],rfl⟩,e.fr,e.out,λb hb=>?_,e.C1⟩,⟨r.sub,by rw[List.length_append,List.length_append,r.len];rfl,List.nodup_append.mpr ⟨r.nd,by simp,λa ha b hb=>?_⟩,λk a m h1 h2=>?_⟩,⟨p,rfl,by rw[<-r.len,List.getElem?_append_right (Nat.le_refl _)];simp⟩,k⟩
 ·rcases aaT.mp hb with z| z
  ·exact e.new b z
  ·have e:b=p:=by simpa using z
   right;rw[e];exact N4
 ·have e:b=p:=by simpa using hb
  rw[e];exactλz=>hl (z▸ha)
 ·by_cases z4:k < L.length
  ·rw[aao z4]at h1;rw[aao (by rw[<-r.len];exact z4)]at h2;have⟨q1,q2⟩:=r.fK k a m h1 h2;exact⟨q1,q2.mono (.refl _) ⟨[p],rfl⟩ rfl⟩
  ·have e:k=L.length:=by have:=(aaf.mp h1).1;rw[aag]at this;simp at this;omega
   rw[e,aaw (aai _)]at h1;rw[e,r.len,aaw (aai _)]at h2;simp at h1 h2;subst h1 h2;exact⟨hg,vs,h,hk,Ξ.mono (.refl _) ⟨[p],rfl⟩ _ _ n⟩
end
def Kp{α β:Type}{F:α->β->Prop}:∀{xs:List α} {ys:List β},Paired F xs ys->∀{i:Nat} {x:α},xs[i]? =some x->∃y,ys[i]? =some y/\F x y
 | _,_,.nil,i,x,h=>by simp at h
 | _,_,.cons r t,0,x,h=>by obtain rfl:=aas h;exact⟨_,rfl,r⟩
 | _,_,.cons r t,i+1,x,h=>by have⟨y,e,f⟩:=Kp t (show _=some x by simpa using h);exact⟨y,by simpa using e,f⟩
def TF(td te:TE):TE:=λσ H Q=>td σ H λx H1=>∃a,x= .ref a/\VL H1 a/\te σ H1 λy H2=>∃b kvs more,y= .ref b/\a≠b/\H2 a=some (.dK kvs)/\Rd H2 b (.dK more)/\kvs.length+more.length<=sizeLine/\Q .aP (upd H2 a (.dK (ig kvs more)))
section
variable{td te:TE}
def Lb(ho:PE X o td)(he:PE X e te)(m:M1 X o "update" apos e aU):PE X (.Call (.Attribute o "update" apos) [e] [] aU) (TF td te):=by
 intro δ s σ H Q I h;refine wpAny_Call_method m.base m.Wy m.line PySem.F.plainAttrs_dict PySem.F.slot_dict_update PySem.F.type_dict_update (bA (ho δ s σ H _ I h) λu s1 xz=>?_);have⟨x,H1,I1,rx,a,ex,d,q1⟩:=xz;subst ex;obtain rfl:u=Value.ref a:=rx;have⟨t1,t2,_⟩:=IG I1 d;refine⟨t1,t2,?_⟩;rw[m.trees];refine Calls.callWith_builtin rfl (Calls.evalArgs_plain (Calls.spliced_cons (bA (he δ s1 σ H1 _ I1 q1) fun iv s2 ⟨y,H2,I2,ry,b,kvs,more,ey,mR,hA,hB,hz,q2⟩=>Calls.spliced_nil ?_)));subst ey;obtain rfl:iv=Value.ref b:=ry;have⟨z1,d1,vs,r1,dd1⟩:=Dc I2.aQ hA;have⟨z2,d2,rs,r2,UP⟩:=nK I2.aQ hB;refine call_meetsIn PySem.F.slot_dict_update dd1.typeIs PySem.F.entry_dict_update (PySem.F.args_dict_update_2 _ _) (meets_dict_update (bf X.prog X.w) a b mR d2) ⟨vs,rs,dd1,UP,by rw[<-r1.length,<-r2.length];exact hz,λh' hm _ hs=>?_⟩;have hex:∃q,h'.get? a=some q:=let ⟨q,_,_,hq,_⟩:=hm;⟨q,hq⟩
 exact⟨.aP,_,qy (t':=s2.toks) I2 (by rw[hA];exact True.intro) hs hex (rQ (aat (ix more kvs) hz) d1 (KV.merge r2 r1) hm),rfl,q2⟩
end
section
variable{l k a b:Expr}{tl tk:DE}{pos p2:Pos}
def qa(ks:List Key):List Key->List Key
 | []=>ks
 | k::r=>qa (gM ks k) r
def sG(ks:List Key)(ds:List Dt):List Key->List Dt->List Dt
 | k::r,d::zR=>sG (gM ks k) (eV ks k ds d) r zR
 | _,_=>ds
def Qq{α:Type}{k:Key}{xs:List α}{v:α}(h:ks.length=xs.length):(gM ks k).length=(eV ks k xs v).length:=by
 unfold gM eV;split
 ·rw[pe h]
 ·rw[aag,aag,h];rfl
def QQ{K:fv}{k:Key}(n:Den K G L d v)(h:Ξ K G L ds vs)(hl:ks.length=ds.length):Ξ K G L (eV ks k ds d) (eV ks k vs v):=by
 unfold eV;split
 ·exact pv n h hl
 ·exact h.app ⟨_,_,rfl,n,rfl⟩
def CU{K:fv}{G:Hp}{L:List Addr}:∀{vL:List Key} {zR:List Dt} {Gx:List V} {ks:List Key} {ds:List Dt} {vs:List V},vL.length=zR.length->Ξ K G L zR Gx->ks.length=ds.length->Ξ K G L ds vs->
  ∃us,ig (ks.zip vs) (vL.zip Gx)=(qa ks vL).zip us/\(qa ks vL).length=(sG ks ds vL zR).length/\Ξ K G L (sG ks ds vL zR) us
 | [],[],_,ks,ds,vs,_,h2,hl,h=>by cases h2;exact⟨vs,rfl,hl,h⟩
 | k::vL,d::zR,_,ks,ds,vs,KA,⟨v,Gx,e,n0,ns⟩,hl,h=>by
  subst e;have KA:vL.length=zR.length:=by simpa using KA
  have⟨us,e1,e2,e3⟩:=CU (ks:=gM ks k) (ds:=eV ks k ds d) (vs:=eV ks k vs v) KA ns (Qq hl) (QQ n0 h hl);refine⟨us,?_,e2,e3⟩;rw[abg];show ig (iB (ks.zip vs) k v) (vL.zip Gx)=(qa (gM ks k) vL).zip us;rw[Iy (hl.trans h.length),e1]
def DP(to te:DE):DE:=λρ M q x=>to ρ M (λd M1=>(∃k ks ds,d= .loc k/\M1[k]? =some (.iC ks ds))/\te ρ M1 (λd2 M2=>∃k k2 ks ds vL zR,d= .loc k/\d2= .loc k2/\k≠k2/\M2[k]? =some (.iC ks ds)/\M2[k2]? =some (.iC vL zR)/\ks.length+vL.length<=1000/\q .aP (M2.set k (.iC (qa ks vL) (sG ks ds vL zR)))) x) x
def AN(ho:JE X R o to)(he:JE X R e te)(m:M1 X o "update" apos e aU:=by exact⟨rfl,rfl,rfl,rfl⟩):JE X R (.Call (.Attribute o "update" apos) [e] [] aU) (DP to te):=
 .of (Lb ho he m) λσ H G L ρ M q x rl n h hx=>by
  refine⟨G,L,ρ,M,_,x,rl,n,h,hx,λv H1 xz=>?_⟩;have⟨d1,G1,L1,M1,e1,r1,n1,⟨k0,ks0,ds0,Xr,Sn⟩,h1⟩:=xz;subst Xr;have⟨a,rfl,hk⟩:=n1;have⟨_,Zs,Xa,_,_⟩:=r1.fK k0 a _ hk Sn;refine⟨a,rfl,.inl ⟨_,.inl Xa⟩,G1,L1,ρ,M1,_,x,r1,n.mono e1,h1,hx.on e1,λv2 H2 xz=>?_⟩;have⟨d2,G2,L2,M2,e2,r2,n2,k,k2,ks,ds,vL,zR,ed,YD,mR,hm,SM,hz,h3⟩:=xz;cases ed;subst YD;have zS:=e2.l.get hk;have⟨b,rfl,hkb⟩:=n2;have⟨_,vs,hH,hl,dn⟩:=r2.fK k0 a _ zS hm;have⟨_,Gx,Vu,KA,Q4⟩:=r2.fK k2 b _ hkb SM;have z1:(ks.zip vs).length<=ks.length:=by rw[abQ];exact Nat.min_le_left _ _
  have z2:(vL.zip Gx).length<=vL.length:=by rw[abQ];exact Nat.min_le_left _ _
  have sz:(1000:Nat)<=sizeLine:=@_
  have⟨us,u1,u2,u3⟩:=CU KA Q4 hl dn;have ab:a≠b:=λz=>by subst z;have i1:=(aaf.mp zS).1;have:=(List.getElem?_inj (l:=L2) i1 r2.nd).mp (zS.trans hkb.symm);exact mR this
  refine⟨b,_,_,rfl,ab,hH,.inl Vu,(),?_⟩;exact⟨.aP,G2,L2,_,(e1.trans e2).trans (r2.Gu zS),r2.setM (m:=.iC (qa ks vL) (sG ks ds vL zR)) zS ⟨us,by rw[Ψ,u1],u2,u3⟩,rfl,h3⟩
end
def IL(P:Program)(w:World)(a:Addr)(kvs:List (Key×V))(ep:Nat)(h:Heap):Prop:=kvs.length<=sizeLine/\(a==sysModules)=false/\∃vs,KV kvs vs/\h.DictAt (bf P w) a vs ep
def Bv(P:Program)(w:World)(a:Addr)(kvs:List (Key×V))(ep:Nat):HO:=.ext (IL P w a kvs ep)
section
variable{P':Program}{w w':World}{H:Hp}{h:Heap}{ep:Nat}
def Dr(ok:lh P w H h)(e:H a=some (Bv P' w' a kvs ep)):IL P' w' a kvs ep h:=(ok a _ e).1
def Pc(x:IL P' w' a kvs ep h):bZ P w H h a (Bv P' w' a kvs ep):=by
 refine⟨x,?_,λh1 h2 y k=>?_⟩
 ·have⟨_,_,vs,_,o,es,e,_⟩:=x;exact⟨o,e⟩
 ·have⟨z,hd,vs,r,o,es,e,c⟩:=y;exact⟨z,hd,vs,r,o,es,k _ e,c⟩
end
section
variable{H:Hp}{ep:Nat}
def Inv.Pn(I:Inv X δ σ H s)(mu:Q_ (H a))(x:IL X.prog X.w a kvs ep s.heap):Inv X δ σ (upd H a (Bv X.prog X.w a kvs ep)) s:=by
 have he:∃u,s.heap.get? a=some u:=let ⟨_,_,_,_,o,_,e,_⟩:=x;⟨o,e⟩
 exact I.write (x:=a) (e:=a) (h':=s.heap) (t':=s.toks) mu (.inl rfl) (λb u _ q=>q) he (Pc x)
def Inv.walkOut(I:Inv X δ σ H s)(e:H a=some (Bv X.prog X.w a kvs ep)):Inv X δ σ (upd H a (.dK kvs)) s:=by
 have⟨z,hd,vs,r,dd⟩:=Dr I.aQ e;have he:∃u,s.heap.get? a=some u:=let ⟨o,_,e,_⟩:=dd;⟨o,e⟩
 exact I.write (x:=a) (e:=a) (h':=s.heap) (t':=s.toks) (by rw[e];exact True.intro) (.inl rfl) (λb u _ q=>q) he (rQ z hd r dd.dictOf)
def Se{w:World}{k:Key}{u:Value}(h:(bf P w).is k u=true):aq (kV k) u:=by
 rcases bu h with ⟨i,t,rfl,rfl⟩| ⟨x,t,rfl,rfl⟩
 ·exact⟨t,rfl⟩
 ·exact⟨t,rfl⟩
end
def Ww(P:Program)(w:World)(a:Addr)(kvs:List (Key×V))(ep:Nat):It:=
 ⟨λi H=>H a=some (Bv P w a kvs ep)/\i < kvs.length,λi H x H'=>H'=H/\∃kv,kvs[i]? =some kv/\x=kV kv.1,λi H=>H a=some (Bv P w a kvs ep)/\kvs.length<=i⟩
def Eo{w:World}{K:fv}(a it:Addr)(kvs:List (Key×V))(ep:Nat):Turn P w K tg (Ww P w a kvs ep) [it] it (λi h=>h.IsKeyIter it a i kvs.length ep) where
 mem:=by simp
 obj:=λi h st b hb=>by
  have e:b=it:=by simpa using hb
  subst e;have⟨o,e,c,d⟩:=st;exact⟨o,e,λv z=>by rw[d]at z;cases z⟩
 keep:=λi h h' st k=>by have⟨o,e,r⟩:=st;exact⟨o,k it (by simp) o e,r⟩
 item:=by
  intro X hP hw hK hc i δ s σ H E I hf st hg;subst hP hw hK;have⟨hq,hi⟩:=hg;have⟨z,hd,vs,rel,dd⟩:=Dr I.aQ hq;have⟨f0,f1,f2,f3,f4,f5⟩:=hf it (by simp);have hx:kvs[i]? =some kvs[i]:=aaa hi;have⟨q,Q6,r1,r2⟩:=Kp rel hx;have⟨k,v⟩:=q;have Xl:s.heap.IsKeyIter it a i vs.length ep:=by rw[<-rel.length];exact st
  refine wpAny_pyNext_dict_item Xl dd Q6 λkey h' hk xi sb=>?_;have xi:h'.IsKeyIter it a (i+1) kvs.length ep:=by rw[rel.length];exact xi
  have I1:Inv X δ σ H {s with heap:=h'}:=I.turned (t':=s.toks) (λb o hb e=>(sb.2 b hb).trans e) f0 f1 f3 f4 f5;have⟨o,e,c,d⟩:=id xi;exact⟨key,rfl,uK (s:={s with heap:=h'}) e c d @_ ⟨kV k,H,I1,Se hk,⟨rfl,kvs[i],hx,by rw[r1]⟩,xi,λb hb=>(hf b hb).1⟩⟩
 done:=by
  intro X hP hw hK hc i δ s σ H E I hf st hg;subst hP hw hK;have⟨hq,hi⟩:=hg;have⟨z,hd,vs,rel,dd⟩:=Dr I.aQ hq;have⟨f0,f1,f2,f3,f4,f5⟩:=hf it (by simp);have Xl:s.heap.IsKeyIter it a i vs.length ep:=by rw[<-rel.length];exact st
  exact wpAny_pyNext_dict_end (I.ok.hd hc) Xl dd (List.getElem?_eq_none (by rw[<-rel.length];exact hi)) λh' eb=>⟨rfl,I.turned (t':=s.toks) (λb o hb e=>eb b o hb e) f0 f1 f3 f4 f5⟩
 self:=λ_ _ _ _ _ st h=>wpAny_pyIter_keyiter st h
section
variable{H:Hp}{Q:It->Hp->Prop}{E:Value->Shared->Prop}
def LI(I:Inv X δ σ H s)(e:H a=some (.dK kvs))(q:∀ep,Q (Ww X.prog X.w a kvs ep) (upd H a (Bv X.prog X.w a kvs ep))):wpAny (model X.prog X.w) X.A (pyIter (.ref a)) (KU X δ σ tg Q) E s:=by
 have⟨z,hd,vs,rel,dd⟩:=Dc I.aQ e;have⟨ep,dd⟩:=dd.dictAt;refine wpAny_pyIter_dict hd dd ?_;have I1:=I.Pn (by rw[e];exact True.intro) (show IL X.prog X.w a kvs ep s.heap from⟨z,hd,vs,rel,dd⟩);refine⟨s.heap.objs.size,[s.heap.objs.size],_,_,_,rfl,I1.kept (t':=s.toks) λb o e=>aak _ e,Eo a _ kvs ep,⟨_,aaO _ rfl,rfl,by rw[rel.length];rfl⟩,λb hb=>?_,q ep⟩;have e:b=s.heap.objs.size:=by simpa using hb
 subst e;exact I1.A5 (aai _) (I1.aQ.fresh (aai _))
end
def NxW(P:Program)(w:World)(D:yn):St->Hp->Prop:=λσ H=>∃a kvs ep,H a=some (Bv P w a kvs ep)/\D.nx σ (upd H a (.dK kvs))
section
variable{st:Stmt}{t:TS}{i:Expr}{td ty:TE}{pos:Pos}
def FD(h:PS X st t):PS X st (λD σ H=>t {D with nx:=NxW X.prog X.w D} σ H):=by
 intro δ s σ H D I h';refine bA (h δ s σ H _ I h') λf s' sp=>?_;cases f with
 | next=>
  have⟨σ',H',I',a,kvs,ep,e,q⟩:=sp;exact⟨σ',_,I'.walkOut e,q⟩
 | brk=>exact sp
 | cont=>exact sp
 | ret u=>exact sp
def PN(P:Program)(w:World)(td ty:TE):TE:=λσ H Q=>td σ H λx H1=>ty σ H1 λy H2=>∃a kvs ep k v,x= .ref a/\H2 a=some (Bv P w a kvs ep)/\y=kV k/\jm kvs k=some v/\Q v H2
def JX(ho:PE X o td)(hi:PE X i ty)(hs:JB i):PE X (.Subscript o i pos) (PN X.prog X.w td ty):=by intro δ s σ H Q I h;refine Dh PySem.F.slot_dict_getitem.lookup hs (bA (ho δ s σ H _ I h) fun u s1 ⟨x,H1,I1,rx,q1⟩=>bA (hi δ s1 σ H1 _ I1 q1) λiv s2 xz=>?_);have⟨y,H2,I2,ry,a,kvs,ep,k,v,ex,e,ey,l,q2⟩:=xz;subst ex ey;obtain rfl:u=Value.ref a:=rx;have⟨z,hd,vs,rel,dd⟩:=Dr I2.aQ e;have dd:=dd.dictOf;have⟨w',hw,BR⟩:=i4.some_of (v:=v) (o:=valueAt vs k) (by rw[<-l];exact rel.val k);exact⟨dd.typeIs,wpAny_getItem_of (qQ ry) dd.mapOf hw ⟨v,H2,I2.tok _,BR,q2⟩⟩
end
def Iq:Key->Dt
 | .inl i=>.int i
 | .inr x=>.str x
def LB{K:fv}{G:Hp}{L:List Addr}:∀k:Key,Den K G L (Iq k) (kV k)
 | .inl _=>rfl
 | .inr _=>rfl
def sW{K:fv}{G:Hp}{L:List Addr}:∀is:List Int,Ξ K G L (is.map Dt.int) (is.map V.int)
 | []=>rfl
 | _::is=>⟨_,_,rfl,rfl,sW is⟩
def zA{K:fv}{G:Hp}{L:List Addr}:∀{is:List Int} {vs:List V},Ξ K G L (is.map Dt.int) vs->vs=is.map V.int
 | [],vs,h=>h
 | i::is,vs,h=>by have⟨v,r,rfl,h1,h2⟩:=h;have h1:v= .int i:=h1;rw[h1,zA h2];rfl
def Lg(P:Program)(w:World)(ks:List Key)(is:List Int)(ep:Nat):Addr->HO:=λa=>Bv P w a (ks.zip (is.map V.int)) ep
def uh(g:Dt->En->(En->Prop)->Prop)(tb:DS)(Dn:ly)(k:Nat)(u:Addr->HO)(m:MO):List Key->En->Ms->Prop
 | [],ρ,M=>M[k]? =some (.raw u)/\Dn.nx ρ (M.set k m)
 | x::xs,ρ,M=>M[k]? =some (.raw u)/\g (Iq x) ρ λρ'=>tb {Dn with nx:=uh g tb Dn k u m xs,ct:=uh g tb Dn k u m xs,bk:=λρ M=>M[k]? =some (.raw u)/\Dn.nx ρ (M.set k m)} ρ' M
def Ry(P:Program)(w:World)(te:DE)(g:Dt->En->(En->Prop)->Prop)(tb:DS):DS:=λDn ρ M=>te ρ M (λd M1=>∃k ks is,d= .loc k/\M1[k]? =some (.iC ks (is.map Dt.int))/\∀ep,uh g tb Dn k (Lg P w ks is ep) (.iC ks (is.map Dt.int)) ks ρ (M1.set k (.raw (Lg P w ks is ep)))) Dn.x
def O1(P:Program)(w:World)(t:TE):TI:=λσ H R=>t σ H λv H1=>∃a kvs,v= .ref a/\H1 a=some (.dK kvs)/\∀ep,R (Ww P w a kvs ep) (upd H1 a (Bv P w a kvs ep))
def K9{t:TE}(h:PE X e t):PI X tg e (O1 X.prog X.w t):=by intro δ s σ H R I ht;refine bA (h δ s σ H _ I ht) λu s1 xz=>?_;have⟨v,H1,I1,rv,a,kvs,ev,ha,q⟩:=xz;subst ev;obtain rfl:u=Value.ref a:=rv;exact LI I1 ha q
section
variable{i:Expr}{body:List Stmt}{ti:DE}{gg:TG}{g:Dt->En->(En->Prop)->Prop}{tb:DS}{pos:Pos}
def LL(hi:JE X R iter te)(hg:PG X tg gg)(gd:GD X.K gg g)(hb:CV X R body tb)(hp:PassesOwn (model X.prog X.w) X.A X.env X.xe:=by first| exact PassesOwn.never| exact PassesOwn.leaving)(hc:X.calm=true:=by rfl)(hs:∀x,foldedSetIterable iter X.env x=pure x:=by intro _;rfl):
  JS X R (.For tg iter body [] pos) (Ry X.prog X.w te g tb):=.of (FD (Cq hp hc (K9 hi) hg hb hs)) λσ H G L ρ M Dn rl n h hx=>by
 refine⟨G,L,ρ,M,_,_,rl,n,h,hx,λv H1 xz=>?_⟩;have⟨d,G1,L1,M1,e1,r1,n1,k,ks,is,ed,hk,h1⟩:=xz;subst ed;have⟨a,rfl,IW⟩:=n1;have⟨hGa,vs,hH,hl,dn⟩:=r1.fK k a _ IW hk;have hvs:=zA dn;subst hvs;rw[aae]at hl;refine⟨a,_,rfl,hH,λep=>?_⟩;have h1:=h1 ep;generalize hu:Lg X.prog X.w ks is ep=u at h1;have UW:Bv X.prog X.w a (ks.zip (is.map V.int)) ep=u a:=by rw[<-hu];rfl
 have r2:Rl X.K G1 L1 (M1.set k (.raw u)) (upd H1 a (Bv X.prog X.w a (ks.zip (is.map V.int)) ep)):=r1.setM (m:=.raw u) IW (show upd H1 a _ a=some (u a) by rw[Ψ,UW]);have e2:Ex G1 L1 H1 G1 L1 (upd H1 a (Bv X.prog X.w a (ks.zip (is.map V.int)) ep)):=r1.Gu IW;have zl:(ks.zip (is.map V.int)).length=ks.length:=by rw[abQ,aae];omega
 generalize Vu:upd H1 a (Bv X.prog X.w a (ks.zip (is.map V.int)) ep)=H2 at r2 e2;have Ip:=e1.trans e2;have out:∀{G':Hp} {L':List Addr} {H':Hp} {M':Ms} {ρ':En} {σ':St},Ex G1 L1 H2 G' L' H'->Rl X.K G' L' M' H'->lC X.K G' L' ρ' σ'->M'[k]? =some (.raw u)->Dn.nx ρ' (M'.set k (.iC ks (is.map Dt.int)))->NxW X.prog X.w (uA X.K G L H Dn) σ' H':=λ{G' L' H' M' ρ' σ'} e' r' n' hm TK=>by have Bb:=e'.l.get IW;have Ug:H' a=some (u a):=(r'.fK k a _ Bb hm).2;refine⟨a,ks.zip (is.map V.int),ep,by rw[UW];exact Ug,ρ',G',L',_,(Ip.trans e').trans (r'.Gu Bb),r'.setM (m:=.iC ks (is.map Dt.int)) Bb ⟨is.map V.int,Ψ,by rw[aae];exact hl,sW is⟩,n'.mono (r'.Gu (o:=.own a) Bb),TK⟩
 refine⟨λi m σ' H'=>m+i=ks.length/\eT X.K G1 L1 H2 (λρ' M'=>uh g tb Dn k u (.iC ks (is.map Dt.int)) (ks.drop i) ρ' M') σ' H',⟨ks.length,rfl,ρ,G1,L1,_,.refl _ _ _,r2,n.mono e1,by rw[acj];exact h1⟩,?_⟩;rintro i m σ' H' ⟨hm,ρ',G',L',M',e',r',n',h'⟩;have Bb:=e'.l.get IW;by_cases hi:i < ks.length
 ·right;rw[abn hi]at h';have⟨LJ,h'⟩:=h';have Ug:H' a=some (u a):=(r'.fK k a _ Bb LJ).2;refine⟨⟨by rw[UW];exact Ug,()⟩,eT X.K G1 L1 H2 (λρ' M'=>uh g tb Dn k u (.iC ks (is.map Dt.int)) (ks.drop (i+1)) ρ' M'),λσ2 H3 f=>⟨m - 1,(),(),f⟩,λv H3 hy=>?_⟩;have⟨rfl,kv,hkv,rfl⟩:=hy;have K4:kv.1=ks[i]:=by rw[List.getElem?_zip_eq_some]at hkv;have:=hkv.1;rw[aaa hi]at this;exact(aas this).symm
  rw[K4];refine gd G' L' M' H3 _ _ ρ' σ' _ _ r' (LB _) n' h' λρ3 σ3 n3 h3=>?_;refine⟨G',L',ρ3,M',_,r',n3,h3,hx.on (Ip.trans e'),⟨λ_ _ f=>eT.back e' f,λ_ _ f=>Fin.back (Ip.trans e') f,λσ4 H4 f=>?_,λ_ _ f=>eT.back e' f⟩⟩;have⟨ρ4,G4,L4,M4,e4,r4,n4,hm4,h4⟩:=f;exact out (e'.trans e4) r4 n4 hm4 h4
 ·left;rw[abU ()]at h';have Ug:H' a=some (u a):=(r'.fK k a _ Bb h'.1).2;exact⟨⟨by rw[UW];exact Ug,()⟩,out e' r' n' h'.1 h'.2⟩
def QG(P:Program)(w:World)(to ti:DE):DE:=λρ M q x=>to ρ M (λd M1=>ti ρ M1 (λdi M2=>∃k ks is ep key j,d= .loc k/\M2[k]? =some (.raw (Lg P w ks is ep))/\Am di=some key/\bH ks (is.map Dt.int) key=some (.int j)/\q (.int j) M2) x) x
def Ml(ho:JE X R o to)(hi:JE X R i ti)(hs:JB i:=by intro _ _;rfl):JE X R (.Subscript o i pos) (QG X.prog X.w to ti):=
 .of (JX ho hi hs) λσ H G L ρ M q x rl n h hx=>by refine⟨G,L,ρ,M,_,x,rl,n,h,hx,λv H1 xz=>?_⟩;have⟨d1,G1,L1,M1,e1,r1,n1,h1⟩:=xz;refine⟨G1,L1,ρ,M1,_,x,r1,n.mono e1,h1,hx.on e1,λv2 H2 xz=>?_⟩;have⟨d2,G2,L2,M2,e2,r2,n2,k,ks,is,ep,key,j,ed,hm,hk,hg,h2⟩:=xz;subst ed;have⟨a,rfl,K4⟩:=n1;have CA:=e2.l.get K4;have hH:H2 a=some (Lg X.prog X.w ks is ep a):=(r2.fK k a _ CA hm).2;obtain rfl:v2=kV key:=jr hk n2;have⟨v,hv,dv⟩:=kY (K:=X.K) (G:=G2) (L:=L2) (sW is) hg;exact⟨a,_,ep,key,v,rfl,hH,rfl,hv,_,G2,L2,M2,e1.trans e2,r2,dv,h2⟩
end
section
variable{k1 v1 k2 v2:Expr}{s1 t1 s2 t2:DE}{pos:Pos}
structure Gk(K:fv)(G0:Hp)(L0:List Addr)(H0:Hp)(p:Addr)(G:Hp)(L:List Addr)(M:Ms)(H:Hp):Prop where
 ex:Ex G0 L0 (upd H0 p (.dK [])) G L H
 rl:Rl K G L M H
 at_:H p=some (.dK [])
 g:G p=none
 l:p∉L
def Gk.on{K:fv}{G0:Hp}{L0:List Addr}{H0:Hp}{H:Hp}(a:Gk K G0 L0 H0 p G L M H){G':Hp}{L':List Addr}{M':Ms}{H':Hp}(e:Ex G L H G' L' H')(r:Rl K G' L' M' H'):Gk K G0 L0 H0 p G' L' M' H':=
 ⟨a.ex.trans e,r,e.out _ _ a.at_ a.l,e.fr _ a.g (by rw[a.at_];simp),λz=>(e.new _ z).elim a.l λq=>by rw[a.at_]at q;cases q⟩
def Sx{K:fv}{H:Hp}(rl:Rl K G L M H)(hp:H p=none):Ex G L H G L (upd H p (.dK []))/\Gk K G L H p G L M (upd H p (.dK [])):=by
 have gn:G p=none:=rl.sub.free hp;have ln:p∉L:=rl.P8 hp;have e0:Ex G L H G L (upd H p (.dK [])):=⟨.refl _,.refl _,λ_ h _=>h,λb u h1 _=>by rw[Ζ (λz=>by rw[z,hp]at h1;cases h1)];exact h1,λ_ h=>.inl h,λb h=>by rw[Ζ (λz=>h (by rw[z];exact hp))];exact h⟩
 have r0:Rl K G L M (upd H p (.dK [])):=⟨λb u e=>by rw[Ζ (λz=>by rw[z,gn]at e;cases e)];exact rl.sub b u e,rl.len,rl.nd,λi a m h1 h2=>by
  have⟨q1,q2⟩:=rl.fK i a m h1 h2
  exact⟨q1,q2.mono (.refl _) (.refl _) (Ζ λz=>q2.there (by rw[z];exact hp))⟩⟩
 exact⟨e0,.refl _ _ _,r0,Ψ,gn,ln⟩
def Gk.fin{K:fv}{G0:Hp}{L0:List Addr}{H0:Hp}{H:Hp}{q:DQ}(a:Gk K G0 L0 H0 p G L M H)(e0:Ex G0 L0 H0 G0 L0 (upd H0 p (.dK [])))(hp:H0 p=none)(hk:ks.length=ds.length)(n:Ξ K G L ds vs)(k:q (.loc M.length) (M++[.iC ks ds])):Fin K G0 L0 H0 q (.ref p) (upd H p (.dK (ks.zip vs))):=by
 have e:=e0.trans a.ex;have gne:∀{b:Addr} {w:HO},G b=some w->b≠p:=λe z=>by rw[z,a.g]at e;cases e
 refine KZ (G:=G) (L:=L) (M:=M) (ks:=ks) (ds:=ds) (vs:=vs) ⟨e.g,e.l,e.fr,λb w h1 h2=>?_,e.new,λb h=>?_⟩ ⟨λb w e=>?_,a.rl.len,a.rl.nd,λi c m h1 h2=>?_⟩ hp a.g a.l Ψ hk n k
 ·rw[Ζ (λz=>by rw[z,hp]at h1;cases h1)];exact e.out b w h1 h2
 ·by_cases hb:b=p
  ·rw[hb,Ψ];simp
  ·rw[Ζ hb];exact e.C1 b h
 ·rw[Ζ (gne e)];exact a.rl.sub b w e
 ·have⟨q1,q2⟩:=a.rl.fK i c m h1 h2;exact⟨q1,q2.mono (.refl _) (.refl _) (Ζ λz=>a.l (by rw[<-z];exact aaj h1))⟩
def IH(s1 t1 s2 t2:DE):DE:=λρ M q x=>s1 ρ M (λc1 M1=>t1 ρ M1 (λd1 M2=>s2 ρ M2 (λc2 M3=>t2 ρ M3 (λd2 M4=>∃y1 y2,Am c1=some y1/\Am c2=some y2/\y1≠y2/\q (.loc M4.length) (M4++[.iC [y1,y2] [d1,d2]])) x) x) x) x
def yZ(K4:JE X R k1 s1)(hv1:JE X R v1 t1)(CA:JE X R k2 s2)(hv2:JE X R v2 t2):JE X R (.Dict [some k1,some k2] [v1,v2] pos) (IH s1 t1 s2 t2):=
 .of (CP (m_ K4 hv1 (m_ CA hv2 Dx)) rfl rfl (by simp) (by show 2<=15;decide)) λσ H G L ρ M q x rl n h hx=>by intro p hp;have⟨e0,a0⟩:=Sx rl hp;refine⟨G,L,ρ,M,_,x,a0.rl,n,h,hx.on e0,λu1 H1 xz=>?_⟩;have⟨c1,G1,L1,M1,e1,r1,n1,h1⟩:=xz;have a1:=a0.on e1 r1;have x1:=e0.trans e1;refine⟨G1,L1,ρ,M1,_,x,r1,n.mono x1,h1,hx.on x1,λu2 H2 xz=>?_⟩;have⟨d1,G2,L2,M2,e2,r2,n2,h2⟩:=xz;have a2:=a1.on e2 r2;have x2:=x1.trans e2;refine⟨G2,L2,ρ,M2,_,x,r2,n.mono x2,h2,hx.on x2,λu3 H3 xz=>?_⟩;have⟨c2,G3,L3,M3,e3,r3,n3,h3⟩:=xz;have a3:=a2.on e3 r3;have x3:=x2.trans e3;refine⟨G3,L3,ρ,M3,_,x,r3,n.mono x3,h3,hx.on x3,λu4 H4 xz=>?_⟩;have⟨d2,G4,L4,M4,e4,r4,n4,y1,y2,hy1,U6,mR,h4⟩:=xz;have a4:=a3.on e4 r4;obtain rfl:u1=kV y1:=jr hy1 n1;obtain rfl:u3=kV y2:=jr U6 n3;refine⟨a4.at_,[(y1,u2),(y2,u4)],rfl,by show 2<=15;decide,?_⟩;rw[pk _ [] (λ_ _=>rfl) (by simp[mR]),List.nil_append];have OB:=e3.trans e4;exact a4.fin (ks:=[y1,y2]) (ds:=[d1,d2]) (vs:=[u2,u4]) e0 hp rfl ⟨_,_,rfl,Den.mono OB.g OB.l _ _ n2,_,_,rfl,n4,rfl⟩ h4
end
def IU:List Dt->Ms->DQ->Prop
 | [d],M,q=>∃k ks ds,d= .loc k/\M[k]? =some (.iC ks ds)/\q (.int ks.length) M
 | _,_,_=>False
def SQ{K:fv}:Cc K (λxs H Q=>∃a kvs,xs=[V.ref a]/\H a=some (.dK kvs)/\Q (.int kvs.length) H) IU:=by
 intro G0 L0 H0 G L M H vs ds q e r n h;unfold IU at h;split at h
 ·have⟨k,ks,ds,rfl,hm,h⟩:=h;have⟨v,rfl,n1⟩:=a_ n;have⟨a,rfl,hk⟩:=n1;have⟨_,vs,hH,hl,dn⟩:=r.fK k a _ hk hm;refine⟨a,_,rfl,hH,.int ks.length,G,L,M,e,r,?_,h⟩;show V.int _=V.int _;rw[abQ,<-dn.length,<-hl,Nat.min_self]
 ·exact h.elim
section
variable{p pos:Pos}
def Ii(hm:X.mg "len"=none)(ha:JA X R [e] t)(hg:Gl X "len":=by rfl)(he:starEach [e] X.env=(false,eval e X.env)::starEach [] X.env:=by rfl)(fk:(backTo pos (starEach [] X.env)).any (·.1)=false:=by rfl):JE X R (.Call (.Name "len" p) [e] [] pos) (AE IU t):=
 fL EE SQ hm PySem.boot_len ha hg @_ @_ he fk
end
section
variable{elt:Expr}{x z:Str}{px pz tp:Pos}{pos:Pos}
def zp{i:Nat}{y:Str}{py iO:Pos}(hN:X.N.Nodup)(FA:X.N[i]? =some y)(hy:Loc X.env.scope y)(S:af X scope [x,z] ys Μ)(hi:JK X R (.Tuple [.Name x px,.Name z pz] kk tp) iter ti)(he:∀C s H fp,JE (Cx.comp X (x::z::ys) scope C s H fp) (λ_=>E0) elt te)(hc:X.calm=true:=by rfl)(ED:swapsWith (.ListComp elt [⟨.Tuple [.Name x px,.Name z pz] kk tp,iter,[],0⟩] scope pos) (some (.Name y py)) iO.line X.env=pure true:=by rfl)(hs:∀x,foldedSetIterable iter X.env x=pure x:=by intro _;rfl)(hf:X.fn y=true\/X.env.scope.names.lookup y=some .local:=by first| exact .inl rfl| exact .inr rfl| assumption):JS X R (.Assign [.Name y py] (.ListComp elt [⟨.Tuple [.Name x px,.Name z pz] kk tp,iter,[],0⟩] scope pos) iO) (xJ i (w8 2 ti (g2 0 1) te Μ)):=R7 false S hi (xk hc S) mP (ph (Nat.zero_lt_succ 1) (Nat.lt_succ_self 1)) (λ_ _ _ _=>fU) he hc hs hN FA hy ED hf λρ M q x h=>by unfold w8 at h;simp only[xI]at h;exact h
end
section
variable{H:Hp}
def CT(I:Inv X δ σ H s){xs ys:List V}(h:mQ X.K H a xs)(h':gu X.K H a ys):False:=by have⟨_,_,⟨o,n,e,c,_⟩,_⟩:=I.list h';have⟨_,_,⟨o2,e2,c2,_⟩,_⟩:=I.tuple h;rw[e]at e2;cases e2;rw[c]at c2;exact aaC (Value.type.inj c2) @_
def IM(I:Inv X δ σ H s){x y:V}(h:CQ X.K H n x y b):∀{b':Bool},CQ X.K H n x y b'->b=b':=by
 induction h with
 | flat h1 h2=>
  intro b' h';cases h' with
  | flat=>rfl
  | tup=>cases h1
  | lst=>cases h1
  | len=>cases h1
 | @tup n a b xs ys f h1 h2 h ih=>
  intro b' h';cases h' with
  | flat nY=>cases nY
  | @tup _ _ _ xs' ys' f' nY Mo h'=>
   cases I.kS h1 nY;cases I.kS h2 Mo
   congr 1
   rw[abW,aaS,aaS];have key:∀j∈List.range (min xs.length ys.length),f j=f' j:=λj hj=>by
    have hj:=aa9.mp hj;have l1:j < xs.length:=()
    have l2:j < ys.length:=()
    exact ih j _ _ (aaa l1) (aaa l2) (h' j _ _ (aaa l1) (aaa l2))
   exact⟨λz j hj=>by rw[<-key j hj];exact z j hj,λz j hj=>by rw[key j hj];exact z j hj⟩
  | lst nY=>exact(CT I h1 nY).elim
  | len nY=>exact(CT I h1 nY).elim
 | @lst n a b xs ys f h1 h2 hl h ih=>
  intro b' h';cases h' with
  | flat nY=>cases nY
  | tup nY=>exact(CT I nY h1).elim
  | @lst _ _ _ xs' ys' f' nY Mo NH h'=>
   cases I.cj h1 nY;cases I.cj h2 Mo;rw[abW,aaS,aaS];have key:∀j∈List.range xs.length,f j=f' j:=λj hj=>by
    have l1:=aa9.mp hj;have l2:j < ys.length:=()
    exact ih j _ _ (aaa l1) (aaa l2) (h' j _ _ (aaa l1) (aaa l2))
   exact⟨λz j hj=>by rw[<-key j hj];exact z j hj,λz j hj=>by rw[key j hj];exact z j hj⟩
  | len nY Mo NH=>
   cases I.cj h1 nY;cases I.cj h2 Mo;exact aaC hl NH
 | len h1 h2 hl=>
  intro b' h';cases h' with
  | flat nY=>cases nY
  | tup nY=>exact(CT I nY h1).elim
  | lst nY Mo NH=>
   cases I.cj h1 nY;cases I.cj h2 Mo;exact aaC NH hl
  | len=>rfl
end
def GI(K:fv)(n:Nat):V->List V->Hp->VK->Prop:=λx vs H Q=>∃p xs y,∃f:Nat->Bool,∃j:Nat,x= .ref p/\vs=[y]/\gu K H p xs/\(∀i z,xs[i]? =some z->CQ K H n z y (f i))/\j < xs.length/\f j=true/\(∀i,i < j->f i=false)/\Q (.int (j:Int)) H
def G6(hu:X.A.units+(n+1) < cLine):XD X "list.index" (GI X.K n):=by
 intro δ s σ H x vs v us Q I rx rv h;have⟨p,xs,y,f,j,rfl,rfl,hq,hf,hj,ft,ff,q⟩:=h;cases rx;have⟨u,rfl,ru⟩:=rv.one;have⟨its,r,pl,hz⟩:=I.list hq;have⟨⟨cls,dd,data,sl⟩,nn,ho,hc,hdd,hd⟩:=id pl;simp only at hc hd;subst hc hd
 classical
 have hu':X.A.in1.units+n < cLine:=by show X.A.units+1+n < cLine;omega
 have lz:its.toArray.size=xs.length:=by rw[aay,<-r.length]
 have aeu:sizeLine < 2 ^ 63 - 1:=@_
 have uq:∀i i' (z:V),xs[i]? =some z->xs[i']? =some z->f i=f i':=λi i' z h1 h2=>IM I (hf i z h1) (hf i' z h2);have ev:∀(m:Nat) (hm:m < its.toArray.size),decide (∃i z,xs[i]? =some z/\aq z its.toArray[m]/\f i=true)=f m:=λm hm=>by
  have⟨z,hz,rz⟩:=bN r hm;by_cases c:∃i z,xs[i]? =some z/\aq z its.toArray[m]/\f i=true
  ·rw[aau c];have⟨i,z',h1,h2,h3⟩:=c;cases rz.inj h2;rw[uq m i z hz h1,h3]
  ·rw[aal c];cases e:f m with
   | false=>rfl
   | true=>exact aaC ⟨m,z,hz,rz,e⟩ c
 refine call_meets F.slot_list_index ⟨_,ho,rfl⟩ F.entry_list_index (F.args_list_index_2 _ _) (SeqAt.list_indexAt p its.toArray nn dd sl u (λw=>decide (∃i z,xs[i]? =some z/\aq z w/\f i=true)) j () () ((ev j ()).trans ft) (λm hm h=>(ev m hm).trans (ff m h))) ⟨ho,λw hw=>?_,.int (j:Int),H,I.tok _,⟨_,rfl⟩,q⟩;have⟨m,hm,rfl⟩:=Array.mem_iff_getElem.mp hw;have⟨z,hz,rz⟩:=bN r hm;have:=ev m hm;exact this▸sd I (hf m z hz) rz ru hu'
section
def GC(n:Nat)(to:DE)(t:DA):DE:=λρ M q x=>to ρ M (λd M1=>(∃xs,jH M1 d=some xs)/\t ρ M1 (λds M2=>∃y xs,∃f:Nat->Bool,∃j:Nat,ds=[y]/\jH M2 d=some xs/\(∀i z,xs[i]? =some z->pV M2 n z y (f i))/\j < xs.length/\f j=true/\(∀i,i < j->f i=false)/\q (.int (j:Int)) M2) x) x
def LU(n:Nat)(hr:bU k' X.A)(ho:JE X R o to)(ha:JA X R [e] t)(hn:n+1<=64:=by decide)(ng:attributeBase o "index" X.env (eval o X.env)=eval o X.env:=by rfl)
  (J_:((backTo aU (starEach [e] X.env)).all (λx=> !x.1)&&(backToKw aU (keywordEach [] X.env)).all (λx=>x.1.isSome)
   &&decide (([e]:List Expr).length+([]:List Keyword).length+(if ([]:List Keyword).isEmpty then 0 else 1) < 30))=true:=by rfl)
  (nG:(apos.endLine==aU.line)=true:=by rfl) (hs:starEach [e] X.env=(false,eval e X.env)::starEach [] X.env:=by rfl) (qX:(backTo aU (starEach [] X.env)).any (·.1)=false:=by rfl):
  JE X R (.Call (.Attribute o "index" apos) [e] [] aU) (GC n to t):=
 .of (Nk PySem.F.plainAttrs_list PySem.F.slot_list_index PySem.F.type_list_index (r:=GI X.K n) (G6 (Oy hr hn)) ho ha ng J_ nG hs qX) λσ H G L ρ M q x rl n h hx=>by refine⟨G,L,ρ,M,_,x,rl,n,h,hx,λv H1 xz=>?_⟩;have⟨d1,G1,L1,M1,e1,r1,n1,⟨xs,hm⟩,h1⟩:=xz;have⟨a,vs,rfl,sq,m⟩:=fi r1 n1 hm;refine⟨.inl ⟨rfl,vs,sq⟩,G1,L1,ρ,M1,_,x,r1,n.mono e1,h1,hx.on e1,λus H2 xz=>?_⟩;have⟨ds,G2,L2,M2,e2,r2,n2,y,xs',f,j,ed,SM,hf,hj,ft,ff,h2⟩:=xz;subst ed;have⟨u,rfl,n3⟩:=a_ n2;have⟨a2,Gx,ea,Vm,m2⟩:=fi r2 (Den.mono e2.g e2.l _ _ n1) SM;cases ea;refine⟨a,Gx,u,f,j,rfl,rfl,Vm,λi z hz=>?_,by rw[<-m2.length];exact hj,ft,ff,.int (j:Int),G2,L2,_,e1.trans e2,r2,rfl,h2⟩;have⟨d,hd,dn⟩:=m2.back hz;exact HG r2 (hf i d hd) dn n3
end
end L2
namespace Fr0
variable{b t:Int}
def g(a b:Int):Int:=(Int.gcd a b:Nat)
def Aw{a:Int}(h:b≠0):0 < g a b:=by have:=Int.gcd_pos_of_ne_zero_right a h;unfold g;omega
def He{a:Int}(h:0<=a):g a 0=a:=by unfold g;rw[Int.gcd_zero_right];omega
def HH{a:Int}(hb:0 < b):g b (a.fmod b)=g a b:=by
 unfold g;rw[abI a (aav hb),Int.gcd_comm a b]
 congr 1
 refine Int.gcd_right_eq_iff.mpr λc hc=>?_;rw[Int.emod_def];constructor
 ·intro h;have:=Int.dvd_add h (Int.dvd_mul_of_dvd_left (c:=a / b) hc);rwa[Int.sub_add_cancel]at this
 ·intro h;exact Int.dvd_sub h (Int.dvd_mul_of_dvd_left (c:=a / b) hc)
def NB(a b:Int):g (if a < 0 then -a else a) (if b < 0 then -b else b)=g a b:=by unfold g;split <;> split <;> simp
def dv(t b:Int):Int:=if b < 0 then -(g t b) else g t b
def ax(t b:Int):Int×Int:=(t.fdiv (dv t b),b.fdiv (dv t b))
def DC(h:b≠0):dv t b≠0:=by have:=Aw (a:=t) h;unfold dv;split <;> omega
def zi{k p:Int}(h:k≠0):(k * p).fdiv k=p:=by rw[abe];exact Int.mul_fdiv_cancel p h
def IT(h:b≠0):∃p q:Int,t=dv t b * p/\b=dv t b * q/\0 < q/\Int.gcd p q=1:=by
 have hg:=Aw (a:=t) h;have h0:0 < Int.gcd t b:=Int.gcd_pos_of_ne_zero_right t h;have⟨p,hp⟩:=Int.gcd_dvd_left t b;have⟨q,hq⟩:=Int.gcd_dvd_right t b;have hc:Int.gcd p q=1:=by
  have e:=Int.gcd_ediv_gcd_ediv_gcd h0;have n0:(Int.gcd t b:Int)≠0:=()
  have e1:t / (Int.gcd t b:Int)=p:=by
   conv=>lhs;arg 1;rw[hp]
   exact abp p n0
  have e2:b / (Int.gcd t b:Int)=q:=by
   conv=>lhs;arg 1;rw[hq]
   exact abp q n0
  rwa[e1,e2]at e
 have xm:t=g t b * p:=hp;have lD:b=g t b * q:=hq;by_cases hb:b < 0
 ·have hd:dv t b= -(g t b):=by unfold dv;rw[if_pos hb]
  refine⟨-p,-q,?_,?_,?_,?_⟩
  ·rw[hd,Int.neg_mul_neg];exact xm
  ·rw[hd,Int.neg_mul_neg];exact lD
  ·have:g t b * q < 0:=by rw[<-lD];exact hb
   by_cases q0:0<=q
   ·exact aaC (abD (aav hg) q0) ()
   ·omega
  ·simpa using hc
 ·have hd:dv t b=g t b:=by unfold dv;rw[if_neg hb]
  refine⟨p,q,by rw[hd];exact xm,by rw[hd];exact lD,?_,hc⟩;have:0 < g t b * q:=by rw[<-lD];omega
  exact Int.pos_of_mul_pos_right this hg
def gc  (h : b ≠ 0) : ∃p q : Int,ax t b = (p,q) /\ 0 < q /\ Int.gcd p q = 1 /\ t = dv t b * p /\ b = dv t b * q :=by
  obtain⟨p,q,hp,hq,h0,hc⟩ :=IT (t :=t) h;have n0 :=DC (t :=t) h;refine⟨p,q,?_,h0,hc,hp,hq⟩;unfold ax
  have e1 : t.fdiv (dv t b) = p := by conv => lhs; arg 1; rw [hp]
                                      exact zi n0
  have e2 : b.fdiv (dv t b) = q := by conv => lhs; arg 1; rw [hq]
                                      exact zi n0
  rw[e1,e2]
def c9(h:b≠0):t * (ax t b).2=b * (ax t b).1:=by
 have⟨p,q,e,_,_,hp,hq⟩:=gc (t:=t) h;rw[e];show t * q=b * p
 calc t * q=dv t b * p * q:=by rw[<-hp]
  _=dv t b * q * p:=by rw[Int.mul_assoc,abe p q,<-Int.mul_assoc]
  _=b * p:=by rw[<-hq]
def cq(h:b≠0):0 < (ax t b).2:=by have⟨p,q,e,h0,_⟩:=gc (t:=t) h;rw[e];exact h0
def yU(h:b≠0):Int.gcd (ax t b).1 (ax t b).2=1:=by have⟨p,q,e,_,hc,_⟩:=gc (t:=t) h;rw[e];exact hc
def pU{k m n:Int}(h:k∣m * n)(hc:Int.gcd k m=1):k∣n:=by have:=(Int.dvd_gcd_mul_iff_dvd_mul (k:=k) (n:=m) (m:=n)).mpr h;rw[hc]at this;simpa using this
def AV{p q p' q':Int}(hq:0 < q)(lD:0 < q')(h:Int.gcd p q=1)(h':Int.gcd p' q'=1)(e:p * q'=p' * q):p=p'/\q=q':=by
 have d1:q∣q':=by have:q∣p * q':=⟨p',by rw[e,abe]⟩;exact pU this (by rw[Int.gcd_comm];exact h)
 have d2:q'∣q:=by have:q'∣p' * q:=⟨p,by rw[<-e,abe]⟩;exact pU this (by rw[Int.gcd_comm];exact h')
 have eq:q=q':=Int.le_antisymm (ab2 lD d1) (ab2 hq d2);subst eq;exact⟨Int.eq_of_mul_eq_mul_right () e,rfl⟩
def wM{p q:Int}(h:b≠0)(hq:0 < q)(hc:Int.gcd p q=1)(e:t * q=b * p):ax t b=(p,q):=by
 have h1:=c9 (t:=t) h;have h2:=cq (t:=t) h;have h3:=yU (t:=t) h;have h4:(ax t b).1 * q=p * (ax t b).2:=by
  have:b * ((ax t b).1 * q)=b * (p * (ax t b).2):=by rw[<-Int.mul_assoc,<-h1,Int.mul_right_comm,e,Int.mul_assoc]
  exact aaN h this
 have:=AV h2 hq h3 hc h4;exact Prod.ext this.1 this.2
def uG{p q:Int}(hq:0 < q)(hc:Int.gcd p q=1):ax p q=(p,q):=wM () hq hc (abe _ _)
def xx(h:b≠0):(dv t b).natAbs<=b.natAbs:=by
 have e:(dv t b).natAbs=Int.gcd t b:=by unfold dv g;split <;> omega
 rw[e];exact Int.gcd_le_natAbs_right t h
def rP  (h : b ≠ 0) : (ax t b).1.natAbs <= t.natAbs :=by
  obtain⟨p,q,e,_,_,hp,_⟩ :=gc (t :=t) h;have n0 :=DC (t :=t) h;rw[e];show p.natAbs <= t.natAbs
  have : t.natAbs = (dv t b).natAbs * p.natAbs := by conv => lhs; rw [hp]
                                                     exact aa4 _ _
  rw[this];exact Nat.le_mul_of_pos_left _ ()
def mZ  (h : b ≠ 0) : (ax t b).2.natAbs <= b.natAbs :=by
  obtain⟨p,q,e,_,_,_,hq⟩ :=gc (t :=t) h;have n0 :=DC (t :=t) h;rw[e];show q.natAbs <= b.natAbs
  have : b.natAbs = (dv t b).natAbs * q.natAbs := by conv => lhs; rw [hq]
                                                     exact aa4 _ _
  rw[this];exact Nat.le_mul_of_pos_left _ ()
def Mi(h:0 < b):ax t b=(t.fdiv (g t b),b.fdiv (g t b)):=by unfold ax dv;rw[aaq ()]
end Fr0
namespace Tx
open PySem PySem.NumText
end Tx
namespace Bz
variable{f:Nat->Int}{n i a m:Nat}{μ ρ:List Nat}{d B:Int}
abbrev Row:=Nat->Int
variable{γ:List Row}{A W:Nat->Row}{w:Row}
abbrev Fn:=List Nat->Int
def Lx(x:Row):Fn->Fn
 | _,[]=>0
 | F,c::cs=>x c * F cs - Lx x (λt=>F (c::t)) cs
def A3(x:Row):∀(cs:List Nat) (F G:Fn),Lx x (λt=>F t+G t) cs=Lx x F cs+Lx x G cs
 | [],F,G=>by simp[Lx]
 | c::cs,F,G=>by have:=A3 x cs (λt=>F (c::t)) (λt=>G (c::t));simp only[Lx];rw[this];grind
def lI(x:Row)(k:Int):∀(cs:List Nat) (F:Fn),Lx x (λt=>k * F t) cs=k * Lx x F cs
 | [],F=>by simp[Lx]
 | c::cs,F=>by have:=lI x k cs (λt=>F (c::t));simp only[Lx];rw[this];grind
def Ka(x:Row)(cs:List Nat)(F G:Fn):Lx x (λt=>F t - G t) cs=Lx x F cs - Lx x G cs:=by
 have h1:=A3 x cs F (λt=>(-1) * G t);have h2:=lI x (-1) cs G;have e:(λt=>F t - G t)=λt=>F t+(-1) * G t:=by funext t;grind
 rw[e,h1,h2];grind
def DB(x:Row):∀(cs:List Nat),Lx x (λ_=>0) cs=0
 | []=>rfl
 | c::cs=>by simp only[Lx];rw[DB x cs];simp
def wZ(x y:Row):∀(cs:List Nat) (F:Fn),Lx x (Lx y F) cs= - Lx y (Lx x F) cs
 | [],F=>rfl
 | c::cs,F=>by have ih:=wZ x y cs (λt=>F (c::t));have e1:(λt=>Lx y F (c::t))=λt=>y c * F t - Lx y (λu=>F (c::u)) t:=rfl;have e2:(λt=>Lx x F (c::t))=λt=>x c * F t - Lx x (λu=>F (c::u)) t:=rfl;show x c * Lx y F cs - Lx x (λt=>Lx y F (c::t)) cs= -(y c * Lx x F cs - Lx y (λt=>Lx x F (c::t)) cs);rw[e1,e2,Ka,Ka,lI,lI,ih];grind
def L8(x:Row)(cs:List Nat)(F:Fn):Lx x (Lx x F) cs=0:=by have:=wZ x x cs F;omega
def yb(x:Row)(d:Nat):∀(cs:List Nat) (F:Fn),Lx x F (cs++[d])=Lx x (λt=>F (t++[d])) cs+(-1) ^ cs.length * (x d * F cs)
 | [],F=>by simp[Lx]
 | c::cs,F=>by have:=yb x d cs (λt=>F (c::t));show x c * F (cs++[d]) - Lx x (λt=>F (c::t)) (cs++[d])=_;rw[this];show _=(x c * F (cs++[d]) - Lx x (λt=>F (c::(t++[d]))) cs)+(-1) ^ (cs.length+1) * (x d * F (c::cs));have e:(λt=>F (c::(t++[d])))=λt=>(λu=>F (c::u)) (t++[d]):=rfl;rw[e,abR];grind
def yx(x:Row){F G:Fn}{n:Nat}:∀(cs:List Nat),(∀t,t.length+1=cs.length->F t=G t)->Lx x F cs=Lx x G cs:=by
 intro cs
 induction cs generalizing F G with
 | nil=>intro _;rfl
 | cons c cs ih=>
  intro h;simp only[Lx];rw[h cs (by simp),ih (F:=λt=>F (c::t)) (G:=λt=>G (c::t)) λt ht=>h (c::t) (by simp;omega)]
def ψ(f:Nat->Int):Nat->Int
 | 0=>0
 | n+1=>ψ f n+f n
def gQ(f g:Nat->Int):∀n,ψ (λi=>f i+g i) n=ψ f n+ψ g n
 | 0=>rfl
 | n+1=>by simp only[ψ];rw[gQ f g n];omega
def Ν(k:Int)(f:Nat->Int):∀n,ψ (λi=>k * f i) n=k * ψ f n
 | 0=>by simp[ψ]
 | n+1=>by simp only[ψ];rw[Ν k f n,Int.mul_add]
def υ{f g:Nat->Int}:∀{n:Nat},(∀i,i < n->f i=g i)->ψ f n=ψ g n
 | 0,_=>rfl
 | n+1,h=>by simp only[ψ];rw[υ λi hi=>h i (),h n ()]
def iS(h:∀i,i < n->f i=0):ψ f n=0:=by
 rw[υ h];clear h
 induction n with
 | zero=>rfl
 | succ n ih=>simp only[ψ];rw[ih];rfl
def iE{j:Nat}(hj:j < n)(h:∀i,i < n->i≠j->f i=0):ψ f n=f j:=by
 induction n with
 | zero=>omega
 | succ n ih=>
  simp only[ψ];by_cases e:j=n
  ·subst e;rw[iS λi hi=>h i () ()];omega
  ·rw[ih () λi hi mR=>h i () mR,h n () ()];omega
def lP(f:Nat->Int):∀n,ψ f (n+1)=f 0+ψ (λi=>f (i+1)) n
 | 0=>by simp[ψ]
 | n+1=>by have:=lP f n;rw[show ψ f (n+1+1)=ψ f (n+1)+f (n+1) from rfl,this];simp only[ψ];omega
def df(f:Nat->Nat->Int)(m:Nat):∀n,ψ (λi=>ψ (f i) m) n=ψ (λj=>ψ (λi=>f i j) n) m
 | 0=>by rw[show ψ (λi=>ψ (f i) m) 0=0 from rfl];exact(iS λ_ _=>rfl).symm
 | n+1=>by rw[show ψ (λi=>ψ (f i) m) (n+1)=ψ (λi=>ψ (f i) m) n+ψ (f n) m from rfl,df f m n,<-gQ];rfl
def xU(x:Row):∀(cs:List Nat) (F:Fn),Lx x F cs=ψ (λp=>(-1) ^ p * (x (cs.getD p 0) * F (cs.eraseIdx p))) cs.length
 | [],F=>rfl
 | c::cs,F=>by
  have ih:=xU x cs (λt=>F (c::t));show x c * F cs - Lx x (λt=>F (c::t)) cs=_;rw[aaI,lP,ih];have e:ψ (λp=>(-1) ^ (p+1) * (x ((c::cs).getD (p+1) 0) * F ((c::cs).eraseIdx (p+1)))) cs.length= -1 * ψ (λp=>(-1) ^ p * (x (cs.getD p 0) * F (c::cs.eraseIdx p))) cs.length:=by rw[<-Ν];refine υ λp _=>?_;simp only[List.getD_cons_succ,List.eraseIdx_cons_succ];rw[Int.pow_succ];grind
  rw[e];simp only[List.getD_cons_zero,List.eraseIdx_cons_zero,Int.pow_zero];omega
def F0:Fn:=λcs=>if cs=[] then 1 else 0
def D:List Row->Fn
 | []=>F0
 | x::xs=>Lx x (D xs)
def nN(y:Row):∀(xs ys:List Row) (cs:List Nat),D (xs++y::ys) cs=(-1) ^ xs.length * D (y::(xs++ys)) cs
 | [],ys,cs=>by simp
 | x::xs,ys,cs=>by
  show Lx x (D (xs++y::ys)) cs=_;have e:D (xs++y::ys)=λt=>(-1) ^ xs.length * D (y::(xs++ys)) t:=by funext t;exact nN y xs ys t
  rw[e,lI];show(-1) ^ xs.length * Lx x (Lx y (D (xs++ys))) cs=(-1) ^ (xs.length+1) * Lx y (Lx x (D (xs++ys))) cs;rw[wZ x y,Int.pow_succ];grind
def RK(y:Row)(xs ys zs:List Row)(cs:List Nat):D (xs++y::(ys++y::zs)) cs=0:=by
 rw[nN];have e:D (y::(xs++(ys++y::zs))) cs=Lx y (λt=>D (xs++(ys++y::zs)) t) cs:=rfl;have e2:(λt=>D (xs++(ys++y::zs)) t)=λt=>(-1) ^ (xs++ys).length * Lx y (D (xs++ys++zs)) t:=by
  funext t
  rw[<-aaJ,nN];rfl
 rw[e,e2,lI,L8];simp
def eY(γ:List Row)(μ:List Nat)(p k:Nat):Int:=(-1) ^ (p+k) * D (γ.eraseIdx k) (μ.eraseIdx p)
def zr:Row:=λ_=>0
def Qf(n:Nat):((-1:Int) ^ n) * (-1) ^ n=1:=by
 induction n with
 | zero=>rfl
 | succ n ih=>rw[Int.pow_succ];grind
def Hk{α:Type}:∀{l:List α} {k:Nat} (h:k < l.length),l=l.take k++l[k]::l.drop (k+1):=by intro l k h;rw[List.getElem_cons_drop,List.take_append_drop]
def Gm{α:Type}{l:List α}{k:Nat}(hi:i < l.length)(mR:i≠k):l[i]∈l.eraseIdx k:=by rw[List.mem_eraseIdx_iff_getElem];exact⟨i,hi,mR,rfl⟩
def PA{k:Nat}(hl:μ.length=γ.length)(hi:i < γ.length)(hk:k < γ.length):ψ (λp=>γ.getD i zr (μ.getD p 0) * eY γ μ p k) γ.length=if i=k then D γ μ else 0:=by
 have gi:γ.getD i zr=γ[i]:=by rw[aab,aaa hi];rfl
 have e:ψ (λp=>γ.getD i zr (μ.getD p 0) * eY γ μ p k) γ.length=(-1) ^ k * D (γ.getD i zr::γ.eraseIdx k) μ:=by show _=(-1) ^ k * Lx (γ.getD i zr) (D (γ.eraseIdx k)) μ;rw[xU,<-Ν,hl];refine υ λp _=>?_;unfold eY;rw[Int.pow_add];grind
 rw[e,gi];by_cases h:i=k
 ·subst h;rw[aar rfl];have s:=Hk hi;have f:=nN γ[i] (γ.take i) (γ.drop (i+1)) μ;rw[<-s,List.length_take,ach ()]at f;rw[f,List.eraseIdx_eq_take_drop_succ]
 ·rw[aaq h];have⟨ys,zs,e2⟩:=List.append_of_mem (Gm hi h);rw[e2];have:=RK γ[i] [] ys zs μ;rw[show D (γ[i]::(ys++γ[i]::zs)) μ=0 from this];simp
def xy(x:Row)(g:Nat->Int)(F:Nat->Fn)(cs:List Nat):∀n,Lx x (λt=>ψ (λk=>g k * F k t) n) cs=ψ (λk=>g k * Lx x (F k) cs) n
 | 0=>DB x cs
 | n+1=>by have:=A3 x cs (λt=>ψ (λk=>g k * F k t) n) (λt=>g n * F n t);show Lx x (λt=>ψ (λk=>g k * F k t) n+g n * F n t) cs=_;rw[this,xy x g F cs n,lI];rfl
def Nz(c:Nat):∀(γ:List Row) (t:List Nat),D γ (t++[c])=ψ (λk=>(-1) ^ (t.length+k) * (γ.getD k zr c * D (γ.eraseIdx k) t)) γ.length
 | [],t=>by show F0 (t++[c])=0;unfold F0;simp
 | x::xs,t=>by
  show Lx x (D xs) (t++[c])=_;rw[yb,aaI,lP];have e:Lx x (λu=>D xs (u++[c])) t=ψ (λk=>(-1) ^ (t.length+(k+1)) * ((x::xs).getD (k+1) zr c * D ((x::xs).eraseIdx (k+1)) t)) xs.length:=by
   have e1:Lx x (λu=>D xs (u++[c])) t=Lx x (λu=>ψ (λk=>((-1) ^ (t.length+(k+1)) * xs.getD k zr c) * D (xs.eraseIdx k) u) xs.length) t:=by refine yx x (n:=0) t λu hu=>?_;rw[Nz c xs u];refine υ λk _=>?_;rw[<-hu,show u.length+1+(k+1)=u.length+k+1+1 by omega,Int.pow_succ,Int.pow_succ];grind
   rw[e1,xy x (λk=>(-1) ^ (t.length+(k+1)) * xs.getD k zr c) (λk=>D (xs.eraseIdx k))];refine υ λk _=>?_;simp only[List.getD_cons_succ,List.eraseIdx_cons_succ];show _=(-1) ^ (t.length+(k+1)) * (xs.getD k zr c * Lx x (D (xs.eraseIdx k)) t);grind
  rw[e];simp only[List.getD_cons_zero,List.eraseIdx_cons_zero,Nat.add_zero];omega
def Jk{y:Row}{c:Nat}(hl:μ.length=γ.length):D (γ++[y]) (μ++[c])=y c * D γ μ - ψ (λp=>y (μ.getD p 0) * ψ (λk=>eY γ μ p k * γ.getD k zr c) γ.length) γ.length:=by
 rw[nN,aaV];show(-1) ^ γ.length * Lx y (D γ) (μ++[c])=_;rw[yb];have e1:Lx y (λt=>D γ (t++[c])) μ= - ((-1) ^ γ.length * ψ (λp=>y (μ.getD p 0) * ψ (λk=>eY γ μ p k * γ.getD k zr c) γ.length) γ.length):=by
  have e2:Lx y (λt=>D γ (t++[c])) μ=Lx y (λt=>ψ (λk=>(-((-1) ^ (γ.length+k) * γ.getD k zr c)) * D (γ.eraseIdx k) t) γ.length) μ:=by refine yx y (n:=0) μ λt ht=>?_;rw[Nz c γ t];refine υ λk _=>?_;rw[<-hl,<-ht,show t.length+1+k=t.length+k+1 by omega,Int.pow_succ];grind
  rw[e2,xy y (λk=> -((-1) ^ (γ.length+k) * γ.getD k zr c)) (λk=>D (γ.eraseIdx k))];have e3:ψ (λk=> -((-1) ^ (γ.length+k) * γ.getD k zr c) * Lx y (D (γ.eraseIdx k)) μ) γ.length=ψ (λk=>ψ (λp=> -((-1) ^ γ.length) * (y (μ.getD p 0) * (eY γ μ p k * γ.getD k zr c))) γ.length) γ.length:=by refine υ λk _=>?_;rw[xU,<-Ν,hl];refine υ λp _=>?_;unfold eY;rw[Int.pow_add,Int.pow_add];grind
  rw[e3,df];have e4:ψ (λp=>ψ (λk=> -((-1) ^ γ.length) * (y (μ.getD p 0) * (eY γ μ p k * γ.getD k zr c))) γ.length) γ.length=ψ (λp=> -((-1) ^ γ.length) * (y (μ.getD p 0) * ψ (λk=>eY γ μ p k * γ.getD k zr c) γ.length)) γ.length:=by refine υ λp _=>?_;rw[Ν,Ν]
  rw[e4,Ν];grind
 rw[e1,hl];have s:=Qf γ.length;generalize ((-1:Int) ^ γ.length)=z at *
 generalize ψ _ γ.length=q;grind
def Hc{v:Nat->Int}{e:Int}{k:Nat}(hl:μ.length=γ.length)(hi:i < γ.length)(hk:k < γ.length)
  (h:∀p,p < γ.length->ψ (λj=>v j * γ.getD j zr (μ.getD p 0)) γ.length=if i=p then e else 0):v k * D γ μ=e * eY γ μ i k:=by
 have a:ψ (λp=>ψ (λj=>v j * γ.getD j zr (μ.getD p 0)) γ.length * eY γ μ p k) γ.length=e * eY γ μ i k:=by rw[iE hi λp hp mR=>by rw[h p hp,if_neg (Ne.symm mR)];simp];rw[h i hi,aar rfl]
 have b:ψ (λp=>ψ (λj=>v j * γ.getD j zr (μ.getD p 0)) γ.length * eY γ μ p k) γ.length=ψ (λj=>v j * ψ (λp=>γ.getD j zr (μ.getD p 0) * eY γ μ p k) γ.length) γ.length:=by
  have e1:ψ (λp=>ψ (λj=>v j * γ.getD j zr (μ.getD p 0)) γ.length * eY γ μ p k) γ.length=ψ (λp=>ψ (λj=>v j * (γ.getD j zr (μ.getD p 0) * eY γ μ p k)) γ.length) γ.length:=by refine υ λp _=>?_;rw[abe,<-Ν];refine υ λj _=>?_;grind
  rw[e1,df];refine υ λj _=>?_;rw[<-Ν]
 rw[<-a,b,iE hk λj hj mR=>by rw[PA hl hj hk,if_neg mR];simp];rw[PA hl hk hk,aar rfl]
def ind(a k:Nat):Int:=if a=k then 1 else 0
def rv(A:Nat->Row)(n:Nat)(w:Row)(x:Nat):Int:=ψ (λk=>w k * A k x) n
def nE(h:a < n):ψ (λk=>ind a k * f k) n=f a:=by rw[iE h λi _ mR=>by unfold ind;rw[if_neg (Ne.symm mR)];simp];unfold ind;rw[if_pos rfl];simp
def xQ{u v:Row}{a b:Int}(h:∀k,w k=a * u k - b * v k)(x:Nat):rv A n w x=a * rv A n u x - b * rv A n v x:=by
 unfold rv;have e:ψ (λk=>w k * A k x) n=ψ (λk=>a * (u k * A k x)+(-b) * (v k * A k x)) n:=υ λk _=>by rw[h k];grind
 rw[e,gQ,Ν,Ν];grind
def Kr{r:Nat}{g:Nat->Int}{u:Nat->Row}(h:∀k,w k=ψ (λj=>g j * u j k) r)(x:Nat):rv A n w x=ψ (λj=>g j * rv A n (u j) x) r:=by
 unfold rv;have e:ψ (λk=>w k * A k x) n=ψ (λk=>ψ (λj=>g j * (u j k * A k x)) r) n:=υ λk _=>by rw[h k,abe,<-Ν];exact υ λj _=>by grind
 rw[e,df];exact υ λj _=>Ν _ _ _
def Ce(h:a < n)(x:Nat):rv A n (ind a) x=A a x:=by unfold rv;exact nE (f:=λk=>A k x) h
structure St(A:Nat->Row)(n:Nat)(ρ μ:List Nat)(q:Nat->Nat)(d:Int)(W:Nat->Row):Prop where
 lc:μ.length=ρ.length
 rn:ρ.length<=n
 LC:∀i,i < n->q i < n
 yT:∀j,j < ρ.length->ρ.getD j 0 < n
 det:D (ρ.map A) μ=d
 wp:∀i,i < ρ.length->∀k,W i k=ψ (λj=>eY (ρ.map A) μ i j * ind (ρ.getD j 0) k) ρ.length
 wn:∀i,ρ.length<=i->i < n->∀k,W i k=d * ind (q i) k - ψ (λp=>A (q i) (μ.getD p 0) * W p k) ρ.length
 one:∀i p,i < ρ.length->p < ρ.length->rv A n (W i) (μ.getD p 0)=if i=p then d else 0
section
variable{q:Nat->Nat}
def tM{j:Nat}(h:j < ρ.length):(ρ.map A).getD j zr=A (ρ.getD j 0):=by rw[aab,aah,aaa h,aab,aaa h];rfl
def St.QY(s:St A n ρ μ q d W)(hi:i < ρ.length)(x:Nat):rv A n (W i) x=ψ (λj=>eY (ρ.map A) μ i j * A (ρ.getD j 0) x) ρ.length:=by rw[Kr (u:=λj=>ind (ρ.getD j 0)) (s.wp i hi)];exact υ λj hj=>by rw[Ce (s.yT j hj)]
def St.P5(s:St A n ρ μ q d W)(h1:ρ.length<=i)(hi:i < n)(x:Nat):rv A n (W i) x=d * A (q i) x - ψ (λp=>A (q i) (μ.getD p 0) * rv A n (W p) x) ρ.length:=by
 have h:∀k,W i k=d * ind (q i) k - 1 * ψ (λp=>A (q i) (μ.getD p 0) * W p k) ρ.length:=λk=>by rw[s.wn i h1 hi k];omega
 rw[xQ h x,Ce (s.LC i hi),Kr (w:=λk=>ψ (λp=>A (q i) (μ.getD p 0) * W p k) ρ.length) (u:=W) (λk=>rfl)];omega
def St.zero(s:St A n ρ μ q d W){p:Nat}(h1:ρ.length<=i)(hi:i < n)(hp:p < ρ.length):rv A n (W i) (μ.getD p 0)=0:=by
 rw[s.P5 h1 hi];have e:ψ (λp'=>A (q i) (μ.getD p' 0) * rv A n (W p') (μ.getD p 0)) ρ.length=A (q i) (μ.getD p 0) * d:=by rw[iE hp λp' xm mR=>by rw[s.one p' p xm hp,if_neg mR];simp];rw[s.one p p hp hp,aar rfl]
 rw[e];grind
def St.head(s:St A n ρ μ q d W)(hr:ρ.length < n)(c:Nat):D ((ρ++[q ρ.length]).map A) (μ++[c])=rv A n (W ρ.length) c:=by
 rw[aaW,s.P5 (aai _) hr];show D (ρ.map A++[A (q ρ.length)]) (μ++[c])=_;rw[Jk (by rw[aae];exact s.lc),s.det,aae,abe]
 congr 1
 refine υ λp hp=>?_;rw[s.QY hp]
 congr 1
 exact υ λk hk=>by rw[tM hk]
def nA{j:Nat}{l:List Nat}(h:j < l.length):(l++[a]).getD j 0=l.getD j 0:=by rw[aab,aao h,<-aab]
def mY{l:List Nat}:(l++[a]).getD l.length 0=a:=by simp
def mix(f:Nat->Int)(s:St A n ρ μ q d W)(a L:Int)(g:Nat->Int):
  ψ (λj=>(if j < ρ.length then a * g j+L * ψ (λp=>A (q ρ.length) (μ.getD p 0) * eY (ρ.map A) μ p j) ρ.length else -(L * d)) * f ((ρ++[q ρ.length]).getD j 0)) (ρ.length+1)
  =a * ψ (λj=>g j * f (ρ.getD j 0)) ρ.length - L * (d * f (q ρ.length) - ψ (λp=>A (q ρ.length) (μ.getD p 0) * ψ (λj=>eY (ρ.map A) μ p j * f (ρ.getD j 0)) ρ.length) ρ.length):=by
 rw[show∀F:Nat->Int,ψ F (ρ.length+1)=ψ F ρ.length+F ρ.length fromλ_=>rfl,mY,aaq (abB _)]
 have e:ψ (λj=>(if j < ρ.length then a * g j+L * ψ (λp=>A (q ρ.length) (μ.getD p 0) * eY (ρ.map A) μ p j) ρ.length else -(L * d)) * f ((ρ++[q ρ.length]).getD j 0)) ρ.length
   =ψ (λj=>a * (g j * f (ρ.getD j 0))+L * ψ (λp=>A (q ρ.length) (μ.getD p 0) * (eY (ρ.map A) μ p j * f (ρ.getD j 0))) ρ.length) ρ.length:=by
  refine υ λj hj=>?_;rw[aar hj,nA hj];have e2:ψ (λp=>A (q ρ.length) (μ.getD p 0) * (eY (ρ.map A) μ p j * f (ρ.getD j 0))) ρ.length=f (ρ.getD j 0) * ψ (λp=>A (q ρ.length) (μ.getD p 0) * eY (ρ.map A) μ p j) ρ.length:=by rw[<-Ν];exact υ λp _=>by grind
  rw[e2];grind
 rw[e,gQ,Ν,Ν,df (λj p=>A (q ρ.length) (μ.getD p 0) * (eY (ρ.map A) μ p j * f (ρ.getD j 0)))]
 have e3:ψ (λp=>ψ (λj=>A (q ρ.length) (μ.getD p 0) * (eY (ρ.map A) μ p j * f (ρ.getD j 0))) ρ.length) ρ.length=ψ (λp=>A (q ρ.length) (μ.getD p 0) * ψ (λj=>eY (ρ.map A) μ p j * f (ρ.getD j 0)) ρ.length) ρ.length:=
  υ λp _=>Ν _ _ _
 rw[e3];grind
def St.step(s:St A n ρ μ q d W)(hr:ρ.length < n)(c:Nat)(d0:d≠0)(h0:rv A n (W ρ.length) c≠0):
  ∃W':Nat->Row,St A n (ρ++[q ρ.length]) (μ++[c]) q (rv A n (W ρ.length) c) W'/\(∀k,W' ρ.length k=W ρ.length k)/\
   ∀i,i < n->i≠ρ.length->∀k,d * W' i k=rv A n (W ρ.length) c * W i k - rv A n (W i) c * W ρ.length k:=by
 have hd:=s.head hr c;generalize hE:rv A n (W ρ.length) c=E at *
 have lr:((ρ++[q ρ.length]).map A).length=ρ.length+1:=by simp
 have Zv:(μ++[c]).length=((ρ++[q ρ.length]).map A).length:=by rw[lr];simp[s.lc]
 have cg:∀p,p < ρ.length->(μ++[c]).getD p 0=μ.getD p 0:=λp hp=>nA (by rw[s.lc];exact hp);have cl:(μ++[c]).getD ρ.length 0=c:=by rw[<-s.lc];exact mY
 have rg:∀j,j < ρ.length+1->((ρ++[q ρ.length]).map A).getD j zr=A ((ρ++[q ρ.length]).getD j 0):=λj hj=>tM (by simp;omega);have head:∀j,j < ρ.length+1->(if j < ρ.length then (0:Int) * 0+(-1) * ψ (λp=>A (q ρ.length) (μ.getD p 0) * eY (ρ.map A) μ p j) ρ.length else -((-1) * d))=eY ((ρ++[q ρ.length]).map A) (μ++[c]) ρ.length j:=λj hj=>by
  have:=Hc (γ:=(ρ++[q ρ.length]).map A) (μ:=μ++[c]) (v:=λj=>if j < ρ.length then (0:Int) * 0+(-1) * ψ (λp=>A (q ρ.length) (μ.getD p 0) * eY (ρ.map A) μ p j) ρ.length else -((-1) * d)) (e:=E) (i:=ρ.length) (k:=j) Zv (by rw[lr];omega) (by rw[lr];exact hj) (λp hp=>by
   rw[lr]at hp⊢;have e1:=mix (λa=>A a ((μ++[c]).getD p 0)) s 0 (-1) (λ_=>0);have e2:ψ (λj=>(if j < ρ.length then (0:Int) * 0+(-1) * ψ (λp=>A (q ρ.length) (μ.getD p 0) * eY (ρ.map A) μ p j) ρ.length else -((-1) * d)) * ((ρ++[q ρ.length]).map A).getD j zr ((μ++[c]).getD p 0)) (ρ.length+1)=_:=(υ λj hj=>by rw[rg j hj]).trans e1;rw[e2];have e3:d * A (q ρ.length) ((μ++[c]).getD p 0) - ψ (λp'=>A (q ρ.length) (μ.getD p' 0) * ψ (λj=>eY (ρ.map A) μ p' j * A (ρ.getD j 0) ((μ++[c]).getD p 0)) ρ.length) ρ.length=rv A n (W ρ.length) ((μ++[c]).getD p 0):=by
    rw[s.P5 (aai _) hr]
    congr 1
    exact υ λp' xm=>by rw[s.QY xm]
   rw[e3];by_cases Ft:p < ρ.length
   ·rw[cg p Ft,s.zero (Nat.le_refl _) hr Ft,if_neg ()];simp
   ·have:p=ρ.length:=()
    subst this
    rw[cl,hE,aar rfl];omega)
  rw[hd]at this;refine aaN h0 ?_;rw[<-this];grind
 have hk:∀k,W ρ.length k=ψ (λj=>eY ((ρ++[q ρ.length]).map A) (μ++[c]) ρ.length j * ind ((ρ++[q ρ.length]).getD j 0) k) (ρ.length+1):=λk=>by
  have e1:=mix (λa=>ind a k) s 0 (-1) (λ_=>0);have e2:ψ (λj=>eY ((ρ++[q ρ.length]).map A) (μ++[c]) ρ.length j * ind ((ρ++[q ρ.length]).getD j 0) k) (ρ.length+1)=_:=(υ λj hj=>by rw[<-head j hj]).trans e1;rw[e2,s.wn _ (aai _) hr k];have e3:ψ (λp=>A (q ρ.length) (μ.getD p 0) * W p k) ρ.length=ψ (λp=>A (q ρ.length) (μ.getD p 0) * ψ (λj=>eY (ρ.map A) μ p j * ind (ρ.getD j 0) k) ρ.length) ρ.length:=υ λp hp=>by rw[s.wp p hp k]
  rw[e3];omega
 have above:∀i,i < ρ.length->∀j,j < ρ.length+1->(if j < ρ.length then E * eY (ρ.map A) μ i j+rv A n (W i) c * ψ (λp=>A (q ρ.length) (μ.getD p 0) * eY (ρ.map A) μ p j) ρ.length else -(rv A n (W i) c * d))=d * eY ((ρ++[q ρ.length]).map A) (μ++[c]) i j:=λi hi j hj=>by
  have:=Hc (γ:=(ρ++[q ρ.length]).map A) (μ:=μ++[c]) (v:=λj=>if j < ρ.length then E * eY (ρ.map A) μ i j+rv A n (W i) c * ψ (λp=>A (q ρ.length) (μ.getD p 0) * eY (ρ.map A) μ p j) ρ.length else -(rv A n (W i) c * d)) (e:=d * E) (i:=i) (k:=j) Zv (by rw[lr];omega) (by rw[lr];exact hj) (λp hp=>by
   rw[lr]at hp⊢;have e1:=mix (λa=>A a ((μ++[c]).getD p 0)) s E (rv A n (W i) c) (λj=>eY (ρ.map A) μ i j);have e2:ψ (λj=>(if j < ρ.length then E * eY (ρ.map A) μ i j+rv A n (W i) c * ψ (λp=>A (q ρ.length) (μ.getD p 0) * eY (ρ.map A) μ p j) ρ.length else -(rv A n (W i) c * d)) * ((ρ++[q ρ.length]).map A).getD j zr ((μ++[c]).getD p 0)) (ρ.length+1)=_:=(υ λj hj=>by rw[rg j hj]).trans e1;rw[e2];have e3:d * A (q ρ.length) ((μ++[c]).getD p 0) - ψ (λp'=>A (q ρ.length) (μ.getD p' 0) * ψ (λj=>eY (ρ.map A) μ p' j * A (ρ.getD j 0) ((μ++[c]).getD p 0)) ρ.length) ρ.length=rv A n (W ρ.length) ((μ++[c]).getD p 0):=by
    rw[s.P5 (aai _) hr]
    congr 1
    exact υ λp' xm=>by rw[s.QY xm]
   rw[e3,<-s.QY hi];by_cases Ft:p < ρ.length
   ·rw[cg p Ft,s.zero (aai _) hr Ft,s.one i p hi Ft];split <;> grind
   ·have:p=ρ.length:=()
    subst this
    rw[cl,hE,if_neg ()];grind)
  rw[hd]at this;refine aaN h0 ?_;rw[Int.mul_comm,this];grind
 have abk:∀i,i < ρ.length->∀k,d * ψ (λj=>eY ((ρ++[q ρ.length]).map A) (μ++[c]) i j * ind ((ρ++[q ρ.length]).getD j 0) k) (ρ.length+1)=E * W i k - rv A n (W i) c * W ρ.length k:=λi hi k=>by
  have e1:=mix (λa=>ind a k) s E (rv A n (W i) c) (λj=>eY (ρ.map A) μ i j);have e2:d * ψ (λj=>eY ((ρ++[q ρ.length]).map A) (μ++[c]) i j * ind ((ρ++[q ρ.length]).getD j 0) k) (ρ.length+1)=_:=((Ν _ _ _).symm.trans (υ λj hj=>by rw[above i hi j hj];grind)).trans e1;rw[e2,s.wn _ (aai _) hr k,s.wp i hi k];have e3:ψ (λp=>A (q ρ.length) (μ.getD p 0) * W p k) ρ.length=ψ (λp=>A (q ρ.length) (μ.getD p 0) * ψ (λj=>eY (ρ.map A) μ p j * ind (ρ.getD j 0) k) ρ.length) ρ.length:=υ λp hp=>by rw[s.wp p hp k]
  rw[e3]
 let V:Nat->Row:=λi k=>if i=ρ.length then W ρ.length k else ψ (λj=>eY ((ρ++[q ρ.length]).map A) (μ++[c]) i j * ind ((ρ++[q ρ.length]).getD j 0) k) (ρ.length+1)
 let W':Nat->Row:=λi k=>if i < ρ.length+1 then V i k else E * ind (q i) k - ψ (λp=>A (q i) ((μ++[c]).getD p 0) * V p k) (ρ.length+1)
 have Wr:∀k,W' ρ.length k=W ρ.length k:=λk=>by show(if ρ.length < ρ.length+1 then (if ρ.length=ρ.length then W ρ.length k else _) else _)=_;rw[aar (abr _),aar rfl]
 have Wi:∀i,i < ρ.length->∀k,W' i k=ψ (λj=>eY ((ρ++[q ρ.length]).map A) (μ++[c]) i j * ind ((ρ++[q ρ.length]).getD j 0) k) (ρ.length+1):=λi hi k=>by show(if i < ρ.length+1 then (if i=ρ.length then _ else _) else _)=_;rw[aar (),aaq ()]
 have WV:∀p,p < ρ.length+1->∀k,W' p k=V p k:=λp hp k=>by show(if p < ρ.length+1 then V p k else _)=_;rw[aar hp]
 have Wn:∀i,ρ.length+1<=i->∀k,W' i k=E * ind (q i) k - ψ (λp=>A (q i) ((μ++[c]).getD p 0) * W' p k) (ρ.length+1):=λi hi k=>by
  show(if i < ρ.length+1 then V i k else _)=_;rw[aaq ()]
  congr 1
  exact υ λp hp=>by rw[WV p hp]
 have H:∀i,i < n->i≠ρ.length->∀k,d * W' i k=E * W i k - rv A n (W i) c * W ρ.length k:=λi hi mR k=>by
  by_cases wg:i < ρ.length
  ·rw[Wi i wg k];exact abk i wg k
  ·rw[Wn i () k,s.wn i () hi k,s.P5 () hi c];rw[show∀F:Nat->Int,ψ F (ρ.length+1)=ψ F ρ.length+F ρ.length fromλ_=>rfl,cl,Wr];have e1:d * ψ (λp=>A (q i) ((μ++[c]).getD p 0) * W' p k) ρ.length=ψ (λp=>E * (A (q i) (μ.getD p 0) * W p k)+(-(W ρ.length k)) * (A (q i) (μ.getD p 0) * rv A n (W p) c)) ρ.length:=by rw[<-Ν];refine υ λp hp=>?_;have:=abk p hp k;rw[cg p hp,Wi p hp k];grind
   rw[gQ,Ν,Ν]at e1;grind
 refine⟨W',⟨by simp[s.lc],by simp;omega,s.LC,λj hj=>?_,hd,λi hi k=>?_,λi h1 hi k=>?_,λi p hi hp=>?_⟩,Wr,H⟩
 ·by_cases hjr:j < ρ.length
  ·rw[nA hjr];exact s.yT j hjr
  ·have:j=ρ.length:=by simp at hj;omega
   rw[this,mY];exact s.LC _ hr
 ·rw[show(ρ++[q ρ.length]).length=ρ.length+1 by simp]at hi⊢;by_cases wg:i < ρ.length
  ·exact Wi i wg k
  ·have:i=ρ.length:=()
   subst this;rw[Wr k];exact hk k
 ·rw[show(ρ++[q ρ.length]).length=ρ.length+1 by simp]at h1⊢;exact Wn i h1 k
 ·rw[show(ρ++[q ρ.length]).length=ρ.length+1 by simp]at hi hp;have hrr:∀x,rv A n (W' ρ.length) x=rv A n (W ρ.length) x:=λx=>by unfold rv;exact υ λk _=>by rw[Wr k]
  by_cases wg:i < ρ.length
  ·have WY:d * rv A n (W' i) ((μ++[c]).getD p 0)=E * rv A n (W i) ((μ++[c]).getD p 0) - rv A n (W i) c * rv A n (W ρ.length) ((μ++[c]).getD p 0):=by have:=xQ (A:=A) (n:=n) (w:=λk=>d * W' i k) (u:=W i) (v:=W ρ.length) (a:=E) (b:=rv A n (W i) c) (λk=>H i () () k) ((μ++[c]).getD p 0);rw[<-this];unfold rv;rw[<-Ν];exact υ λk _=>by grind
   refine aaN d0 ?_;rw[WY];by_cases Ft:p < ρ.length
   ·rw[cg p Ft,s.zero (aai _) hr Ft,s.one i p wg Ft];split <;> grind
   ·have:p=ρ.length:=()
    subst this;rw[cl,hE,if_neg ()];grind
  ·have:i=ρ.length:=()
   subst this;rw[hrr];by_cases Ft:p < ρ.length
   ·rw[cg p Ft,s.zero (aai _) hr Ft,aaq ()]
   ·have:p=ρ.length:=()
    subst this;rw[cl,hE,aar rfl]
end
def St.start:St A n [] [] id 1 (λi=>ind i) where
 lc:=rfl
 rn:=abE _
 LC:=λ_ h=>h
 yT:=λ_ h=>aaC h (abF _)
 det:=rfl
 wp:=λ_ h=>aaC h (abF _)
 wn:=λi _ _ k=>by show ind i k=1 * ind i k - 0;omega
 one:=λ_ _ h=>aaC h (abF _)
def St.perm{q:Nat->Nat}(s:St A n ρ μ q d W){π:Nat->Nat}(h1:∀i,i < ρ.length->π i=i)(h2:∀i,ρ.length<=i->i < n->ρ.length<=π i/\π i < n):St A n ρ μ (λi=>q (π i)) d (λi=>W (π i)) where
 lc:=s.lc
 rn:=s.rn
 LC:=λi hi=>s.LC _ (by
  by_cases h:i < ρ.length
  ·rw[h1 i h];exact hi
  ·exact(h2 i () hi).2)
 yT:=s.yT
 det:=s.det
 wp:=λi hi k=>by show W (π i) k=_;rw[h1 i hi];exact s.wp i hi k
 wn:=λi hi hn k=>by
  have⟨a,b⟩:=h2 i hi hn;have:=s.wn (π i) a b k;rw[this]
  congr 1
  exact υ λp hp=>by rw[h1 p hp]
 one:=λi p hi hp=>by show rv A n (W (π i)) _=_;rw[h1 i hi];exact s.one i p hi hp
def Ab(x B:Int):Prop:= -B<=x/\x<=B
def Ab.mul{x y C:Int}(h:Ab x B)(h':Ab y C):Ab (x * y) (B * C):=by
 have⟨a,b⟩:=h;have⟨c,d⟩:=h';have B0:0<=B:=()
 have C0:0<=C:=()
 have hb:x.natAbs<=B.natAbs:=()
 have hc:y.natAbs<=C.natAbs:=()
 have hm:=Nat.mul_le_mul hb hc;rw[<-aa4,<-aa4]at hm;have p:=abD B0 C0;exact⟨(),()⟩
def Ab.add{x y C:Int}(h:Ab x B)(h':Ab y C):Ab (x+y) (B+C):=⟨by have:=h.1;have:=h'.1;omega,by have:=h.2;have:=h'.2;omega⟩
def Ab.sub{x y C:Int}(h:Ab x B)(h':Ab y C):Ab (x - y) (B+C):=⟨by have:=h.1;have:=h'.2;omega,by have:=h.2;have:=h'.1;omega⟩
def Ab.mono{x C:Int}(h:Ab x B)(h':B<=C):Ab x C:=⟨by have:=h.1;omega,by have:=h.2;omega⟩
def Ab.sum{f:Nat->Int}{B:Int}:∀{n:Nat},(∀i,i < n->Ab (f i) B)->Ab (ψ f n) (n * B)
 | 0,_=>⟨by simp[ψ],by simp[ψ]⟩
 | n+1,h=>by
  have i:=Ab.sum (n:=n) λi hi=>h i ();have:=Ab.add i (h n ());have e:(n:Int) * B+B=((n+1:Nat):Int) * B:=by rw[show((n+1:Nat):Int)=(n:Int)+1 from rfl,Int.add_mul,Int.one_mul]
  rw[e]at this;exact this
def Ab.pow{k:Nat}{x:Int}(h:Ab x B):Ab ((-1) ^ k * x) B:=by
 rcases(by induction k with
  | zero=>exact .inl rfl
  | succ k ih=>rw[Int.pow_succ];rcases ih with e| e <;> rw[e] <;> simp:((-1:Int) ^ k=1\/(-1:Int) ^ k= -1)) with e| e
 ·rw[e,Int.one_mul];exact h
 ·rw[e];have⟨a,b⟩:=h;exact⟨(),()⟩
def Ab.det{B:Int}(B0:1<=B):∀(γ:List Row) (μ:List Nat),(∀x∈γ,∀c∈μ,Ab (x c) B)->μ.length<=12->Ab (D γ μ) ((12 * B) ^ γ.length)
 | [],μ,_,_=>by
  show Ab (F0 μ) ((12 * B) ^ 0);rw[Int.pow_zero];unfold F0;split
  ·exact⟨@_,@_⟩
  ·exact⟨@_,@_⟩
 | x::γ,μ,h,hl=>by
  show Ab (Lx x (D γ) μ) _;rw[xU,aaI,abR];have P0:(0:Int)<=(12 * B) ^ γ.length:=ab5 ();have each:∀p,p < μ.length->Ab ((-1) ^ p * (x (μ.getD p 0) * D γ (μ.eraseIdx p))) (B * (12 * B) ^ γ.length):=λp hp=>by
   refine Ab.pow (Ab.mul ?_ (Ab.det B0 γ (μ.eraseIdx p) (λy hy c hc=>h y (aac _ hy) c (ace hc)) ?_))
   ·rw[aab,aaa hp];exact h x aad _ (aan hp)
   ·rw[List.length_eraseIdx];split <;> omega
  refine(Ab.sum each).mono ?_;have Q0:0<=B * (12 * B) ^ γ.length:=abD () P0;have:=aa2 (show(μ.length:Int)<=12 by omega) Q0;refine abX this ?_;have e:12 * (B * (12 * B) ^ γ.length)=(12 * B) ^ γ.length * (12 * B):=by grind
  omega
section
variable{q:Nat->Nat}
structure Bd(A:Nat->Row)(n m:Nat)(B:Int):Prop where
 b1:1<=B
 ab:∀k x,k < n->x < m->Ab (A k x) B
def top(B:Int)(r:Nat):Int:=(12 * B) ^ (r+3)
def vS{b:Nat}(h:1<=B)(Yu:a<=b):(12 * B) ^ a<=(12 * B) ^ b:=by
 have⟨c,rfl⟩:=Nat.exists_eq_add_of_le Yu;rw[Int.pow_add];have p:(1:Int)<=(12 * B) ^ c:=by have:0 < (12 * B) ^ c:=Int.pow_pos ();omega
 have q:(0:Int)<=(12 * B) ^ a:=ab5 ();have:=aaQ p q;omega
def St.abs(s:St A n ρ μ q d W)(b:Bd A n m B)(hc:∀c∈μ,c < m)(hr:ρ.length<=12):
  (∀i k,i < n->Ab (W i k) (top B ρ.length))/\(∀i x,i < n->x < m->Ab (rv A n (W i) x) (top B ρ.length))/\Ab d (top B ρ.length):=by
 have B0:=b.b1;have mem:∀j,j < ρ.length->ρ.getD j 0∈ρ:=λj hj=>by rw[aab,aaa hj];exact aan hj
 have ρn:∀a∈ρ,a < n:=λa ha=>by have⟨j,hj,e⟩:=aba ha;have:=s.yT j hj;rw[aab,aaa hj]at this;rw[<-e];exact this
 have ent:∀x∈ρ.map A,∀c∈μ,Ab (x c) B:=λx hx c AR=>by have⟨a,ha,rfl⟩:=aam.mp hx;exact b.ab a c (ρn a ha) (hc c AR)
 have cl:μ.length<=12:=by rw[s.lc];exact hr
 have hd:Ab d ((12 * B) ^ ρ.length):=by have:=Ab.det B0 (ρ.map A) μ ent cl;rw[s.det,aae]at this;exact this
 have UO:∀p k,Ab (eY (ρ.map A) μ p k) ((12 * B) ^ ρ.length):=λp k=>by
  unfold eY;refine Ab.pow ((Ab.det B0 _ _ (λx hx c AR=>ent x (ace hx) c (ace AR)) ?_).mono (vS B0 ?_))
  ·rw[List.length_eraseIdx];split <;> omega
  ·rw[List.length_eraseIdx,aae];split <;> omega
 have i1:∀a k,Ab (ind a k) 1:=λa k=>by unfold ind;split <;> exact⟨@_,@_⟩
 have P0:(0:Int)<=(12 * B) ^ ρ.length:=ab5 ();have MB:∀{C:Int},0<=C->(ρ.length:Int) * C<=12 * C:=λh=>aa2 () h;have c1:12 * (12 * B) ^ ρ.length<=(12 * B) ^ (ρ.length+1):=by rw[abR];have:=aaQ (show(12:Int)<=12 * B by omega) P0;omega
 have wp:∀i k,i < ρ.length->Ab (W i k) ((12 * B) ^ (ρ.length+1)):=λi k hi=>by rw[s.wp i hi k];refine(Ab.sum (B:=(12 * B) ^ ρ.length) λj hj=>?_).mono (abX (MB P0) c1);have:=Ab.mul (UO i j) (i1 (ρ.getD j 0) k);rw[Int.mul_one]at this;exact this
 have rp:∀i x,i < ρ.length->x < m->Ab (rv A n (W i) x) ((12 * B) ^ (ρ.length+1)):=λi x hi hx=>by
  rw[s.QY hi];have Q0:0<=(12 * B) ^ ρ.length * B:=abD P0 ();refine(Ab.sum (B:=(12 * B) ^ ρ.length * B) λj hj=>Ab.mul (UO i j) (b.ab _ x (s.yT j hj) hx)).mono (abX (MB Q0) ?_);rw[abR];have:12 * ((12 * B) ^ ρ.length * B)=(12 * B) ^ ρ.length * (12 * B):=by grind
  omega
 have S0:(0:Int)<=(12 * B) ^ (ρ.length+1):=ab5 ();have T0:(0:Int)<=(12 * B) ^ (ρ.length+2):=ab5 ();have c2:12 * (B * (12 * B) ^ (ρ.length+1))=(12 * B) ^ (ρ.length+2):=by rw[show ρ.length+2=ρ.length+1+1 from rfl,Int.pow_succ];grind
 have c3:(12 * B) ^ (ρ.length+2)+(12 * B) ^ (ρ.length+2)<=top B ρ.length:=by unfold top;have e:(12 * B) ^ (ρ.length+3)=(12 * B) ^ (ρ.length+2) * (12 * B):=abR _ _;rw[e];have:=aaQ (show(2:Int)<=12 * B by omega) T0;omega
 have c4:(12 * B) ^ (ρ.length+1)<=(12 * B) ^ (ρ.length+2):=vS B0 ();have c5:(12 * B) ^ ρ.length<=(12 * B) ^ (ρ.length+2):=vS B0 ();have c6:(12 * B) ^ ρ.length * B<=(12 * B) ^ (ρ.length+2):=by refine abX ?_ c4;rw[abR];exact aaQ () P0
 have U0:0<=B * (12 * B) ^ (ρ.length+1):=abD () S0;have R1:∀p,p < ρ.length->μ.getD p 0 < m:=λp hp=>by
  have xm:p < μ.length:=by rw[s.lc];exact hp
  rw[aab,aaa xm];exact hc _ (aan xm)
 refine⟨λi k hi=>?_,λi x hi hx=>?_,hd.mono ()⟩
 ·by_cases wg:i < ρ.length
  ·exact(wp i k wg).mono ()
  ·rw[s.wn i () hi k];have a1:=Ab.mul hd (i1 (q i) k);rw[Int.mul_one]at a1;refine(Ab.sub a1 (Ab.sum (B:=B * (12 * B) ^ (ρ.length+1)) λp hp=>Ab.mul (b.ab (q i) _ (s.LC i hi) (R1 p hp)) (wp p k hp))).mono ?_;have:=MB U0;omega
 ·by_cases wg:i < ρ.length
  ·exact(rp i x wg hx).mono ()
  ·rw[s.P5 () hi];refine(Ab.sub (Ab.mul hd (b.ab (q i) x (s.LC i hi) hx)) (Ab.sum (B:=B * (12 * B) ^ (ρ.length+1)) λp hp=>Ab.mul (b.ab (q i) _ (s.LC i hi) (R1 p hp)) (rp p x hp hx))).mono ?_;have:=MB U0;omega
end
def cZ(n i:Nat):List Int:=(List.range n).map (ind i)
def j5(ls:List (List Int))(f k:Nat):List (List Int):=ls.take f++[ls.getD k []]++(ls.drop f).take (k - f)++ls.drop (k+1)
def c8(l h:List Int)(c:Nat)(d:Int):List Int:=(l.zip h).map λp=>(h.getD c 0 * p.1 - l.getD c 0 * p.2).fdiv d
def aD(A:Nat->Row)(n m:Nat)(w:Row):List Int:=(List.range m).map (λx=>rv A n w x)++(List.range n).map w
def Φ(A:Nat->Row)(n m:Nat)(W:Nat->Row):List (List Int):=(List.range n).map λi=>aD A n m (W i)
def arr(γ:List (List Int)):Nat->Row:=λk x=>(γ.getD k []).getD x 0
def eS:(aD A n m w).length=m+n:=by unfold aD;simp
def gW{x:Nat}(h:x < m):(aD A n m w).getD x 0=rv A n w x:=by unfold aD;rw[List.getD_eq_getElem?_getD,List.getElem?_append_left (by simpa using h),List.getElem?_map,List.getElem?_range h];rfl
def j3(h:i < n):(Φ A n m W).getD i []=aD A n m (W i):=by unfold Φ;rw[aab,aah,aaK h];rfl
def da:(Φ A n m W).length=n:=by unfold Φ;simp
def Cn{u:Row}(h:∀k,w k=u k):aD A n m w=aD A n m u:=by have:w=u:=funext h;rw[this]
def Ar{γ:List (List Int)}(hl:∀r∈γ,r.length=m):(List.range γ.length).map (λi=>γ.getD i []++cZ γ.length i)=Φ (arr γ) γ.length m (λi=>ind i):=by
 unfold Φ;apply abb;intro i hi;have hi:=aa9.mp hi;unfold aD cZ
 congr 1
 have g:γ.getD i []=γ[i]:=by rw[aab,aaa hi];rfl
 have ml:=hl γ[i] (aan hi);apply abc
 ·rw[g,ml];simp
 ·intro x h1 h2;simp only[List.getElem_map,List.getElem_range];rw[Ce hi];unfold arr;rw[aab (l:=γ.getD i []),aaa h1];rfl
def iW(r k i:Nat):Nat:=if i < r then i else if i=r then k else if i<=k then i - 1 else i
def zT{r k:Nat}(hr:r<=k)(hk:k < n):j5 (Φ A n m W) r k=Φ A n m (λi=>W (iW r k i)):=by
 unfold j5;rw[j3 hk];unfold Φ;apply List.ext_getElem?;intro i;rw[aah];simp only[List.append_assoc];by_cases h1:i < r
 ·rw[List.getElem?_append_left (by simp;omega),List.getElem?_take_of_lt h1,List.getElem?_map];rw[aaK ()];have:iW r k i=i:=by unfold iW;rw[if_pos h1]
  simp[this]
 ·rw[List.getElem?_append_right (by simp;omega)];have lt:((List.map (λi=>aD A n m (W i)) (List.range n)).take r).length=r:=by simp;omega
  rw[lt];by_cases h2:i=r
  ·subst h2;rw[Nat.sub_self,List.getElem?_append_left (by simp)];rw[aaK ()];have:iW i k i=k:=by unfold iW;rw[if_neg (Nat.lt_irrefl _),if_pos rfl]
   simp[this]
  ·rw[List.getElem?_append_right (by simp;omega)];show(_++_)[i - r - 1]? =_;have l2:((List.map (λi=>aD A n m (W i)) (List.range n)).drop r|>.take (k - r)).length=k - r:=by simp;omega
   by_cases h3:i<=k
   ·rw[aao (by rw[l2];omega),acb (),List.getElem?_drop,aah,aaK (),aaK ()];have:iW r k i=i - 1:=by unfold iW;rw[if_neg h1,if_neg h2,if_pos h3]
    simp only[Option.map_some,this];rw[show r+(i - r - 1)=i - 1 by omega]
   ·rw[aaw (by rw[l2];omega),l2,List.getElem?_drop,aah];rw[show k+1+(i - r - 1 - (k - r))=i by omega];by_cases h4:i < n
    ·rw[aaK h4];have:iW r k i=i:=by unfold iW;rw[if_neg h1,if_neg h2,if_neg h3]
     simp[this]
    ·rw[List.getElem?_eq_none (by simpa using h4)];rfl
def rh{a b:Int}(h:d≠0)(e:d * b=a):a.fdiv d=b:=by rw[<-e];exact Int.mul_fdiv_cancel_left b h
def rL{c:Nat}{u v:Row}(hc:c < m)(d0:d≠0)(h:∀k,d * v k=rv A n u c * w k - rv A n w c * u k):c8 (aD A n m w) (aD A n m u) c d=aD A n m v:=by
 have hr:∀x,d * rv A n v x=rv A n u c * rv A n w x - rv A n w c * rv A n u x:=λx=>by have:=xQ (A:=A) (n:=n) (w:=λk=>d * v k) (u:=w) (v:=u) (a:=rv A n u c) (b:=rv A n w c) h x;rw[<-this];unfold rv;rw[<-Ν];exact υ λk _=>by grind
 unfold c8;rw[gW hc,gW hc];unfold aD;rw[List.zip_append (by simp),List.map_append]
 congr 1
 ·apply abc
  ·simp
  ·intro x h1 h2;simp only[List.getElem_map,List.getElem_zip,List.getElem_range];exact rh d0 (hr x)
 ·apply abc
  ·simp
  ·intro x h1 h2;simp only[List.getElem_map,List.getElem_zip,List.getElem_range];exact rh d0 (h x)
structure Turn(A:Nat->Row)(n:Nat)(col:Nat)(ρ μ:List Nat)(q:Nat->Nat)(d:Int)(W:Nat->Row):Prop where
 st:St A n ρ μ q d W
 d0:d≠0
 cl:∀c∈μ,c < col
 QB:∀i,i < ρ.length->q i=ρ.getD i 0
 PK:∀k,k < n->∃i,i < n/\q i=k
 zero:∀i,ρ.length<=i->i < n->∀x,x < col->rv A n (W i) x=0
 all:μ=List.range col\/∃x,x < col/\x∉μ
def Turn.start:Turn A n 0 [] [] id 1 (λi=>ind i) where
 st:=St.start
 d0:=@_
 cl:=λ_ h=>nomatch h
 QB:=λ_ h=>aaC h (abF _)
 PK:=λk h=>⟨k,h,rfl⟩
 zero:=λ_ _ _ _ h=>aaC h (abF _)
 all:=.inl rfl
section
variable{col:Nat}{q:Nat->Nat}
def Turn.skip(t:Turn A n col ρ μ q d W)(h:∀i,ρ.length<=i->i < n->rv A n (W i) col=0):Turn A n (col+1) ρ μ q d W where
 st:=t.st
 d0:=t.d0
 cl:=λc hc=>aby (t.cl c hc)
 QB:=t.QB
 PK:=t.PK
 zero:=λi h1 h2 x hx=>by
  by_cases e:x=col
  ·rw[e];exact h i h1 h2
  ·exact t.zero i h1 h2 x ()
 all:=.inr ⟨col,abr _,λz=>aaC (t.cl col z) (abB _)⟩
def Turn.move(t:Turn A n col ρ μ q d W){k:Nat}(h1:ρ.length<=k)(h2:k < n):Turn A n col ρ μ (λi=>q (iW ρ.length k i)) d (λi=>W (iW ρ.length k i)) where
 st:=t.st.perm (λi hi=>by unfold iW;rw[if_pos hi]) λi a b=>by unfold iW;split <;> (try split) <;> (try split) <;> omega
 d0:=t.d0
 cl:=t.cl
 QB:=λi hi=>by show q (iW ρ.length k i)=_;rw[show iW ρ.length k i=i by unfold iW;rw[if_pos hi]];exact t.QB i hi
 PK:=λj hj=>by
  have⟨i,hi,e⟩:=t.PK j hj;by_cases a:i < ρ.length
  ·exact⟨i,hi,by show q (iW ρ.length k i)=j;rw[show iW ρ.length k i=i by unfold iW;rw[if_pos a]];exact e⟩
  ·by_cases b:i=k
   ·exact⟨ρ.length,(),by show q (iW ρ.length k ρ.length)=j;rw[show iW ρ.length k ρ.length=k by unfold iW;rw[if_neg (Nat.lt_irrefl _),if_pos rfl],<-b];exact e⟩
   ·by_cases c:i < k
    ·exact⟨i+1,(),by show q (iW ρ.length k (i+1))=j;rw[show iW ρ.length k (i+1)=i by unfold iW;rw[if_neg (),if_neg (),if_pos ()];omega];exact e⟩
    ·exact⟨i,hi,by show q (iW ρ.length k i)=j;rw[show iW ρ.length k i=i by unfold iW;rw[if_neg a,if_neg (),if_neg ()]];exact e⟩
 zero:=λi a b x hx=>by
  have:ρ.length<=iW ρ.length k i/\iW ρ.length k i < n:=by unfold iW;split <;> (try split) <;> (try split) <;> omega
  exact t.zero _ this.1 this.2 x hx
 all:=t.all
def Turn.step(t:Turn A n col ρ μ q d W)(hr:ρ.length < n)(hm:col < m)(h0:rv A n (W ρ.length) col≠0):
  ∃W',Turn A n (col+1) (ρ++[q ρ.length]) (μ++[col]) q (rv A n (W ρ.length) col) W'/\
   ((Φ A n m W).take ρ.length).map (λl=>c8 l (aD A n m (W ρ.length)) col d)++[aD A n m (W ρ.length)]++((Φ A n m W).drop (ρ.length+1)).map (λl=>c8 l (aD A n m (W ρ.length)) col d)=Φ A n m W':=by
 have⟨W',s',e1,e2⟩:=t.st.step hr col t.d0 h0;refine⟨W',⟨s',h0,λc hc=>?_,λi hi=>?_,t.PK,λi a b x hx=>?_,?_⟩,?_⟩
 ·rcases aaT.mp hc with z| z
  ·exact aby (t.cl c z)
  ·have:c=col:=by simpa using z
   omega
 ·by_cases wg:i < ρ.length
  ·rw[nA wg];exact t.QB i wg
  ·have:i=ρ.length:=by simp at hi;omega
   rw[this,mY]
 ·rw[show(ρ++[q ρ.length]).length=ρ.length+1 by simp]at a;have WY:d * rv A n (W' i) x=rv A n (W ρ.length) col * rv A n (W i) x - rv A n (W i) col * rv A n (W ρ.length) x:=by have:=xQ (A:=A) (n:=n) (w:=λk=>d * W' i k) (u:=W i) (v:=W ρ.length) (λk=>e2 i b () k) x;rw[<-this];unfold rv;rw[<-Ν];exact υ λk _=>by grind
  refine aaN t.d0 ?_;rw[WY];by_cases e:x=col
  ·subst e;grind
  ·rw[t.zero i () b x (),t.zero ρ.length (Nat.le_refl _) hr x ()];simp
 ·rcases t.all with z| ⟨x,a,b⟩
  ·left;rw[z,List.range_succ]
  ·refine .inr ⟨x,(),λz=>?_⟩;rcases aaT.mp z with z| z
   ·exact b z
   ·have:x=col:=by simpa using z
    omega
 ·unfold Φ;rw[<-List.map_take,<-abN,aaG,aaG];apply List.ext_getElem?;intro i;simp only[List.append_assoc];have lt:(List.map ((λl=>c8 l (aD A n m (W ρ.length)) col d) ∘ λi=>aD A n m (W i)) ((List.range n).take ρ.length)).length=ρ.length:=by simp;omega
  by_cases h1:i < ρ.length
  ·rw[aao (by rw[lt];exact h1),aah,aah,acb h1,aaK ()];show some (c8 (aD A n m (W i)) (aD A n m (W ρ.length)) col d)=some _;rw[rL hm t.d0 (e2 i () ())]
  ·rw[aaw (by rw[lt];omega),lt,aah];by_cases h2:i=ρ.length
   ·subst h2;rw[abY,aaK hr];show some (aD A n m (W ρ.length))=some (aD A n m (W' ρ.length));rw[Cn e1]
   ·rw[List.getElem?_append_right (by simp;omega)];show(List.map _ ((List.range n).drop (ρ.length+1)))[i - ρ.length - 1]? =_;rw[aah,List.getElem?_drop,show ρ.length+1+(i - ρ.length - 1)=i by omega];by_cases h4:i < n
    ·rw[aaK h4];show some (c8 (aD A n m (W i)) (aD A n m (W ρ.length)) col d)=some _;rw[rL hm t.d0 (e2 i h4 h2)]
    ·rw[List.getElem?_eq_none (by simpa using h4)];rfl
end
section
variable{col:Nat}{q:Nat->Nat}
def Turn.back(t:Turn A n col ρ μ q d W){k y:Nat}(hk:k < n)(hy:y < col):d * A k y=ψ (λp=>A k (μ.getD p 0) * rv A n (W p) y) ρ.length:=by
 have⟨i,hi,e⟩:=t.PK k hk;have s:=t.st;by_cases wg:i < ρ.length
 ·have ek:k=ρ.getD i 0:=by rw[<-e];exact t.QB i wg
  have lr:(ρ.map A).length=ρ.length:=aae _;have e1:ψ (λp=>A k (μ.getD p 0) * rv A n (W p) y) ρ.length=ψ (λp=>ψ (λj=>(A k (μ.getD p 0) * eY (ρ.map A) μ p j) * A (ρ.getD j 0) y) ρ.length) ρ.length:=υ λp hp=>by rw[s.QY hp,<-Ν];exact υ λj _=>by grind
  have e2:ψ (λp=>ψ (λj=>(A k (μ.getD p 0) * eY (ρ.map A) μ p j) * A (ρ.getD j 0) y) ρ.length) ρ.length=ψ (λj=>A (ρ.getD j 0) y * ψ (λp=>(ρ.map A).getD i zr (μ.getD p 0) * eY (ρ.map A) μ p j) ρ.length) ρ.length:=by rw[df];refine υ λj _=>?_;rw[<-Ν];refine υ λp _=>?_;rw[tM wg,<-ek];grind
  rw[e1,e2];have pa:∀j,j < ρ.length->ψ (λp=>(ρ.map A).getD i zr (μ.getD p 0) * eY (ρ.map A) μ p j) ρ.length=if i=j then d else 0:=λj hj=>by have:=PA (γ:=ρ.map A) (μ:=μ) (i:=i) (k:=j) (by rw[lr];exact s.lc) (by rw[lr];exact wg) (by rw[lr];exact hj);rw[lr,s.det]at this;exact this
  rw[iE wg λj hj mR=>by rw[pa j hj,if_neg (Ne.symm mR)];simp];rw[pa i wg,if_pos rfl,ek];grind
 ·have:=s.P5 () hi y;rw[t.zero i () hi y hy,e]at this;omega
def Turn.kernel(t:Turn A n col ρ μ q d W){x:Nat}(hx:x < col)(hf:x∉μ):∃z:Row,z x= -d/\∀k,k < n->ψ (λy=>A k y * z y) col=0:=by
 have s:=t.st;have cm:∀i,i < ρ.length->μ.getD i 0∈μ:=λi hi=>by
  have Hi:i < μ.length:=by rw[s.lc];exact hi
  rw[aab,aaa Hi];exact aan Hi
 refine⟨λy=>ψ (λi=>rv A n (W i) x * ind (μ.getD i 0) y) ρ.length - d * ind x y,?_,λk hk=>?_⟩
 ·have e1:ψ (λi=>rv A n (W i) x * ind (μ.getD i 0) x) ρ.length=0:=iS λi hi=>by unfold ind;rw[if_neg λz=>hf (by rw[<-z];exact cm i hi)];simp
  show ψ (λi=>rv A n (W i) x * ind (μ.getD i 0) x) ρ.length - d * ind x x= -d;rw[e1];unfold ind;rw[if_pos rfl];omega
 ·have gen:∀f:Row,ψ (λy=>f y * (ψ (λi=>rv A n (W i) x * ind (μ.getD i 0) y) ρ.length - d * ind x y)) col=ψ (λi=>rv A n (W i) x * f (μ.getD i 0)) ρ.length - d * f x:=λf=>by
   have e1:ψ (λy=>f y * (ψ (λi=>rv A n (W i) x * ind (μ.getD i 0) y) ρ.length - d * ind x y)) col=ψ (λy=>ψ (λi=>rv A n (W i) x * (ind (μ.getD i 0) y * f y)) ρ.length+(-d) * (ind x y * f y)) col:=υ λy _=>by
    have:ψ (λi=>rv A n (W i) x * (ind (μ.getD i 0) y * f y)) ρ.length=f y * ψ (λi=>rv A n (W i) x * ind (μ.getD i 0) y) ρ.length:=by rw[<-Ν];exact υ λi _=>by grind
    rw[this];grind
   rw[e1,gQ,Ν,nE (f:=f) hx,df];have e2:ψ (λi=>ψ (λy=>rv A n (W i) x * (ind (μ.getD i 0) y * f y)) col) ρ.length=ψ (λi=>rv A n (W i) x * f (μ.getD i 0)) ρ.length:=υ λi hi=>by rw[Ν,nE (f:=f) (t.cl _ (cm i hi))]
   rw[e2];grind
  refine aaN t.d0 ?_;rw[Int.mul_zero,gen (A k),Int.mul_sub];have b1:=t.back hk hx;have e3:ψ (λi=>rv A n (W i) x * A k (μ.getD i 0)) ρ.length=d * A k x:=by rw[b1];exact υ λi _=>abe _ _
  rw[e3];grind
def Qj(A:Nat->Row)(n u:Nat)(z:Row)(N:Int):Prop:=∀k,k < n->ψ (λx=>A k x * z x) u=N * A k u
def Qj.line{u:Nat}{z:Row}{N:Int}(h:Qj A n u z N)(w:Row):ψ (λx=>rv A n w x * z x) u=N * rv A n w u:=by
 unfold rv;have e1:ψ (λx=>ψ (λk=>w k * A k x) n * z x) u=ψ (λx=>ψ (λk=>w k * (A k x * z x)) n) u:=υ λx _=>by rw[abe,<-Ν];exact υ λk _=>by grind
 rw[e1,df,<-Ν];refine υ λk hk=>?_;rw[Ν,h k hk];grind
def Turn.rest(t:Turn A n col ρ μ q d W){z:Row}{N:Int}(hs:Qj A n col z N)(hN:N≠0)(h1:ρ.length<=i)(hi:i < n):rv A n (W i) col=0:=by
 have:=hs.line (W i);rw[iS λx hx=>by rw[t.zero i h1 hi x hx];simp]at this;rcases Int.mul_eq_zero.mp this.symm with e| e
 ·exact aaC e hN
 ·exact e
def Turn.told(t:Turn A n col ρ μ q d W)(hc:μ=List.range col){z:Row}{N:Int}(hs:Qj A n col z N)(hi:i < col):d * z i=N * rv A n (W i) col:=by
 have s:=t.st;have hl:ρ.length=col:=by rw[<-s.lc,hc,aa8]
 have g:∀p,p < col->μ.getD p 0=p:=λp hp=>by rw[hc,aab,aaK hp];rfl
 rw[<-hs.line (W i)]
 rw[iE hi λx hx mR=>by
  have:=s.one i x (by rw[hl];exact hi) (by rw[hl];exact hx);rw[g x hx,aaq (Ne.symm mR)]at this
  rw[this];simp]
 have:=s.one i i (by rw[hl];exact hi) (by rw[hl];exact hi);rw[g i hi,aar rfl]at this;rw[this]
end
def Turn.exists{A:Nat->Row}{n:Nat}:∀col:Nat,∃ρ μ q d W,Turn A n col ρ μ q d W
 | 0=>⟨_,_,_,_,_,Turn.start⟩
 | col+1=>by
  have⟨ρ,μ,q,d,W,t⟩:=Turn.exists (A:=A) (n:=n) col;by_cases h:∃k,ρ.length<=k/\k < n/\rv A n (W k) col≠0
  ·have⟨k,h1,h2,h3⟩:=h;have t':=t.move h1 h2;have e:iW ρ.length k ρ.length=k:=by unfold iW;rw[if_neg (Nat.lt_irrefl _),if_pos rfl]
   have⟨W',t2,_⟩:=t'.step (m:=col+1) () () (by show rv A n (W (iW ρ.length k ρ.length)) col≠0;rw[e];exact h3);exact⟨_,_,_,_,_,t2⟩
  ·refine⟨_,_,_,_,_,t.skip λi h1 h2=>?_⟩;by_cases e:rv A n (W i) col=0
   ·exact e
   ·exact aaC ⟨i,h1,h2,e⟩ h
section
variable{col:Nat}{q:Nat->Nat}
def KP(A:Nat->Row)(n:Nat)(W:Nat->Row)(μ:List Nat)(s k:Nat):Row:=λy=>ψ (λi=>rv A n (W i) s * ind (μ.getD i 0) y) k
def Turn.K'(t:Turn A n col ρ μ q d W){x:Nat}(hx:x < col):∀k,k < n->ψ (λy=>A k y * (KP A n W μ x μ.length y - d * ind x y)) col=0:=λk hk=>by
 have s:=t.st;have cm:∀i,i < ρ.length->μ.getD i 0∈μ:=λi hi=>by
  have Hi:i < μ.length:=by rw[s.lc];exact hi
  rw[aab,aaa Hi];exact aan Hi
 unfold KP;rw[s.lc];have gen:∀f:Row,ψ (λy=>f y * (ψ (λi=>rv A n (W i) x * ind (μ.getD i 0) y) ρ.length - d * ind x y)) col=ψ (λi=>rv A n (W i) x * f (μ.getD i 0)) ρ.length - d * f x:=λf=>by
  have e1:ψ (λy=>f y * (ψ (λi=>rv A n (W i) x * ind (μ.getD i 0) y) ρ.length - d * ind x y)) col=ψ (λy=>ψ (λi=>rv A n (W i) x * (ind (μ.getD i 0) y * f y)) ρ.length+(-d) * (ind x y * f y)) col:=υ λy _=>by
   have:ψ (λi=>rv A n (W i) x * (ind (μ.getD i 0) y * f y)) ρ.length=f y * ψ (λi=>rv A n (W i) x * ind (μ.getD i 0) y) ρ.length:=by rw[<-Ν];exact υ λi _=>by grind
   rw[this];grind
  rw[e1,gQ,Ν,nE (f:=f) hx,df];have e2:ψ (λi=>ψ (λy=>rv A n (W i) x * (ind (μ.getD i 0) y * f y)) col) ρ.length=ψ (λi=>rv A n (W i) x * f (μ.getD i 0)) ρ.length:=υ λi hi=>by rw[Ν,nE (f:=f) (t.cl _ (cm i hi))]
  rw[e2];grind
 refine aaN t.d0 ?_;rw[Int.mul_zero,gen (A k),Int.mul_sub];have b1:=t.back hk hx;have e3:ψ (λi=>rv A n (W i) x * A k (μ.getD i 0)) ρ.length=d * A k x:=by rw[b1];exact υ λi _=>abe _ _
 rw[e3];grind
def Turn.TN(t:Turn A n col ρ μ q d W)(h:∀i,ρ.length<=i->i < n->rv A n (W i) col=0):Qj A n col (KP A n W μ col μ.length) d:=λk hk=>by
 have:=(t.skip h).K' (x:=col) () k hk;have e:ψ (λy=>A k y * (KP A n W μ col μ.length y - d * ind col y)) (col+1)=ψ (λy=>A k y * (KP A n W μ col μ.length y - d * ind col y)) col+A k col * (KP A n W μ col μ.length col - d * ind col col):=rfl;have e1:ψ (λy=>A k y * (KP A n W μ col μ.length y - d * ind col y)) col=ψ (λy=>A k y * KP A n W μ col μ.length y) col:=υ λy hy=>by
  have:ind col y=0:=by unfold ind;rw[if_neg ()]
  rw[this];grind
 have e2:KP A n W μ col μ.length col=0:=iS λi hi=>by
  have hm:μ.getD i 0∈μ:=by rw[aab,aaa hi];exact aan hi
  have:ind (μ.getD i 0) col=0:=by unfold ind;rw[if_neg (by have:=t.cl _ hm;omega)]
  rw[this,Int.mul_zero]
 have e3:ind col col=1:=by unfold ind;rw[if_pos rfl]
 rw[e,e1,e2,e3]at this;have:A k col * (0 - d * 1)= -(d * A k col):=by grind
 omega
def St.YN(s:St A n ρ μ q d W)(b:Bd A n m B)(hc:∀c∈μ,c < m)(hr:ρ.length<=12):Ab d ((12 * B) ^ ρ.length):=by
 have ρn:∀a∈ρ,a < n:=λa ha=>by have⟨j,hj,e⟩:=aba ha;have:=s.yT j hj;rw[aab,aaa hj]at this;rw[<-e];exact this
 have:=Ab.det b.b1 (ρ.map A) μ (λx hx c AR=>by
  have⟨a,ha,rfl⟩:=aam.mp hx
  exact b.ab a c (ρn a ha) (hc c AR)) (by rw[s.lc];exact hr)
 rw[s.det,aae]at this;exact this
end
end Bz
seal L2.JE L2.JT L2.JW L2.JA L2.JS L2.CV L2.JI L2.JK
local macro_rules| `(tactic| walk_at "vc")=>`(tactic| dsimp only[L2.gN,L2.RV,L2.SU,L2.Uv,L2.OH,L2.Nv,L2.ZK,L2.Ue,L2.xJ,L2.AA,L2.Nq,L2.AE,L2.jB,L2.UU,L2.x8,L2.dC,L2.Qx,L2.GG,L2.To,L2.TR,L2.mw,L2.Rj,L2.Zk,L2.Tn,L2.RY,L2.Zw,L2.SE,L2.ZL,L2.oB,List.map_cons,List.map_nil,List.length_cons,List.length_nil,List.cons_append,List.nil_append,List.replicate,List.getElem?_cons_zero,List.getElem?_cons_succ,List.set_cons_zero,List.set_cons_succ,Nat.reduceSub,Nat.reduceAdd,Nat.zero_add])
namespace Pg
open PySem L2
variable{f bC iV cU bB:Addr}{fd bF iP cY bG:FuncData}{i n m j p:Nat}{M:Ms}{d:Dt}{xs ds:List Dt}{b t E C B:Int}{ns:List Str}{A W:Nat->Bz.Row}{S:Sp}{gs:List Nat}
def top(i:Nat):Stmt:=PySem.Challenge.pw_chanceduel_k43_chances_of_goals.main.body.getD i (.Pass ⟨0,0,0,0⟩)
def cls(i j:Nat):Stmt:=match top i with
 | .ClassDef _ _ _ b _ _ _ _ _ _ _=>b.getD j (.Pass ⟨0,0,0,0⟩)
 | _=>.Pass ⟨0,0,0,0⟩
abbrev gC:Stmt:=top 9
abbrev pG:Stmt:=top 10
abbrev AS:Stmt:=top 12
abbrev AO:Stmt:=top 13
abbrev Cf:Stmt:=top 14
abbrev rX:Stmt:=top 19
abbrev oH:Stmt:=top 20
abbrev iw:Stmt:=top 21
abbrev i9:Stmt:=top 22
abbrev lV:Stmt:=top 23
abbrev rK:Stmt:=top 24
abbrev lX:Stmt:=top 25
abbrev lN:Stmt:=top 29
abbrev oX:Stmt:=top 31
abbrev Bl:Stmt:=top 32
abbrev jd:Stmt:=top 35
abbrev ia:Stmt:=top 36
abbrev jL:Stmt:=top 37
abbrev jn:Stmt:=top 38
abbrev r8:Stmt:=top 39
abbrev my:Stmt:=top 40
abbrev oN:Stmt:=top 42
abbrev oV:Stmt:=top 44
abbrev lU:Stmt:=top 45
abbrev o8:Stmt:=top 46
abbrev oh:Stmt:=top 47
abbrev xc:Stmt:=top 48
abbrev ky:Stmt:=top 50
abbrev rM:Stmt:=top 51
abbrev lZ:Stmt:=top 52
abbrev KG:Stmt:=top 53
abbrev lS:Stmt:=top 55
abbrev mx:Stmt:=top 56
abbrev mq:Stmt:=top 57
abbrev md:Stmt:=top 58
abbrev lJ:Stmt:=top 59
abbrev lH:Stmt:=top 60
abbrev tG:Stmt:=top 61
abbrev rY:Stmt:=top 62
abbrev tq:Stmt:=top 63
abbrev wq:Stmt:=top 65
abbrev me:Stmt:=top 66
abbrev r9:Stmt:=top 67
abbrev l':Stmt:=top 68
abbrev yi:Stmt:=top 69
abbrev oU:Stmt:=top 70
abbrev qO:Stmt:=top 71
abbrev oC:Stmt:=top 72
abbrev oI:Stmt:=top 73
abbrev iz:Stmt:=top 74
abbrev pE:Stmt:=top 75
abbrev km:Stmt:=top 76
abbrev sR:Stmt:=top 77
abbrev oa:Stmt:=top 78
abbrev ie:Stmt:=top 79
abbrev OA:Stmt:=top 80
abbrev lQ:Stmt:=cls 33 0
abbrev lR:Stmt:=cls 33 1
abbrev j_:Stmt:=cls 33 2
abbrev mL:Stmt:=cls 33 3
abbrev jV:Stmt:=cls 33 4
abbrev lT:Stmt:=cls 33 6
open PySem L2 Fr0 Tx
structure Ev(K:fv)(mg:Str->Option Value)(Cm:Addr):Prop where
 bR:mg "len"=none
 sF:mg "abs"=none
 bO:mg "isinstance"=none
 zx:mg "int"=none
 xp:mg "bool"=none
 Je:mg "str"=none
 nj:mg "tuple"=none
 fb:mg "list"=none
 bP:mg "range"=none
 cw:mg "enumerate"=none
 uN:mg "any"=none
 vA:mg "all"=none
 yy:mg "sum"=none
 yE:mg "zip"=none
 ya:mg "dict"=none
 Dz:mg "min"=none
 ib:PySem.W.kitOne K (.type "int") (.type "bool")=some false
 kis:PySem.W.kitOne K (.type "int") (.type "str")=some false
 kts:PySem.W.kitOne K (.type "tuple") (.type "str")=some false
 kti:PySem.W.kitOne K (.type "tuple") (.type "int")=some false
 kls:PySem.W.kitOne K (.type "list") (.type "str")=some false
 kli:PySem.W.kitOne K (.type "list") (.type "int")=some false
 U4:PySem.W.kitOne K (.type "tuple") (.type "list")=some false
 klt:PySem.W.kitOne K (.type "list") (.type "tuple")=some false
 fA:Dd K Cm
 dc:ir K Cm "kept_rows"
 h_:ir K Cm "kept_share"
 Bm:∃a o its n,mg "HANDS"=some (.ref a)/\K.lookup a=some o/\o.cls= .type "tuple"/\o.data= .seq its n/\its.size<=sizeLine/\Paired (λ(z:Str) (u:Value)=>∃tk,u= .str z tk) ["one","other"] its.toList
 pZ:∃tk,mg "MOST_DOORS"=some (.int 6 tk)
 i7:∃tk,mg "MOST_BOTTOM"=some (.int 1000000 tk)
 ni:∃tk,mg "MOST_PLACES"=some (.int 12 tk)
 gz:∃tk,mg "MOST_SHARE_BOTTOM"=some (.int 1000 tk)
def yc{K:fv}{T:String}:PySem.W.kitOne K (.type T) (.type T)=some true:=by unfold PySem.W.kitOne;rw[aar (ab9 _)]
section
variable{P:Program}{w:World}{K:fv}{mg:Str->Option Value}{base:Heap}{Cm:Addr}
def GS:DF:=λds M q _=>match ds with
 | [.int a,.int b]=>q (.int (g a b)) M
 | _=>False
def bM:Γ ["one","other","great","small","rest"] ["one","other"] (τ gC):=.of rfl
def pI(F:c_ K "common_divisor" "common_divisor" gC f fd)(E:Ev K mg Cm):ak P w K mg base (cF P w) 1 f fd ["one","other"] (cQ K GS):=by
 refine F.d7 bM (λds M q x h=>?_) (λbq A outer s H E' hr=>⟨_,(ζ (χ 2 bM.nd (C5 E.sF (Λ (jv 0) η)))
   (ζ (χ 3 bM.nd (C5 E.sF (Λ (jv 1) η)))
   (ζ (j6 (gP hr (jv 3) ο) (ζ (χ 4 bM.nd (dE (jv 2) (jv 3)))
   (ζ (χ 2 bM.nd (jv 3))
   (ι (χ 3 bM.nd (jv 4))))))
   (ι (Β (jv 2)))))),λds M q x h=>?_⟩)
 ·unfold GS at h;split at h;· rfl
  ·exact h.elim
 ·unfold GS at h;split at h
  ·rename_i a b;refine⟨λm ρ M'=>M'=M/\∃(x y:Int) (r:Option Dt),ρ=[some (.int a),some (.int b),some (.int x),some (.int y),r]/\0<=x/\0<=y/\g x y=g a b/\m=y.toNat,⟨_,rfl,_,_,_,rfl,by split <;> omega,by split <;> omega,NB a b,rfl⟩,?_⟩;rintro m ρ M' ⟨rfl,x,y,r,rfl,hx,hy,e,rfl⟩;refine⟨λhb=>?_,λhb=>?_⟩
   ·have Mt:y≠0:=by simpa using hb
    refine⟨_,λρ' M2 h2=>h2,?_⟩;refine⟨(),(x % y).toNat,?_,rfl,y,x % y,_,rfl,hy,abo _ Mt,?_,rfl⟩
    ·have:=abl x (show 0 < y by omega);have:=abo x Mt;omega
    ·rw[<-abI x hy,HH ()];exact e
   ·have Mt:y=0:=by simpa using hb
    subst Mt;rw[He hx]at e;subst e;exact h
  ·exact h.elim
def EI{i j:Int}(h:gS j)(l:i.natAbs<=j.natAbs):gS i:=aaY l h
def u7:DF:=λds M q _=>match ds with
 | [.int t,.int b]=>gS b/\(b=0->False)/\(b≠0->q (.tup [.int (ax t b).1,.int (ax t b).2]) M)
 | _=>False
def mI:Γ ["top","bottom","divisor"] ["top","bottom"] (τ pG):=.of rfl
def As(F:c_ K "fraction" "fraction" pG f fd)(E:Ev K mg Cm){gR:Addr}{gG:FuncData}(bL:aw P w K mg base 1 "common_divisor" ["one","other"] GS gR gG):ak P w K mg base (cF P w) 2 f fd ["top","bottom"] (cQ K u7):=by
 refine F.d7 mI (λds M q x h=>?_) (λbq A outer s H E' hr=>⟨_,(ζ (ao (d9 hr (jv 1) ο) (ι gI) Η)
   (ζ (χ 2 mI.nd (Χ bL hr ν (Λ (jv 0) (Λ (jv 1) η))))
   (ζ (jq (ao (pL (jv 1) ο) (ι (χ 2 mI.nd (NM (jv 2)))) Η))
   (ι (Β (cb (θ (B8 (jv 0) (jv 2)) (θ (B8 (jv 1) (jv 2)) η cG) cG))))))),λds M q x h=>?_⟩)
 ·unfold u7 at h;split at h;· rfl
  ·exact h.elim
 ·unfold u7 at h;split at h
  ·rename_i t b;have⟨hB,h0,h1⟩:=h;refine⟨λhb=>?_,λhb=>?_⟩
   ·exact h0 (by simpa using hb)
   ·have Rv:b≠0:=by simpa using hb
    refine⟨λρ M'=>M'=M/\ρ=[some (.int t),some (.int b),some (.int (dv t b))],⟨λhn=>?_,λhn=>?_⟩,?_⟩
    ·have Sa:b < 0:=by simpa using hn
     exact⟨rfl,by unfold dv;rw[if_pos Sa];rfl⟩
    ·have Sa:¬b < 0:=by simpa using hn
     exact⟨rfl,by unfold dv;rw[if_neg Sa];rfl⟩
    ·rintro ρ M' ⟨rfl,rfl⟩;have hd:=DC (t:=t) Rv;have ZZ:gS (dv t b):=EI hB (xx Rv);exact⟨⟨hd,ZZ⟩,⟨hd,ZZ⟩,fI,h1 Rv⟩
  ·exact h.elim
abbrev Fr:=Int×Int
def Υ(p:Fr):Dt:=.tup [.int p.1,.int p.2]
def cB(p:Fr):Bool:=decide ((if p.1 < 0 then -p.1 else p.1)<=10 ^ 30)&&decide (p.2<=1000000)
def sD:DF:=λds M q _=>∃p,ds=[Υ p]/\q (.bl (cB p)) M
def FF:Γ ["pay"] ["pay"] (τ rX):=.of rfl
def BD(F:c_ K "fits_pay" "fits_pay" rX f fd)(E:Ev K mg Cm):ak P w K mg base (cF P w) 1 f fd ["pay"] (cQ K sD):=by
 refine F.d7 FF (λds M q x h=>?_) (λbq A outer s H E' hr=>⟨_,(ι (Β (ik (BO (C5 E.sF (θ (Ε (jv 0) ο) η aR)) (nc ο ο)) (i5 (BO (Ε (jv 0) ο) (sA E.i7)))))),λds M q x h=>?_⟩)
 ·have⟨p,rfl,_⟩:=h;rfl
 ·have⟨p,rfl,h⟩:=h;refine⟨⟨@_,@_,@_⟩,λh1=>?_,λh1=>?_⟩
  ·have e:cB p=decide (p.2<=1000000):=by unfold cB;rw[show decide ((if p.1 < 0 then -p.1 else p.1)<=10 ^ 30)=true from h1];rfl
   rw[e]at h;exact h
  ·have e:cB p=false:=by unfold cB;rw[show decide ((if p.1 < 0 then -p.1 else p.1)<=10 ^ 30)=false from h1];rfl
   rw[e]at h;exact h
def nR{ok:Ms->Prop}(h:iA M d=some (xs,ok)):ok M:=by
 cases d with
 | lst ds=>cases h;trivial
 | ip ns=>cases h;trivial
 | loc k=>
  have h:(match M[k]? with| some (.lst xs)=>some (xs,λM':Ms=>M'[k]? =some (.lst xs))| _=>none)=some (xs,ok):=h;split at h
  ·rename_i ys hm;cases h;exact hm
  ·cases h
 | _=>cases h
def nh{ok:Ms->Prop}(h:iA M d=some (xs,ok)):j9 M d=some (xs,ok):=by
 cases d with
 | lst ds=>cases h;rfl
 | ip ns=>cases h;rfl
 | loc k=>exact h
 | _=>cases h
def bz{ρ:En}{ok:Ms->Prop}{q:List Dt->(Ms->Prop)->Ms->Prop}{x:DX}(hv:ρ[i]? =some (some d))(hl:iA M d=some (xs,ok))(h:q xs ok M):eJ (x8 i) ρ M q x:=by unfold eJ x8;rw[hv];show(match j9 M d with| some (xs,ok)=>q xs ok M| none=>False);rw[nh hl];exact h
def bg{n:Int}{k:Nat}(h:n.natAbs < 2 ^ k)(hk:k<=8000:=by decide):gS n:=aax h (abP @_ hk)
def aJ(t:Int)(p:Fr)(size:Int):Bool:=decide (0<=t)&&(decide (t < size)&&cB p)
def uW:DF:=λds M q _=>∃t p r size,ds=[.tup (.int t::Υ p::r),.int size]/\q (.bl (aJ t p size)) M
def A2:Γ ["door","size"] ["door","size"] (τ oH):=.of rfl
def yG(F:c_ K "fits_door" "fits_door" oH f fd)(E:Ev K mg Cm){sZ:Addr}{qY:FuncData}(fY:aw P w K mg base 1 "fits_pay" ["pay"] sD sZ qY):ak P w K mg base (cF P w) 2 f fd ["door","size"] (cQ K uW):=by
 refine F.d7 A2 (λds M q x h=>?_) (λbq A outer s H E' hr=>⟨_,(ι (Β (ik (BO ο (Ε (jv 0) ο)) (ik (JJ (Ε (jv 0) ο) (jv 1)) (i5 (Χ fY hr ν (θ (Ε (jv 0) ο) η aR))))))),λds M q x h=>?_⟩)
 ·have⟨t,p,r,size,rfl,_⟩:=h;rfl
 ·have⟨t,p,r,size,rfl,h⟩:=h;walk_at "vc";refine Α rfl aN ?_;refine⟨λh1=>?_,λh1=>?_⟩
  ·refine Α rfl aN ⟨λh2=>?_,λh2=>?_⟩
   ·refine Α rfl (Ω (j:=1) rfl) ⟨p,rfl,?_⟩;have e:aJ t p size=cB p:=by unfold aJ;rw[h1,h2];rfl
    rw[<-e];exact h
   ·have e:aJ t p size=false:=by unfold aJ;rw[h1,h2];rfl
    rw[<-e];exact h
  ·have e:aJ t p size=false:=by unfold aJ;rw[h1];rfl
   rw[<-e];exact h
abbrev ba:=Int×Fr×List Fr
def cE(d:ba):Dt:=.tup (.int d.1::Υ d.2.1::d.2.2.map Υ)
def Ι(ds:List ba)(size:Int):Bool:=decide (1<=ds.length)&&decide (ds.length<=6)&&ds.all λd=>aJ d.1 d.2.1 size
def rR:DF:=λas M q _=>∃d size ds ok,as=[d,.int size]/\iA M d=some (ds.map cE,ok)/\ds.length<=100/\q (.bl (Ι ds size)) M
def pT:Γ ["doors","size"] ["doors","size"] (τ lV):=.of rfl
def x4(F:c_ K "fits_doors" "fits_doors" lV f fd)(E:Ev K mg Cm){EZ:Addr}{Ek:FuncData}(l_:aw P w K mg base 2 "fits_door" ["door","size"] uW EZ Ek):ak P w K mg base (cF P w) 3 f fd ["doors","size"] (cQ K rR):=by
 refine F.d7 pT (λds M q x h=>?_) (λbq A outer s H E' hr=>⟨_,(ζ (ao (JW.jt (gL (pL (cL E.bR (Λ (jv 0) η)) ο) (gK (rG (cL E.bR (Λ (jv 0) η)) (sA E.pZ))))) (ι (Β yH)) Η)
   (ι (Β (Hl E.vA (θ (iY (ys:=["size"]) (Μ:=[1]) (.of pT rfl rfl rfl) (aY (jv 0)) (λC s H fp=>(Χ l_ hr (eE (P:=P) (w:=w)) (Λ (jv 0) (Λ (jv 1) η))))) η))))),λds M q x h=>?_⟩)
 ·have⟨d,size,ds,ok,rfl,_⟩:=h;rfl
 ·have⟨d,size,ds,ok,rfl,hl,hz,h⟩:=h;have hs:=gJ hl;walk_at "vc";refine aC hs ⟨λh1=>?_,λh1=>?_⟩
  ·refine⟨λ_=>?_,nofun⟩;have e:Ι ds size=false:=by
    have:(ds.length:Int) < 1:=by simpa using h1
    unfold Ι;rw[aal ()];rfl
   rw[<-e];exact h
  ·have h1:¬(ds.length:Int) < 1:=by simpa using h1
   refine aC hs ⟨λh2=>?_,λh2=>?_⟩
   ·have e:Ι ds size=false:=by
     have:6 < (ds.length:Int):=by simpa using h2
     unfold Ι;rw[aal (p:=ds.length<=6) (),Bool.and_false];rfl
    rw[<-e];exact h
   ·have h2:¬6 < (ds.length:Int):=by simpa using h2
    refine bz rfl hl ⟨by rw[aae];exact aat hz @_,?_⟩;refine d_ (f:=λd=>.bl (match d with| .tup (.int t:: .tup [.int a,.int b]::_)=>aJ t (a,b) size| _=>false)) (nR hl) (λx hx q hq=>?_) ?_
    ·have⟨y,_,rfl⟩:=aam.mp hx;exact⟨y.1,y.2.1,y.2.2.map Υ,size,rfl,hq⟩
    ·refine⟨ds.map λd=>aJ d.1 d.2.1 size,?_,?_⟩
     ·rw[aaG,aaH,aaG];rfl
     ·have e:Ι ds size=(ds.map λd=>aJ d.1 d.2.1 size).all id:=by unfold Ι;rw[aau (show 1<=ds.length by omega),aau (show ds.length<=6 by omega),acm];rfl
      rw[<-e];exact h
def bt(cs:List Fr):Int:=cs.foldl (λb c=>b * c.2 / g b c.2) 1
def nP{c:Int}(hb:0 < b)(hc:0 < c):0 < b * c / g b c/\b * c / g b c<=b * c/\0 < g b c/\g b c<=c:=by
 have hg:0 < g b c:=Aw ();have hbc:0 < b * c:=abj hb hc;have hd:g b c∣c:=Int.gcd_dvd_right ..;have hle:g b c<=c:=ab2 hc hd;have h1:c<=b * c:=by have:=aa2 (show 1<=b by omega) (show 0<=c by omega);simpa using this
 refine⟨Int.ediv_pos_of_pos_of_dvd hbc () (Int.dvd_mul_of_dvd_right hd),?_,hg,hle⟩;exact Int.ediv_le_self _ ()
def O8(cs:List Fr):Prop:=cs.length<=12/\∀c∈cs,0 < c.2/\c.2 < 2 ^ 200/\c.1.natAbs < 2 ^ 200
def OkB(cs:List Fr):Prop:=cs.length<=13/\∀c∈cs,0 < c.2/\c.2 < 2 ^ 200
def oE:∀(cs:List Fr) (b:Int) (k:Nat),0 < b->b<=2 ^ (200 * k)->(∀c∈cs,0 < c.2/\c.2 < 2 ^ 200)->0 < cs.foldl (λb c=>b * c.2 / g b c.2) b/\cs.foldl (λb c=>b * c.2 / g b c.2) b<=2 ^ (200 * (k+cs.length))
 | [],b,k,h0,h1,_=>⟨h0,h1⟩
 | c::cs,b,k,h0,h1,hc=>by
  have⟨c0,c1⟩:=hc c aad;have⟨s0,s1,_⟩:=nP h0 c0;have F_:b * c.2 / g b c.2<=2 ^ (200 * (k+1)):=by refine abX s1 ?_;rw[show 200 * (k+1)=200 * k+200 by omega,Int.pow_add];exact Int.mul_le_mul h1 (aav c1) (aav c0) (aav (Int.pow_pos @_))
  have:=oE cs _ (k+1) s0 F_ λd hd=>hc d (aac _ hd);rw[abA,aaI,show k+(cs.length+1)=k+1+cs.length by omega];exact this
def Tf{n:Int}{k:Nat}(h0:0<=n)(h:n<=2 ^ k)(hk:k < 8000):gS n:=by
 refine bg (k:=k+1) ?_ hk;have:(n.natAbs:Int) < ((2 ^ (k+1):Nat):Int):=by rw[abf h0,Int.natCast_pow,abR];have:(0:Int) < 2 ^ k:=Int.pow_pos @_;show n < 2 ^ k * 2;omega
 exact abS.mp this
def fh:∀(cs:List Fr) (b:Int),0 < b->(∀c∈cs,0 < c.2)->0 < cs.foldl (λb c=>b * c.2 / g b c.2) b
 | [],_,h0,_=>h0
 | c::cs,b,h0,hc=>fh cs _ (nP h0 (hc c aad)).1 λd hd=>hc d (aac _ hd)
def FX{n:Int}{k:Nat}(h0:0<=n)(h:n < 2 ^ k)(hk:k<=8000):gS n:=by
 refine bg (k:=k) ?_ hk;have:(n.natAbs:Int) < ((2 ^ k:Nat):Int):=by rw[abf h0,Int.natCast_pow];exact h
 exact abS.mp this
def ij:DF:=λds M q _=>∃cs:List Fr,ds=[.lst (cs.map Υ)]/\OkB cs/\q (.int (bt cs)) M
def eC:Γ ["chances","bottom","chance"] ["chances"] (τ iw):=.of rfl
def qh(F:c_ K "common_bottom" "common_bottom" iw f fd)(E:Ev K mg Cm){gR:Addr}{gG:FuncData}(bL:aw P w K mg base 1 "common_divisor" ["one","other"] GS gR gG):ak P w K mg base (cF P w) 2 f fd ["chances"] (cQ K ij):=by
 refine F.d7 eC (λds M q x h=>?_) (λbq A outer s H E' hr=>⟨_,(ζ (χ 1 eC.nd ο)
   (ζ (b9 (aY (jv 0)) (ai (i:=2) eC.nd rfl (Or.inl rfl)) az (ι (χ 1 eC.nd (fC (bY (jv 1) (Ε (jv 2) ο)) (Χ bL hr ν (Λ (jv 1) (θ (Ε (jv 2) ο) η aR)))))))
   (ι (Β (jv 1))))),λds M q x h=>?_⟩)
 ·have⟨cs,rfl,_⟩:=h;rfl
 ·have⟨cs,rfl,⟨hz,hc⟩,h⟩:=h;walk_at "vc";refine bz (i:=0) rfl rfl ?_;refine aZ (λxs ρ M'=>M'=M/\∃cv rest r,cs=cv++rest/\xs=rest.map Υ/\ρ=[some (.lst (cs.map Υ)),some (.int (bt cv)),r]) (λ_ _ _ _=>trivial) (λx xs ρ M' hj fm=>?_) (λρ M' hj=>?_) _ _ _ ⟨rfl,[],cs,none,rfl,rfl,rfl⟩
  ·have⟨rfl,cv,rest,r,e,ex,rfl⟩:=hj;cases rest with
   | nil=>cases ex
   | cons c rest=>
    cases ex;have hd:∀d∈cv,0 < d.2/\d.2 < 2 ^ 200:=λd hd=>by have⟨a,b⟩:=hc d (by rw[e];exact List.mem_append_left _ hd);exact⟨a,b⟩
    have⟨c0,c1⟩:=hc c (by rw[e];exact aaE _ aad);have⟨b0,b1⟩:=oE cv 1 0 @_ @_ hd;have hl:cv.length<=13:=by have:=aaP List.length e;rw[aag]at this;omega
    have⟨s0,s1,g0,g1⟩:=nP b0 c0;refine⟨⟨Tf (aav b0) b1 (),FX (aav c0) c1 @_⟩,⟨g0,FX (aav g0) (abh g1 c1) @_⟩,?_⟩;refine fm _ _ ⟨rfl,cv++[c],rest,some (Υ c),by rw[e];simp,rfl,?_⟩;have e2:bt (cv++[c])=bt cv * c.2 / g (bt cv) c.2:=by unfold bt;rw[List.foldl_append];rfl
    rw[e2];rfl
  ·have⟨rfl,cv,rest,r,e,ex,rfl⟩:=hj;cases rest with
   | nil=>rw[aaV]at e;subst e;exact h
   | cons c rest=>cases ex
def Ο(cs:List Fr):Bool:= !(cs.any λc=>decide (c.1<=0))&&(decide ((cs.map λc=>c.1 * (bt cs / c.2)).sum=bt cs)&&decide (bt cs<=1000000))
def nD:DF:=λds M q _=>∃cs:List Fr,ds=[.lst (cs.map Υ)]/\O8 cs/\q (.bl (Ο cs)) M
def dt:Γ ["chances","bottom","whole"] ["chances"] (τ i9):=.of rfl
def rB(F:c_ K "fits_chances" "fits_chances" i9 f fd)(E:Ev K mg Cm){iu:Addr}{hZ:FuncData}(ck:aw P w K mg base 2 "common_bottom" ["chances"] ij iu hZ):ak P w K mg base (cF P w) 3 f fd ["chances"] (cQ K nD):=by
 refine F.d7 dt (λds M q x h=>?_) (λbq A outer s H E' hr=>⟨_,(ζ (ao (bV (Hf E.uN (θ (iY (ys:=[]) (Μ:=[]) (.of dt rfl rfl rfl) (aY (jv 0)) (λC s H fp=>(BO (Ε (jv 0) ο) ο))) η))) (ι (Β yH)) Η)
   (ζ (χ 1 dt.nd (Χ ck hr ν (Λ (jv 0) η)))
   (ζ (χ 2 dt.nd (NY E.yy (θ (iY (ys:=["bottom"]) (Μ:=[1]) (.of dt rfl rfl rfl) (aY (jv 0)) (λC s H fp=>(bY (Ε (jv 0) ο) (fC (jv 1) (Ε (jv 0) ο))))) η)))
   (ι (Β (ik (Xc hr (jv 2) (jv 1)) (i5 (BO (jv 1) (sA E.i7))))))))),λds M q x h=>?_⟩)
 ·have⟨cs,rfl,_⟩:=h;rfl
 ·have⟨cs,rfl,Gs,h⟩:=h;have⟨hz,hc⟩:=id Gs;have ZO:(cs.map Υ).length<=sizeLine:=by rw[aae];exact aat hz @_
  have⟨b0,b1⟩:=oE cs 1 0 @_ @_ λc h=>⟨(hc c h).1,(hc c h).2.1⟩;walk_at "vc";refine bz (i:=0) rfl rfl ⟨ZO,?_⟩;refine d_ (f:=λd=>.bl (match d with| .tup [.int a,.int b]=>decide (a<=0)| _=>false)) trivial (λx hx q hq=>?_) ?_
  ·have⟨y,_,rfl⟩:=aam.mp hx;exact hq
  ·refine⟨cs.map λc=>decide (c.1<=0),by rw[aaG,aaH,aaG];rfl,λ_ z=>(nomatch z),λ_ z=>(nomatch z),?_⟩;have ea:(cs.map λc=>decide (c.1<=0)).any id=cs.any λc=>decide (c.1<=0):=by rw[List.any_map];rfl
   rw[ea];refine⟨λh1=>?_,λh1=>?_⟩
   ·have e:Ο cs=false:=by unfold Ο;rw[h1];rfl
    rw[<-e];exact h
   ·refine⟨cs,rfl,⟨(),λc h=>⟨(hc c h).1,(hc c h).2.1⟩⟩,?_⟩;walk_at "vc";refine bz (i:=0) rfl rfl ⟨ZO,?_⟩;refine d_ (f:=λd=>.int (match d with| .tup [.int a,.int b]=>a * (bt cs / b)| _=>0)) trivial (λx hx q hq=>?_) ?_
    ·have⟨y,hy,rfl⟩:=aam.mp hx;have⟨y0,y1,y2⟩:=hc y hy;refine⟨⟨y0,FX (aav y0) y1 @_⟩,⟨bg y2,?_⟩,hq⟩;refine Tf (k:=200 * (0+cs.length)) (Int.ediv_nonneg (aav b0) (aav y0)) (abX (Int.ediv_le_self _ (aav b0)) b1) ()
    ·refine⟨cs.map λc=>c.1 * (bt cs / c.2),by rw[aaG,aaH,aaG];rfl,⟨_,_,rfl⟩,?_⟩;refine⟨λh2=>?_,λh2=>?_⟩
     ·have e:Ο cs=decide (bt cs<=1000000):=by unfold Ο;rw[h1,h2];rfl
      rw[e]at h;exact h
     ·have e:Ο cs=false:=by unfold Ο;rw[h1,h2];rfl
      rw[<-e];exact h
inductive Rw where
 | fin (p:Fr)
 | ω (k:Str) (ds:List ba)
def ξ(d:ba):Fr:=d.2.2.headD (0,1)
def fJ:Rw->Prop
 | .fin p=>0 < p.2
 | .ω k ds=>k≠"end"/\ds.length<=12/\(k="chance"->(∀d∈ds,d.2.2=[ξ d])/\O8 (ds.map ξ))/\∀d∈ds,d.2.2.length<=1/\0 < d.2.1.2
def jC(M:Ms)(d:Dt):Rw->Prop
 | .fin p=>d= .tup [.str "end",Υ p]
 | .ω k ds=>∃e ok,d= .tup [.str k,e]/\iA M e=some (ds.map cE,ok)
def Κ:Rw->Dt
 | .fin p=>.tup [.str "end",Υ p]
 | .ω k ds=>.tup [.str k,.lst (ds.map cE)]
def wu(M:Ms)(r:Rw):jC M (Κ r) r:=by
 cases r with
 | fin p=>rfl
 | ω k ds=>exact⟨_,_,rfl,rfl⟩
def mh(p:Fr):(Υ p).under n:=⟨trivial,trivial,trivial⟩
def D9{n:Nat}:∀(ps:List Fr),Dt.aV n (ps.map Υ)
 | []=>trivial
 | p::ps=>⟨mh p,D9 ps⟩
def Ov(d:ba):(cE d).under n:=⟨trivial,mh _,D9 _⟩
def fQ{n:Nat}:∀(ds:List ba),Dt.aV n (ds.map cE)
 | []=>trivial
 | d::ds=>⟨Ov d,fQ ds⟩
def DL(r:Rw):(Κ r).under n:=by
 cases r with
 | fin p=>exact⟨trivial,mh p,trivial⟩
 | ω k ds=>exact⟨trivial,fQ ds,trivial⟩
def gm{n:Nat}:∀(rs:List Rw),Dt.aV n (rs.map Κ)
 | []=>trivial
 | r::rs=>⟨DL r,gm rs⟩
def Θ(k:Str):Bool:=k=="one"|| k=="other"
def fS(r:Rw)(size:Int):Bool:=match r with
 | .fin p=>cB p
 | .ω k ds=>if Θ k then Ι ds size else if k="chance" then Ι ds size&&Ο (ds.map ξ) else false
def JG{j:Int}{ρ:En}{ok:Ms->Prop}{q:List Dt->(Ms->Prop)->Ms->Prop}{x:DX}(hv:ρ[i]? =some (some (.tup ds)))(hj:jA ds j=some d)(hl:iA M d=some (xs,ok))(h:q xs ok M):eJ (jB cx (x8 i) (dC (.int j))) ρ M q x:=by unfold eJ jB x8;rw[hv];show cx (.tup ds) (.int j) M (λd M1=>match j9 M1 d with| some (xs,ok)=>q xs ok M1| none=>False);refine Α rfl hj ?_;show(match j9 M d with| some (xs,ok)=>q xs ok M| none=>False);rw[nh hl];exact h
def Ak{k:Str}:QT (.str k) [.str "one",.str "other"]=Θ k:=by show((("one":Str)==k)|| ((("other":Str)==k)|| false))=(k=="one"|| k=="other");rw[Bool.or_false,BEq.comm (a:=("one":Str)),BEq.comm (a:=("other":Str))]
def z7:DF:=λas M q _=>∃d r size,as=[d,.int size]/\jC M d r/\fJ r/\q (.bl (fS r size)) M
def pB:Γ ["row","size","kind"] ["row","size"] (τ rK):=.of rfl
def B9   (F:c_ K "fits_row" "fits_row" rK f fd) (E:Ev K mg Cm) {sZ:Addr} {qY:FuncData} (fY:aw P w K mg base 1 "fits_pay" ["pay"] sD sZ qY) {CF:Addr} {A1:FuncData} (gU:aw P w K mg base 3 "fits_doors" ["doors","size"] rR CF A1) {v7:Addr} {v9:FuncData} (h7:aw P w K mg base 3 "fits_chances" ["chances"] nD v7 v9):ak P w K mg base (cF P w) 4 f fd ["row","size"] (cQ K z7):=by
 refine F.d7 pB (λds M q x h=>?_) (λbq A outer s H E' hr=>⟨_,(ζ (χ 2 pB.nd (Ε (jv 0) ο))
   (ζ (ao (d9 hr (jv 2) fc) (ι (Β (Χ fY hr ν (θ (Ε (jv 0) ο) η aR)))) Η)
   (ζ (ao (Bi (jv 2) (Nw E.Bm)) (ι (Β (Χ gU hr ν (θ (Ε (jv 0) ο) (Λ (jv 1) η) aR)))) Η)
   (ζ (ao (d9 hr (jv 2) fc) (ι (Β (ik (Χ gU hr ν (θ (Ε (jv 0) ο) (Λ (jv 1) η) aR)) (i5 (Χ h7 hr ν (θ (iY (ys:=[]) (Μ:=[]) (.of pB rfl rfl rfl) (aY (Ε (jv 0) ο)) (λC s H fp=>(Ε (jv 0) ο))) η)))))) Η)
   (ι (Β yH)))))),λds M q x h=>?_⟩)
 ·have⟨d,r,size,rfl,_⟩:=h;rfl
 ·have⟨d,r,size,rfl,ra,ro,h⟩:=h;cases r with
  | fin p=>
   have ra:d= .tup [.str "end",Υ p]:=ra;subst ra;exact⟨λ_=>⟨p,rfl,h⟩,nofun⟩
  | ω k ds=>
   have⟨e,ok,rfl,hl⟩:=ra;have⟨hk,hz,vC,_⟩:=ro;refine⟨λz=>aaC (aaD z) hk,λ_=>?_⟩;refine⟨.str k,[.str "one",.str "other"],[.str "one",.str "other"],rfl,rfl,rfl,?_⟩;rw[Ak];refine⟨λh1=>?_,λh1=>?_⟩
   ·refine⟨e,size,ds,ok,rfl,hl,(),?_⟩;have e1:fS (.ω k ds) size=Ι ds size:=by show(if Θ k then _ else _)=_;rw[aar h1]
    rw[<-e1];exact h
   ·have e1:fS (.ω k ds) size=if k="chance" then Ι ds size&&Ο (ds.map ξ) else false:=by show(if Θ k then _ else _)=_;rw[aaq (by rw[h1];decide)]
    rw[e1]at h;refine⟨λh2=>?_,λh2=>?_⟩
    ·have h2:k="chance":=aaD h2;rw[aar h2]at h;have⟨Cb,Gs⟩:=vC h2;refine⟨e,size,ds,ok,rfl,hl,(),λh3=>?_,λh3=>?_⟩
     ·rw[h3,Bool.true_and]at h;show eJ _ _ _ _ _;refine JG (i:=0) (j:=1) (ds:=[.str k,e]) rfl (Ω (j:=1) rfl) hl ⟨by rw[aae];exact aat hz @_,?_⟩;refine d_ (f:=λd=>match d with| .tup [_,_,c]=>c| _=>.aP) (nR hl) (λx hx q hq=>?_) ?_
      ·have⟨y,hy,rfl⟩:=aam.mp hx;have ey:cE y= .tup [.int y.1,Υ y.2.1,Υ (ξ y)]:=by unfold cE;rw[Cb y hy];rfl
       rw[ey]at hq⊢;exact hq
      ·refine⟨ds.map ξ,?_,Gs,h⟩;rw[aaH,aaG,aaG];have:∀y∈ds,((λd=>match d with| Dt.tup [_,_,c]=>c| _=>Dt.aP) ∘ cE) y=(Υ ∘ ξ) y:=λy hy=>by
        have ey:cE y= .tup [.int y.1,Υ y.2.1,Υ (ξ y)]:=by unfold cE;rw[Cb y hy];rfl
        show(match cE y with| Dt.tup [_,_,c]=>c| _=>Dt.aP)=Υ (ξ y);rw[ey]
       rw[abb this]
     ·rw[h3,Bool.false_and]at h;exact h
    ·have h2:k≠"chance":=aa3 h2;rw[aaq h2]at h;exact h
def lL:DF:=λas M q _=>∃d r,as=[d]/\jC M d r/\fJ r/\match r with
 | .fin p=>q (.tup [.str "end",Υ p]) M
 | .ω k ds=>q (.tup [.str k,.loc M.length]) (M++[.lst (ds.map cE)])
def zM:Γ ["row"] ["row"] (τ lX):=.of rfl
def wQ(F:c_ K "copied_row" "copied_row" lX f fd)(E:Ev K mg Cm):ak P w K mg base (cF P w) 1 f fd ["row"] (cQ K lL):=by
 refine F.d7 zM (λds M q x h=>?_) (λbq A outer s H E' hr=>⟨_,(ζ (ao (d9 hr (Ε (jv 0) ο) fc) (ι (Β (cb (θ (Ε (jv 0) ο) (θ (Ε (jv 0) ο) η aR) aR)))) Η)
   (ι (Β (cb (θ (Ε (jv 0) ο) (θ (i8 E.fb (θ (Ε (jv 0) ο) η aR)) η aO) aR))))),λds M q x h=>?_⟩)
 ·have⟨d,r,rfl,_⟩:=h;rfl
 ·have⟨d,r,rfl,ra,ro,h⟩:=h;cases r with
  | fin p=>
   have ra:d= .tup [.str "end",Υ p]:=ra;subst ra;exact⟨λ_=>⟨fI,h⟩,nofun⟩
  | ω k ds=>
   have⟨e,ok,rfl,hl⟩:=ra;refine⟨λz=>aaC (aaD z) ro.1,λ_=>?_⟩;show(match ic M e with| some xs=>_| none=>False);rw[gJ hl];exact⟨fI,h⟩
def iQ(p:Fr):Bool:=decide (0<=p.1)&&(decide (p.1 < p.2)&&decide (p.2<=1000))
def tE:DF:=λas M q _=>∃p,as=[Υ p]/\q (.bl (iQ p)) M
def zu:Γ ["share"] ["share"] (τ lN):=.of rfl
def yk(F:c_ K "fits_share" "fits_share" lN f fd)(E:Ev K mg Cm):ak P w K mg base (cF P w) 1 f fd ["share"] (cQ K tE):=by
 refine F.d7 zu (λds M q x h=>?_) (λbq A outer s H E' hr=>⟨_,(ι (Β (ik (BO ο (Ε (jv 0) ο)) (ik (JJ (Ε (jv 0) ο) (Ε (jv 0) ο)) (i5 (BO (Ε (jv 0) ο) (sA E.gz))))))),λds M q x h=>?_⟩)
 ·have⟨p,rfl,_⟩:=h;rfl
 ·have⟨p,rfl,h⟩:=h;unfold iQ at h;refine⟨λh1=>⟨λh2=>?_,λh2=>?_⟩,λh1=>?_⟩
  ·rw[show decide (0<=p.1)=true from h1,show decide (p.1 < p.2)=true from h2]at h;exact h
  ·rw[show decide (0<=p.1)=true from h1,show decide (p.1 < p.2)=false from h2]at h;exact h
  ·rw[show decide (0<=p.1)=false from h1]at h;exact h
def MX{c S:Int}(hb:b∣S)(hc:c∣S)(Rv:0 < b)(hc0:0 < c):b * c / g b c∣S/\b∣b * c / g b c/\c∣b * c / g b c:=by
 have e:b * c / g b c=(Int.lcm b c:Nat):=by
  have h:=Int.gcd_mul_lcm b c;have hg:0 < g b c:=Aw ();have h2:((Int.gcd b c:Nat):Int) * ((Int.lcm b c:Nat):Int)=b * c:=by rw[<-Int.natCast_mul,h,Int.natCast_mul,abf (aav Rv),abf (aav hc0)]
  rw[<-h2];exact Int.mul_ediv_cancel_left _ (by unfold g at hg;omega)
 rw[e];exact⟨Int.coe_lcm_dvd hb hc,Int.dvd_lcm_left ..,Int.dvd_lcm_right ..⟩
def gy:∀(cs:List Fr) (b S:Int),0 < b->b∣S->(∀c∈cs,0 < c.2/\c.2∣S)->cs.foldl (λb c=>b * c.2 / g b c.2) b∣S/\b∣cs.foldl (λb c=>b * c.2 / g b c.2) b/\∀c∈cs,c.2∣cs.foldl (λb c=>b * c.2 / g b c.2) b
 | [],b,S,_,h,_=>⟨h,Int.dvd_refl b,λc hc=>nomatch hc⟩
 | c::cs,b,S,h0,h,hc=>by
  have⟨c0,cS⟩:=hc c aad;have⟨d1,d2,d3⟩:=MX h cS h0 c0;have⟨i1,i2,i3⟩:=gy cs _ S (nP h0 c0).1 d1 λx hx=>hc x (aac _ hx);rw[abA];refine⟨i1,Int.dvd_trans d2 i2,λx hx=>?_⟩;rcases aaA.mp hx with rfl| hx
  ·exact Int.dvd_trans d3 i2
  ·exact i3 x hx
def qf(m:Int)(f:Int->Int):∀(ws:List Int),(ws.map λw=>m * f w).sum=m * (ws.map f).sum
 | []=>by simp
 | w::ws=>by simp only[List.map_cons,List.sum_cons];rw[qf m f ws,Int.mul_add]
def Jt(h:0 < b):(ax t b).2∣b:=by have⟨p,q,e,_,_,_,eb⟩:=gc (t:=t) (show b≠0 by omega);rw[e];exact⟨dv t b,by show b=q * dv t b;rw[abe];exact eb⟩
def yv(ht:0 < t)(h:0 < b):0 < (ax t b).1:=by have hc:=c9 (t:=t) (show b≠0 by omega);have hp:=cq (t:=t) (show b≠0 by omega);have h1:0 < t * (ax t b).2:=abj ht hp;rw[hc]at h1;exact Int.pos_of_mul_pos_right h1 h|> λz=>z
def CJ{ws:List Int}{S:Int}(hS:ws.sum=S)(hw:∀w∈ws,0 < w)(hn:ws≠[])(hS1:S<=1000000)(hz:ws.length<=12):Ο (ws.map λw=>ax w S)=true/\O8 (ws.map λw=>ax w S):=by
 have pos:∀{l:List Int},(∀w∈l,0 < w)->0<=l.sum/\(l≠[]->0 < l.sum)/\∀w∈l,w<=l.sum:=by
  intro l
  induction l with
  | nil=>exactλ_=>⟨by simp,λz=>absurd rfl z,λw hw=>nomatch hw⟩
  | cons a l ih=>
   intro h;have⟨i1,i2,i3⟩:=ih λw hw=>h w (aac _ hw);have:=h a aad;rw[List.sum_cons];refine⟨(),λ_=>(),λw hw=>?_⟩;rcases aaA.mp hw with rfl| hw
   ·omega
   ·have:=i3 w hw;omega
 have⟨_,p2,p3⟩:=pos hw;have S0:0 < S:=by rw[<-hS];exact p2 hn
 have QS:S≠0:=()
 have hd:∀c∈ws.map (λw=>ax w S),0 < c.2/\c.2∣S:=λc hc=>by have⟨w,_,rfl⟩:=aam.mp hc;exact⟨cq QS,Jt S0⟩
 have⟨⟨m,hm⟩,_,hB⟩:=gy (ws.map λw=>ax w S) 1 S @_ (Int.one_dvd _) hd;have B0:0 < bt (ws.map λw=>ax w S):=by refine(fh (ws.map λw=>ax w S) 1 @_ λc hc=>(hd c hc).1)
 generalize XR:bt (ws.map λw=>ax w S)=B at *
 have hm:S=B * m:=by rw[<-XR];exact hm
 have m0:0 < m:=by
  rcases Int.lt_trichotomy m 0 with h| h| h
  ·have:=ab7 B0 h;omega
  ·rw[h,Int.mul_zero]at hm;omega
  ·exact h
 have key:((ws.map λw=>ax w S).map λc=>c.1 * (B / c.2)).sum=B:=by
  have e1:∀w∈ws,m * ((ax w S).1 * (B / (ax w S).2))=w:=λw hw=>by
   have hb:(ax w S).2∣B:=by rw[<-XR];exact hB _ (aam.mpr ⟨w,hw,rfl⟩)
   have⟨k,hk⟩:=hb;have q0:=cq (t:=w) QS;have e2:B / (ax w S).2=k:=by rw[hk];exact abp _ ()
   have hc:=c9 (t:=w) QS;rw[e2];have Wl:S=(ax w S).2 * k * m:=by rw[<-hk];exact hm
   generalize (ax w S).1=x at *
   generalize (ax w S).2=y at *
   have e4:S * x=y * (m * (x * k)):=by rw[Wl];simp only[Int.mul_assoc,Int.mul_comm,Int.mul_left_comm]
   have e3:y * (m * (x * k))=y * w:=by rw[<-e4,<-hc,abe]
   exact aaN () e3
  have e5:m * ((ws.map λw=>ax w S).map λc=>c.1 * (B / c.2)).sum=m * B:=by rw[aaG];show m * (ws.map λw=>(ax w S).1 * (B / (ax w S).2)).sum=m * B;rw[<-qf,abb e1,List.map_id',hS,hm,abe]
  exact aaN () e5
 refine⟨?_,⟨by rw[aae];exact hz,λc hc=>?_⟩⟩
 ·unfold Ο;rw[XR,key];have ha:((ws.map λw=>ax w S).any λc=>decide (c.1<=0))=false:=by rw[List.any_eq_false];intro c hc;have⟨w,Vc,rfl⟩:=aam.mp hc;have:=yv (hw w Vc) S0;simpa using this
  have hle:B<=S:=by have:=aaQ (show 1<=m by omega) (aav B0);rw[Int.mul_one,<-hm]at this;exact this
  rw[ha,aau rfl,aau (show B<=1000000 by omega)];rfl
 ·have⟨w,Vc,rfl⟩:=aam.mp hc;have q0:=cq (t:=w) QS;have l1:=rP (t:=w) QS;have l2:=mZ (t:=w) QS;have:=p3 w Vc;have w0:=hw w Vc;have big:(1000000:Int) < 2 ^ 200:=@_
  have afz:1000000 < 2 ^ 200:=@_
  exact⟨q0,(),()⟩
def cy{α:Type}{te:DE}{cs:En}{ok:Ms->Prop}{F:Dt->α->Prop}{f:α->Dt}{M:Ms}{k:List Dt->Ms->Prop}(ho:ok M)(ht:∀x a,F x a->∀q:DQ,q (f a) M->te (some x::cs) M q jP):∀{xs:List Dt} {as:List α} {acc:List Dt},Paired F xs as->k (acc++as.map f) M->pO te cs ok xs acc M k
 | _,_,acc,.nil,h=>⟨ho,by simpa using h⟩
 | _,_,acc,.cons r t,h=>⟨ho,ht _ _ r _ (cy ho ht t (by simpa using h))⟩
def zU{k:Nat}{C C':Addr}{ns':List Str}{xs':List Dt}{e:Dt}{ys:List Dt}{ok:Ms->Prop}(hk:M[k]? =some (.ins C ns xs))(h:iA M e=some (ys,ok)):iA (M.set k (.ins C' ns' xs')) e=some (ys,ok):=by
 cases e with
 | lst ds=>exact h
 | ip ns=>exact h
 | loc j=>
  have h:(match M[j]? with| some (.lst xs)=>some (xs,λM':Ms=>M'[j]? =some (.lst xs))| _=>none)=some (ys,ok):=h;have ne:k≠j:=λz=>by subst z;rw[hk]at h;cases h
  show(match (M.set k (.ins C' ns' xs'))[j]? with| some (.lst xs)=>some (xs,λM':Ms=>M'[j]? =some (.lst xs))| _=>none)=some (ys,ok);rw[aa6 ne];exact h
 | _=>cases h
def Ga{k:Nat}{C C':Addr}{ns':List Str}{xs':List Dt}{r:Rw}(hk:M[k]? =some (.ins C ns xs))(h:jC M d r):jC (M.set k (.ins C' ns' xs')) d r:=by
 cases r with
 | fin p=>exact h
 | ω k' ds=>
  have⟨e,ok,h1,h2⟩:=h;exact⟨e,ok,h1,zU hk h2⟩
def EF{C:Addr}{f:Str}{ρ:En}{v:Dt}{ok:Ms->Prop}{q:List Dt->(Ms->Prop)->Ms->Prop}{x:DX}(hv:ρ[i]? =some (some d))(ho:Mr C M d ns ds)(hf:(ns.zip ds).lookup f=some v)(hl:iA M v=some (xs,ok))(h:q xs ok M):eJ (QI C f (x8 i)) ρ M q x:=by unfold eJ QI x8;rw[hv];refine⟨ns,ds,v,ho,hf,?_⟩;show(match j9 M v with| some (xs,ok)=>q xs ok M| none=>False);rw[nh hl];exact h
def aj(C:Addr)(ε:Fr)(γ:List Rw):Dt:=.obj C ["kept_share","kept_rows"] [Υ ε,.lst (γ.map Κ)]
def Iu(Cm:Addr):DF:=λas M q _=>∃k d ε ds γ ok,as=[.loc k,Υ ε,d]/\M[k]? =some (.ins Cm [] [])/\iA M d=some (ds,ok)/\Paired (jC M) ds γ/\iQ ε=true/\1<=γ.length/\γ.length<=12/\
 (∀r∈γ,fJ r/\fS r γ.length=true)/\q .aP (M.set k (.ins Cm ["kept_share","kept_rows"] [Υ ε,.lst (γ.map Κ)]))
def hW:Γ ["self","share","rows","place","row"] ["self","share","rows"] (τ lQ):=.of rfl
def xG(F:c_ K "__init__" "Floor.__init__" lQ f fd)(E:Ev K mg Cm){BW:Addr}{Bq:FuncData}(jO:aw P w K mg base 1 "fits_share" ["share"] tE BW Bq){HR:Addr}{J2:FuncData}(pd:aw P w K mg base 4 "fits_row" ["row","size"] z7 HR J2){ma:Addr}{mv:FuncData}(dY:aw P w K mg base 1 "copied_row" ["row"] lL ma mv):ak P w K mg base (cF P w) 5 f fd ["self","share","rows"] (cQ K (Iu Cm)):=by
 refine F.d7 hW (λds M q x h=>?_) (λbq A outer s H E' hr=>⟨_,(ζ (ao (e7 (bV (Χ jO hr ν (Λ (jv 1) η)))) (ι gI) Η)
   (ζ (ao (JW.jt (gL (pL (cL E.bR (Λ (jv 2) η)) ο) (gK (rG (cL E.bR (Λ (jv 2) η)) (sA E.ni))))) (ι gI) Η)
   (ζ (b9 (nQ E.cw (Λ (jv 2) η)) (oi rfl (cH (ai (i:=3) hW.nd rfl (Or.inl rfl)) (cH (ai (i:=4) hW.nd rfl (Or.inl rfl)) kQ))) mP (ι (ao (e7 (bV (Χ pd hr ν (Λ (jv 4) (θ (cL E.bR (Λ (jv 2) η)) η aO))))) (ι gI) Η)))
   (ζ (DJ E.fA E.h_ (jv 0) (jv 1))
   (ι (DJ E.fA E.dc (jv 0) (iY (ys:=[]) (Μ:=[]) (.of hW rfl rfl rfl) (aY (jv 2)) (λC s H fp=>(bo (Χ dY hr (eE (P:=P) (w:=w)) (Λ (jv 0) η))))))))))),λds M q x h=>?_⟩)
 ·have⟨k,d,ε,ds,γ,ok,rfl,_⟩:=h;rfl
 ·have⟨k,d,ε,ds,γ,ok,rfl,hk,hl,hp,hs,h1,h12,qM,h⟩:=h;have hlen:ds.length=γ.length:=Paired.length hp;walk_at "vc";refine⟨ε,rfl,λz=>?_,λ_=>?_⟩
  ·rw[hs]at z;exact nomatch z
  have RP:=gJ hl;refine aC RP ⟨λz=>?_,λ_=>?_⟩
  ·have:(ds.length:Int) < 1:=by simpa using z
   omega
  refine aC RP ⟨λz=>?_,λ_=>?_⟩
  ·have:12 < (ds.length:Int):=by simpa using z
   omega
  refine⟨d,ds,ok,rfl,hl,?_⟩;refine aZ (λxs ρ M'=>M'=M/\∃n Hh C3 a b,xs=g8 n Hh/\Paired (jC M) Hh C3/\(∀r∈C3,r∈γ)/\ρ=[some (.loc k),some (Υ ε),some d,a,b]) (λxs ρ M' hj=>by have⟨rfl,_⟩:=hj;exact nR hl) (λx xs ρ M' hj fm=>?_) (λρ M' hj=>?_) _ _ _ ⟨rfl,0,ds,γ,none,none,rfl,hp,λ_ h=>h,rfl⟩
  ·have⟨rfl,n,Hh,C3,a,b,ex,xm,U8,rfl⟩:=hj;cases xm with
   | nil=>cases ex
   | cons ra t=>
    rename_i d1 r1 ds1 Si;cases ex;refine aC RP ⟨d1,r1,ds.length,rfl,ra,(qM r1 (U8 r1 aad)).1,λz=>?_,λ_=>?_⟩
    ·rw[hlen,(qM r1 (U8 r1 aad)).2]at z;exact nomatch z
    ·exact fm _ _ ⟨rfl,n+1,ds1,Si,_,_,rfl,t,λr hr=>U8 r (aac _ hr),rfl⟩
  ·have⟨rfl,n,Hh,C3,a,b,ex,xm,U8,rfl⟩:=hj;have hkl:k < M'.length:=(aaf.mp hk).1;refine⟨k,[],[],rfl,hk,(nofun),@_,?_⟩;have Xg:=zU (C':=Cm) (ns':=["kept_share"]) (xs':=[Υ ε]) hk hl;dsimp only[NJ,List.nil_append];show eJ _ _ _ _ _;refine bz (i:=2) rfl Xg ⟨by rw[hlen];exact aat h12 @_,?_⟩;have W_:Paired (λx a=>jC (M'.set k (.ins Cm ["kept_share"] [Υ ε])) x a/\fJ a) ds γ:=by
    have:∀{xs:List Dt} {rs:List Rw},Paired (jC M') xs rs->(∀r∈rs,fJ r)->Paired (λx a=>jC (M'.set k (.ins Cm ["kept_share"] [Υ ε])) x a/\fJ a) xs rs:=by
     intro xs rs hp
     induction hp with
     | nil=>exactλ_=>.nil
     | cons r t ih=>exactλh=>.cons ⟨Ga hk r,h _ aad⟩ (ih λy hy=>h y (aac _ hy))
    exact this hp λr hr=>(qM r hr).1
   refine cy (f:=Κ) (nR Xg) (λx a ha q' hq=>?ht) W_ ?fin
   case ht=>
    have⟨ha,ho⟩:=ha;refine⟨x,a,rfl,ha,ho,?_⟩;cases a with
    | fin p=>exact MP ⟨trivial,mh p,trivial⟩ hq
    | ω k2 zR=>exact gF (.tup (.cons (.old trivial) (.cons (.w6 (Nat.le_refl _) (by simp) (fN.old (fQ zR))) .nil))) hq
   case fin=>
    refine⟨k,["kept_share"],[Υ ε],rfl,by rw[aa5 hkl],@_,@_,?_⟩;rw[List.set_set];exact h
def kindOf:Rw->Str
 | .fin _=>"end"
 | .ω k _=>k
def au:Rw->List ba
 | .fin _=>[]
 | .ω _ ds=>ds
def nL:Nat->List Rw->List Dt
 | _,[]=>[]
 | n,.fin p::r=>.tup [.str "end",Υ p]::nL n r
 | n,.ω k _::r=>.tup [.str k,.loc n]::nL (n+1) r
def lx:List Rw->Ms
 | []=>[]
 | .fin _::r=>lx r
 | .ω _ ds::r=>.lst (ds.map cE)::lx r
def mT{γ:List Rw}{r:Rw}(h:γ[i]? =some r):(γ.map Κ)[i]? =some (Κ r):=by rw[aah,h];rfl
def PV{r:Rw}:∃e,Κ r= .tup [.str (kindOf r),e]:=by
 cases r with
 | fin p=>exact⟨_,rfl⟩
 | ω k ds=>exact⟨_,rfl⟩
def rT(C:Addr):DF:=λas M q _=>∃ε γ,as=[aj C ε γ]/\q (.int γ.length) M
def yA:Γ ["self"] ["self"] (τ lR):=.of rfl
def xg(F:c_ K "size" "Floor.size" lR f fd)(E:Ev K mg Cm):ak P w K mg base (cF P w) 1 f fd ["self"] (cQ K (rT Cm)):=by
 refine F.d7 yA (λds M q x h=>?_) (λbq A outer s H E' hr=>⟨_,(ι (Β (cL E.bR (θ (yD E.fA E.dc (jv 0)) η)))),λds M q x h=>?_⟩)
 ·have⟨ε,γ,rfl,_⟩:=h;rfl
 ·have⟨ε,γ,rfl,h⟩:=h;refine⟨_,_,_,.inl rfl,rfl,?_⟩;show fP [.lst (γ.map Κ)] M _;refine aC (xs:=γ.map Κ) rfl ?_;rw[aae];exact h
def JU(C:Addr):DF:=λas M q _=>∃ε γ,as=[aj C ε γ]/\q (Υ ε) M
def wY:Γ ["self"] ["self"] (τ j_):=.of rfl
def uE(F:c_ K "share" "Floor.share" j_ f fd)(E:Ev K mg Cm):ak P w K mg base (cF P w) 1 f fd ["self"] (cQ K (JU Cm)):=by
 refine F.d7 wY (λds M q x h=>?_) (λbq A outer s H E' hr=>⟨_,(ι (Β (yD E.fA E.h_ (jv 0)))),λds M q x h=>?_⟩)
 ·have⟨ε,γ,rfl,_⟩:=h;rfl
 ·have⟨ε,γ,rfl,h⟩:=h;exact⟨_,_,_,.inl rfl,rfl,h⟩
def sU(C:Addr):DF:=λas M q _=>∃ε γ i r,as=[aj C ε γ,.int (i:Nat)]/\γ[i]? =some r/\q (.str (kindOf r)) M
def yt:Γ ["self","place"] ["self","place"] (τ mL):=.of rfl
def wX(F:c_ K "kind" "Floor.kind" mL f fd)(E:Ev K mg Cm):ak P w K mg base (cF P w) 1 f fd ["self","place"] (cQ K (sU Cm)):=by
 refine F.d7 yt (λds M q x h=>?_) (λbq A outer s H E' hr=>⟨_,(ι (Β (Ε (Ε (yD E.fA E.dc (jv 0)) (jv 1)) ο))),λds M q x h=>?_⟩)
 ·have⟨ε,γ,i,r,rfl,_⟩:=h;rfl
 ·have⟨ε,γ,i,r,rfl,hi,h⟩:=h;refine⟨_,_,_,.inl rfl,rfl,?_⟩;walk_at "vc";refine Α (xs:=γ.map Κ) rfl (Ω (mT hi)) ?_;have⟨e,er⟩:=PV (r:=r);rw[er];exact h
def sL(C:Addr):DF:=λas M q _=>∃ε γ i r,as=[aj C ε γ,.int (i:Nat)]/\γ[i]? =some r/\fJ r/\q (.loc M.length) (M++[.lst ((au r).map cE)])
def we:Γ ["self","place"] ["self","place"] (τ jV):=.of rfl
def ur(F:c_ K "doors" "Floor.doors" jV f fd)(E:Ev K mg Cm)(ae:fG P w K mg base 1 Cm "kind" ["self","place"] (sU Cm) bC bF):ak P w K mg base (cF P w) 2 f fd ["self","place"] (cQ K (sL Cm)):=by
 refine F.d7 we (λds M q x h=>?_) (λbq A outer s H E' hr=>⟨_,(ζ (ao (d9 hr (gE ae hr ν (jv 0) (Λ (jv 1) η)) fc) (ι (Β (pH η))) Η)
   (ι (Β (i8 E.fb (θ (Ε (Ε (yD E.fA E.dc (jv 0)) (jv 1)) ο) η aR))))),λds M q x h=>?_⟩)
 ·have⟨ε,γ,i,r,rfl,_⟩:=h;rfl
 ·have⟨ε,γ,i,r,rfl,hi,ro,h⟩:=h;refine⟨⟨_,_,.inl rfl,rfl⟩,ε,γ,i,r,rfl,hi,?_⟩;cases r with
  | fin p=>exact⟨λ_=>⟨@_,h⟩,nofun⟩
  | ω k ds=>
   refine⟨λz=>aaC (aaD z) ro.1,λ_=>?_⟩;refine⟨_,_,_,.inl rfl,rfl,?_⟩;walk_at "vc";refine Α (xs:=γ.map Κ) rfl (Ω (mT hi)) ?_;exact h
def rq{te:DE}{cs:En}{k:List Dt->Ms->Prop} (ht:∀r M (q:DQ),fJ r->(match r with
  | .fin p=>q (.tup [.str "end",Υ p]) M
  | .ω k ds=>q (.tup [.str k,.loc M.length]) (M++[.lst (ds.map cE)]))->te (some (Κ r)::cs) M q jP):∀(γ:List Rw) (acc:List Dt) (M:Ms),(∀r∈γ,fJ r)->k (acc++nL M.length γ) (M++lx γ)->pO te cs (λ_=>True) (γ.map Κ) acc M k
 | [],acc,M,_,h=>⟨trivial,by simpa [nL,lx] using h⟩
 | r::γ,acc,M,ho,h=>by
  refine⟨trivial,ht r M _ (ho r aad) ?_⟩;cases r with
  | fin p=>
   refine rq ht γ _ M (λr hr=>ho r (aac _ hr)) ?_;simpa [nL,lx] using h
  | ω k' ds=>
   refine rq ht γ _ _ (λr hr=>ho r (aac _ hr)) ?_;simpa [nL,lx] using h
def NC(C:Addr):DF:=λas M q _=>∃ε γ,as=[aj C ε γ]/\γ.length<=12/\(∀r∈γ,fJ r)/\q (.loc (M.length+(lx γ).length)) (M++lx γ++[.lst (nL M.length γ)])
def qd:Γ ["self"] ["self"] (τ lT):=.of rfl
def yd(F:c_ K "rows" "Floor.rows" lT f fd)(E:Ev K mg Cm){ma:Addr}{mv:FuncData}(dY:aw P w K mg base 1 "copied_row" ["row"] lL ma mv):ak P w K mg base (cF P w) 2 f fd ["self"] (cQ K (NC Cm)):=by
 refine F.d7 qd (λds M q x h=>?_) (λbq A outer s H E' hr=>⟨_,(ι (Β (Kl (ys:=[]) (Μ:=[]) (.of qd rfl rfl rfl) (aY (yD E.fA E.dc (jv 0))) (λC s H fp=>(Χ dY hr (eE (P:=P) (w:=w)) (Λ (jv 0) η)))))),λds M q x h=>?_⟩)
 ·have⟨ε,γ,rfl,_⟩:=h;rfl
 ·have⟨ε,γ,rfl,hz,ho,h⟩:=h;walk_at "vc";refine EF (i:=0) (d:=aj Cm ε γ) rfl (.inl rfl) rfl rfl ⟨by rw[aae];exact aat hz @_,?_⟩;refine rq (λr M q hr hq=>⟨Κ r,r,rfl,wu M r,hr,by cases r <;> exact hq⟩) γ [] M ho ?_;rw[aaH,aag];exact h
def fq{α:Type}(f:α->Dt):∀(xs ys:List α),(∀x∈xs,x∈ys)->Paired (λx a=>x=f a/\a∈ys) (xs.map f) xs
 | [],_,_=>.nil
 | x::xs,ys,h=>.cons ⟨rfl,h x aad⟩ (fq f xs ys λy hy=>h y (aac _ hy))
def cz{q:DQ}(u:Dt.aV M.length ds)(h:q (.lst ds) M):nJ M q (.loc M.length) (M++[.lst ds]):=gF (.w6 (aai _) (by rw[abY];rfl) (fN.old u)) h
def mX{q:DQ}(u:Dt.aV M.length ds)(h:q (.lst ds) M):zf [.lst ds] M (nJ M q):=by show nJ M q (.loc M.length) (M++[.lst ds]);exact cz u h
def nW{d:ba}{q:DQ}(h:q (.int d.1) M):cx (cE d) (.int 0) M q:=Α (xs:=.int d.1::Υ d.2.1::d.2.2.map Υ) rfl aN h
def DR{k:Str}{e:Dt}{q:DQ}(h:q e M):cx (.tup [.str k,e]) (.int 1) M q:=Α (xs:=[.str k,e]) rfl (Ω (j:=1) rfl) h
def eP{g:Dt->En->(En->Prop)->Prop}{tb:DS}{Dn:ly}(J:List Dt->En->Ms->Prop)
  (step:∀x xs ρ M,J (x::xs) ρ M->(∀ρ M,J xs ρ M->xa g tb Dn xs ρ M)->g x ρ λρ'=>tb {Dn with nx:=xa g tb Dn xs,ct:=xa g tb Dn xs,bk:=Dn.nx} ρ' M)
  (fin:∀ρ M,J [] ρ M->Dn.nx ρ M):∀(xs:List Dt) (ρ:En) (M:Ms),J xs ρ M->xa g tb Dn xs ρ M
 | [],ρ,M,h=>fin _ _ h
 | x::xs,ρ,M,h=>step x xs ρ M h λρ' M' h'=>eP J step fin xs ρ' M' h'
def d8{lo:Int}{x:Dt}(h:x::xs=cP lo n):∃m,n=m+1/\x= .int lo/\xs=cP (lo+1) m:=by
 cases n with
 | zero=>exact nomatch h
 | succ m=>
  unfold cP at h;rw[abG,aaM,aaG]at h;cases h;refine⟨m,rfl,by simp,?_⟩;unfold cP;apply abb;intro k _;show Dt.int (lo+((k+1:Nat):Int))=Dt.int (lo+1+(k:Int))
  congr 1
  omega
def iI{lo:Int}{x:Dt}(h:x∈cP lo n):∃k:Nat,k < n/\x= .int (lo+k):=by unfold cP at h;have⟨k,hk,rfl⟩:=aam.mp h;exact⟨k,aa9.mp hk,rfl⟩
def eG{lo:Int}:(cP lo n).length=n:=by unfold cP;simp
def rZ{α:Type}{te:DE}{cs:En}{M:Ms}{f:α->Dt}(G:α->Prop){k:List Dt->Ms->Prop}:∀(xs:List Dt) (acc:List α),(∀a∈acc,G a)->(∀x∈xs,∀q:DQ,(∀a,G a->q (f a) M)->te (some x::cs) M q jP)->
  (∀as:List α,as.length=acc.length+xs.length->(∀a∈as,G a)->k (as.map f) M)->tw te cs xs (acc.map f) M k
 | [],acc,ha,_,h=>h acc (by simp) ha
 | x::xs,acc,ha,ht,h=>ht x aad _ λa hg=>by
  have e:acc.map f++[f a]=(acc++[a]).map f:=by simp
  rw[e];refine rZ G xs (acc++[a]) (λb hb=>?_) (λy hy=>ht y (List.mem_cons_of_mem _ hy)) λas hl hg'=>h as (by rw[hl];simp;omega) hg';rcases aaT.mp hb with hb| hb
  ·exact ha b hb
  ·have:b=a:=by simpa using hb
   rw[this];exact hg
def m8{n:Nat}:∀(xs:List Int),Dt.aV n (xs.map Dt.int)
 | []=>trivial
 | _::xs=>⟨trivial,m8 xs⟩
def Hq{m:Int}:∀{l:List Int},(∀w∈l,w<=m)->l.sum<=l.length * m
 | [],_=>by simp
 | a::l,h=>by have i:=Hq (l:=l) λw hw=>h w (aac _ hw);have:=h a aad;rw[List.sum_cons,aaI,Int.natCast_add,Int.add_mul];omega
def kO(cK:Int)(r:Rw):Prop:=fJ r/\fS r cK=true
def Mh{k:Str}{ds:List ba}{cK:Int}(hk:Θ k=true)(hz:1<=ds.length)(XX:ds.length<=6)(hd:∀d∈ds,aJ d.1 d.2.1 cK=true)(hs:∀d∈ds,d.2.2=[]/\0 < d.2.1.2):kO cK (.ω k ds):=by
 have fd:Ι ds cK=true:=by unfold Ι;rw[aau hz,aau XX,aaS.mpr hd];rfl
 have ne:k≠"end"/\k≠"chance":=by refine⟨λz=>?_,λz=>?_⟩ <;> (subst z;exact aaC hk @_)
 refine⟨⟨ne.1,(),λz=>aaC z ne.2,λd h=>⟨by rw[(hs d h).1];exact abE _,(hs d h).2⟩⟩,?_⟩;show(if Θ k then _ else _)=true;rw[aar hk];exact fd
def Fx{ds:List ba}{cK:Int}(hz:1<=ds.length)(XX:ds.length<=6)(hd:∀d∈ds,aJ d.1 d.2.1 cK=true)(h1:∀d∈ds,d.2.2=[ξ d])(hc:Ο (ds.map ξ)=true)(ho:O8 (ds.map ξ))(hp:∀d∈ds,0 < d.2.1.2):kO cK (.ω "chance" ds):=by
 have fd:Ι ds cK=true:=by unfold Ι;rw[aau hz,aau XX,aaS.mpr hd];rfl
 refine⟨⟨@_,(),λ_=>⟨h1,ho⟩,λd h=>⟨by rw[h1 d h];exact aai _,hp d h⟩⟩,?_⟩;have e:fS (.ω "chance" ds) cK=(Ι ds cK&&Ο (ds.map ξ)):=by dsimp only[fS];rw[aaq @_,aar rfl]
 rw[e,fd,hc];rfl
def LQ{cK:Int}{p:Fr}(h0:0<=t)(h1:t < cK)(hp:cB p=true):aJ t p cK=true:=by unfold aJ;rw[aau h0,aau h1,hp];rfl
def Mu(h1:1<=m)(h6:m<=6):0 < (1000000:Int) / m/\(m:Int) * (1000000 / m)<=1000000:=by
 have:m=1\/m=2\/m=3\/m=4\/m=5\/m=6:=()
 rcases this with rfl| rfl| rfl| rfl| rfl| rfl <;> decide
def js{xs:List Int}(h:j < xs.length):jA (xs.map Dt.int) (j:Int)=some (.int xs[j]):=Ω (by rw[aah,aaa h];rfl)
def Dv:∀{l:List Int},(∀w∈l,0 < w)->l≠[]->0 < l.sum
 | [],_,z=>aaC rfl z
 | [a],h,_=>by have:=h a List.mem_cons_self;simpa using this
 | a::b::l,h,_=>by have i:=Dv (l:=b::l) (λw hw=>h w (List.mem_cons_of_mem _ hw)) (by simp);have:=h a aad;rw[List.sum_cons];omega
def Sz(k:Nat)(p:Fr):Prop:=p.1.natAbs < 2 ^ k/\0 < p.2/\p.2.natAbs < 2 ^ k
def e9(p q:Fr):Fr:=ax (p.1 * q.1) (p.2 * q.2)
def aW(p q:Fr):Bool:=decide (p.1 * q.2 < q.1 * p.2)
def wU{k k':Nat}{p:Fr}(h:Sz k p)(hk:k<=k'):Sz k' p:=
 ⟨aax h.1 (abP @_ hk),h.2.1,aax h.2.2 (abP @_ hk)⟩
def bD{a b k l:Nat}(h:a < 2 ^ k)(h':b < 2 ^ l):a * b < 2 ^ (k+l):=by rw[Nat.pow_add];exact Nat.mul_lt_mul'' h h'
def MF{k:Nat}(hb:0 < b)(h1:t.natAbs < 2 ^ k)(h2:b.natAbs < 2 ^ k):Sz k (ax t b):=
 ⟨aaY (rP ()) h1,cq (),aaY (mZ ()) h2⟩
def BN{p q:Fr}{k l:Nat}(hp:Sz k p)(hq:Sz l q):(p.1 * q.1).natAbs < 2 ^ (k+l)/\(p.2 * q.2).natAbs < 2 ^ (k+l)/\0 < p.2 * q.2:=by have a:=bD hp.1 hq.1;have c:=bD hp.2.2 hq.2.2;exact⟨by rw[aa4];exact a,by rw[aa4];exact c,abj hp.2.1 hq.2.1⟩
def eR{p:Fr}{k:Nat}(h:Sz k p)(hk:k<=8000):gS p.1:=bg h.1 hk
def cM{p:Fr}{k:Nat}(h:Sz k p)(hk:k<=8000):gS p.2:=bg h.2.2 hk
def sE{p:Fr}{q:DQ}(h:q (.int p.1) M):cx (Υ p) (.int 0) M q:=Α (xs:=[.int p.1,.int p.2]) rfl aN h
def rV{p:Fr}{q:DQ}(h:q (.int p.2) M):cx (Υ p) (.int 1) M q:=Α (xs:=[.int p.1,.int p.2]) rfl (Ω (j:=1) rfl) h
def HF:DF:=λas M q _=>∃p r k l,as=[Υ p,Υ r]/\Sz k p/\Sz l r/\k+l+1<=8000/\q (Υ (e9 p r)) M
def Md:Γ ["one","other"] ["one","other"] (τ AO):=.of rfl
def IP(F:c_ K "times" "times" AO f fd)(E:Ev K mg Cm)(cD:aw P w K mg base 2 "fraction" ["top","bottom"] u7 iV iP):ak P w K mg base (cF P w) 3 f fd ["one","other"] (cQ K HF):=by
 refine F.d7 Md (λds M q x h=>?_) (λbq A outer s H E' hr=>⟨_,(ι (Β (Χ cD hr ν (θ (bY (Ε (jv 0) ο) (Ε (jv 1) ο)) (θ (bY (Ε (jv 0) ο) (Ε (jv 1) ο)) η cG) cG)))),λds M q x h=>?_⟩)
 ·have⟨p,r,k,l,rfl,_⟩:=h;rfl
 ·have⟨p,r,k,l,rfl,hp,qc,hk,h⟩:=h;have⟨a,b,c⟩:=BN hp qc;refine⟨⟨eR hp (),eR qc ()⟩,⟨cM hp (),cM qc ()⟩,bg b (),λz=>aaC z (),λ_=>h⟩
def iy(p q:Fr):Fr:=ax (p.1 * q.2 - q.1 * p.2) (p.2 * q.2)
def Bg{p q:Fr}{k l:Nat}(hp:Sz k p)(hq:Sz l q):(p.1 * q.2 - q.1 * p.2).natAbs < 2 ^ (k+l+1)/\(p.2 * q.2).natAbs < 2 ^ (k+l+1)/\0 < p.2 * q.2:=by
 have a:=bD hp.1 hq.2.2;have b:=bD hq.1 hp.2.2;have c:=bD hp.2.2 hq.2.2;rw[Nat.add_comm l k]at b;have e:(2:Nat) ^ (k+l+1)=2 ^ (k+l)+2 ^ (k+l):=by rw[Nat.pow_succ];omega
 have hn:(p.1 * q.2 - q.1 * p.2).natAbs<=(p.1 * q.2).natAbs+(q.1 * p.2).natAbs:=()
 rw[aa4,aa4]at hn;refine⟨by rw[e];omega,?_,abj hp.2.1 hq.2.1⟩;rw[aa4,e];omega
def Jn:DF:=λas M q _=>∃p r k l,as=[Υ p,Υ r]/\Sz k p/\Sz l r/\k+l+1<=8000/\q (Υ (iy p r)) M
def MJ:Γ ["one","other"] ["one","other"] (τ AS):=.of rfl
def HK(F:c_ K "minus" "minus" AS f fd)(E:Ev K mg Cm)(cD:aw P w K mg base 2 "fraction" ["top","bottom"] u7 iV iP):ak P w K mg base (cF P w) 3 f fd ["one","other"] (cQ K Jn):=by
 refine F.d7 MJ (λds M q x h=>?_) (λbq A outer s H E' hr=>⟨_,(ι (Β (Χ cD hr ν (θ (pY (bY (Ε (jv 0) ο) (Ε (jv 1) ο)) (bY (Ε (jv 1) ο) (Ε (jv 0) ο))) (θ (bY (Ε (jv 0) ο) (Ε (jv 1) ο)) η cG) cG)))),λds M q x h=>?_⟩)
 ·have⟨p,r,k,l,rfl,_⟩:=h;rfl
 ·have⟨p,r,k,l,rfl,hp,qc,hk,h⟩:=h;have⟨a,b,c⟩:=Bg hp qc;refine⟨⟨eR hp (),cM qc ()⟩,⟨eR qc (),cM hp ()⟩,⟨cM hp (),cM qc ()⟩,bg b hk,λz=>aaC z (),λ_=>h⟩
def j0(B:Int)(c:Fr):Int:=c.1 * (B / c.2)
structure y8(cs:List Fr):Prop where
 pos:∀c∈cs,0 < j0 (bt cs) c
 sum:(cs.map (j0 (bt cs))).sum=bt cs
 b0:0 < bt cs
 b1:bt cs<=1000000
 ne:cs≠[]
 Gs:O8 cs
def UK{cs:List Fr}(h:Ο cs=true)(o:O8 cs)(n:cs≠[]):y8 cs:=by
 unfold Ο at h;rw[aaB,aaB,aaR,aaR,Bool.not_eq_true']at h;have⟨h1,h2,h3⟩:=h;have B0:0 < bt cs:=fh cs 1 @_ λc hc=>(o.2 c hc).1;have⟨_,_,hB⟩:=gy cs 1 0 @_ (abZ _) λc hc=>⟨(o.2 c hc).1,abZ _⟩;refine⟨λc hc=>?_,h2,B0,h3,n,o⟩;have c1:0 < c.1:=by have:=List.any_eq_false.mp h1 c hc;simpa using this
 exact abj c1 (Int.ediv_pos_of_pos_of_dvd B0 (aav (o.2 c hc).1) (hB c hc))
def val(p:Fr):Rat:=(p.1:Rat) / (p.2:Rat)
structure Red(p:Fr):Prop where
 pos:0 < p.2
 low:Int.gcd p.1 p.2=1
def bI(h:b≠0):(b:Rat)≠0:=λz=>h (Rat.intCast_eq_zero_iff.mp z)
def MY{a c d:Int}(h:a * b=c * d):(a:Rat) * b=c * d:=by rw[<-aa0,<-aa0,h]
def nH(h:b≠0):Red (ax t b):=⟨cq h,yU h⟩
def kB(h:b≠0):val (ax t b)=(t:Rat) / (b:Rat):=by
 have hq:=cq (t:=t) h;have hx:=MY (c9 (t:=t) h);have h1:=bI h;have h2:=bI (show(ax t b).2≠0 by omega);unfold val;generalize ((ax t b).1:Rat)=x at *
 generalize ((ax t b).2:Rat)=y at *
 generalize (t:Rat)=t' at *
 generalize (b:Rat)=b' at *
 grind
def ju{p q:Fr}(hp:Red p)(hq:Red q)(h:val p=val q):p=q:=by
 have h1:=bI (show p.2≠0 by have:=hp.pos;omega);have h2:=bI (show q.2≠0 by have:=hq.pos;omega);have e:p.1 * q.2=p.2 * q.1:=by
  unfold val at h;have e1:(p.1:Rat) * (q.2:Rat)=(p.2:Rat) * (q.1:Rat):=by
   generalize (p.1:Rat)=a at *
   generalize (p.2:Rat)=b at *
   generalize (q.1:Rat)=c at *
   generalize (q.2:Rat)=d at *
   grind
  rw[<-aa0,<-aa0]at e1;exact Rat.intCast_inj.mp e1
 have a:=wM (show p.2≠0 by have:=hp.pos;omega) hq.pos hq.low e;have b:=uG hp.pos hp.low;rw[<-Prod.eta p,<-b,a]
def Fy{p q:Fr}(hp:0 < p.2)(hq:0 < q.2):val (e9 p q)=val p * val q:=by
 unfold e9;rw[kB (acn (abj hp hq))];have h1:=bI (show p.2≠0 by omega);have h2:=bI (show q.2≠0 by omega);rw[aa0,aa0];unfold val;generalize (p.1:Rat)=a at *
 generalize (p.2:Rat)=b at *
 generalize (q.1:Rat)=c at *
 generalize (q.2:Rat)=d at *
 grind
def n9(p:Fr)(E:Int):Prop:=∃N,p.1 * E=N * p.2
def uZ{N:Int}(h:b≠0)(e:t * E=N * b):n9 (ax t b) E:=by
 have hx:=c9 (t:=t) h;generalize hf:ax t b=f at *
 have⟨x,y⟩:=f;refine⟨N,?_⟩;show x * E=N * y;have hx:t * y=b * x:=hx;have:b * (x * E)=b * (N * y):=by grind
 exact aaN h this
def FL(p:Fr):n9 p p.2:=⟨p.1,rfl⟩
def BU{p q:Fr}{F:Int}(hp:0 < p.2)(hq:0 < q.2)(h:n9 p E)(h':n9 q F):n9 (e9 p q) (E * F):=by have⟨N,e⟩:=h;have⟨N',e'⟩:=h';unfold e9;exact uZ (N:=N * N') (Int.ne_of_gt (Int.mul_pos hp hq)) (by grind)
def xR{p:Fr}(hp:Red p)(h:n9 p E):p.2∣E:=by
 have⟨N,e⟩:=h;have d:p.2∣p.1 * E:=⟨N,by rw[e,abe]⟩;have d2:p.2.natAbs∣p.1.natAbs * E.natAbs:=by rw[<-aa4];exact Int.natAbs_dvd_natAbs.mpr d
 have co:Nat.Coprime p.2.natAbs p.1.natAbs:=by have:=hp.low;unfold Int.gcd at this;rw[Nat.coprime_comm];exact this
 exact Int.natAbs_dvd_natAbs.mp (co.dvd_of_dvd_mul_left d2)
def vK(p:Fr)(C:Int):Prop:=p.1<=p.2 * C/\ -(p.2 * C)<=p.1
def Ky(h:0 < b)(h1:t<=b * C)(h2: -(b * C)<=t):vK (ax t b) C:=by
 have hx:=c9 (t:=t) (show b≠0 by omega);have hq:=cq (t:=t) (show b≠0 by omega);generalize hf:ax t b=f at *
 have⟨x,y⟩:=f;have hx:t * y=b * x:=hx;have hq:0 < y:=hq;constructor
 ·show x<=y * C;have:=aa2 h1 (aav hq);rw[hx]at this;have e:b * C * y=b * (y * C):=by grind
  rw[e]at this;exact ab8 this h
 ·show -(y * C)<=x;have:=aa2 h2 (aav hq);rw[hx]at this;have e: -(b * C) * y=b * (-(y * C)):=by grind
  rw[e]at this;exact ab8 this h
def fT{a c:Int}(h:a<=b)(hc:0<=c):a * c<=b * c:=aa2 h hc
def mz(c:Fr):Prop:=0<=c.1/\c.1<=c.2
def AZ{c s:Fr}(hc:0 < c.2)(hs:0 < s.2)(u:mz c)(v:mz s):mz (e9 c s):=by
 unfold e9;have hx:=c9 (t:=c.1 * s.1) (acn (abj hc hs));have hq:=cq (t:=c.1 * s.1) (acn (abj hc hs));have t0:0<=c.1 * s.1:=abD u.1 v.1
 have t1:c.1 * s.1<=c.2 * s.2:=abX (fT u.2 v.1) (by
  have:=fT v.2 (aav hc)
  rw[abe c.2 s.1,abe c.2 s.2];exact this)
 have bp:=abj hc hs;generalize c.1 * s.1=t at *
 generalize c.2 * s.2=b at *
 generalize hf:ax t b=f at *
 have⟨x,y⟩:=f;have hx:t * y=b * x:=hx;have hq:0 < y:=hq;constructor
 ·show 0<=x;rcases Int.lt_or_le x 0 with z| z
  ·have:=ab7 bp z;have:=abD t0 (aav hq);omega
  ·exact z
 ·show x<=y;have:=fT t1 (aav hq);rw[hx]at this;exact ab8 this bp
def Uc{p:Fr}{k:Nat}(r:Red p)(h:n9 p E)(e0:0 < E)(e1:E < 2 ^ k)(a:vK p C)(c0:0<=C)(c1:C < 2 ^ m):Sz (k+m) p:=by
 have d:=ab2 e0 (xR r h);have rp:=r.pos;have b1:p.2.natAbs < 2 ^ k:=by
  have:(p.2.natAbs:Int) < ((2 ^ k:Nat):Int):=by rw[abf (aav rp)];exact abh d (by exact_mod_cast e1)
  exact abS.mp this
 have b2:C.natAbs < 2 ^ m:=by
  have:(C.natAbs:Int) < ((2 ^ m:Nat):Int):=by
   rw[abf c0]
   exact_mod_cast c1
  exact abS.mp this
 have b3:=bD b1 b2;refine⟨?_,rp,aax b1 (abP @_ (abu _ _))⟩;refine aaY ?_ b3;rw[<-aa4];have q0:0<=p.2 * C:=abD (aav rp) c0;have:=a.1;have:=a.2;omega
def SS{cs:List Fr}(h:j < cs.length):jA (cs.map Υ) (j:Int)=some (Υ cs[j]):=Ω (by rw[aah,aaa h];rfl)
def Ss{ds:List ba}(h:j < ds.length):jA (ds.map cE) (j:Int)=some (cE ds[j]):=Ω (by rw[aah,aaa h];rfl)
structure RX(ε:Fr)(γ:List Rw):Prop where
 sh:iQ ε=true
 len:γ.length<=12
 row:∀r∈γ,fJ r/\fS r γ.length=true
structure Rc(γ:List Rw)(k:Str)(ds:List ba):Prop where
 ro:fJ (.ω k ds)
 l1:1<=ds.length
 l6:ds.length<=6
 kd:Θ k=true\/(Θ k=false/\k="chance"/\y8 (ds.map ξ))
 to:∀d∈ds,0<=d.1/\d.1 < γ.length
 py:∀d∈ds,cB d.2.1=true/\0 < d.2.1.2
def cW{ε:Fr}{γ:List Rw}{k:Str}{ds:List ba}(f:RX ε γ)(h:Rw.ω k ds∈γ):Rc γ k ds:=by
 have⟨ro,h2⟩:=f.row _ h;have h2:(if Θ k then Ι ds γ.length else if k="chance" then Ι ds γ.length&&Ο (ds.map ξ) else false)=true:=h2;have key:Ι ds γ.length=true/\(Θ k=true\/(Θ k=false/\k="chance"/\Ο (ds.map ξ)=true)):=by
  by_cases hk:Θ k=true
  ·rw[aar hk]at h2;exact⟨h2,.inl hk⟩
  ·rw[aaq hk]at h2;by_cases hc:k="chance"
   ·rw[if_pos hc,Bool.and_eq_true]at h2;exact⟨h2.1,.inr ⟨by simpa using hk,hc,h2.2⟩⟩
   ·rw[aaq hc]at h2;cases h2
 have⟨fd,hk⟩:=key;unfold Ι at fd;rw[aaB,aaB,aaR,aaR]at fd;have⟨⟨d1,d6⟩,fa⟩:=fd;have each:∀d∈ds,0<=d.1/\d.1 < γ.length/\cB d.2.1=true:=λd hd=>by have h3:=aaS.mp fa d hd;unfold aJ at h3;rw[aaB,aaB,aaR,aaR]at h3;exact⟨h3.1,h3.2.1,h3.2.2⟩
 refine⟨ro,d1,d6,?_,λd hd=>⟨(each d hd).1,(each d hd).2.1⟩,λd hd=>⟨(each d hd).2.2,(ro.2.2.2 d hd).2⟩⟩;rcases hk with hk| ⟨hk,hc,hf⟩
 ·exact .inl hk
 ·refine .inr ⟨hk,hc,UK hf (ro.2.2.1 hc).2 λz=>?_⟩;have:=aaP List.length z;rw[aae]at this;have:ds.length=0:=this;omega
def MD{α:Type}(xs:List α)(a:α)(f:α->Dt):(cP 0 xs.length).map (λx=>match x with| .int j=>f (xs.getD j.toNat a)| _=>.aP)=xs.map f:=by
 unfold cP;rw[aaG];apply abc
 ·simp
 ·intro i h1 h2;simp only[List.getElem_map,List.getElem_range,Function.comp];rw[show(0+(i:Int)).toNat=i by omega];have hi:i < xs.length:=by simpa using h2
  rw[aab,aaa hi];rfl
abbrev d0:ba:=(0,(0,1),[])
def jN(h:p < n):G7 n (p:Int)=some p:=by unfold G7;rw[aar (),aar (),aaU]
def Jx(h:y_ M d=some xs):ic M d=some xs:=by cases d <;> first| exact h| cases h
def xW(h:y_ M d=some xs):jH M d=some xs:=by cases d <;> first| exact h| cases h
def aL{o:MO}:(M++[o])[M.length]? =some o:=by simp
def hV{k:Nat}(h:M[k]? =some (MO.lst xs)):y_ M (.loc k)=some xs:=by show(match M[k]? with| some (MO.lst xs)=>some xs| _=>none)=some xs;rw[h]
def eI{a c:MO}:(M++[a]).set M.length c=M++[c]:=by simp[List.set_append]
def OE{E:Ms}{o:MO}:(M++o::E)[M.length]? =some o:=by simp
def K3{E:Ms}{o c:MO}:(M++o::E).set M.length c=M++c::E:=by simp[List.set_append]
abbrev cC(l:List Int):Dt:=.lst (l.map Dt.int)
abbrev jJ(ls:List (List Int)):Dt:=.lst (ls.map cC)
def DM{ls:List (List Int)}(h:j < ls.length):jA (ls.map cC) (j:Int)=some (cC ls[j]):=Ω (by rw[aah,aaa h];rfl)
def i6{n:Nat}:∀(ls:List (List Int)),Dt.aV n (ls.map cC)
 | []=>trivial
 | l::ls=>⟨m8 l,i6 ls⟩
abbrev cZ:=Bz.cZ
def yN(h:i < n):((List.replicate (n:Int).toNat [Dt.int 0]).flatten).set i (Dt.int 1)=(cZ n i).map Dt.int:=by
 have e:(List.replicate (n:Int).toNat [Dt.int 0]).flatten=List.replicate n (Dt.int 0):=by
  rw[show((n:Int)).toNat=n by omega];clear h
  induction n with
  | zero=>rfl
  | succ n ih=>rw[abi,abx,ih];rfl
 rw[e];unfold cZ Bz.cZ;apply abc
 ·simp
 ·intro j h1 h2;rw[List.getElem_set];simp only[List.getElem_replicate,List.getElem_map,List.getElem_range,Bz.ind];split <;> rfl
def Nb:DF:=λas M q _=>∃γ:List (List Int),as=[jJ γ]/\γ.length<=12/\(∀r∈γ,r.length<=13)/\∀E,q (.loc M.length) (M++MO.lst (((List.range γ.length).map λi=>γ.getD i []++cZ γ.length i).map cC)::E)
def dq:Γ ["rows","told","number","row","weights"] ["rows"] (τ jd):=.of rfl
def tI(F:c_ K "with_weights" "with_weights" jd f fd)(E:Ev K mg Cm):ak P w K mg base (cF P w) 1 f fd ["rows"] (cQ K Nb):=by
 refine F.d7 dq (λds M q x h=>?_) (λbq A outer s H E' hr=>⟨_,(ζ (χ 1 dq.nd (pH η))
   (ζ (b9 (nQ E.cw (Λ (jv 0) η)) (oi rfl (cH (ai (i:=2) dq.nd rfl (Or.inl rfl)) (cH (ai (i:=3) dq.nd rfl (Or.inl rfl)) kQ))) mP (ζ (χ 4 dq.nd (Bf (dH 3 (d:=.lst [.int 0]) (by rfl)) (cL E.bR (Λ (jv 0) η))))
   (ζ (gq (jv 4) (jv 2) ο)
   (ι (eL (iR (jv 1) (θ (jK (jv 3) (jv 4)) η cG)))))))
   (ι (Β (jv 1))))),λds M q x h=>?_⟩)
 ·have⟨γ,rfl,_⟩:=h;rfl
 ·have⟨γ,rfl,Nn,r13,h⟩:=h;refine⟨@_,?_⟩;refine⟨jJ γ,γ.map cC,λ_=>True,rfl,rfl,?_⟩;refine aZ (λxs ρ M'=>∃(k:Nat) (rest:List (List Int)) (E:Ms) (o1 o2 o3:Option Dt),xs=g8 k (rest.map cC)/\γ.drop k=rest/\k<=γ.length/\M'=M++MO.lst (((List.range k).map λi=>γ.getD i []++cZ γ.length i).map cC)::E/\ρ=[some (jJ γ),some (.loc M.length),o1,o2,o3]) (λxs ρ M' hj=>trivial) (λx xs ρ M' hj fm=>?_) (λρ M' hj=>?_) _ _ _ ⟨0,γ,[],none,none,none,rfl,rfl,abE _,rfl,rfl⟩
  ·have⟨k,rest,E,o1,o2,o3,ex,hd,hk,rfl,rfl⟩:=hj;cases rest with
   | nil=>cases ex
   | cons r rest=>
    cases ex;have z4:k < γ.length:=by
     rcases Nat.lt_or_ge k γ.length with z| z
     ·exact z
     ·rw[List.drop_of_length_le z]at hd;cases hd
    have rk:γ[k]=r:=by have:=abn z4;rw[hd]at this;exact(List.cons.inj this).1.symm
    have rg:γ.getD k []=r:=by rw[aab,aaa z4,rk];rfl
    have abM:=r13 r (by rw[<-rk];exact aan z4);have O5:γ.drop (k+1)=rest:=by have:=abn z4;rw[hd]at this;exact(List.cons.inj this).2.symm
    dsimp only[g2];walk_at "vc";refine(aC (d:=jJ γ) (xs:=γ.map cC) rfl ?_:fP [jJ γ] _ _);rw[aae];refine⟨[.int 0],γ.length,rfl,rfl,(),(),?_,?_⟩
    ·show 1 * ((γ.length:Int)).toNat<=sizeLine;exact aat (show _<=12 by omega) @_
    generalize hM2:M++MO.lst (((List.range k).map λi=>γ.getD i []++cZ γ.length i).map cC)::E=M2;refine⟨M2.length,k,_,k,rfl,rfl,aL,?_,?_⟩
    ·have:((List.replicate (γ.length:Int).toNat [Dt.int 0]).flatten).length=γ.length:=by have:=aaP List.length (yN z4);rw[aaZ,aae]at this;rw[this];unfold cZ Bz.cZ;simp
     rw[this];exact jN z4
    rw[eI,yN z4];subst hM2;have eM:(M++MO.lst (((List.range k).map λi=>γ.getD i []++cZ γ.length i).map cC)::E)++[MO.lst ((cZ γ.length k).map Dt.int)]=M++MO.lst (((List.range k).map λi=>γ.getD i []++cZ γ.length i).map cC)::(E++[MO.lst ((cZ γ.length k).map Dt.int)]):=by simp
    have ZY:((M++MO.lst (((List.range k).map λi=>γ.getD i []++cZ γ.length i).map cC)::E)++[MO.lst ((cZ γ.length k).map Dt.int)])[M.length]? =some (.lst (((List.range k).map λi=>γ.getD i []++cZ γ.length i).map cC)):=by rw[eM];exact OE
    refine⟨⟨M.length,_,rfl,ZY⟩,r.map Dt.int,(cZ γ.length k).map Dt.int,rfl,hV aL,?_,M.length,_,_,rfl,rfl,ZY,?_,?_⟩
    ·rw[aae,aae];unfold cZ Bz.cZ;rw[aae,aa8];exact aat (show _<=30 by omega) @_
    ·rw[aae,aae,aa8];exact aaY (show k<=12 by omega) @_
    rw[eM,K3];refine fm _ _ ⟨k+1,rest,E++[MO.lst ((cZ γ.length k).map Dt.int)],_,_,_,rfl,O5,z4,?_,rfl⟩;rw[List.range_succ,aaW,aaW];simp only[List.map_cons,List.map_nil];rw[rg,<-aaW]
  ·have⟨k,rest,E,o1,o2,o3,ex,hd,hk,rfl,rfl⟩:=hj;cases rest with
   | cons r rest=>cases ex
   | nil=>
    have:k=γ.length:=by have:=aaP List.length hd;rw[abt]at this;simp at this;omega
    subst this;exact h E
def SA:DF:=λas M q _=>∃(ls:List (List Int)) (f c:Nat),as=[jJ ls,.int (f:Int),.int (c:Int)]/\f<=ls.length/\ls.length<=12/\(∀l∈ls,c < l.length)/\
 ((∀(k:Nat),f<=k->k < ls.length->(ls.getD k []).getD c 0=0)->q .aP M)/\
 (∀(k:Nat),f<=k->k < ls.length->(ls.getD k []).getD c 0≠0->q (.int (k:Int)) M)
def jR:Γ ["lines","first","column","number"] ["lines","first","column"] (τ ia):=.of rfl
def qi(F:c_ K "number_of_head" "number_of_head" ia f fd)(E:Ev K mg Cm):ak P w K mg base (cF P w) 1 f fd ["lines","first","column"] (cQ K SA):=by
 refine F.d7 jR (λds M q x h=>?_) (λbq A outer s H E' hr=>⟨_,(ζ (jU (E_ E.bP (Λ (jv 1) (θ (cL E.bR (Λ (jv 0) η)) η aO))) (ai (i:=3) jR.nd rfl (Or.inl rfl)) az (ι (ao (gP hr (Ε (Ε (jv 0) (jv 3)) (jv 2)) ο) (ι (Β (jv 3))) Η)))
   (ι (Β yL))),λds M q x h=>?_⟩)
 ·have⟨ls,f,c,rfl,_⟩:=h;rfl
 ·have⟨ls,f,c,rfl,hf,r_,hc,h1,h2⟩:=h;walk_at "vc";dsimp only[Ja];walk_at "vc";refine(aC (d:=jJ ls) (xs:=ls.map cC) rfl ?_:fP [jJ ls] _ _);rw[aae];refine⟨⟨(),(),(),()⟩,?_⟩;refine eP (λzs ρ M'=>M'=M/\∃(n k:Nat) (o:Option Dt),zs=cP k n/\f<=k/\k+n=ls.length/\(∀j,f<=j->j < k->(ls.getD j []).getD c 0=0)/\ρ=[some (jJ ls),some (.int (f:Int)),some (.int (c:Int)),o]) (λx zs ρ M' hj fm=>?_) (λρ M' hj=>?_) _ _ _ ⟨rfl,ls.length - f,f,none,?_,aai _,(),λj a b=>aaC a (),rfl⟩
  ·have⟨rfl,n,k,o,ex,hk,hn,hz,rfl⟩:=hj;have⟨m,rfl,rfl,rfl⟩:=d8 ex;have kl:k < ls.length:=()
   have hl:=hc _ (aan kl);have e1:(ls.getD k []).getD c 0=(ls[k])[c]:=by rw[aab,aab,aaa kl];show((ls[k])[c]?).getD 0=_;rw[aaa hl];rfl
   walk_at "vc";refine(Α (d:=jJ ls) rfl (DM kl) ?_:cx (jJ ls) (.int (k:Int)) _ _);refine(Α (d:=cC ls[k]) rfl (js hl) ?_:cx (cC ls[k]) (.int (c:Int)) _ _);refine⟨λz=>?_,λz=>?_⟩
   ·have z:(!decide ((ls[k])[c]=0))=true:=z;refine h2 k hk kl ?_;rw[e1];intro y;rw[aau y]at z;exact nomatch z
   ·have z:(!decide ((ls[k])[c]=0))=false:=z;have z0:(ls[k])[c]=0:=by
     rcases Decidable.em ((ls[k])[c]=0) with y| y
     ·exact y
     ·rw[aal y]at z;exact nomatch z
    refine fm _ _ ⟨rfl,m,k+1,_,by simp,(),(),λj a b=>?_,rfl⟩;by_cases e:j=k
    ·rw[e,e1];exact z0
    ·exact hz j a ()
  ·have⟨rfl,n,k,o,ex,hk,hn,hz,rfl⟩:=hj;have Zl:n=0:=by have:=aaP List.length ex;unfold cP at this;simpa using this.symm
   exact h1 λj a b=>hz j a ()
  ·rw[show((ls.length:Int) - (f:Int)).toNat=ls.length - f by omega]
abbrev j5:=Bz.j5
def Kq:DF:=λas M q _=>∃(ls:List (List Int)) (f k:Nat),as=[jJ ls,.int (f:Int),.int (k:Int)]/\f<=k/\k < ls.length/\ls.length<=12/\q (jJ (j5 ls f k)) M
def xh:Γ ["lines","first","number"] ["lines","first","number"] (τ jL):=.of rfl
def ub(F:c_ K "moved_ahead" "moved_ahead" jL f fd)(E:Ev K mg Cm):ak P w K mg base (cF P w) 1 f fd ["lines","first","number"] (cQ K Kq):=by
 refine F.d7 xh (λds M q x h=>?_) (λbq A outer s H E' hr=>⟨_,(ι (Β (jK (jK (jK (bo (D_ (jv 0) (jv 1))) (mV (θ (Ε (jv 0) (jv 2)) η aR))) (bo (EB (jv 0) (jv 1) (jv 2)))) (bo (fX (jv 0) (dh (jv 2) ο)))))),λds M q x h=>?_⟩)
 ·have⟨ls,f,k,rfl,_⟩:=h;rfl
 ·have⟨ls,f,k,rfl,hf,hk,r_,h⟩:=h;have gk:ls.getD k []=ls[k]:=by rw[aab,aaa hk];rfl
  have sz:∀{n:Nat},n<=40->n<=sizeLine:=λh=>aat h @_;refine⟨ls.map cC,f,rfl,rfl,?_⟩;rw[<-List.map_take];refine cz (i6 _) ?_;walk_at "vc";refine(Α (d:=jJ ls) rfl (DM hk) ?_:cx (jJ ls) (.int (k:Int)) _ _);refine⟨sz (by show 1<=40;decide),(ls.take f).map cC,[cC ls[k]],rfl,rfl,sz (by simp;omega),?_⟩;refine⟨f,rfl,ls.map cC,k,rfl,rfl,?_⟩;rw[<-abN,<-List.map_take];refine cz (i6 _) ?_;refine⟨(ls.take f).map cC++[cC ls[k]],((ls.drop f).take (k - f)).map cC,rfl,rfl,sz (by simp;omega),?_⟩;refine⟨ls.map cC,k+1,rfl,rfl,?_⟩;rw[<-abN];refine cz (i6 _) ?_;refine⟨(ls.take f).map cC++[cC ls[k]]++((ls.drop f).take (k - f)).map cC,(ls.drop (k+1)).map cC,rfl,rfl,sz (by simp;omega),?_⟩;unfold j5 Bz.j5 at h;rw[gk]at h;have e:(ls.take f).map cC++[cC ls[k]]++((ls.drop f).take (k - f)).map cC++(ls.drop (k+1)).map cC=(ls.take f++[ls[k]]++(ls.drop f).take (k - f)++ls.drop (k+1)).map cC:=by rw[aaW,aaW,aaW];rfl
  rw[e];exact h
abbrev c8:=Bz.c8
def CB:DF:=λas M q _=>∃(l h:List Int) (c:Nat) (d:Int),as=[cC l,cC h,.int (c:Int),.int d]/\l.length=h.length/\h.length<=30/\c < h.length/\(∀x∈l,gS x)/\(∀x∈h,gS x)/\d≠0/\gS d/\q (cC (c8 l h c d)) M
def lB:Γ ["line","head","column","divisor"] ["line","head","column","divisor"] (τ jn):=.of rfl
def sN(F:c_ K "cleared_line" "cleared_line" jn f fd)(E:Ev K mg Cm):ak P w K mg base (cF P w) 1 f fd ["line","head","column","divisor"] (cQ K CB):=by
 refine F.d7 lB (λds M q x h=>?_) (λbq A outer s H E' hr=>⟨_,(ι (Β (LN (ys:=["divisor","head","column","line"]) (Μ:=[3,1,2,0]) (.of lB rfl rfl rfl) (Kw E.yE (Λ (jv 0) (Λ (jv 1) η))) (λC s H fp=>(B8 (pY (bY (Ε (jv 3) (jv 4)) (jv 0)) (bY (Ε (jv 5) (jv 4)) (jv 1))) (jv 2)))))),λds M q x h=>?_⟩)
 ·have⟨l,h',c,d,rfl,_⟩:=h;rfl
 ·have⟨l,hd,c,d,rfl,hl,h30,hc,bl,bh,d0,bd,h⟩:=h;have cl:c < l.length:=()
  have g1:hd.getD c 0=hd[c]:=by rw[aab,aaa hc];rfl
  have TM:l.getD c 0=l[c]:=by rw[aab,aaa cl];rfl
  refine⟨cC l,cC hd,l.map Dt.int,hd.map Dt.int,λ_=>True,λ_=>True,rfl,rfl,rfl,?_⟩;have ez:ug (l.map Dt.int) (hd.map Dt.int)=(l.zip hd).map λp=>.tup [.int p.1,.int p.2]:=by unfold ug;rw[List.zip_map,aaG];rfl
  rw[ez];refine⟨?_,?_⟩
  ·rw[aae,abQ];exact aat (show _<=30 by omega) @_
  refine u_ ⟨trivial,trivial⟩ (λx=>match x with| .tup [.int a,.int b]=>.int ((hd.getD c 0 * a - l.getD c 0 * b).fdiv d)| _=>.aP) _ _ (λx hx q' hq=>?_) ?_
  ·have⟨p,hp,rfl⟩:=aam.mp hx;have hq:q' (.int ((hd.getD c 0 * p.1 - l.getD c 0 * p.2).fdiv d)) M:=hq;have p1:=bl p.1 (acg hp).1;have p2:=bh p.2 (acg hp).2;rw[g1,TM]at hq;have key:cx (cC hd) (.int (c:Int)) M (λx M1=>Jp x (.int p.1) M1 λy M2=>cx (cC l) (.int (c:Int)) M2 λz M3=>Jp z (.int p.2) M3 λu M4=>Kn y u M4 λv M5=>C_ v (.int d) M5 q'):=by refine Α (d:=cC hd) rfl (js hc) ⟨⟨bh _ (aan hc),p1⟩,?_⟩;refine Α (d:=cC l) rfl (js cl) ⟨⟨bl _ (aan cl),p2⟩,?_⟩;exact⟨⟨d0,bd⟩,hq⟩
   exact key
  ·rw[aaH,aaG];unfold c8 Bz.c8 at h;rw[show cC ((l.zip hd).map λp=>(hd.getD c 0 * p.1 - l.getD c 0 * p.2).fdiv d)= .lst ((l.zip hd).map λp=>Dt.int ((hd.getD c 0 * p.1 - l.getD c 0 * p.2).fdiv d)) by show Dt.lst _=_;rw[aaG];rfl]at h;exact h
def zY{a b:Int}(h0:0<=a)(h:a<=b):∀n:Nat,a ^ n<=b ^ n
 | 0=>by rw[Int.pow_zero,Int.pow_zero];exact Int.le_refl _
 | n+1=>by rw[abR,abR];exact Int.mul_le_mul (zY h0 h n) h h0 (ab5 ())
def BS{x:Int}{r:Nat}(h:Bz.Ab x (Bz.top B r))(h1:1<=B)(hB:B<=2 ^ 450)(hr:r<=12):gS x:=by
 have e1:Bz.top B r<=(12 * B) ^ 15:=Bz.vS h1 ();have e2:(12 * B) ^ 15<=(12 * 2 ^ 450) ^ 15:=zY () () 15;have e3:((12 * 2 ^ 450) ^ 15:Int) < ((2 ^ 8000:Nat):Int):=@_
 have:(x.natAbs:Int) < ((2 ^ 8000:Nat):Int):=by have⟨a,b⟩:=h;omega
 exact abS.mp this
section
variable{col:Nat}{ρ μ:List Nat}{qq:Nat->Nat}{d:Int}
def Ag(t:Bz.Turn A n col ρ μ qq d W)(b:Bz.Bd A n m B)(hB:B<=2 ^ 450)(hm:col<=m)(hr:ρ.length<=12):(∀i,i < n->∀x∈Bz.aD A n m (W i),gS x)/\gS d:=by
 have⟨a1,a2,a3⟩:=t.st.abs b (λc hc=>aax (t.cl c hc) hm) hr;refine⟨λi hi x hx=>?_,BS a3 b.b1 hB hr⟩;unfold Bz.aD at hx;rcases aaT.mp hx with z| z
 ·have⟨y,hy,rfl⟩:=aam.mp z;exact BS (a2 i y hi (aa9.mp hy)) b.b1 hB hr
 ·have⟨y,hy,rfl⟩:=aam.mp z;exact BS (a1 i y hi) b.b1 hB hr
end
def bc(n:Nat):Dt:=.int n
def hX{n:Nat}:∀(l:List Nat),Dt.aV n (l.map bc)
 | []=>trivial
 | _::l=>⟨trivial,hX l⟩
def vI{l:List Int}(h:l∈Bz.Φ A n m W):∃i,i < n/\l=Bz.aD A n m (W i):=by unfold Bz.Φ at h;have⟨i,hi,e⟩:=aam.mp h;exact⟨i,aa9.mp hi,e.symm⟩
def sS{α:Type}(a:α):∀u:Nat,(List.replicate u [a]).flatten=List.replicate u a
 | 0=>rfl
 | u+1=>by rw[abi,abx,sS a u];rfl
structure BC(γ:List (List Int))(u:Nat)(B:Int):Prop where
 n1:1<=γ.length
 Gn:γ.length<=12
 Rb:u<=12
 ml:∀r∈γ,r.length=u+1
 bd:Bz.Bd (Bz.arr γ) γ.length (u+1) B
 Rg:B<=2 ^ 450
def zG:DF:=λas M q _=>∃(γ:List (List Int)) (u:Nat) (B:Int),as=[jJ γ,.int (u:Int)]/\BC γ u B/\
 ∀ρ μ qq d W,Bz.Turn (Bz.arr γ) γ.length u ρ μ qq d W->q (.tup [jJ (Bz.Φ (Bz.arr γ) γ.length (u+1) W),.loc M.length]) (M++[.lst (μ.map bc)])
def aX:Γ ["rows","unknowns","lines","columns","divisor","column","rank","number","head","above","below"] ["rows","unknowns"] (τ r8):=.of rfl
def A9(F:c_ K "cleared" "cleared" r8 f fd)(E:Ev K mg Cm){xE:Addr}{yg:FuncData}(h8:aw P w K mg base 1 "with_weights" ["rows"] Nb xE yg){tS:Addr}{uo:FuncData}(gh:aw P w K mg base 1 "number_of_head" ["lines","first","column"] SA tS uo){zv:Addr}{Ae:FuncData}(i_:aw P w K mg base 1 "moved_ahead" ["lines","first","number"] Kq zv Ae){wF:Addr}{wy:FuncData}(fj:aw P w K mg base 1 "cleared_line" ["line","head","column","divisor"] CB wF wy):ak P w K mg base (cF P w) 2 f fd ["rows","unknowns"] (cQ K zG):=by
 refine F.d7 aX (λds M q x h=>?_) (λbq A outer s H E' hr=>⟨_,(ζ (χ 2 aX.nd (bo (Χ h8 hr ν (Λ (jv 0) η))))
   (ζ (χ 3 aX.nd (pH η))
   (ζ (χ 4 aX.nd ο)
   (ζ (jU (cf E.bP (Λ (jv 1) η)) (ai (i:=5) aX.nd rfl (Or.inr rfl)) az (ζ (χ 6 aX.nd (cL E.bR (Λ (jv 3) η)))
   (ζ (χ 7 aX.nd (Χ gh hr ν (Λ (jv 2) (Λ (jv 6) (Λ (jv 5) η)))))
   (ζ (ao (Bw (jv 7) yL) (ι zw) Η)
   (ζ (χ 2 aX.nd (Χ i_ hr ν (Λ (jv 2) (Λ (jv 6) (Λ (jv 7) η)))))
   (ζ (χ 8 aX.nd (Ε (jv 2) (jv 6)))
   (ζ (cT (i:=9) aX.nd rfl (Or.inl rfl) (ys:=["head","column","divisor"]) (Μ:=[8,5,4]) (.of aX rfl rfl rfl) (aY (bo (D_ (jv 2) (jv 6)))) (λC s H fp=>(Χ fj hr (eE (P:=P) (w:=w)) (Λ (jv 0) (Λ (jv 1) (Λ (jv 2) (Λ (jv 3) η)))))))
   (ζ (cT (i:=10) aX.nd rfl (Or.inl rfl) (ys:=["head","column","divisor"]) (Μ:=[8,5,4]) (.of aX rfl rfl rfl) (aY (bo (fX (jv 2) (dh (jv 6) ο)))) (λC s H fp=>(Χ fj hr (eE (P:=P) (w:=w)) (Λ (jv 0) (Λ (jv 1) (Λ (jv 2) (Λ (jv 3) η)))))))
   (ζ (χ 2 aX.nd (jK (jK (jv 9) (mV (Λ (jv 8) η))) (jv 10)))
   (ζ (χ 4 aX.nd (Ε (jv 8) (jv 5)))
   (ι (eL (iR (jv 3) (Λ (jv 5) η))))))))))))))
   (ι (Β (cb (Λ (jv 2) (Λ (jv 3) η))))))))),λds M q x h=>?_⟩)
 ·have⟨γ,u,B,rfl,_⟩:=h;rfl
 ·have⟨γ,u,B,rfl,ro,h⟩:=h;have n1:=ro.n1;have Gn:=ro.Gn;have Rb:=ro.Rb;refine⟨γ,rfl,Gn,λr qc=>by rw[ro.ml r qc];omega,λE0'=>?_⟩;rw[Bz.Ar ro.ml];refine gF (d':=jJ (Bz.Φ (Bz.arr γ) γ.length (u+1) λi=>Bz.ind i)) (.w6 (Nat.le_refl _) (by simp) (fN.old (i6 _))) ?_;generalize hA:Bz.arr γ=A at *
  generalize hn:γ.length=n at *
  refine⟨@_,?_⟩;walk_at "vc";refine⟨⟨(),()⟩,?_⟩;refine eP (λzs ρ' M'=>∃(c k:Nat) (ρ μ:List Nat) (qq:Nat->Nat) (d:Int) (W:Nat->Bz.Row) (o1 o2 o3 o4 o5 o6:Option Dt),zs=cP k c/\k+c=u/\Bz.Turn A n k ρ μ qq d W/\M'=M++[MO.lst (μ.map bc)]/\ρ'=[some (jJ γ),some (.int (u:Int)),some (jJ (Bz.Φ A n (u+1) W)),some (.loc M.length),some (.int d),o1,o2,o3,o4,o5,o6]) (λx zs ρ' M' hj fm=>?_) (λρ' M' hj=>?_) _ _ _ ⟨u,0,[],[],id,1,_,none,none,none,none,none,none,by simp,by simp,Bz.Turn.start,rfl,rfl⟩
  ·have⟨c,k,ρ,μ,qq,d,W,o1,o2,o3,o4,o5,o6,ex,hkc,t,rfl,rfl⟩:=hj;have⟨m,rfl,rfl,rfl⟩:=d8 ex;have lc:μ.length=ρ.length:=t.st.lc;have rn:ρ.length<=n:=t.st.rn;have hs1:ic (M++[MO.lst (μ.map bc)]) (.loc M.length)=some (μ.map bc):=Jx (hV aL);walk_at "vc";refine(aC (d:=.loc M.length) hs1 ?_:fP [.loc M.length] _ _);rw[aae,lc];refine⟨Bz.Φ A n (u+1) W,ρ.length,k,rfl,by rw[Bz.da];exact rn,by rw[Bz.da];exact Gn,λl hl=>?_,λhz=>?_,λk' h1 h2 h0=>?_⟩
   ·have⟨i,_,rfl⟩:=vI hl;rw[Bz.eS];omega
   ·refine⟨λ_=>?_,nofun⟩;refine fm _ _ ⟨m,k+1,ρ,μ,qq,d,W,_,_,_,_,_,_,by simp,(),t.skip λi a b=>?_,rfl,rfl⟩;have:=hz i a (by rw[Bz.da];exact b);rw[Bz.j3 b,Bz.gW ()]at this;exact this
   ·rw[Bz.da]at h2;rw[Bz.j3 h2,Bz.gW (show k < u+1 by omega)]at h0;refine⟨nofun,λ_=>?_⟩;refine⟨Bz.Φ A n (u+1) W,ρ.length,k',rfl,h1,by rw[Bz.da];exact h2,by rw[Bz.da];exact Gn,?_⟩;rw[show j5 (Bz.Φ A n (u+1) W) ρ.length k'=_ from Bz.zT h1 h2];have t1:=t.move h1 h2;have Ra:ρ.length < n:=()
    have h0':Bz.rv A n (W (Bz.iW ρ.length k' ρ.length)) k≠0:=by
     have:Bz.iW ρ.length k' ρ.length=k':=by unfold Bz.iW;rw[if_neg (Nat.lt_irrefl _),if_pos rfl]
     rw[this];exact h0
    clear h0 h1 h2 t;generalize hW1:(λi=>W (Bz.iW ρ.length k' i))=W1 at *
    generalize T1:(λi=>qq (Bz.iW ρ.length k' i))=q1 at *
    have e1:W (Bz.iW ρ.length k' ρ.length)=W1 ρ.length:=by rw[<-hW1]
    rw[e1]at h0';have⟨bl,bd⟩:=Ag t1 (m:=u+1) (by subst hA hn;exact ro.bd) ro.Rg () ();have⟨W',t2,el⟩:=t1.step (m:=u+1) Ra () h0';have Pq:(Bz.Φ A n (u+1) W1).length=n:=Bz.da;have hdg:(Bz.Φ A n (u+1) W1)[ρ.length]'(by rw[Pq];exact Ra)=Bz.aD A n (u+1) (W1 ρ.length):=by have:=Bz.j3 (A:=A) (m:=u+1) (W:=W1) Ra;rw[aab,aaa (by rw[Pq];exact Ra)]at this;exact this
    have ZP:∀l∈Bz.Φ A n (u+1) W1,∀q':DQ,q' (cC (c8 l (Bz.aD A n (u+1) (W1 ρ.length)) k d)) (M++[MO.lst (μ.map bc)])->CB [cC l,cC (Bz.aD A n (u+1) (W1 ρ.length)),.int (k:Int),.int d] (M++[MO.lst (μ.map bc)]) q' (λC fs M'=>jP [] C fs M'):=λl hl q' lD=>by have⟨i,hi,rfl⟩:=vI hl;exact⟨_,_,k,d,rfl,by rw[Bz.eS,Bz.eS],by rw[Bz.eS];omega,by rw[Bz.eS];omega,bl i hi,bl _ Ra,t1.d0,bd,lD⟩
    walk_at "vc";refine(Α (d:=jJ (Bz.Φ A n (u+1) W1)) rfl (DM (by rw[Pq];exact Ra)) ?_:cx (jJ (Bz.Φ A n (u+1) W1)) (.int (ρ.length:Int)) _ _);rw[hdg];have sz:∀{z:Nat},z<=40->z<=sizeLine:=λh=>aat h @_;refine⟨(Bz.Φ A n (u+1) W1).map cC,ρ.length,rfl,rfl,?_⟩;rw[<-List.map_take];refine cz (i6 _) ⟨sz (by rw[aae,List.length_take];omega),?_⟩;refine cy (F:=λx a=>x=cC a/\a∈Bz.Φ A n (u+1) W1) (f:=λl=>cC (c8 l (Bz.aD A n (u+1) (W1 ρ.length)) k d)) trivial (λx a ha q' lD=>by have⟨rfl,ha⟩:=ha;exact ZP a ha q' lD) (fq cC _ _ λ_ h=>List.mem_of_mem_take h) ?_;rw[aaH];refine⟨(Bz.Φ A n (u+1) W1).map cC,ρ.length+1,rfl,rfl,?_⟩;rw[<-abN];refine cz (i6 _) ⟨sz (by rw[aae,abt];omega),?_⟩;refine cy (F:=λx a=>x=cC a/\a∈Bz.Φ A n (u+1) W1) (f:=λl=>cC (c8 l (Bz.aD A n (u+1) (W1 ρ.length)) k d)) trivial (λx a ha q' lD=>by have⟨rfl,ha⟩:=ha;exact ZP a ha q' lD) (fq cC _ _ λ_ h=>List.mem_of_mem_drop h) ?_;rw[aaH];refine⟨by show 1<=sizeLine;decide,_,_,rfl,rfl,sz (by simp;omega),_,_,rfl,rfl,sz (by simp;omega),?_⟩;have ek:k < (Bz.aD A n (u+1) (W1 ρ.length)).length:=by rw[Bz.eS];omega
    have ev:(Bz.aD A n (u+1) (W1 ρ.length))[k]=Bz.rv A n (W1 ρ.length) k:=by have:=Bz.gW (A:=A) (n:=n) (m:=u+1) (x:=k) (w:=W1 ρ.length) ();rw[aab,aaa ek]at this;exact this
    refine Α (d:=cC (Bz.aD A n (u+1) (W1 ρ.length))) rfl (js ek) ?_;rw[ev];refine⟨⟨M.length,_,rfl,aL⟩,M.length,_,_,rfl,rfl,aL,?_,?_⟩
    ·rw[aae,lc];exact aaY (show _<=12 by omega) @_
    rw[eI];have ee:=aaP (List.map cC) el;rw[aaW,aaW,aaG,aaG]at ee;refine fm _ _ ⟨m,k+1,ρ++[q1 ρ.length],μ++[k],q1,_,W',some (.int (k:Int)),some (.int (ρ.length:Int)),some (.int (k':Int)),some (cC (Bz.aD A n (u+1) (W1 ρ.length))),some (.lst (((Bz.Φ A n (u+1) W1).take ρ.length).map λl=>cC (c8 l (Bz.aD A n (u+1) (W1 ρ.length)) k d))),some (.lst (((Bz.Φ A n (u+1) W1).drop (ρ.length+1)).map λl=>cC (c8 l (Bz.aD A n (u+1) (W1 ρ.length)) k d))),by simp,(),t2,by simp[bc],?_⟩;show _=[some (jJ γ),some (Dt.int (u:Int)),some (Dt.lst ((Bz.Φ A n (u+1) W').map cC)),some (Dt.loc M.length),some (Dt.int _),_,_,_,_,_,_];rw[<-ee];rfl
  ·have⟨c,k,ρ,μ,qq,d,W,o1,o2,o3,o4,o5,o6,ex,hkc,t,rfl,rfl⟩:=hj;have Zl:c=0:=by have:=aaP List.length ex;unfold cP at this;simpa using this.symm
   have:k=u:=()
   subst this;exact⟨fI,h _ _ _ _ _ t⟩
def Nl:DF:=λas M q _=>∃(γ:List (List Int)) (u:Nat) (B:Int) (ρ μ:List Nat) (qq:Nat->Nat) (d:Int) (W:Nat->Bz.Row),as=[jJ (Bz.Φ (Bz.arr γ) γ.length (u+1) W),.lst (μ.map bc),.int (u:Int),.int (u:Int)]/\BC γ u B/\Bz.Turn (Bz.arr γ) γ.length u ρ μ qq d W/\μ=List.range u/\
 q (.loc M.length) (M++[.lst ((List.range u).map λi=>Υ (ax (Bz.rv (Bz.arr γ) γ.length (W i) u) d))])
def g9:Γ ["lines","columns","unknowns","source","told","line","column"] ["lines","columns","unknowns","source"] (τ my):=.of rfl
def xS(F:c_ K "quotients" "quotients" my f fd)(E:Ev K mg Cm)(cD:aw P w K mg base 2 "fraction" ["top","bottom"] u7 iV iP):ak P w K mg base (cF P w) 3 f fd ["lines","columns","unknowns","source"] (cQ K Nl):=by
 refine F.d7 g9 (λds M q x h=>?_) (λbq A outer s H E' hr=>⟨_,(ζ (χ 4 g9.nd (Bf (dH 3 (d:=.lst [.tup [.int 0,.int 1]]) (by rfl)) (jv 2)))
   (ζ (b9 (Kw E.yE (Λ (jv 0) (Λ (jv 1) η))) (oi rfl (cH (ai (i:=5) g9.nd rfl (Or.inl rfl)) (cH (ai (i:=6) g9.nd rfl (Or.inl rfl)) kQ))) mP (ι (gq (jv 4) (jv 6) (Χ cD hr ν (θ (Ε (jv 5) (jv 3)) (θ (Ε (jv 5) (jv 6)) η aR) aR)))))
   (ι (Β (jv 4))))),λds M q x h=>?_⟩)
 ·have⟨γ,u,B,ρ,μ,qq,d,W,rfl,_⟩:=h;rfl
 ·have⟨γ,u,B,ρ,μ,qq,d,W,rfl,ro,t,hc,h⟩:=h;have Rb:=ro.Rb;have Gn:=ro.Gn;have hl:ρ.length=u:=by rw[<-t.st.lc,hc,aa8]
  have un:u<=γ.length:=by rw[<-hl];exact t.st.rn
  have⟨bl,bd⟩:=Ag t (m:=u+1) ro.bd ro.Rg () ();have d0:=t.d0;have one:∀i,i < u->Bz.rv (Bz.arr γ) γ.length (W i) i=d:=λi hi=>by have:=t.st.one i i () ();rw[aar rfl,hc,aab,aaK hi]at this;exact this
  generalize hA:Bz.arr γ=A at *
  generalize hn:γ.length=n at *
  let tl:Nat->List Dt:=λk=>(List.range u).map λi=>if i < k then Υ (ax (Bz.rv A n (W i) u) d) else Υ (0,1)
  have t0:(List.replicate (u:Int).toNat [Υ (0,1)]).flatten=tl 0:=by
   show _=(List.range u).map λi=>if i < 0 then _ else Υ (0,1)
   rw[show((u:Int)).toNat=u by omega];apply abc
   ·simp
   ·intro j h1 h2;have e:(List.replicate u [Υ (0,1)]).flatten=List.replicate u (Υ (0,1)):=sS _ u;simp[e]
  have ts:∀k,k < u->(tl k).set k (Υ (ax (Bz.rv A n (W k) u) d))=tl (k+1):=λk hk=>by
   apply abc
   ·simp[tl]
   ·intro j h1 h2;rw[List.getElem_set];simp only[tl,List.getElem_map,List.getElem_range];by_cases e:k=j
    ·subst e;rw[aar rfl,aar ()]
    ·rw[aaq e];by_cases f:j < k
     ·rw[aar f,aar ()]
     ·rw[aaq f,aaq ()]
  refine⟨[Υ (0,1)],u,rfl,rfl,(),(),?_,?_⟩
  ·show 1 * ((u:Int)).toNat<=sizeLine;exact aat (show _<=12 by omega) @_
  rw[t0];refine⟨jJ (Bz.Φ A n (u+1) W),.lst (μ.map bc),_,_,λ_=>True,λ_=>True,rfl,rfl,rfl,?_⟩;have ez:ug ((Bz.Φ A n (u+1) W).map cC) (μ.map bc)=(List.range u).map λi=>.tup [cC (Bz.aD A n (u+1) (W i)),bc i]:=by
   unfold ug Bz.Φ;rw[hc];apply abc
   ·simp;omega
   ·intro j h1 h2;simp
  rw[ez];refine aZ (λzs ρ' M'=>∃(k:Nat) (o1 o2:Option Dt),k<=u/\zs=((List.range u).drop k).map (λi=>.tup [cC (Bz.aD A n (u+1) (W i)),bc i])/\M'=M++[MO.lst (tl k)]/\ρ'=[some (jJ (Bz.Φ A n (u+1) W)),some (.lst (μ.map bc)),some (.int (u:Int)),some (.int (u:Int)),some (.loc M.length),o1,o2]) (λzs ρ' M' hj=>⟨trivial,trivial⟩) (λx zs ρ' M' hj fm=>?_) (λρ' M' hj=>?_) _ _ _ ⟨0,none,none,abE _,rfl,rfl,rfl⟩
  ·have⟨k,o1,o2,hk,ex,rfl,rfl⟩:=hj;have z4:k < u:=by
    rcases Nat.lt_or_ge k u with z| z
    ·exact z
    ·rw[List.drop_of_length_le (by simpa using z)]at ex;cases ex
   rw[List.drop_eq_getElem_cons (by simpa using z4),List.map_cons,List.getElem_range]at ex;cases ex;have ek:k < (Bz.aD A n (u+1) (W k)).length:=by rw[Bz.eS];omega
   have eu:u < (Bz.aD A n (u+1) (W k)).length:=by rw[Bz.eS];omega
   have v1:(Bz.aD A n (u+1) (W k))[k]=d:=by have:=Bz.gW (A:=A) (n:=n) (m:=u+1) (x:=k) (w:=W k) ();rw[aab,aaa ek]at this;rw[<-one k z4];exact this
   have v2:(Bz.aD A n (u+1) (W k))[u]=Bz.rv A n (W k) u:=by have:=Bz.gW (A:=A) (n:=n) (m:=u+1) (x:=u) (w:=W k) ();rw[aab,aaa eu]at this;exact this
   dsimp only[g2,o9];walk_at "vc";refine Α (d:=cC (Bz.aD A n (u+1) (W k))) rfl (js eu) ?_;refine Α (d:=cC (Bz.aD A n (u+1) (W k))) rfl (js ek) ?_;rw[v1,v2];refine⟨bd,λz=>aaC z d0,λ_=>?_⟩;refine⟨M.length,k,_,k,rfl,rfl,aL,?_,?_⟩
   ·rw[show(tl k).length=u by simp[tl]];exact jN z4
   rw[eI];refine fm _ _ ⟨k+1,_,_,z4,rfl,?_,rfl⟩;rw[<-ts k z4];rfl
  ·have⟨k,o1,o2,hk,ex,rfl,rfl⟩:=hj;have:k=u:=by have:=aaP List.length ex;simp at this;omega
   subst this;have e:tl k=(List.range k).map λi=>Υ (ax (Bz.rv A n (W i) k) d):=abb λi hi=>by rw[aar (aa9.mp hi)]
   rw[e];exact h
def wc:DF:=λas M q _=>∃(γ:List (List Int)) (u:Nat) (B:Int) (k8:List Fr) (z:Bz.Row) (N:Int),as=[jJ γ]/\BC γ u B/\1<=u/\k8.length=u/\Bz.Qj (Bz.arr γ) γ.length u z N/\N≠0/\
 (∀i,i < u->0 < (k8.getD i (0,1)).2/\Int.gcd (k8.getD i (0,1)).1 (k8.getD i (0,1)).2=1/\N * (k8.getD i (0,1)).1=z i * (k8.getD i (0,1)).2)/\
 (∀y:Bz.Row,(∀k,k < γ.length->Bz.ψ (λx=>Bz.arr γ k x * y x) u=0)->∀x,x < u->y x=0)/\q (.loc M.length) (M++[.lst (k8.map Υ)])
def dI:Γ ["rows","unknowns","found","lines","columns","line","answer"] ["rows"] (τ oN):=.of rfl
def yz(F:c_ K "answer_of" "answer_of" oN f fd)(E:Ev K mg Cm){JN:Addr}{J5:FuncData}(pA:aw P w K mg base 2 "cleared" ["rows","unknowns"] zG JN J5){A8:Addr}{Cr:FuncData}(jT:aw P w K mg base 3 "quotients" ["lines","columns","unknowns","source"] Nl A8 Cr):ak P w K mg base (cF P w) 4 f fd ["rows"] (cQ K wc):=by
 refine F.d7 dI (λds M q x h=>?_) (λbq A outer s H E' hr=>⟨_,(ζ (χ 1 dI.nd (pY (cL E.bR (θ (Ε (jv 0) ο) η aR)) ο))
   (ζ (χ 2 dI.nd (bo (Χ pA hr ν (Λ (jv 0) (Λ (jv 1) η)))))
   (ζ (χ 3 dI.nd (Ε (jv 2) ο))
   (ζ (χ 4 dI.nd (Ε (jv 2) ο))
   (ζ (b9 (aY (bo (fX (jv 3) (cL E.bR (Λ (jv 4) η))))) (ai (i:=5) dI.nd rfl (Or.inl rfl)) az (ι (ao (gP hr (Ε (jv 5) (jv 1)) ο) (ι gI) Η)))
   (ζ (χ 6 dI.nd (Χ jT hr ν (Λ (jv 3) (Λ (jv 4) (Λ (jv 1) (Λ (jv 1) η))))))
   (ζ (ao (pL (cL E.bR (Λ (jv 4) η)) (jv 1)) (ι gI) Η)
   (ι (Β (jv 6)))))))))),λds M q x h=>?_⟩)
 ·have⟨γ,u,B,k8,z,N,rfl,_⟩:=h;rfl
 ·have⟨γ,u,B,k8,z,N,rfl,ro,u1,dl,sol,hN,Yb,XA,h⟩:=h;have n1:=ro.n1;have Gn:=ro.Gn;have Rb:=ro.Rb;have r0:0 < γ.length:=()
  have m0:γ[0].length=u+1:=ro.ml _ (aan r0);walk_at "vc";refine(Α (d:=jJ γ) rfl (DM r0) ?_:cx (jJ γ) (.int 0) _ _);refine(aC (d:=cC γ[0]) (xs:=γ[0].map Dt.int) rfl ?_:fP [cC γ[0]] _ _);rw[aae,m0];dsimp only[Kn];rw[show(((u+1:Nat):Int) - 1)=(u:Int) by omega];refine⟨γ,u,B,rfl,ro,λρ μ qq d W t=>?_⟩;have D0:μ=List.range u:=by
   rcases t.all with e| ⟨x,hx,hf⟩
   ·exact e
   ·have⟨y,y1,y2⟩:=t.kernel hx hf;have:=XA y y2 x hx;rw[this]at y1;exact aaC () t.d0
  have hl:ρ.length=u:=by rw[<-t.st.lc,D0,aa8]
  have un:u<=γ.length:=by rw[<-hl];exact t.st.rn
  refine gF (d':=.tup [jJ (Bz.Φ (Bz.arr γ) γ.length (u+1) W),.lst (μ.map bc)]) (.tup (.cons (.old (i6 _)) (.cons (.w6 (Nat.le_refl _) (by simp) (fN.old (hX _))) .nil))) ?_;have told:(List.range u).map (λi=>Υ (ax (Bz.rv (Bz.arr γ) γ.length (W i) u) d))=k8.map Υ:=by
   apply abc
   ·simp[dl]
   ·intro i h1 h2;have hi:i < u:=by simpa using h1
    simp only[List.getElem_map,List.getElem_range];have⟨p0,p1,p2⟩:=Yb i hi;have gi:k8.getD i (0,1)=k8[i]:=by rw[aab,aaa ()];rfl
    rw[gi]at p0 p1 p2;have e:=t.told D0 sol hi
    congr 1
    have:ax (Bz.rv (Bz.arr γ) γ.length (W i) u) d=(k8[i].1,k8[i].2):=wM t.d0 p0 p1 (by
     refine aaN hN ?_
     grind)
    exact this
  refine(Α (d:=.tup [jJ (Bz.Φ (Bz.arr γ) γ.length (u+1) W),.lst (μ.map bc)]) rfl aN ?_:cx (.tup [jJ (Bz.Φ (Bz.arr γ) γ.length (u+1) W),.lst (μ.map bc)]) (.int 0) _ _);refine(Α (d:=.tup [jJ (Bz.Φ (Bz.arr γ) γ.length (u+1) W),.lst (μ.map bc)]) rfl (Ω (j:=1) rfl) ?_:cx (.tup [jJ (Bz.Φ (Bz.arr γ) γ.length (u+1) W),.lst (μ.map bc)]) (.int 1) _ _);have ZF:(μ.map bc).length=u:=by rw[aae,D0,aa8]
  dsimp only[pQ,eJ,Uv,Mb];walk_at "vc";refine(aC (d:=.lst (μ.map bc)) (xs:=μ.map bc) rfl ?_:fP [.lst (μ.map bc)] _ _);refine⟨(Bz.Φ (Bz.arr γ) γ.length (u+1) W).map cC,(μ.map bc).length,rfl,rfl,?_⟩;rw[ZF,<-abN];refine cz (i6 _) ?_;have hz:∀l∈(Bz.Φ (Bz.arr γ) γ.length (u+1) W).drop u,u < l.length/\l.getD u 0=0:=λl NH=>by
   have⟨j,hj,e⟩:=aba NH;rw[List.getElem_drop]at e;rw[abt,Bz.da]at hj;have hu:u+j < γ.length:=()
   have el:l=Bz.aD (Bz.arr γ) γ.length (u+1) (W (u+j)):=by have:=Bz.j3 (A:=Bz.arr γ) (m:=u+1) (W:=W) hu;rw[aab,aaa (by rw[Bz.da];exact hu)]at this;rw[<-e];exact this
   rw[el];refine⟨by rw[Bz.eS];omega,?_⟩;rw[Bz.gW ()];exact t.rest sol hN () hu
  refine aZ (λzs ρ' M'=>M'=M/\∃(rest:List (List Int)) (o:Option Dt),zs=rest.map cC/\(∀l∈rest,u < l.length/\l.getD u 0=0)/\ρ'=[some (jJ γ),some (.int (u:Int)),some (.tup [jJ (Bz.Φ (Bz.arr γ) γ.length (u+1) W),.lst (μ.map bc)]),some (jJ (Bz.Φ (Bz.arr γ) γ.length (u+1) W)),some (.lst (μ.map bc)),o,none]) (λzs ρ' M' hj=>trivial) (λx zs ρ' M' hj fm=>?_) (λρ' M' hj=>?_) _ _ _ ⟨rfl,_,none,rfl,hz,rfl⟩
  ·have⟨rfl,rest,o,ex,qc,rfl⟩:=hj;cases rest with
   | nil=>cases ex
   | cons l rest=>
    cases ex;have⟨l1,l2⟩:=qc l aad;have lv:l[u]=0:=by rw[aab,aaa l1]at l2;exact l2
    walk_at "vc";refine(Α (d:=cC l) rfl (js l1) ?_:cx (cC l) (.int (u:Int)) _ _);rw[lv];exact⟨nofun,λ_=>fm _ _ ⟨rfl,rest,_,rfl,λy hy=>qc y (aac _ hy),rfl⟩⟩
  ·have⟨rfl,rest,o,ex,qc,rfl⟩:=hj;refine⟨γ,u,B,ρ,μ,qq,d,W,rfl,ro,t,D0,?_⟩;rw[told];walk_at "vc";refine(aC (d:=.lst (μ.map bc)) (xs:=μ.map bc) rfl ?_:fP [.lst (μ.map bc)] _ _);rw[ZF];refine⟨λz=>?_,λ_=>h⟩;have z:(u:Int) < u:=aaD z;omega
structure Ch(B:Int)(c:Fr):Prop where
 pos:0 < c.2
 he:n9 c B
 u:mz c
 sz:Sz 300 c
def Iw{p:Fr}(h:p.2∣E):n9 p E:=by have⟨k,e⟩:=h;exact⟨p.1 * k,by rw[e];grind⟩
def qZ:∀{l:List Int} {a:Int},(∀b∈l,0 < b)->a∈l->a<=l.sum
 | b::l,a,h,ha=>by
  have ih:∀{l:List Int},(∀b∈l,0 < b)->0<=l.sum:=λ{l}=>by
   induction l with
   | nil=>intro _;exact Int.le_refl _
   | cons c l ih=>
    intro h;have:=ih λd hd=>h d (aac _ hd);have:=h c aad;rw[List.sum_cons];omega
  rw[List.sum_cons];have h0:=h b aad;rcases aaA.mp ha with e| e
  ·have:=ih λd hd=>h d (aac _ hd);omega
  ·have:=qZ (λd hd=>h d (aac _ hd)) e;omega
def Dw{cs:List Fr}(o:y8 cs){c:Fr}(hc:c∈cs):0 < c.2/\c.2∣bt cs/\mz c/\Sz 300 c:=by
 have⟨a,b,d⟩:=o.Gs.2 c hc;have B0:=o.b0;have⟨_,_,hB⟩:=gy cs 1 0 @_ (abZ _) λc hc=>⟨(o.Gs.2 c hc).1,abZ _⟩;have dv:c.2∣bt cs:=hB c hc
 have le:=qZ (l:=cs.map (j0 (bt cs))) (λb hb=>by
  have⟨x,hx,rfl⟩:=aam.mp hb
  exact o.pos x hx) (aam.mpr ⟨c,hc,rfl⟩)
 rw[o.sum]at le;have wp:=o.pos c hc;unfold j0 at le wp;have⟨m,em⟩:=dv;have em':bt cs / c.2=m:=by rw[em];exact abp m ()
 rw[em']at le wp;have m0:0 < m:=by
  rw[em]at B0;rcases Int.lt_or_le 0 m with z| z
  ·exact z
  ·have:=aaQ z (aav a);omega
 have c0:0<=c.1:=by
  rcases Int.lt_or_le c.1 0 with z| z
  ·have:=aa2 (aav z) (aav m0);omega
  ·exact z
 have c1:c.1<=c.2:=by rw[em]at le;exact Int.le_of_mul_le_mul_right le m0
 refine⟨a,⟨m,em⟩,⟨c0,c1⟩,wU (k:=200) ⟨d,a,?_⟩ @_⟩;have:(c.2.natAbs:Int) < ((2 ^ 200:Nat):Int):=by rw[abf (aav a)];exact b
 exact abS.mp this
abbrev Pl:=List (Int×Int)
def kP(pl:Pl):List Key:=pl.map λp=>Sum.inl p.1
def vP(pl:Pl):List Dt:=pl.map λp=>Dt.int p.2
abbrev dP(pl:Pl):MO:=.iC (kP pl) (vP pl)
def Τ:Pl->Int->Option Int
 | [],_=>none
 | p::r,i=>if p.1=i then some p.2 else Τ r i
def jG(pl:Pl)(i v:Int):Pl:=if (Τ pl i).isSome=true then pl.map (λp=>if p.1=i then (p.1,v) else p) else pl++[(i,v)]
def JQ{a:Int}:(decide ((Sum.inl a:Key)=Sum.inl b))=decide (a=b):=by
 by_cases h:a=b
 ·rw[aau h,aau (aaP Sum.inl h)]
 ·rw[aal h,aal λz=>h (Sum.inl.inj z)]
def Dp{i:Int}:∀{pl:Pl},bH (kP pl) (vP pl) (Sum.inl i)=(Τ pl i).map Dt.int
 | []=>rfl
 | p::r=>by
  have ih:=Dp (i:=i) (pl:=r);unfold bH at ih⊢;show(List.find? (λq:Key×Dt=>decide (q.1=Sum.inl i)) ((Sum.inl p.1,Dt.int p.2)::(kP r).zip (vP r))).map (·.2)=Option.map Dt.int (if p.1=i then some p.2 else Τ r i);rw[List.find?_cons,JQ];by_cases h:p.1=i
  ·rw[aau h,aar h];rfl
  ·rw[aal h,aaq h];exact ih
def LZ{i:Int}:∀{pl:Pl},K0 (kP pl) (Sum.inl i)=(Τ pl i).isSome
 | []=>rfl
 | p::r=>by
  have ih:=LZ (i:=i) (pl:=r);unfold K0 at ih⊢;show(decide ((Sum.inl p.1:Key)=Sum.inl i)|| (kP r).any λc=>decide (c=Sum.inl i))=(if p.1=i then some p.2 else Τ r i).isSome;rw[JQ,ih];by_cases h:p.1=i
  ·rw[aau h,aar h];rfl
  ·rw[aal h,aaq h,Bool.false_or]
def DO{i v:Int}:∀{pl:Pl},lq (Sum.inl i:Key) (Dt.int v) (kP pl) (vP pl)=vP (pl.map λp=>if p.1=i then (p.1,v) else p)
 | []=>rfl
 | p::r=>by
  show(if (Sum.inl p.1:Key)=Sum.inl i then Dt.int v else Dt.int p.2)::lq (Sum.inl i:Key) (Dt.int v) (kP r) (vP r)=Dt.int (if p.1=i then (p.1,v) else p).2::vP (r.map λp=>if p.1=i then (p.1,v) else p);rw[DO];by_cases h:p.1=i
  ·rw[aar h,aar (aaP Sum.inl h)]
  ·rw[aaq h,aaq λz=>h (Sum.inl.inj z)]
def AB{i v:Int}:∀{pl:Pl},kP (pl.map λp=>if p.1=i then (p.1,v) else p)=kP pl
 | []=>rfl
 | p::r=>by show(Sum.inl (if p.1=i then (p.1,v) else p).1:Key)::kP (r.map λp=>if p.1=i then (p.1,v) else p)=Sum.inl p.1::kP r;rw[AB];split <;> rfl
def zV{pl:Pl}{i v:Int}:gM (kP pl) (Sum.inl i)=kP (jG pl i v):=by
 unfold gM jG;rw[LZ];split
 ·exact AB.symm
 ·unfold kP;rw[List.map_append];rfl
def Ed{pl:Pl}{i v:Int}:eV (kP pl) (Sum.inl i) (vP pl) (Dt.int v)=vP (jG pl i v):=by
 unfold eV jG;rw[LZ];split
 ·exact DO
 ·unfold vP;rw[List.map_append];rfl
def qN{i v j:Int}:∀{pl:Pl},Τ (pl.map λp=>if p.1=i then (p.1,v) else p) j=if j=i then (Τ pl j).map λ_=>v else Τ pl j
 | []=>by split <;> rfl
 | p::r=>by
  have ih:=qN (i:=i) (v:=v) (j:=j) (pl:=r);rw[aaM];unfold Τ;by_cases h:p.1=i
  ·rw[aar h];by_cases hj:p.1=j
   ·rw[aar hj,aar hj,aar ()];rfl
   ·rw[aaq hj,aaq hj];exact ih
  ·rw[aaq h];by_cases hj:p.1=j
   ·rw[aar hj,aar hj,aaq ()]
   ·rw[aaq hj,aaq hj];exact ih
def C7{i j v:Int}:∀{pl:Pl},Τ (pl++[(i,v)]) j=if (Τ pl j).isSome=true then Τ pl j else if i=j then some v else none
 | []=>rfl
 | p::r=>by
  have ih:=C7 (i:=i) (j:=j) (v:=v) (pl:=r);rw[List.cons_append];unfold Τ;by_cases hj:p.1=j
  ·rw[aar hj,aar hj];rfl
  ·rw[aaq hj,aaq hj];exact ih
def Lj{pl:Pl}{i v j:Int}:Τ (jG pl i v) j=if j=i then some v else Τ pl j:=by
 unfold jG;split
 ·rename_i h;rw[qN];split
  ·rename_i e;subst e;have⟨x,hx⟩:=aa7.mp h;rw[hx];rfl
  ·rfl
 ·rename_i h;rw[C7];by_cases e:j=i
  ·subst e;rw[aaq h,aar rfl,aar rfl]
  ·rw[aaq e];cases hj:Τ pl j with
   | none=>rw[if_neg (by simp),if_neg ()]
   | some x=>rfl
def IQ(pl:Pl):Prop:=(pl.map (·.1)).Nodup
def Ee{i v:Int}:∀{pl:Pl},Τ pl i=some v->(i,v)∈pl
 | [],h=>by cases h
 | p::r,h=>by
  unfold Τ at h;split at h
  ·rename_i e;have:p=(i,v):=by rw[<-e,<-aas h]
   rw[this];exact aad
  ·exact aac _ (Ee h)
def aH{E:Ms}{k:Nat}{m:MO}(h:M[k]? =some m):(M++E)[k]? =some m:=by rw[aao (aaf.mp h).1];exact h
structure oq(γ:List Rw)(acc:Pl):Prop where
 hand:∀(i:Nat) (r:Rw),γ[i]? =some r->Θ (kindOf r)=true->∃j:Nat,Τ acc i=some (j:Int)/\j < (au r).length
 GF:∀(i:Nat) (r:Rw),γ[i]? =some r->Θ (kindOf r)=false->Τ acc i=none
def eW(acc:Pl)(i:Nat)(r:Rw):List ba:=match Τ acc i with
 | some j=>let d:=(au r).getD j.toNat d0;[(d.1,d.2.1,d.2.2++[(1,1)])]
 | none=>au r
def NK(A:Addr):DF:=λas M q _=>∃ε γ i r k acc,as=[aj A ε γ,.int (i:Nat),.loc k]/\M[k]? =some (dP acc)/\γ[i]? =some r/\fJ r/\oq γ acc/\q (.lst ((eW acc i r).map cE)) M
def tj:Γ ["floor","place","doors","ways"] ["floor","place","doors"] (τ o8):=.of rfl
def yS(F:c_ K "ways_from" "ways_from" o8 f fd)(E:Ev K mg Cm)(aK:fG P w K mg base 2 Cm "doors" ["self","place"] (sL Cm) cU cY)(ae:fG P w K mg base 1 Cm "kind" ["self","place"] (sU Cm) bC bF):ak P w K mg base (cF P w) 3 f fd ["floor","place","doors"] (cQ K (NK Cm)):=by
 refine F.d7 tj (λds M q x h=>?_) (λbq A outer s H E' hr=>⟨_,(ζ (χ 3 tj.nd (bo (gE aK hr ν (jv 0) (Λ (jv 1) η))))
   (ζ (ao (Bi (gE ae hr ν (jv 0) (Λ (jv 1) η)) (Nw E.Bm)) (ι (Β (mV (θ (dh (Ε (jv 3) (wz hr (jv 2) (jv 1))) (dH 3 (d:=.tup [.tup [.int 1,.int 1]]) (by rfl))) η cG)))) Η)
   (ι (Β (jv 3))))),λds M q x h=>?_⟩)
 ·have⟨ε,γ,i,r,k,acc,rfl,_⟩:=h;rfl
 ·have⟨ε,γ,i,r,k,acc,rfl,hk,hi,ro,dk,h⟩:=h;refine⟨⟨_,_,.inl rfl,rfl⟩,ε,γ,i,r,rfl,hi,ro,cz (fQ _) ?_⟩;refine⟨⟨_,_,.inl rfl,rfl⟩,ε,γ,i,r,rfl,hi,?_⟩;refine⟨_,_,_,rfl,rfl,rfl,?_⟩;rw[Ak];cases hh:Θ (kindOf r) with
  | true=>
   refine⟨λ_=>?_,nofun⟩;have⟨j,hj,jl⟩:=dk.hand i r hi hh;have dg:bH (kP acc) (vP acc) (Sum.inl (i:Int))=some (.int (j:Int)):=by rw[Dp,hj];rfl
   have e:eW acc i r=[(((au r).getD j d0).1,((au r).getD j d0).2.1,((au r).getD j d0).2.2++[(1,1)])]:=by unfold eW;rw[hj];rfl
   rw[e]at h;have gd:(au r).getD j d0=(au r)[j]:=by rw[aab,aaa jl];rfl
   have dm:(au r)[j].2.2.length<=1:=by
    cases r with
    | fin p=>exact aaC jl (abF _)
    | ω k' ds=>exact(ro.2.2.2 _ (aan jl)).1
   rw[gd]at h;obtain⟨d,hd⟩:∃d,d=(au r)[j]:=⟨_,rfl⟩;rw[<-hd]at h dm;walk_at "vc";refine⟨k,_,_,Sum.inl (i:Int),_,rfl,hk,rfl,dg,?_⟩;refine(Α (d:=.lst ((au r).map cE)) rfl (Ss jl) ?_:cx (.lst ((au r).map cE)) (.int (j:Int)) _ _);rw[<-hd];have sz:∀{z:Nat},z<=1000->z<=sizeLine:=λh=>aat h @_;refine⟨⟨nofun,sz ?_⟩,sz @_,?_⟩
   ·simp;omega
   have e2:cE (d.1,d.2.1,d.2.2++[(1,1)])= .tup ((.int d.1::Υ d.2.1::d.2.2.map Υ)++[.tup [.int 1,.int 1]]):=by unfold cE;rw[List.map_append];rfl
   have h:q (.lst [cE (d.1,d.2.1,d.2.2++[(1,1)])]) M:=h;rw[e2]at h;exact h
  | false=>
   refine⟨nofun,λ_=>?_⟩;have e:eW acc i r=au r:=by unfold eW;rw[dk.GF i r hi hh]
   rw[e]at h;exact h
def eA(f:Nat->Rat):Nat->Rat
 | 0=>0
 | n+1=>eA f n+f n
def ay(f:ba->Rat):List ba->Rat
 | []=>0
 | d::ds=>f d+ay f ds
def dM{f g:Nat->Rat}:∀{n:Nat},(∀i,i < n->f i=g i)->eA f n=eA g n
 | 0,_=>rfl
 | n+1,h=>by show eA f n+f n=eA g n+g n;rw[dM λi hi=>h i (aby hi),h n (abr _)]
def nI(a b:Rat)(f g:Nat->Rat):∀n,eA (λi=>a * f i - b * g i) n=a * eA f n - b * eA g n
 | 0=>by show(0:Rat)=a * 0 - b * 0;grind
 | n+1=>by show eA (λi=>a * f i - b * g i) n+(a * f n - b * g n)=a * (eA f n+f n) - b * (eA g n+g n);rw[nI a b f g n];grind
def Aj{t:Nat}(y:Nat->Rat):∀{n:Nat},n<=t->eA (λx=>(if x=t then 1 else 0) * y x) n=0
 | 0,_=>rfl
 | n+1,h=>by show eA (λx=>(if x=t then 1 else 0) * y x) n+(if n=t then 1 else 0) * y n=0;rw[Aj y (),if_neg ()];grind
def tJ{t:Nat}(y:Nat->Rat):∀{n:Nat},t < n->eA (λx=>(if x=t then 1 else 0) * y x) n=y t
 | 0,h=>aaC h (abF _)
 | n+1,h=>by
  show eA (λx=>(if x=t then 1 else 0) * y x) n+(if n=t then 1 else 0) * y n=y t;by_cases e:n=t
  ·subst e;rw[Aj y (Nat.le_refl _),if_pos rfl];grind
  ·rw[tJ y (),if_neg e];grind
def oJ(f:Nat->Int):∀n,((Bz.ψ f n:Int):Rat)=eA (λi=>(f i:Rat)) n
 | 0=>rfl
 | n+1=>by show((Bz.ψ f n+f n:Int):Rat)=eA (λi=>(f i:Rat)) n+f n;rw[Rat.intCast_add,oJ f n]
def mC{f g:ba->Rat}:∀{ds:List ba},(∀d∈ds,f d=g d)->ay f ds=ay g ds
 | [],_=>rfl
 | d::ds,h=>by show f d+ay f ds=g d+ay g ds;rw[h d aad,mC λx hx=>h x (aac _ hx)]
def nM(f g:ba->Rat):∀ds:List ba,ay (λd=>f d - g d) ds=ay f ds - ay g ds
 | []=>by show(0:Rat)=0 - 0;grind
 | d::ds=>by show(f d - g d)+ay (λd=>f d - g d) ds=(f d+ay f ds) - (g d+ay g ds);rw[nM f g ds];grind
abbrev cV(d:ba):Rat:=val (ξ d)
structure Oe(n:Nat)(Ρ:List ba):Prop where
 to:∀d∈Ρ,0<=d.1/\d.1 < n
 c0:∀d∈Ρ,0<=cV d
 one:ay cV Ρ<=1
def BX{c:Fr}(h:0 < c.2)(hd:c.2∣B):((j0 B c:Int):Rat)=val c * B:=by
 have⟨k,rfl⟩:=hd;unfold j0 val;rw[abp _ (),aa0,aa0];have:=bI (show c.2≠0 by omega);generalize (c.1:Rat)=a at *
 generalize (c.2:Rat)=b at *
 generalize (k:Rat)=e at *
 grind
def II{B:Int}:∀{ds:List ba},(∀d∈ds,0 < (ξ d).2/\(ξ d).2∣B)->((((ds.map ξ).map (j0 B)).sum:Int):Rat)=ay cV ds * B
 | [],_=>by show((0:Int):Rat)=0 * B;grind
 | d::ds,h=>by have i:=II (ds:=ds) λx hx=>h x (aac _ hx);have⟨a,b⟩:=h d aad;show(((j0 B (ξ d)+((ds.map ξ).map (j0 B)).sum:Int)):Rat)=(cV d+ay cV ds) * B;rw[Rat.intCast_add,i,BX a b];grind
def Ck{c:Fr}(h:0 < c.2)(h0:0<=c.1):0<=val c:=by
 have e:val c * (c.2:Rat)=c.1:=by
  have:=bI (show c.2≠0 by omega);unfold val;generalize (c.1:Rat)=x at *
  generalize (c.2:Rat)=y at *
  grind
 have p:(0:Rat) < (c.2:Rat):=abw.mpr h;have q:(0:Rat)<=(c.1:Rat):=Rat.intCast_le_intCast.mpr h0;by_cases z:0<=val c
 ·exact z
 ·have:=Rat.mul_pos (show 0 < -val c by grind) p;grind
def MK{ds:List ba}(o:y8 (ds.map ξ)):ay cV ds=1/\∀d∈ds,0<=cV d:=by
 have⟨_,_,hB⟩:=gy (ds.map ξ) 1 0 @_ (abZ _) λc hc=>⟨(o.Gs.2 c hc).1,abZ _⟩;have hm:∀d∈ds,ξ d∈ds.map ξ:=λd hd=>aam.mpr ⟨d,hd,rfl⟩;have e:=II (B:=bt (ds.map ξ)) (ds:=ds) λd hd=>⟨(o.Gs.2 _ (hm d hd)).1,hB _ (hm d hd)⟩;rw[o.sum]at e;have b0:=bI (show bt (ds.map ξ)≠0 by have:=o.b0;omega);refine⟨?_,λd hd=>?_⟩
 ·generalize ((bt (ds.map ξ):Int):Rat)=b at *
  grind
 ·refine Ck (o.Gs.2 _ (hm d hd)).1 ?_;have p:=o.pos _ (hm d hd);unfold j0 at p;have q0:0<=bt (ds.map ξ) / (ξ d).2:=Int.ediv_nonneg (aav o.b0) (aav (o.Gs.2 _ (hm d hd)).1);rcases Int.lt_or_le (ξ d).1 0 with z| z
  ·have:=Int.mul_nonpos_of_nonpos_of_nonneg (aav z) q0;omega
  ·exact z
def Et{p q:Fr}(hp:0 < p.2)(hq:0 < q.2):val (iy p q)=val p - val q:=by
 unfold iy;rw[kB (acn (abj hp hq))];have h1:=bI (show p.2≠0 by omega);have h2:=bI (show q.2≠0 by omega);rw[Rat.intCast_sub,aa0,aa0,aa0];unfold val;generalize (p.1:Rat)=a at *
 generalize (p.2:Rat)=b at *
 generalize (q.1:Rat)=c at *
 generalize (q.2:Rat)=d at *
 grind
def BM{p q:Fr}(hp:0 < p.2)(hq:0 < q.2)(h:n9 p E)(h':n9 q E):n9 (iy p q) E:=by have⟨N,e⟩:=h;have⟨N',e'⟩:=h';unfold iy;exact uZ (N:=N - N') (Int.ne_of_gt (Int.mul_pos hp hq)) (by grind)
def EY{p q:Fr}{D:Int}(hp:0 < p.2)(hq:0 < q.2)(h:vK p C)(h':vK q D):vK (iy p q) (C+D):=by
 unfold iy;have a:=fT h.1 (aav hq);have b:=fT h'.1 (aav hp);have c:=fT h.2 (aav hq);have d:=fT h'.2 (aav hp);refine Ky (abj hp hq) ?_ ?_
 ·have e:p.2 * q.2 * (C+D)=p.2 * C * q.2+q.2 * D * p.2:=by grind
  have e2: -(q.2 * D) * p.2= -(q.2 * D * p.2):=by grind
  omega
 ·have e: -(p.2 * q.2 * (C+D))= -(p.2 * C) * q.2+ -(q.2 * D * p.2):=by grind
  omega
structure Nr(E C:Int)(p:Fr):Prop where
 red:Red p
 he:n9 p E
 ab:vK p C
structure mf(n:Nat)(E C:Int)(v:Nat->Rat)(ns:List Fr):Prop where
 len:ns.length=n
 nr:∀x,x < n->Nr E C (ns.getD x (0,1))
 val:∀x,x < n->val (ns.getD x (0,1))=v x
def rD(ε:Fr)(ns:List Fr)(d:ba):List Fr:=ns.set d.1.toNat (iy (ns.getD d.1.toNat (0,1)) (e9 ε (ξ d)))
def gw(ε:Fr)(n i:Nat)(Ρ:List ba):List Fr:=Ρ.foldl (rD ε) ((List.replicate n ((0,1):Fr)).set i (1,1))
def Wx(c:0<=C):Nr E C (0,1):=⟨⟨@_,@_⟩,⟨0,by simp⟩,⟨by show(0:Int)<=1 * C;omega,by show -(1 * C)<=(0:Int);omega⟩⟩
def Yn:Nr E 1 (1,1):=⟨⟨@_,@_⟩,⟨E,by simp⟩,⟨@_,@_⟩⟩
def zm{ns:List Fr}{t x:Nat}{a:Fr}(h:t < ns.length):(ns.set t a).getD x (0,1)=if x=t then a else ns.getD x (0,1):=by
 rw[aab,List.getElem?_set];by_cases e:x=t
 ·subst e;rw[aar rfl,aar h,aar rfl];rfl
 ·rw[aaq (Ne.symm e),aaq e,<-aab]
def Kh(hi:i < n):mf n E 1 (λx=>if x=i then 1 else 0) ((List.replicate n ((0,1):Fr)).set i (1,1)):=by
 have g:∀x,((List.replicate n ((0,1):Fr)).set i (1,1)).getD x (0,1)=if x=i then (1,1) else (0,1):=λx=>by
  rw[zm (by simpa using hi)]
  congr 1
  rw[aab,abT];split <;> rfl
 refine⟨by simp,λx _=>?_,λx _=>?_⟩
 ·rw[g];split
  ·exact Yn
  ·exact Wx @_
 ·rw[g];show Pg.val (if x=i then (1,1) else (0,1))=if x=i then 1 else 0
  unfold Pg.val;split
  ·show((1:Int):Rat) / ((1:Int):Rat)=1;grind
  ·show((0:Int):Rat) / ((1:Int):Rat)=0;grind
structure Q5(ε:Fr)(E:Int)(d:ba):Prop where
 s0:0 < ε.2
 su:mz ε
 c0:0 < (ξ d).2
 cu:mz (ξ d)
 he:n9 (e9 ε (ξ d)) E
def Q5.nr{ε:Fr}{d:ba}(h:Q5 ε E d):Nr E 1 (e9 ε (ξ d)):=by have p:=abj h.s0 h.c0;have u:=AZ h.s0 h.c0 h.su h.cu;have r:Red (e9 ε (ξ d)):=nH (acn p);have rp:=r.pos;have⟨u1,u2⟩:=u;exact⟨r,h.he,⟨(),()⟩⟩
def zH{ε:Fr}{v:Nat->Rat}{ns:List Fr}{d:ba}(h:mf n E C v ns)(c:0<=C)(hd:0<=d.1/\d.1 < n)(sc:Q5 ε E d):mf n E (C+1) (λx=>v x - Pg.val ε * ((if d.1.toNat=x then 1 else 0) * cV d)) (rD ε ns d):=by
 have ht:d.1.toNat < ns.length:=by rw[h.len];omega
 have k:=sc.nr;have g:=λx=>zm (x:=x) (a:=iy (ns.getD d.1.toNat (0,1)) (e9 ε (ξ d))) ht;refine⟨by unfold rD;rw[List.length_set];exact h.len,λx hx=>?_,λx hx=>?_⟩
 ·unfold rD;rw[g];have a:=h.nr x hx;split
  ·rename_i e;rw[<-e];have p:=abj a.red.pos k.red.pos;exact⟨nH (acn p),BM a.red.pos k.red.pos a.he k.he,EY a.red.pos k.red.pos a.ab k.ab⟩
  ·have:=aaQ (show C<=C+1 by omega) (aav a.red.pos);exact⟨a.red,a.he,⟨abX a.ab.1 this,by have:=a.ab.2;omega⟩⟩
 ·unfold rD;rw[g];have a:=h.nr x hx;have b:=h.val x hx;split
  ·rename_i e;rw[<-e,Et a.red.pos k.red.pos,b,Fy sc.s0 sc.c0,if_pos rfl];grind
  ·rename_i e;rw[b,if_neg (Ne.symm e)];grind
def uS{n:Nat}{ε:Fr}{E:Int}:∀{Ρ:List ba} {ns:List Fr} {v:Nat->Rat} {C:Int},(∀d∈Ρ,(0<=d.1/\d.1 < n)/\Q5 ε E d)->0<=C->mf n E C v ns->mf n E (C+Ρ.length) (λx=>v x - Pg.val ε * ay (λd=>(if d.1.toNat=x then 1 else 0) * cV d) Ρ) (Ρ.foldl (rD ε) ns)
 | [],ns,v,C,_,_,h=>by
  refine⟨h.len,λx hx=>?_,λx hx=>?_⟩
  ·rw[List.length_nil,Int.natCast_zero,Int.add_zero];exact h.nr x hx
  ·show _=v x - Pg.val ε * 0;rw[show v x - Pg.val ε * 0=v x by grind];exact h.val x hx
 | d::Ρ,ns,v,C,hw,c,h=>by have⟨h1,h2⟩:=hw d aad;have i:=uS (Ρ:=Ρ) (λx hx=>hw x (aac _ hx)) () (zH h c h1 h2);rw[abA,aaI,show C+((Ρ.length+1:Nat):Int)=C+1+Ρ.length by omega];refine⟨i.len,i.nr,λx hx=>?_⟩;rw[i.val x hx];show v x - Pg.val ε * ((if d.1.toNat=x then 1 else 0) * cV d) - Pg.val ε * ay (λd=>(if d.1.toNat=x then 1 else 0) * cV d) Ρ=v x - Pg.val ε * ((if d.1.toNat=x then 1 else 0) * cV d+ay (λd=>(if d.1.toNat=x then 1 else 0) * cV d) Ρ);grind
def vW(s:Rat)(i:Nat)(Ρ:List ba)(x:Nat):Rat:=(if x=i then 1 else 0) - s * ay (λd=>(if d.1.toNat=x then 1 else 0) * cV d) Ρ
def L7{ε:Fr}{Ρ:List ba}(hi:i < n)(hw:∀d∈Ρ,(0<=d.1/\d.1 < n)/\Q5 ε E d):mf n E (1+Ρ.length) (vW (Pg.val ε) i Ρ) (gw ε n i Ρ):=uS hw @_ (Kh hi)
def IV{n i:Nat}{s:Rat}(hi:i < n)(y:Nat->Rat):∀{Ρ:List ba},(∀d∈Ρ,0<=d.1/\d.1 < n)->eA (λx=>vW s i Ρ x * y x) n=y i - s * ay (λd=>cV d * y d.1.toNat) Ρ
 | [],_=>by rw[dM (g:=λx=>(if x=i then 1 else 0) * y x) λx _=>by show((if x=i then 1 else 0) - s * 0) * y x=_;grind];rw[tJ y hi];show y i=y i - s * 0;grind
 | d::Ρ,h=>by
  have⟨a,b⟩:=h d aad;have ih:=IV (s:=s) hi y (Ρ:=Ρ) λx hx=>h x (aac _ hx)
  rw[dM (g:=λx=>1 * (vW s i Ρ x * y x) - (s * cV d) * ((if x=d.1.toNat then 1 else 0) * y x)) λx _=>by
   show((if x=i then 1 else 0) - s * ((if d.1.toNat=x then 1 else 0) * cV d+ay (λd=>(if d.1.toNat=x then 1 else 0) * cV d) Ρ)) * y x=1 * (((if x=i then 1 else 0) - s * ay (λd=>(if d.1.toNat=x then 1 else 0) * cV d) Ρ) * y x) - (s * cV d) * ((if x=d.1.toNat then 1 else 0) * y x);by_cases e:x=d.1.toNat
   ·rw[if_pos e,if_pos e.symm];grind
   ·rw[if_neg e,if_neg (Ne.symm e)];grind]
  rw[nI,ih,tJ y (show d.1.toNat < n by omega)];show _=y i - s * (cV d * y d.1.toNat+ay (λd=>cV d * y d.1.toNat) Ρ);grind
def mE(ns:List Fr):List Int:=ns.map λc=>c.1 * (bt ns / c.2)
def zg{ns:List Fr}(h:∀c∈ns,Nr E C c)(e0:0 < E)(c0:0<=C):0 < bt ns/\bt ns<=E/\∀c∈ns,((j0 (bt ns) c:Int):Rat)=val c * (bt ns:Int)/\ -(C * E)<=j0 (bt ns) c/\j0 (bt ns) c<=C * E:=by
 have b0:0 < bt ns:=fh ns 1 @_ λc hc=>(h c hc).red.pos;have⟨d1,_,d3⟩:=gy ns 1 E @_ (Int.one_dvd _) λc hc=>⟨(h c hc).red.pos,xR (h c hc).red (h c hc).he⟩;have le:=ab2 e0 d1;refine⟨b0,le,λc hc=>⟨BX (h c hc).red.pos (d3 c hc),?_⟩⟩;have hd:=d3 c hc;have cp:=(h c hc).red.pos;have⟨a1,a2⟩:=(h c hc).ab;have le:bt ns<=E:=le;have b0:0 < bt ns:=b0;generalize hL:bt ns=L at *
 have hd:c.2∣L:=by rw[<-hL];exact hd
 have⟨k,rfl⟩:=hd;unfold j0;rw[abp _ ()];have k0:0<=k:=by
  rcases Int.lt_or_le k 0 with z| z
  ·have:=ab7 cp z;omega
  ·exact z
 have m1:=fT a1 k0;have m2:=fT a2 k0;have m3:=aaQ le c0;have e1:c.2 * C * k=C * (c.2 * k):=by grind
 have e2: -(c.2 * C) * k= -(C * (c.2 * k)):=by grind
 exact⟨(),()⟩
def nV(ε:Fr)(n i:Nat)(Ρ:List ba)(given:Fr):List Int:=mE (gw ε n i Ρ++[given])
structure CS(ε:Fr)(n:Nat)(E C:Int)(Ρ:List ba)(given:Fr):Prop where
 wo:Oe n Ρ
 sc:∀d∈Ρ,Q5 ε E d
 gn:Nr E C given
 e0:0 < E
 cl:1+(Ρ.length:Int)<=C
def D5{D:Int}{p:Fr}(h:Nr E C p)(l:C<=D):Nr E D p:=by have:=aaQ l (aav h.red.pos);have⟨a,b⟩:=h.ab;exact⟨h.red,h.he,⟨(),()⟩⟩
def MZ{ns:List Fr}{x:Nat}(h:x < ns.length):ns.getD x (0,1)∈ns:=by rw[aab,aaa h];exact aan h
def B2{ε:Fr}{Ρ:List ba}{given:Fr}(hi:i < n)(p:CS ε n E C Ρ given):(nV ε n i Ρ given).length=n+1/\(∀x∈nV ε n i Ρ given,-(C * E)<=x/\x<=C * E)/\∃L:Rat,0 < L/\(∀y:Nat->Rat,eA (λx=>((nV ε n i Ρ given).getD x 0:Rat) * y x) n=L * (y i - Pg.val ε * ay (λd=>cV d * y d.1.toNat) Ρ))/\((nV ε n i Ρ given).getD n 0:Rat)=L * Pg.val given:=by
 have no:=L7 hi λd hd=>⟨p.wo.to d hd,p.sc d hd⟩;have c0:0<=C:=by have:=p.cl;omega
 have all:∀c∈gw ε n i Ρ++[given],Nr E C c:=λc hc=>by
  rcases aaT.mp hc with z| z
  ·have⟨x,hx,e⟩:=aba z;have Wm:x < n:=by rw[<-no.len];exact hx
   have:=no.nr x Wm;rw[aab,aaa hx]at this;rw[<-e];exact D5 this p.cl
  ·rw[abm.mp z];exact p.gn
 have⟨b0,bE,hb⟩:=zg all p.e0 c0;have ln:(gw ε n i Ρ).length=n:=no.len;have at_:∀x,x < n+1->(nV ε n i Ρ given).getD x 0=j0 (bt (gw ε n i Ρ++[given])) ((gw ε n i Ρ++[given]).getD x (0,1)):=λx hx=>by
  unfold nV mE;have hx:x < (gw ε n i Ρ++[given]).length:=by simp[ln];exact hx
  rw[aab,aah,aab,aaa hx];rfl
 have Zy:∀x,x < n+1->(gw ε n i Ρ++[given]).getD x (0,1)∈gw ε n i Ρ++[given]:=λx hx=>MZ (by simp[ln];exact hx);refine⟨by unfold nV mE;simp[ln],λx hx=>?_,((bt (gw ε n i Ρ++[given]):Int):Rat),?_,λy=>?_,?_⟩
 ·unfold nV mE at hx;have⟨c,hc,rfl⟩:=aam.mp hx;exact(hb c hc).2
 ·exact abw.mpr b0
 ·rw[dM (g:=λx=>((bt (gw ε n i Ρ++[given]):Int):Rat) * (vW (Pg.val ε) i Ρ x * y x) - 0 * 0) λx hx=>by
   rw[at_ x (),(hb _ (Zy x ())).1];have:(gw ε n i Ρ++[given]).getD x (0,1)=(gw ε n i Ρ).getD x (0,1):=by rw[aab,aao (by rw[ln];exact hx),<-aab]
   rw[this,no.val x hx];grind]
  rw[nI _ 0 (λx=>vW (Pg.val ε) i Ρ x * y x) (λ_=>0),IV hi y p.wo.to];grind
 ·rw[at_ n (),(hb _ (Zy n ())).1];have:(gw ε n i Ρ++[given]).getD n (0,1)=given:=by rw[aab,aaw (by rw[ln];exact aai _),ln,abY];rfl
  rw[this];grind
structure Sys(ε:Fr)(n:Nat)(B:Int)(ws:Nat->List ba)(gv:Nat->Fr):Prop where
 n1:1<=n
 b1:1<=B
 WE:∀i,i < n->∃E C,CS ε n E C (ws i) (gv i)/\C * E<=B
 zero:∀{y:Nat->Rat},(∀k,k < n->y k=Pg.val ε * ay (λd=>cV d * y d.1.toNat) (ws k))->∀k,k < n->y k=0
def gT(ε:Fr)(n:Nat)(ws:Nat->List ba)(gv:Nat->Fr):List (List Int):=(List.range n).map λi=>nV ε n i (ws i) (gv i)
section
variable{ε:Fr}{ws:Nat->List ba}{gv:Nat->Fr}
def Bp{k x:Nat}(h:k < n):Bz.arr (gT ε n ws gv) k x=(nV ε n k (ws k) (gv k)).getD x 0:=by
 unfold Bz.arr gT
 congr 1
 rw[aab,aah,aaK h];rfl
def kJ:(gT ε n ws gv).length=n:=by unfold gT;simp
def Sys.eq(S:Sys ε n B ws gv){k:Nat}(hk:k < n):∃L:Rat,0 < L/\(∀y:Nat->Rat,eA (λx=>(Bz.arr (gT ε n ws gv) k x:Rat) * y x) n=L * (y k - Pg.val ε * ay (λd=>cV d * y d.1.toNat) (ws k)))/\(Bz.arr (gT ε n ws gv) k n:Rat)=L * Pg.val (gv k):=by
 have⟨E,C,p,_⟩:=S.WE k hk;have⟨_,_,L,l0,l1,l2⟩:=B2 hk p;refine⟨L,l0,λy=>?_,?_⟩
 ·rw[<-l1 y];exact dM λx _=>by rw[Bp hk]
 ·rw[Bp hk];exact l2
def Sys.VD(S:Sys ε n B ws gv)(y:Bz.Row)(h:∀k,k < n->Bz.ψ (λx=>Bz.arr (gT ε n ws gv) k x * y x) n=0):∀x,x < n->y x=0:=λx hx=>by
 have:=S.zero (y:=λx=>(y x:Rat)) (λk hk=>by
  have⟨L,l0,l1,_⟩:=S.eq hk;have e:=aaP (λz:Int=>(z:Rat)) (h k hk);rw[oJ,dM (g:=λx=>(Bz.arr (gT ε n ws gv) k x:Rat) * (y x:Rat)) λx _=>aa0 _ _,l1 λx=>(y x:Rat)]at e;have e:L * ((y k:Rat) - Pg.val ε * ay (λd=>cV d * (y d.1.toNat:Rat)) (ws k))=0:=e;rcases Rat.mul_eq_zero.mp e with z| z
  ·grind
  ·grind) x hx
 exact Rat.intCast_eq_zero_iff.mp this
def Sys.bd(S:Sys ε n B ws gv):Bz.Bd (Bz.arr (gT ε n ws gv)) n (n+1) B:=⟨S.b1,λk c hk hc=>by
 have⟨E,C,p,hB⟩:=S.WE k hk;have⟨ln,hb,_⟩:=B2 hk p;rw[Bp hk];have:=hb ((nV ε n k (ws k) (gv k)).getD c 0) (by rw[aab,aaa ()];exact aan _)
 exact⟨(),()⟩⟩
structure Tab(ε:Fr)(n:Nat)(ws:Nat->List ba)(gv:Nat->Fr)(tb:List Fr):Prop where
 len:tb.length=n
 red:∀i,i < n->Red (tb.getD i (0,1))
 eq:∀i,i < n->Pg.val (tb.getD i (0,1))=Pg.val (gv i)+Pg.val ε * ay (λd=>cV d * Pg.val (tb.getD d.1.toNat (0,1))) (ws i)
def Sys.uniq(S:Sys ε n B ws gv){t t':List Fr}(h:Tab ε n ws gv t)(h':Tab ε n ws gv t'):t=t':=by
 have z:=S.zero (y:=λx=>Pg.val (t.getD x (0,1)) - Pg.val (t'.getD x (0,1))) (λk hk=>by
  rw[h.eq k hk,h'.eq k hk];rw[show(λd:ba=>cV d * (Pg.val (t.getD d.1.toNat (0,1)) - Pg.val (t'.getD d.1.toNat (0,1))))=λd=>cV d * Pg.val (t.getD d.1.toNat (0,1)) - cV d * Pg.val (t'.getD d.1.toNat (0,1)) by funext d;grind,nM]
  grind)
 apply abc
 ·rw[h.len,h'.len]
 ·intro i h1 h2;have hi:i < n:=by rw[<-h.len];exact h1
  have a:=h.red i hi;have b:=h'.red i hi;have c:=z i hi;rw[aab,aaa h1]at a c;rw[aab,aaa h2]at b c;exact ju a b (by have c:Pg.val t[i] - Pg.val t'[i]=0:=c;grind)
def Sys.ex(S:Sys ε n B ws gv)(Gn:n<=12):∃(tb:List Fr) (z:Bz.Row) (N:Int),Bz.Qj (Bz.arr (gT ε n ws gv)) n n z N/\N≠0/\(∀i,i < n->N * (tb.getD i (0,1)).1=z i * (tb.getD i (0,1)).2)/\Tab ε n ws gv tb/\∀i,i < n->(tb.getD i (0,1)).2<=(12 * B) ^ n:=by
 have⟨ρ,μ,q,d,W,t⟩:=Bz.Turn.exists (A:=Bz.arr (gT ε n ws gv)) (n:=n) n;have hc:μ=List.range n:=by
  rcases t.all with e| ⟨x,h1,h2⟩
  ·exact e
  ·have⟨z,z1,z2⟩:=t.kernel h1 h2;have:=S.VD z z2 x h1;rw[z1]at this;exact aaC () t.d0
 have lr:ρ.length=n:=by rw[<-t.st.lc,hc,aa8]
 have sol:=t.TN λi h1 h2=>aaC h1 ();have d0:=t.d0;generalize hz:Bz.KP (Bz.arr (gT ε n ws gv)) n W μ n μ.length=z at *
 have g:∀i,i < n->((List.range n).map λi=>ax (z i) d).getD i (0,1)=ax (z i) d:=λi hi=>by rw[aab,aah,aaK hi];rfl
 refine⟨(List.range n).map λi=>ax (z i) d,z,d,sol,d0,λi hi=>?_,⟨by simp,λi hi=>?_,λi hi=>?_⟩,λi hi=>?_⟩
 ·rw[g i hi,<-c9 d0]
 ·rw[g i hi];exact nH d0
 ·have⟨L,l0,l1,l2⟩:=S.eq hi;have⟨E,C,p,_⟩:=S.WE i hi;have e:=aaP (λz:Int=>(z:Rat)) (sol i hi);rw[oJ,dM (g:=λx=>(Bz.arr (gT ε n ws gv) i x:Rat) * (z x:Rat)) λx _=>aa0 _ _,l1 λx=>(z x:Rat),aa0,l2]at e;rw[g i hi,kB d0]
  rw[mC (g:=λdd=>(1 / (d:Rat)) * (cV dd * (z dd.1.toNat:Rat)) - 0) λdd hdd=>by
   have⟨a,b⟩:=p.wo.to dd hdd;rw[g _ (),kB d0];have:=bI d0
   grind]
  have sc:∀(k:Rat) (ds:List ba),ay (λdd=>k * (cV dd * (z dd.1.toNat:Rat)) - 0) ds=k * ay (λdd=>cV dd * (z dd.1.toNat:Rat)) ds:=λk ds=>by
   induction ds with
   | nil=>show(0:Rat)=k * 0;grind
   | cons a ds ih=>
    show k * (cV a * (z a.1.toNat:Rat)) - 0+ay (λdd=>k * (cV dd * (z dd.1.toNat:Rat)) - 0) ds=k * (cV a * (z a.1.toNat:Rat)+ay (λdd=>cV dd * (z dd.1.toNat:Rat)) ds);rw[ih];grind
  rw[sc];have:=bI d0;have e:L * ((z i:Rat) - Pg.val ε * ay (λdd=>cV dd * (z dd.1.toNat:Rat)) (ws i))=(d:Rat) * (L * Pg.val (gv i)):=e;have e2:(z i:Rat) - Pg.val ε * ay (λdd=>cV dd * (z dd.1.toNat:Rat)) (ws i)=(d:Rat) * Pg.val (gv i):=by
   have:L * ((z i:Rat) - Pg.val ε * ay (λdd=>cV dd * (z dd.1.toNat:Rat)) (ws i) - (d:Rat) * Pg.val (gv i))=0:=by grind
   rcases Rat.mul_eq_zero.mp this with y| y
   ·grind
   ·grind
  grind
 ·rw[g i hi];have ad:=t.st.YN S.bd (λc AR=>aax (t.cl c AR) (Nat.le_succ _)) ();rw[lr]at ad;have l:=mZ (t:=z i) d0;have q0:=cq (t:=z i) d0;have⟨a1,a2⟩:=ad;omega
end
def Ju{d:ba}{c:Fr}{q:DQ}(e:d.2.2=[c])(h:q (Υ c) M):cx (cE d) (.int 2) M q:=by unfold cE;rw[e];exact Α (xs:=[.int d.1,Υ d.2.1,Υ c]) rfl (Ω (j:=2) rfl) h
def rC{k:Nat}(h:M[k]? =some (MO.lst xs)):ic M (.loc k)=some xs:=by show(match M[k]? with| some (MO.lst xs)=>some xs| _=>none)=some xs;rw[h]
def GX{p:Fr}(h:Nr E C p)(e0:0 < E)(e1:E < 2 ^ 190)(c0:0<=C)(c1:C < 2 ^ 110):Sz 300 p:=Uc (k:=190) (m:=110) h.red h.he e0 e1 h.ab c0 c1
def Jg:DF:=λas M q _=>∃(ns:List Fr) (E C:Int),as=[.lst (ns.map Υ)]/\ns.length<=13/\(∀c∈ns,Nr E C c)/\0 < E/\E < 2 ^ 190/\0<=C/\C < 2 ^ 110/\q (cC (mE ns)) M
def mN:Γ ["numbers","bottom"] ["numbers"] (τ oh):=.of rfl
def yK(F:c_ K "whole_row" "whole_row" oh f fd)(E:Ev K mg Cm){iu:Addr}{hZ:FuncData}(ck:aw P w K mg base 2 "common_bottom" ["chances"] ij iu hZ):ak P w K mg base (cF P w) 3 f fd ["numbers"] (cQ K Jg):=by
 refine F.d7 mN (λds M q x h=>?_) (λbq A outer s H E' hr=>⟨_,(ζ (χ 1 mN.nd (Χ ck hr ν (Λ (jv 0) η)))
   (ι (Β (iY (ys:=["bottom"]) (Μ:=[1]) (.of mN rfl rfl rfl) (aY (jv 0)) (λC s H fp=>(bY (Ε (jv 0) ο) (fC (jv 1) (Ε (jv 0) ο)))))))),λds M q x h=>?_⟩)
 ·have⟨ns,E,C,rfl,_⟩:=h;rfl
 ·have⟨ns,Ep,C,rfl,hz,hn,e0,e1,c0,c1,h⟩:=h;have⟨b0,bE,_⟩:=zg hn e0 c0;have Y2:∀c∈ns,Sz 300 c:=λc hc=>GX (hn c hc) e0 e1 c0 c1;have b2:∀c∈ns,c.2 < 2 ^ 200:=λc hc=>by have:=ab2 e0 (xR (hn c hc).red (hn c hc).he);exact abh this (Int.lt_trans e1 @_)
  refine⟨ns,rfl,⟨hz,λc hc=>⟨(hn c hc).red.pos,b2 c hc⟩⟩,?_⟩;walk_at "vc";refine bz (i:=0) rfl rfl ⟨by rw[aae];exact aat hz @_,?_⟩;refine d_ (f:=λd=>.int (match d with| .tup [.int a,.int b]=>a * (bt ns / b)| _=>0)) trivial (λx hx q hq=>?_) ?_
  ·have⟨y,hy,rfl⟩:=aam.mp hx;have s:=Y2 y hy;have y0:=(hn y hy).red.pos;refine⟨⟨y0,cM s @_⟩,⟨eR s @_,?_⟩,hq⟩;exact FX (k:=190) (Int.ediv_nonneg (aav b0) (aav y0)) (abh (Int.ediv_le_self _ (aav b0)) (abh bE e1)) @_
  ·rw[aaH,aaG];have e:ns.map ((λd=>Dt.int (match d with| .tup [.int a,.int b]=>a * (bt ns / b)| _=>0)) ∘ Υ)=(mE ns).map Dt.int:=by unfold mE;rw[aaG];rfl
   rw[e];exact h
structure SzE(E C:Int):Prop where
 e1:E < 2 ^ 190
 c1:C < 2 ^ 110
def Tc(A:Addr):DF:=λas M q _=>∃(fs ε:Fr) (γ:List Rw) (i:Nat) (Ρ:List ba) (given:Fr) (E C:Int),as=[aj A fs γ,.int (i:Nat),.lst (Ρ.map cE),Υ ε,Υ given]/\i < γ.length/\γ.length<=12/\Sz 11 ε/\(∀d∈Ρ,∃c,d.2.2=[c])/\CS ε γ.length E C Ρ given/\SzE E C/\(∀d∈Ρ,Sz 300 (ξ d))/\∀E',q (cC (nV ε γ.length i Ρ given)) (M++E')
def rO:Γ ["floor","place","ways","share","given","numbers","way"] ["floor","place","ways","share","given"] (τ xc):=.of rfl
def EG(F:c_ K "led_row" "led_row" xc f fd)(E:Ev K mg Cm)(ah:fG P w K mg base 1 Cm "size" ["self"] (rT Cm) bB bG){Qs:Addr}{OP:FuncData}(xu:aw P w K mg base 3 "minus" ["one","other"] Jn Qs OP){QN:Addr}{OM:FuncData}(wA:aw P w K mg base 3 "times" ["one","other"] HF QN OM){EU:Addr}{Fh:FuncData}(mB:aw P w K mg base 3 "whole_row" ["numbers"] Jg EU Fh):ak P w K mg base (cF P w) 5 f fd ["floor","place","ways","share","given"] (cQ K (Tc Cm)):=by
 refine F.d7 rO (λds M q x h=>?_) (λbq A outer s H E' hr=>⟨_,(ζ (χ 5 rO.nd (Bf (dH 3 (d:=.lst [.tup [.int 0,.int 1]]) (by rfl)) (g_ ah hr ν (jv 0))))
   (ζ (gq (jv 5) (jv 1) (cb (θ ο (θ ο η bJ) bJ)))
   (ζ (b9 (aY (jv 2)) (ai (i:=6) rO.nd rfl (Or.inl rfl)) az (ι (gq (jv 5) (Ε (jv 6) ο) (Χ xu hr ν (θ (Ε (jv 5) (Ε (jv 6) ο)) (θ (Χ wA hr ν (Λ (jv 3) (θ (Ε (jv 6) ο) η aR))) η aO) aR)))))
   (ι (Β (Χ mB hr ν (θ (jK (jv 5) (mV (Λ (jv 4) η))) η cG))))))),λds M q x h=>?_⟩)
 ·have⟨fs,ε,γ,i,Ρ,given,E,C,rfl,_⟩:=h;rfl
 ·have⟨fs,ε,γ,i,Ρ,given,Ep,C,rfl,il,r_,szs,Cb,p,sz,hcs,h⟩:=h;have e0:=p.e0;have c0:0<=C:=by have:=p.cl;omega
  generalize hn:γ.length=n at *
  refine⟨⟨_,_,.inl rfl,rfl⟩,fs,γ,rfl,?_⟩;rw[hn];refine⟨[Υ (0,1)],n,rfl,rfl,(),(),?_,?_⟩
  ·show 1 * ((n:Int)).toNat<=sizeLine;exact aat (show _<=12 by omega) @_
  rw[show((n:Int)).toNat=n by omega,sS];dsimp only[o9];walk_at "vc";refine⟨fI,?_⟩;refine⟨M.length,(i:Nat),_,i,rfl,rfl,aL,by rw[aaX];exact jN il,?_⟩;rw[eI];have e00:(List.replicate n (Υ (0,1))).set i (.tup [.int 1,.int 1])=((List.replicate n ((0,1):Fr)).set i (1,1)).map Υ:=by rw[List.map_set,List.map_replicate];rfl
  rw[e00];dsimp only[pQ,eJ];walk_at "vc";refine aZ (λzs ρ' M'=>∃(cv rest:List ba) (ns:List Fr) (v:Nat->Rat) (o:Option Dt),Ρ=cv++rest/\zs=rest.map cE/\ns=cv.foldl (rD ε) ((List.replicate n ((0,1):Fr)).set i (1,1))/\mf n Ep (1+cv.length) v ns/\M'=M++[MO.lst (ns.map Υ)]/\ρ'=[some (aj Cm fs γ),some (.int (i:Int)),some (.lst (Ρ.map cE)),some (Υ ε),some (Υ given),some (.loc M.length),o]) (λzs ρ' M' hj=>trivial) (λx zs ρ' M' hj fm=>?_) (λρ' M' hj=>?_) _ _ _ ⟨[],Ρ,_,_,none,rfl,rfl,rfl,Kh il,rfl,rfl⟩
  ·have⟨cv,rest,ns,v,o,ew,ex,en,no,rfl,rfl⟩:=hj;cases rest with
   | nil=>cases ex
   | cons d rest=>
    cases ex;have dm:d∈Ρ:=by rw[ew];exact aaE _ aad
    have⟨t0,t1⟩:=p.wo.to d dm;have⟨c,hc⟩:=Cb d dm;have ec:ξ d=c:=by unfold ξ;rw[hc];rfl
    have sc:=p.sc d dm;have NI:=hcs d dm;have dl:1+(cv.length:Int)<=C:=by have:=aaP List.length ew;rw[aag,aaI]at this;have:=p.cl;omega
    have tl:d.1.toNat < ns.length:=by rw[no.len];omega
    have Y2:=GX (D5 (no.nr d.1.toNat ()) dl) e0 sz.e1 c0 sz.c1;have szt:=GX (D5 sc.nr (show(1:Int)<=C by omega)) e0 sz.e1 c0 sz.c1;have at_:jA (ns.map Υ) d.1=some (Υ (ns.getD d.1.toNat (0,1))):=by have:=SS tl;rw[show((d.1.toNat:Nat):Int)=d.1 by omega]at this;rw[this,aab,aaa tl];rfl
    have nx:∀o,_:=λo=>fm [some (aj Cm fs γ),some (.int (i:Int)),some (.lst (Ρ.map cE)),some (Υ ε),some (Υ given),some (.loc M.length),o] (M++[MO.lst ((rD ε ns d).map Υ)]) ⟨cv++[d],rest,rD ε ns d,_,o,by rw[ew];simp,rfl,by rw[List.foldl_append,<-en];rfl,by
     have:=zH no () ⟨t0,t1⟩ sc;rw[show 1+((cv++[d]).length:Int)=1+(cv.length:Int)+1 by simp;omega]
     exact this,rfl,rfl⟩
    dsimp only[gN,o9];walk_at "vc";refine nW ?_;refine(Α (d:=.loc M.length) (rC aL) at_ ?_:cx (.loc M.length) (.int d.1) _ _);refine Ju hc ?_;rw[<-ec];refine⟨ε,ξ d,11,300,rfl,szs,NI,@_,?_⟩;refine⟨_,_,300,300,rfl,Y2,szt,@_,?_⟩;refine nW ?_;refine⟨M.length,d.1,_,d.1.toNat,rfl,rfl,aL,by rw[aae];have:=jN tl;rwa[show((d.1.toNat:Nat):Int)=d.1 by omega]at this,?_⟩;rw[eI];have:(ns.map Υ).set d.1.toNat (Υ (iy (ns.getD d.1.toNat (0,1)) (e9 ε (ξ d))))=(rD ε ns d).map Υ:=by unfold rD;rw[List.map_set]
    rw[this];exact nx _
  ·have⟨cv,rest,ns,v,o,ew,ex,en,no,rfl,rfl⟩:=hj;cases rest with
   | cons d rest=>cases ex
   | nil=>
    rw[aaV]at ew;subst ew;have en:ns=gw ε n i Ρ:=en;walk_at "vc";refine⟨by show 1<=sizeLine;decide,ns.map Υ,[Υ given],hV aL,rfl,?_,?_⟩
    ·rw[aae,no.len];exact aat (show n+1<=13 by omega) @_
    refine⟨ns++[given],Ep,C,by rw[aaW];rfl,by rw[aag,no.len];show n+1<=13;omega,λc hc=>?_,e0,sz.e1,c0,sz.c1,?_⟩
    ·rcases aaT.mp hc with z| z
     ·have⟨x,hx,e⟩:=aba z;have:=no.nr x (by rw[<-no.len];exact hx);rw[aab,aaa hx]at this;rw[<-e];exact D5 this p.cl
     ·rw[abm.mp z];exact p.gn
    rw[en];exact h _
abbrev Sp:=List (Option Nat)
def at_(S:Sp)(p:Nat):Option Nat:=S.getD p none
def aS(S:Sp)(ds:List ba):List (Option Nat):=ds.map λd=>at_ S d.1.toNat
def iK(kd:Str)(ns:List (Option Nat))(o:Option Nat):Prop:=
 if kd="other" then (o=none/\none∈ns)\/∃v,o=some (v+1)/\some v∈ns/\∀x∈ns,∃w,x=some w/\w<=v
 else (o=none/\∀x∈ns,x=none)\/∃v,o=some (v+1)/\some v∈ns/\∀w,some w∈ns->v<=w
def aE(γ:List Rw)(gs:List Nat)(S:Sp):Prop:=S.length=γ.length/\∀(p:Nat) (r:Rw),γ[p]? =some r->match r with
 | .fin _=>at_ S p=if p∈gs then some 0 else none
 | .ω kd ds=>iK kd (aS S ds) (at_ S p)
structure Ht(γ:List Rw)(gs:List Nat)(m:Nat)(S:Sp):Prop where
 len:S.length=γ.length
 lt:∀p n,at_ S p=some n->n < m
 fin:∀p q,γ[p]? =some (.fin q)->at_ S p=if p∈gs then some 0 else none
 old:∀(p:Nat) (kd:Str) (ds:List ba) (n:Nat),γ[p]? =some (.ω kd ds)->at_ S p=some n->iK kd (aS S ds) (some n)
 new:∀(p:Nat) (kd:Str) (ds:List ba),γ[p]? =some (.ω kd ds)->at_ S p=none->if kd="other" then∃x∈aS S ds,x=none\/x=some (m - 1) else∀x∈aS S ds,x=none\/x=some (m - 1)
def aT(γ:List Rw)(S:Sp)(p:Nat):Bool:=match γ[p]? with
 | some (.ω kd ds)=>(at_ S p).isNone&&(if kd="other" then (aS S ds).all (·.isSome) else (aS S ds).any (·.isSome))
 | _=>false
def bj(γ:List Rw)(S:Sp):List Nat:=(List.range γ.length).filter (aT γ S)
def cX(m:Nat):List Nat->Sp->Sp
 | [],S=>S
 | p::ps,S=>cX m ps (S.set p (some m))
def mF(m:Nat):∀(ps:List Nat) (S:Sp),(cX m ps S).length=S.length
 | [],_=>rfl
 | p::ps,S=>by show(cX m ps (S.set p (some m))).length=_;rw[mF m ps,aaZ]
def Jr{q:Nat}{v:Option Nat}(hp:p < S.length):at_ (S.set p v) q=if p=q then v else at_ S q:=by
 unfold at_;rw[aab,aab];by_cases h:p=q
 ·subst h;rw[aa5 hp,aar rfl];rfl
 ·rw[aa6 h,aaq h]
def vH(m:Nat):∀(ps:List Nat) (S:Sp),(∀p∈ps,p < S.length)->∀q,at_ (cX m ps S) q=if q∈ps then some m else at_ S q
 | [],S,_,q=>by rw[if_neg (by simp)];rfl
 | p::ps,S,h,q=>by
  show at_ (cX m ps (S.set p (some m))) q=_;rw[vH m ps _ (λr hr=>by rw[aaZ];exact h r (aac _ hr)) q,Jr (h p aad)];by_cases h1:q∈ps
  ·rw[aar h1,aar (aac _ h1)]
  ·rw[aaq h1];by_cases h2:p=q
   ·subst h2;rw[aar rfl,aar aad]
   ·rw[aaq h2,aaq (λz=>(aaA.mp z).elim (λe=>h2 e.symm) h1)]
def fB{γ:List Rw}:p∈bj γ S↔p < γ.length/\aT γ S p=true:=by unfold bj;rw[List.mem_filter,List.mem_range]
def ag{ds:List ba}{x:Option Nat}:x∈aS S ds↔∃d∈ds,at_ S d.1.toNat=x:=by unfold aS;rw[List.mem_map]
def u6{γ:List Rw}(h:Ht γ gs m S)(hm:1<=m):Ht γ gs (m+1) (cX m (bj γ S) S):=by
 have F_:∀p∈bj γ S,p < S.length:=λp hp=>by rw[h.len];exact(fB.mp hp).1
 have Nu:=vH m (bj γ S) S F_;generalize Wl:cX m (bj γ S) S=S' at *
 have none_of:∀p,p∈bj γ S->at_ S p=none:=λp hp=>by
  have:=(fB.mp hp).2;unfold aT at this;split at this
  ·rw[aaB]at this;exact Option.isNone_iff_eq_none.mp this.1
  ·cases this
 have kept:∀p n,at_ S p=some n->at_ S' p=some n:=λp n e=>by rw[Nu,aaq (λz=>by rw[none_of p z]at e;cases e)];exact e
 have back:∀p n,at_ S' p=some n->at_ S p=some n\/(n=m/\at_ S p=none):=λp n e=>by
  rw[Nu]at e;split at e
  ·rename_i hp;cases e;exact .inr ⟨rfl,none_of p hp⟩
  ·exact .inl e
 have Rn:∀p,at_ S' p=none->at_ S p=none/\p∉bj γ S:=λp e=>by
  rw[Nu]at e;split at e
  ·cases e
  ·rename_i hp;exact⟨e,hp⟩
 refine⟨by rw[<-Wl,mF];exact h.len,λp n e=>?_,λp q hr=>?_,λp kd ds n hr e=>?_,λp kd ds hr e=>?_⟩
 ·rcases back p n e with e| ⟨rfl,_⟩
  ·have:=h.lt p n e;omega
  ·omega
 ·rw[Nu,aaq (λz=>?_)]
  ·exact h.fin p q hr
  ·have:=(fB.mp z).2;unfold aT at this;rw[hr]at this;cases this
 ·rcases back p n e with e0| ⟨rfl,e0⟩
  ·have hd:=h.old p kd ds n hr e0;have hn:=h.lt p n e0;unfold iK at hd⊢;by_cases hk:kd="other"
   ·rw[aar hk]at hd⊢;rcases hd with ⟨z,_⟩| ⟨v,ev,h1,h2⟩
    ·cases z
    ·refine .inr ⟨v,ev,?_,λx hx=>?_⟩
     ·have⟨d,hd,ed⟩:=ag.mp h1;exact ag.mpr ⟨d,hd,kept _ _ ed⟩
     ·have⟨d,hd,ed⟩:=ag.mp hx;have⟨w,ew,lw⟩:=h2 (at_ S d.1.toNat) (ag.mpr ⟨d,hd,rfl⟩);rw[<-ed,kept _ _ ew];exact⟨w,rfl,lw⟩
   ·rw[aaq hk]at hd⊢;rcases hd with ⟨z,_⟩| ⟨v,ev,h1,h2⟩
    ·cases z
    ·refine .inr ⟨v,ev,?_,λw hw=>?_⟩
     ·have⟨d,hd,ed⟩:=ag.mp h1;exact ag.mpr ⟨d,hd,kept _ _ ed⟩
     ·have⟨d,hd,ed⟩:=ag.mp hw;rcases back _ _ ed with ed| ⟨rfl,_⟩
      ·exact h2 w (ag.mpr ⟨d,hd,ed⟩)
      ·cases ev;omega
  ·have hp:p∈bj γ S:=by
    rw[Nu]at e;split at e
    ·rename_i z;exact z
    ·rw[e0]at e;cases e
   have jf:=(fB.mp hp).2;unfold aT at jf;rw[hr]at jf;have jf:((at_ S p).isNone&&(if kd="other" then (aS S ds).all (·.isSome) else (aS S ds).any (·.isSome)))=true:=jf;rw[aaB]at jf;have jf:=jf.2;have AK:=h.new p kd ds hr e0;obtain⟨k,rfl⟩:∃k,n=k+1:=⟨n - 1,()⟩;unfold iK;by_cases hk:kd="other"
   ·rw[aar hk]at jf AK⊢;have z5:=aaS.mp jf;have⟨x,hx,ex⟩:=AK;have ex:x=some k:=by
     rcases ex with rfl| ex
     ·have:=z5 none hx;cases this
     ·simpa using ex
    subst ex;refine .inr ⟨k,rfl,?_,λy hy=>?_⟩
    ·have⟨d,hd,ed⟩:=ag.mp hx;exact ag.mpr ⟨d,hd,kept _ _ ed⟩
    ·have⟨d,hd,ed⟩:=ag.mp hy;have:=z5 (at_ S d.1.toNat) (ag.mpr ⟨d,hd,rfl⟩);have⟨w,ew⟩:=aa7.mp this;have lw:=h.lt _ _ ew;rw[<-ed,kept _ _ ew];exact⟨w,rfl,()⟩
   ·rw[aaq hk]at jf AK⊢;have⟨x,hx,sx⟩:=aca.mp jf;have ex:x=some k:=by
     rcases AK x hx with rfl| ex
     ·cases sx
     ·simpa using ex
    subst ex;refine .inr ⟨k,rfl,?_,λw hw=>?_⟩
    ·have⟨d,hd,ed⟩:=ag.mp hx;exact ag.mpr ⟨d,hd,kept _ _ ed⟩
    ·have⟨d,hd,ed⟩:=ag.mp hw;rcases back _ _ ed with ed| ⟨rfl,_⟩
     ·rcases AK (some w) (ag.mpr ⟨d,hd,ed⟩) with z| z
      ·cases z
      ·cases z;omega
     ·omega
 ·have⟨e0,hp⟩:=Rn p e;have fk:p < γ.length:=(aaf.mp hr).1;have jf:aT γ S p=false:=by
   cases hb:aT γ S p with
   | false=>rfl
   | true=>exact aaC (fB.mpr ⟨fk,hb⟩) hp
  unfold aT at jf;rw[hr]at jf;have jf:((at_ S p).isNone&&(if kd="other" then (aS S ds).all (·.isSome) else (aS S ds).any (·.isSome)))=false:=jf;rw[e0]at jf;have jf:(if kd="other" then (aS S ds).all (·.isSome) else (aS S ds).any (·.isSome))=false:=by simpa using jf
  show if kd="other" then∃x∈aS S' ds,x=none\/x=some (m+1 - 1) else∀x∈aS S' ds,x=none\/x=some (m+1 - 1)
  rw[Nat.add_sub_cancel];have one:∀d,at_ S d=none->at_ S' d=none\/at_ S' d=some m:=λd ed=>by
   rw[Nu];split
   ·exact .inr rfl
   ·exact .inl ed
  by_cases hk:kd="other"
  ·rw[aar hk]at jf⊢;obtain⟨x,hx,sx⟩:∃x∈aS S ds,x=none:=by
    have:¬(∀x∈aS S ds,x.isSome=true):=λz=>by rw[aaS.mpr z]at jf;cases jf
    simp only[Classical.not_forall]at this;have⟨x,hx,sx⟩:=this;exact⟨x,hx,by simpa using sx⟩
   subst sx;have⟨d,hd,ed⟩:=ag.mp hx;exact⟨at_ S' d.1.toNat,ag.mpr ⟨d,hd,rfl⟩,one _ ed⟩
  ·rw[aaq hk]at jf⊢;intro x hx;have⟨d,hd,ed⟩:=ag.mp hx;have:at_ S d.1.toNat=none:=by
    cases hz:at_ S d.1.toNat with
    | none=>rfl
    | some w=>
     have:(aS S ds).any (·.isSome)=true:=aca.mpr ⟨some w,ag.mpr ⟨d,hd,hz⟩,rfl⟩;rw[this]at jf;cases jf
   rw[<-ed];exact one _ this
def Hb{γ:List Rw}(h:Ht γ gs m S)(he:bj γ S=[]):aE γ gs S:=by
 refine⟨h.len,λp r hr=>?_⟩;cases r with
 | fin q=>exact h.fin p q hr
 | ω kd ds=>
  show iK kd (aS S ds) (at_ S p);cases e:at_ S p with
  | some n=>exact h.old p kd ds n hr e
  | none=>
   have fk:p < γ.length:=(aaf.mp hr).1;have jf:aT γ S p=false:=by
    cases hb:aT γ S p with
    | false=>rfl
    | true=>have:=fB.mpr ⟨fk,hb⟩;rw[he]at this;cases this
   unfold aT at jf;rw[hr]at jf;have jf:((at_ S p).isNone&&(if kd="other" then (aS S ds).all (·.isSome) else (aS S ds).any (·.isSome)))=false:=jf;rw[e]at jf;have jf:(if kd="other" then (aS S ds).all (·.isSome) else (aS S ds).any (·.isSome))=false:=by simpa using jf
   unfold iK;by_cases hk:kd="other"
   ·rw[aar hk]at jf⊢;refine .inl ⟨rfl,?_⟩;have:¬(∀x∈aS S ds,x.isSome=true):=λz=>by rw[aaS.mpr z]at jf;cases jf
    simp only[Classical.not_forall]at this;have⟨x,hx,sx⟩:=this;have:x=none:=by simpa using sx
    rw[<-this];exact hx
   ·rw[aaq hk]at jf⊢;refine .inl ⟨rfl,λx hx=>?_⟩;cases x with
    | none=>rfl
    | some w=>
     have:(aS S ds).any (·.isSome)=true:=aca.mpr ⟨some w,hx,rfl⟩;rw[this]at jf;cases jf
def pP(S:Sp):Nat:=S.countP (·.isNone)
def HU(hp:p < S.length)(e:at_ S p=none):pP (S.set p (some m))+1=pP S:=by
 unfold pP;have eg:S[p]=none:=by unfold at_ at e;rw[aab,aaa hp]at e;exact e
 rw[List.countP_set hp]
 ·simp[eg];have:0 < S.countP (·.isNone):=List.countP_pos_iff.mpr ⟨S[p],aan hp,by rw[eg];rfl⟩;omega
def y4{m:Nat}:∀(ps:List Nat) (S:Sp),ps.Nodup->(∀p∈ps,p < S.length/\at_ S p=none)->pP (cX m ps S)+ps.length=pP S
 | [],_,_,_=>rfl
 | p::ps,S,nd,h=>by
  have⟨h1,h2⟩:=h p aad;have ih:=y4 (m:=m) ps (S.set p (some m)) (abz.mp nd).2 λq hq=>by rw[aaZ,Jr h1,aaq (λz=>(abz.mp nd).1 (by rw[z];exact hq))];exact h q (aac _ hq)
  have:=HU (m:=m) h1 h2;show pP (cX m ps (S.set p (some m)))+(ps.length+1)=pP S;omega
def fo:Option Nat->Dt
 | none=>.aP
 | some n=>.int n
structure b_(γ:List Rw)(gs:List Nat):Prop where
 up:gs.Pairwise (· < ·)
 fin:∀g∈gs,∃q,γ[g]? =some (.fin q)
structure Gy(γ:List Rw):Prop where
 len:γ.length<=12
 row:∀r∈γ,fJ r/\fS r γ.length=true
def og{γ:List Rw}{k:Str}{ds:List ba}(f:Gy γ)(h:Rw.ω k ds∈γ):Ι ds γ.length=true/\(Θ k=true\/k="chance"):=by
 have h2:=(f.row _ h).2;have h2:(if Θ k then Ι ds γ.length else if k="chance" then Ι ds γ.length&&Ο (ds.map ξ) else false)=true:=h2;by_cases hk:Θ k=true
 ·rw[aar hk]at h2;exact⟨h2,.inl hk⟩
 ·rw[aaq hk]at h2;by_cases hc:k="chance"
  ·rw[aar hc,aaB]at h2;exact⟨h2.1,.inr hc⟩
  ·rw[aaq hc]at h2;cases h2
def iJ{γ:List Rw}{k:Str}{ds:List ba}{d:ba}(f:Gy γ)(h:Rw.ω k ds∈γ)(hd:d∈ds):0<=d.1/\d.1 < γ.length:=by have h2:=(og f h).1;unfold Ι at h2;rw[aaB,aaB]at h2;have h3:=aaS.mp h2.2 d hd;unfold aJ at h3;rw[aaB,aaB,aaR,aaR]at h3;exact⟨h3.1,h3.2.1⟩
def oG{γ:List Rw}{k:Str}{ds:List ba}(f:Gy γ)(h:Rw.ω k ds∈γ):1<=ds.length/\ds.length<=6:=by have h2:=(og f h).1;unfold Ι at h2;rw[aaB,aaB,aaR,aaR]at h2;exact h2.1
def yI(h:p < S.length):jA (S.map fo) (p:Int)=some (fo (at_ S p)):=by
 have e:at_ S p=S[p]:=by unfold at_;rw[List.getD_eq_getElem?_getD,List.getElem?_eq_getElem h];rfl
 rw[e];exact Ω (by rw[aah,aaa h];rfl)
def PH{o:Option Nat}{q:DQ}(h:q (.bl o.isNone) M):Lq (fo o) .aP M q:=by
 cases o with
 | none=>exact h
 | some n=>exact h
def wb{o:Option Nat}{q:DQ}(h:q (.bl o.isSome) M):uR (fo o) .aP M q:=by
 cases o with
 | none=>exact h
 | some n=>exact h
def pR(C:Addr):DF:=λas M q _=>∃ε γ g gs ok,as=[aj C ε γ,g]/\j9 M g=some (gs.map bc,ok)/\ok M/\b_ γ gs/\q .aP M
def fM:Γ ["floor","goals","ahead","goal"] ["floor","goals"] (τ ky):=.of rfl
def tU(F:c_ K "check_goals" "check_goals" ky f fd)(E:Ev K mg Cm)(ae:fG P w K mg base 1 Cm "kind" ["self","place"] (sU Cm) bC bF)(ah:fG P w K mg base 1 Cm "size" ["self"] (rT Cm) bB bG):ak P w K mg base (cF P w) 2 f fd ["floor","goals"] (cQ K (pR Cm)):=by
 refine F.d7 fM (λds M q x h=>?_) (λbq A outer s H E' hr=>⟨_,(ζ (χ 2 fM.nd (NM ο))
   (ι (b9 (aY (jv 1)) (ai (i:=3) fM.nd rfl (Or.inl rfl)) az (ζ (ao (JW.jt (gL (KC (jv 3) (jv 2)) (gL (Ti (jv 3) (g_ ah hr ν (jv 0))) (gK (gP hr (gE ae hr ν (jv 0) (Λ (jv 3) η)) fc))))) (ι gI) Η)
   (ι (χ 2 fM.nd (jv 3))))))),λds M q x h=>?_⟩)
 ·have⟨ε,γ,g,gs,ok,rfl,_⟩:=h;rfl
 ·have⟨ε,γ,g,gs,ok,rfl,hg,aQ,go,h⟩:=h;dsimp only[OH,xJ,pQ,eJ];walk_at "vc";show(match j9 M g with| some (xs,ok)=>_| none=>False);rw[hg];refine aZ (λxs ρ M'=>M'=M/\∃(rest:List Nat) (a:Int) (b:Option Dt),xs=rest.map bc/\(∀p∈rest,p∈gs/\a < p)/\rest.Pairwise (· < ·)/\ρ=[some (aj Cm ε γ),some g,some (.int a),b]) (λxs ρ M' hj=>by have⟨rfl,_⟩:=hj;exact aQ) (λx xs ρ M' hj fm=>?_) (λρ M' hj=>?_) _ _ _ ⟨rfl,gs,-1,none,rfl,λp hp=>⟨hp,()⟩,go.up,rfl⟩
  ·have⟨rfl,rest,a,b,ex,qM,hp,rfl⟩:=hj;cases rest with
   | nil=>cases ex
   | cons p rest=>
    cases ex;have⟨hm,ha⟩:=qM p aad;have⟨e,he⟩:=go.fin p hm;have F_:p < γ.length:=(aaf.mp he).1;refine⟨λz=>?_,λ_=>?_⟩
    ·have:(p:Int)<=a:=aaD z;omega
    refine⟨⟨_,_,.inl rfl,rfl⟩,ε,γ,rfl,λz=>?_,λ_=>?_⟩
    ·have:(p:Int) ≥ γ.length:=aaD z;omega
    refine⟨⟨_,_,.inl rfl,rfl⟩,ε,γ,p,.fin e,rfl,he,nofun,λ_=>?_⟩;exact fm _ _ ⟨rfl,rest,p,_,rfl,λr hr=>⟨(qM r (aac _ hr)).1,abS.mpr (List.rel_of_pairwise_cons hp hr)⟩,hp.of_cons,rfl⟩
  ·have⟨rfl,rest,a,b,ex,qM,hp,rfl⟩:=hj;exact h
def y6(C:Addr):DF:=λas M q _=>∃ε γ k p S,as=[aj C ε γ,.int (p:Nat),.loc k]/\M[k]? =some (.lst (S.map fo))/\S.length=γ.length/\p < γ.length/\Gy γ/\q (.bl (aT γ S p)) M
def oS:Γ ["floor","place","steps","known"] ["floor","place","steps"] (τ rM):=.of rfl
def Bj(F:c_ K "is_drawn" "is_drawn" rM f fd)(E:Ev K mg Cm)(ae:fG P w K mg base 1 Cm "kind" ["self","place"] (sU Cm) bC bF)(aK:fG P w K mg base 2 Cm "doors" ["self","place"] (sL Cm) cU cY):ak P w K mg base (cF P w) 3 f fd ["floor","place","steps"] (cQ K (y6 Cm)):=by
 refine F.d7 oS (λds M q x h=>?_) (λbq A outer s H E' hr=>⟨_,(ζ (ao (JW.jt (gL (Dm (Ε (jv 2) (jv 1)) yL) (gK (d9 hr (gE ae hr ν (jv 0) (Λ (jv 1) η)) fc)))) (ι (Β yH)) Η)
   (ζ (cT (i:=3) oS.nd rfl (Or.inl rfl) (ys:=["steps"]) (Μ:=[2]) (.of oS rfl rfl rfl) (aY (bo (gE aK hr ν (jv 0) (Λ (jv 1) η)))) (λC s H fp=>(P1 (Ε (jv 1) (Ε (jv 0) ο)) yL)))
   (ζ (ao (d9 hr (gE ae hr ν (jv 0) (Λ (jv 1) η)) fc) (ι (Β (Hl E.vA (Λ (jv 3) η)))) Η)
   (ι (Β (Hf E.uN (Λ (jv 3) η))))))),λds M q x h=>?_⟩)
 ·have⟨ε,γ,k,p,S,rfl,_⟩:=h;rfl
 ·have⟨ε,γ,k,p,S,rfl,hk,hl,hp,f,h⟩:=h;have hs:ic M (.loc k)=some (S.map fo):=by show(match M[k]? with| some (.lst xs)=>some xs| _=>none)=_;rw[hk]
  have hi:γ[p]? =some γ[p]:=aaa hp;have U1:γ[p]∈γ:=aan hp;generalize γ[p]=r at hi U1;have ro:=(f.row _ U1).1;walk_at "vc";refine(Α (d:=.loc k) hs (yI ()) ?_:cx (.loc k) (.int (p:Nat)) M _);refine wb ⟨λz=>⟨λ_=>?_,nofun⟩,λz=>?_⟩
  ·have e:aT γ S p=false:=by
    unfold aT;rw[hi];cases r with
    | fin q=>rfl
    | ω kd ds=>
     have⟨v,ev⟩:=aa7.mp z;show((at_ S p).isNone&&_)=false;rw[ev];rfl
   rw[e]at h;exact h
  ·have z:at_ S p=none:=by simpa using z
   refine⟨⟨_,_,.inl rfl,rfl⟩,ε,γ,p,r,rfl,hi,?_⟩;cases r with
   | fin e0=>
    have e:aT γ S p=false:=by unfold aT;rw[hi]
    rw[e]at h;exact⟨λ_=>h,nofun⟩
   | ω kd ds=>
    have l6:=oG f U1;refine⟨λz=>aaC (aaD z) ro.1,λ_=>?_⟩;have e:aT γ S p=(if kd="other" then (aS S ds).all (·.isSome) else (aS S ds).any (·.isSome)):=by unfold aT;rw[hi];show((at_ S p).isNone&&_)=_;rw[z];rfl
    rw[e]at h;refine⟨⟨_,_,.inl rfl,rfl⟩,ε,γ,p,.ω kd ds,rfl,hi,ro,cz (ds:=ds.map cE) (fQ ds) ?_⟩;refine⟨by rw[aae];exact aat l6.2 @_,?_⟩;refine cy (F:=λx a=>x=cE a/\a∈ds) (f:=λd=>Dt.bl (at_ S d.1.toNat).isSome) trivial (λx a ha q' lD=>?_) (fq cE ds ds λ_ h=>h) ?_
    ·have⟨rfl,ha⟩:=ha;have⟨a0,a1⟩:=iJ f U1 ha;have e1:jA (S.map fo) a.1=some (fo (at_ S a.1.toNat)):=by have:=yI (S:=S) (p:=a.1.toNat) ();rwa[show((a.1.toNat:Nat):Int)=a.1 by omega]at this
     have key:cx (cE a) (.int 0) M (λi M1=>cx (.loc k) i M1 (λd M2=>uR d .aP M2 q')):=by refine nW ?_;refine Α (d:=.loc k) hs e1 ?_;exact wb lD
     exact key
    rw[aaH];have eb:ds.map (λd=>Dt.bl (at_ S d.1.toNat).isSome)=((aS S ds).map (·.isSome)).map Dt.bl:=by unfold aS;rw[List.map_map,List.map_map];rfl
    rw[eb];refine⟨⟨_,_,.inl rfl,rfl⟩,ε,γ,p,.ω kd ds,rfl,hi,λz=>?_,λz=>?_⟩
    ·have z:kd="other":=aaD z;rw[aar z]at h;refine⟨_,rfl,?_⟩;rw[acm];exact h
    ·have z:kd≠"other":=aa3 z;rw[aaq z]at h;refine⟨_,rfl,λ_ z=>(nomatch z),λ_ z=>(nomatch z),?_⟩;rw[List.any_map];exact h
def sJ(C:Addr):DF:=λas M q _=>∃ε γ k S,as=[aj C ε γ,.loc k]/\M[k]? =some (.lst (S.map fo))/\S.length=γ.length/\Gy γ/\q (.lst ((bj γ S).map bc)) M
def qg:Γ ["floor","steps"] ["floor","steps"] (τ lZ):=.of rfl
def vZ(F:c_ K "drawn_next" "drawn_next" lZ f fd)(E:Ev K mg Cm)(ah:fG P w K mg base 1 Cm "size" ["self"] (rT Cm) bB bG){IZ:Addr}{JV:FuncData}(om:aw P w K mg base 3 "is_drawn" ["floor","place","steps"] (y6 Cm) IZ JV):ak P w K mg base (cF P w) 4 f fd ["floor","steps"] (cQ K (sJ Cm)):=by
 refine F.d7 qg (λds M q x h=>?_) (λbq A outer s H E' hr=>⟨_,(ι (Β (zD (ys:=["floor","steps"]) (Μ:=[0,1]) (.of qg rfl rfl rfl) (vz (cf E.bP (θ (g_ ah hr ν (jv 0)) η aO))) (λC s H fp=>(bV (Χ om hr (eE (P:=P) (w:=w)) (Λ (jv 1) (Λ (jv 0) (Λ (jv 2) η)))))) (λC s H fp=>(jv 0))))),λds M q x h=>?_⟩)
 ·have⟨ε,γ,k,S,rfl,_⟩:=h;rfl
 ·have⟨ε,γ,k,S,rfl,hk,hl,f,h⟩:=h;have Rh:=f.len;refine⟨⟨_,_,.inl rfl,rfl⟩,ε,γ,rfl,?_⟩;refine⟨⟨(),()⟩,by rw[eG];exact aat (show _<=12 by omega) @_,?_⟩;refine eO trivial (λx=>match x with| .int j=>aT γ S j.toNat| _=>false) (λx=>x) _ _ (λx hx q' p' h1 h2=>?_) ?_
  ·have⟨j,hj',rfl⟩:=iI hx;have hj:j < γ.length:=()
   have h1:aT γ S (0+(j:Int)).toNat=true->q' (.int (0+(j:Int))) M:=h1;have h2:aT γ S (0+(j:Int)).toNat=false->p' M:=h2;rw[show(0+(j:Int)).toNat=j by omega]at h1 h2;refine⟨ε,γ,k,j,S,by rw[Int.zero_add],hk,hl,hj,f,?_⟩;cases hb:aT γ S j with
   | true=>exact h1 hb
   | false=>exact h2 hb
  ·rw[aaH,List.map_id'];have e3:((cP 0 ((γ.length:Int)).toNat).filter (λx=>match x with| .int j=>aT γ S j.toNat| _=>false))=(bj γ S).map bc:=by
    unfold cP bj;rw[List.filter_map,show((γ.length:Int)).toNat=γ.length by omega];have e4:((λx:Dt=>match x with| .int j=>aT γ S j.toNat| _=>false) ∘ λk:Nat=>Dt.int (0+(k:Int)))=λj:Nat=>aT γ S j:=by
     funext j
     show aT γ S (0+(j:Int)).toNat=_;rw[show(0+(j:Int)).toNat=j by omega]
    rw[e4];exact List.map_congr_left λj _=>by unfold bc;rw[Int.zero_add]
   rw[e3];exact h
def sy(m:Nat):∀(ps:List Nat) (p:Nat) (S:Sp),cX m (ps++[p]) S=(cX m ps S).set p (some m)
 | [],_,_=>rfl
 | q::ps,p,S=>sy m ps p (S.set q (some m))
def kD:∀gs:List Nat,h9 (gs.map bc)=some (gs.map λg:Nat=>V.int (g:Int))
 | []=>rfl
 | g::gs=>by show(match vo (bc g),h9 (gs.map bc) with| some v,some vs=>some (v::vs)| _,_=>none)=_;rw[kD gs];rfl
def qw(p:Nat):∀gs:List Nat,QT (.int (p:Int)) (gs.map λg:Nat=>V.int (g:Int))=decide (p∈gs)
 | []=>rfl
 | g::gs=>by
  show(((g:Int)==(p:Int))|| QT (.int (p:Int)) (gs.map λg:Nat=>V.int (g:Int)))=_;rw[qw p gs];by_cases h:g=p
  ·subst h;simp
  ·have h1:((g:Int)==(p:Int))=false:=by simpa usingλz:(g:Int)=p=>h ()
   rw[h1,Bool.false_or];have:(p∈g::gs)↔p∈gs:=⟨λz=>(aaA.mp z).resolve_left (λe=>h e.symm),aac _⟩;simp[this]
def gB(n:Nat)(gs:List Nat):Sp:=(List.range n).map λp=>if p∈gs then some 0 else none
def Az(h:p < n):at_ (gB n gs) p=if p∈gs then some 0 else none:=by unfold at_ gB;rw[aab,aah,aaK h];rfl
def Fw{γ:List Rw}(g:b_ γ gs)(f:Gy γ):Ht γ gs 1 (gB γ.length gs):=by
 have out:∀p n,at_ (gB γ.length gs) p=some n->p < γ.length/\p∈gs/\n=0:=λp n e=>by
  by_cases hp:p < γ.length
  ·rw[Az hp]at e;split at e
   ·rename_i hg;cases e;exact⟨hp,hg,rfl⟩
   ·cases e
  ·unfold at_ gB at e;rw[List.getD_eq_getElem?_getD,List.getElem?_eq_none (by simp;omega)]at e;cases e
 refine⟨by unfold gB;simp,λp n e=>by have⟨_,_,rfl⟩:=out p n e;exact Nat.zero_lt_one,λp q hr=>Az (List.getElem?_eq_some_iff.mp hr).1,λp kd ds n hr e=>?_,λp kd ds hr e=>?_⟩
 ·have⟨_,hg,_⟩:=out p n e;have⟨q,hq⟩:=g.fin p hg;rw[hr]at hq;cases hq
 ·have any:∀x∈aS (gB γ.length gs) ds,x=none\/x=some (1 - 1):=λx hx=>by
   have⟨d,hd,ed⟩:=ag.mp hx;cases x with
   | none=>exact .inl rfl
   | some v=>have⟨_,_,rfl⟩:=out _ _ ed;exact .inr rfl
  by_cases hk:kd="other"
  ·rw[aar hk];have l6:=oG f (aaj hr);cases ds with
   | nil=>exact aaC l6.1 @_
   | cons d ds=>exact⟨_,aad,any _ aad⟩
  ·rw[aaq hk];exact any
def jx(S:Sp):List Nat:=(List.range S.length).filter λp=>(at_ S p).isNone
def uI:∀(S:Sp) (n:Nat),((g8 n (S.map fo)).filter (λx=>match x with| .tup [_,.aP]=>true| _=>false)).map (λx=>match x with| .tup [i,_]=>i| _=>.aP)=(jx S).map λj=>bc (n+j)
 | [],n=>rfl
 | o::S,n=>by
  have ih:=uI S (n+1);have e1:jx (o::S)=(if o.isNone then [0] else [])++(jx S).map Nat.succ:=by
   unfold jx;rw[aaI,abG,List.filter_cons];have:((List.map Nat.succ (List.range S.length)).filter λp=>(at_ (o::S) p).isNone)=((List.range S.length).filter λp=>(at_ S p).isNone).map Nat.succ:=by rw[List.filter_map];rfl
   rw[this];show(if o.isNone=true then _ else _)=_;split <;> rfl
  rw[e1,aaW,aaG];have e2:(jx S).map ((λj=>bc (n+j)) ∘ Nat.succ)=(jx S).map λj=>bc (n+1+j):=abb λj _=>by
   show bc (n+(j+1))=bc (n+1+j)
   congr 1;omega
  rw[e2,<-ih];cases o with
  | none=>rfl
  | some v=>rfl
def Kd(C:Addr):DF:=λas M q _=>∃ε γ g gs ok,as=[aj C ε γ,g]/\j9 M g=some (gs.map bc,ok)/\ok M/\ic M g=some (gs.map bc)/\b_ γ gs/\Gy γ/\∀S,aE γ gs S->q (.tup [.loc (M.length+1),.loc M.length]) (M++[.lst (S.map fo),.lst ((jx S).map bc)])
def iq:Γ ["floor","goals","steps","many","drawn","place","shut"] ["floor","goals"] (τ KG):=.of rfl
def La(F:c_ K "draw" "draw" KG f fd)(E:Ev K mg Cm){zd:Addr}{Ai:FuncData}(jh:aw P w K mg base 2 "check_goals" ["floor","goals"] (pR Cm) zd Ai)(ah:fG P w K mg base 1 Cm "size" ["self"] (rT Cm) bB bG){AI:Addr}{AY:FuncData}(gX:aw P w K mg base 4 "drawn_next" ["floor","steps"] (sJ Cm) AI AY):ak P w K mg base (cF P w) 5 f fd ["floor","goals"] (cQ K (Kd Cm)):=by
 refine F.d7 iq (λds M q x h=>?_) (λbq A outer s H E' hr=>⟨_,(ζ (eL (Χ jh hr ν (Λ (jv 0) (Λ (jv 1) η))))
   (ζ (wt (i:=2) iq.nd rfl (Or.inl rfl) (ys:=["goals"]) (Μ:=[1]) (.of iq rfl rfl rfl) (vz (cf E.bP (θ (g_ ah hr ν (jv 0)) η aO))) (λC s H fp=>(uL (Bi (jv 0) (jv 1)) ο yL)))
   (ζ (χ 3 iq.nd ο)
   (ζ (χ 4 iq.nd (Χ gX hr ν (Λ (jv 0) (Λ (jv 2) η))))
   (ζ (j6 (rG (cL E.bR (Λ (jv 4) η)) ο) (ζ (b9 (aY (jv 4)) (ai (i:=5) iq.nd rfl (Or.inl rfl)) az (ι (gq (jv 2) (jv 5) (jv 3))))
   (ζ (χ 3 iq.nd (dh (jv 3) ο))
   (ι (χ 4 iq.nd (Χ gX hr ν (Λ (jv 0) (Λ (jv 2) η))))))))
   (ζ (tR (i:=6) iq.nd rfl (Or.inl rfl) (ys:=[]) (Μ:=[]) (.of iq rfl rfl rfl) (nQ E.cw (Λ (jv 2) η)) (λC s H fp=>(Bw (jv 1) yL)) (λC s H fp=>(jv 0)))
   (ι (Β (cb (Λ (jv 6) (Λ (jv 2) η))))))))))),λds M q x h=>?_⟩)
 ·have⟨ε,γ,g,gs,ok,rfl,_⟩:=h;rfl
 ·have⟨ε,γ,g,gs,ok,rfl,hg,aQ,RP,go,f,h⟩:=h;have Rh:=f.len;refine⟨ε,γ,g,gs,ok,rfl,hg,aQ,go,?_⟩;refine⟨⟨_,_,.inl rfl,rfl⟩,ε,γ,rfl,?_⟩;refine⟨⟨(),()⟩,by rw[eG];exact aat (show _<=12 by omega) @_,?_⟩;refine d_ (f:=λx=>match x with| .int j=>fo (if j.toNat∈gs then some 0 else none)| _=>.aP) trivial (λx hx q' lD=>?_) ?_
  ·have⟨j,hj',rfl⟩:=iI hx;have lD:q' (fo (if (0+(j:Int)).toNat∈gs then some 0 else none)) M:=lD;rw[show(0+(j:Int)).toNat=j by omega]at lD;rw[show(0+(j:Int))=(j:Int) by omega];refine⟨.int (j:Int),gs.map bc,_,rfl,RP,kD gs,?_⟩;rw[qw];refine⟨λz=>?_,λz=>?_⟩
   ·rw[aar (aaD z)]at lD;exact lD
   ·rw[aaq (aa3 z)]at lD;exact lD
  have e0:([]:List Dt)++(cP 0 ((γ.length:Int)).toNat).map (λx=>match x with| .int j=>fo (if j.toNat∈gs then some 0 else none)| _=>.aP)=(gB γ.length gs).map fo:=by
   unfold cP gB;rw[aaH,aaG,aaG,show((γ.length:Int)).toNat=γ.length by omega];exact abb λj _=>by show fo (if (0+(j:Int)).toNat∈gs then some 0 else none)=_;rw[show(0+(j:Int)).toNat=j by omega];rfl
  rw[e0];have d0:=Fw go f;refine⟨ε,γ,M.length,gB γ.length gs,rfl,by simp,d0.len,f,?_⟩;refine⟨λm ρ M'=>∃(S:Sp) (mm:Nat) (a b:Option Dt),Ht γ gs mm S/\1<=mm/\m=pP S/\M'=M++[.lst (S.map fo)]/\ρ=[some (aj Cm ε γ),some g,some (.loc M.length),some (.int (mm:Int)),some (.lst ((bj γ S).map bc)),a,b],⟨_,gB γ.length gs,1,none,none,d0,aai _,rfl,rfl,rfl⟩,?_⟩;rintro m ρ M' ⟨S,mm,a,b,di,m1,rfl,rfl,rfl⟩;have F_:∀p∈bj γ S,p < S.length:=λp hp=>by rw[di.len];exact(fB.mp hp).1
  have T3:∀p∈bj γ S,at_ S p=none:=λp hp=>by
   have:=(fB.mp hp).2;unfold aT at this;split at this
   ·rw[aaB]at this;exact Option.isNone_iff_eq_none.mp this.1
   ·cases this
  have Yi:(bj γ S).Nodup:=List.Pairwise.filter _ List.nodup_range;walk_at "vc";refine(aC (d:=.lst ((bj γ S).map bc)) (xs:=(bj γ S).map bc) rfl ?_:fP [.lst ((bj γ S).map bc)] _ _);refine⟨λz=>?_,λz=>?_⟩
  ·have z:((((bj γ S).map bc).length:Nat):Int) > 0:=aaD z;rw[aae]at z;refine⟨λρ' O0=>∃(a b:Option Dt),O0=M++[.lst ((cX mm (bj γ S) S).map fo)]/\ρ'=[some (aj Cm ε γ),some g,some (.loc M.length),some (.int ((mm+1:Nat):Int)),some (.lst ((bj γ (cX mm (bj γ S) S)).map bc)),a,b],?_,?_⟩
   ·rintro ρ' O0 ⟨a',b',rfl,rfl⟩;have ho:=y4 (m:=mm) (bj γ S) S Yi λp hp=>⟨F_ p hp,T3 p hp⟩;exact⟨_,(),cX mm (bj γ S) S,mm+1,a',b',u6 di m1,(),rfl,rfl,rfl⟩
   ·refine bz (i:=4) (d:=.lst ((bj γ S).map bc)) rfl rfl ?_;refine aZ (λxs ρ O0=>∃(done rest:List Nat) (a b:Option Dt),bj γ S=done++rest/\xs=rest.map bc/\O0=M++[.lst ((cX mm done S).map fo)]/\ρ=[some (aj Cm ε γ),some g,some (.loc M.length),some (.int (mm:Int)),some (.lst ((bj γ S).map bc)),a,b]) (λxs ρ O0 hj=>trivial) (λx xs ρ O0 hj fm=>?_) (λρ O0 hj=>?_) _ _ _ ⟨[],bj γ S,a,b,rfl,rfl,rfl,rfl⟩
    ·have⟨done,rest,a',b',er,ex,rfl,rfl⟩:=hj;cases rest with
     | nil=>cases ex
     | cons p rest=>
      cases ex;have hp:=F_ p (by rw[er];simp);refine⟨M.length,(p:Int),(cX mm done S).map fo,p,rfl,rfl,by simp,by rw[List.length_map,mF];exact jN hp,?_⟩;refine fm _ _ ⟨done++[p],rest,_,_,by rw[er];simp,rfl,?_,rfl⟩;rw[sy];simp[List.set_append,List.map_set];rfl
    ·have⟨done,rest,a',b',er,ex,rfl,rfl⟩:=hj;cases rest with
     | nil=>
      rw[aaV]at er;subst er;have ds:=u6 di m1;exact⟨ε,γ,M.length,cX mm (bj γ S) S,rfl,by simp,ds.len,f,_,_,rfl,rfl⟩
     | cons p rest=>cases ex
  ·have z:¬((((bj γ S).map bc).length:Nat):Int) > 0:=aa3 z;rw[aae]at z;have YU:bj γ S=[]:=List.length_eq_zero_iff.mp ();have dok:=Hb di YU;have ZQ:(M++[MO.lst (S.map fo)])[M.length]? =some (.lst (S.map fo)):=by simp
   have hlk:iA (M++[MO.lst (S.map fo)]) (.loc M.length)=some (S.map fo,λM':Ms=>M'[M.length]? =some (MO.lst (S.map fo))):=by show(match (M++[MO.lst (S.map fo)])[M.length]? with| some (MO.lst xs)=>some (xs,λM':Ms=>M'[M.length]? =some (MO.lst xs))| _=>none)=_;rw[ZQ]
   refine⟨.loc M.length,S.map fo,_,rfl,hlk,by rw[fW,aae,di.len];exact aat Rh @_,?_⟩;refine eO ZQ (λx=>match x with| .tup [_,.aP]=>true| _=>false) (λx=>match x with| .tup [i,_]=>i| _=>.aP) _ _ (λx hx q' p' h1 h2=>?_) ?_
   ·have⟨j,hj,ej⟩:=aba hx;have⟨y,hy,rfl⟩:=oR (n:=0) (i:=j) (aaf.mpr ⟨hj,ej⟩);rw[aah]at hy;have⟨o,ho,rfl⟩:=abV.mp hy;cases o with
    | none=>exact h1 rfl
    | some v=>exact h2 rfl
   ·rw[aaH,uI S 0];have e4:(jx S).map (λj=>bc (0+j))=(jx S).map bc:=abb λj _=>by rw[acd]
    rw[e4];refine⟨fI,?_⟩;have:=h S dok;rw[aag,aaJ];exact this
def nC{a b:Fr}(ha:0 < a.2)(hb:0 < b.2):a.1 * b.2<=b.1 * a.2↔val a<=val b:=by
 have e1:val a * (a.2:Rat)=a.1:=by
  have:=bI (show a.2≠0 by omega);unfold val;generalize (a.1:Rat)=x at *
  generalize (a.2:Rat)=y at *
  grind
 have e2:val b * (b.2:Rat)=b.1:=by
  have:=bI (show b.2≠0 by omega);unfold val;generalize (b.1:Rat)=x at *
  generalize (b.2:Rat)=y at *
  grind
 have p1:(0:Rat) < (a.2:Rat):=abw.mpr ha;have p2:(0:Rat) < (b.2:Rat):=abw.mpr hb;have pp:=Rat.mul_pos p1 p2;rw[<-Rat.intCast_le_intCast,aa0,aa0,<-e1,<-e2];generalize (a.2:Rat)=y at *
 generalize (b.2:Rat)=z at *
 generalize val a=u at *
 generalize val b=v at *
 constructor
 ·intro h;by_cases c:u<=v
  ·exact c
  ·have:=Rat.mul_pos (show 0 < u - v by grind) pp;grind
 ·intro h;have:=Rat.mul_le_mul_of_nonneg_right h (Rat.le_of_lt pp);grind
def oW(ns:List Fr):Fr:=ns.foldl (λf n=>if aW f n then n else f) (ns.headD (0,1))
def ow(ns:List Fr):Fr:=ns.foldl (λf n=>if aW n f then n else f) (ns.headD (0,1))
def CG:DF:=λas M q _=>∃p r k l,as=[Υ p,Υ r]/\Sz k p/\Sz l r/\k+l+1<=8000/\q (.bl (aW p r)) M
def KY:Γ ["one","other"] ["one","other"] (τ Cf):=.of rfl
def IK(F:c_ K "under" "under" Cf f fd)(E:Ev K mg Cm):ak P w K mg base (cF P w) 1 f fd ["one","other"] (cQ K CG):=by
 refine F.d7 KY (λds M q x h=>?_) (λbq A outer s H E' hr=>⟨_,(ι (Β (JJ (bY (Ε (jv 0) ο) (Ε (jv 1) ο)) (bY (Ε (jv 1) ο) (Ε (jv 0) ο))))),λds M q x h=>?_⟩)
 ·have⟨p,r,k,l,rfl,_⟩:=h;rfl
 ·have⟨p,r,k,l,rfl,hp,qc,hk,h⟩:=h;exact⟨⟨eR hp (),cM qc ()⟩,⟨eR qc (),cM hp ()⟩,h⟩
def yj(f:List Fr->Fr):DF:=λas M q _=>∃ns:List Fr,as=[.lst (ns.map Υ)]/\ns≠[]/\(∀n∈ns,Sz 1300 n)/\q (Υ (f ns)) M
def iZ:Γ ["numbers","found","number"] ["numbers"] (τ oX):=.of rfl
def zW(F:c_ K "greatest" "greatest" oX f fd)(E:Ev K mg Cm){CD:Addr}{BB:FuncData}(kE:aw P w K mg base 1 "under" ["one","other"] CG CD BB):ak P w K mg base (cF P w) 2 f fd ["numbers"] (cQ K (yj oW)):=by
 refine F.d7 iZ (λds M q x h=>?_) (λbq A outer s H E' hr=>⟨_,(ζ (χ 1 iZ.nd (Ε (jv 0) ο))
   (ζ (b9 (aY (jv 0)) (ai (i:=2) iZ.nd rfl (Or.inl rfl)) az (ι (ao (bV (Χ kE hr ν (Λ (jv 1) (Λ (jv 2) η)))) (ι (χ 1 iZ.nd (jv 2))) Η)))
   (ι (Β (jv 1))))),λds M q x h=>?_⟩)
 ·have⟨ns,rfl,_⟩:=h;rfl
 ·have⟨ns,rfl,h0,hn,h⟩:=h;have⟨n0,ns',rfl⟩:=abv h0;walk_at "vc";refine Α (d:=.lst ((n0::ns').map Υ)) rfl aN ?_;refine bz (i:=0) (d:=.lst ((n0::ns').map Υ)) rfl rfl ?_;refine aZ (λxs ρ M'=>M'=M/\∃(rest:List Fr) (f:Fr) (a:Option Dt),xs=rest.map Υ/\(∀p∈rest,Sz 1300 p)/\Sz 1300 f/\rest.foldl (λf n=>if aW f n then n else f) f=oW (n0::ns')/\ρ=[some (.lst ((n0::ns').map Υ)),some (Υ f),a]) (λxs ρ M' hj=>trivial) (λx xs ρ M' hj fm=>?_) (λρ M' hj=>?_) _ _ _ ⟨rfl,n0::ns',n0,none,rfl,hn,hn n0 aad,rfl,rfl⟩
  ·have⟨rfl,rest,f,a,ex,qM,hw,hf,rfl⟩:=hj;cases rest with
   | nil=>cases ex
   | cons p rest=>
    cases ex;have hp:=qM p aad;rw[abA]at hf;refine⟨f,p,1300,1300,rfl,hw,hp,@_,λz=>?_,λz=>?_⟩
    ·rw[z,aar rfl]at hf;exact fm _ _ ⟨rfl,rest,p,_,rfl,λp hp=>qM p (aac _ hp),hp,hf,rfl⟩
    ·rw[z,aaq @_]at hf;exact fm _ _ ⟨rfl,rest,f,_,rfl,λp hp=>qM p (aac _ hp),hw,hf,rfl⟩
  ·have⟨rfl,rest,f,a,ex,qM,hw,hf,rfl⟩:=hj;cases rest with
   | nil=>rw[<-hf]at h;exact h
   | cons p rest=>cases ex
def qF:Γ ["numbers","found","number"] ["numbers"] (τ Bl):=.of rfl
def HW(F:c_ K "least" "least" Bl f fd)(E:Ev K mg Cm){CD:Addr}{BB:FuncData}(kE:aw P w K mg base 1 "under" ["one","other"] CG CD BB):ak P w K mg base (cF P w) 2 f fd ["numbers"] (cQ K (yj ow)):=by
 refine F.d7 qF (λds M q x h=>?_) (λbq A outer s H E' hr=>⟨_,(ζ (χ 1 qF.nd (Ε (jv 0) ο))
   (ζ (b9 (aY (jv 0)) (ai (i:=2) qF.nd rfl (Or.inl rfl)) az (ι (ao (bV (Χ kE hr ν (Λ (jv 2) (Λ (jv 1) η)))) (ι (χ 1 qF.nd (jv 2))) Η)))
   (ι (Β (jv 1))))),λds M q x h=>?_⟩)
 ·have⟨ns,rfl,_⟩:=h;rfl
 ·have⟨ns,rfl,h0,hn,h⟩:=h;have⟨n0,ns',rfl⟩:=abv h0;walk_at "vc";refine Α (d:=.lst ((n0::ns').map Υ)) rfl aN ?_;refine bz (i:=0) (d:=.lst ((n0::ns').map Υ)) rfl rfl ?_;refine aZ (λxs ρ M'=>M'=M/\∃(rest:List Fr) (f:Fr) (a:Option Dt),xs=rest.map Υ/\(∀p∈rest,Sz 1300 p)/\Sz 1300 f/\rest.foldl (λf n=>if aW n f then n else f) f=ow (n0::ns')/\ρ=[some (.lst ((n0::ns').map Υ)),some (Υ f),a]) (λxs ρ M' hj=>trivial) (λx xs ρ M' hj fm=>?_) (λρ M' hj=>?_) _ _ _ ⟨rfl,n0::ns',n0,none,rfl,hn,hn n0 aad,rfl,rfl⟩
  ·have⟨rfl,rest,f,a,ex,qM,hw,hf,rfl⟩:=hj;cases rest with
   | nil=>cases ex
   | cons p rest=>
    cases ex;have hp:=qM p aad;rw[abA]at hf;refine⟨p,f,1300,1300,rfl,hp,hw,@_,λz=>?_,λz=>?_⟩
    ·rw[z,aar rfl]at hf;exact fm _ _ ⟨rfl,rest,p,_,rfl,λp hp=>qM p (aac _ hp),hp,hf,rfl⟩
    ·rw[z,aaq @_]at hf;exact fm _ _ ⟨rfl,rest,f,_,rfl,λp hp=>qM p (aac _ hp),hw,hf,rfl⟩
  ·have⟨rfl,rest,f,a,ex,qM,hw,hf,rfl⟩:=hj;cases rest with
   | nil=>rw[<-hf]at h;exact h
   | cons p rest=>cases ex
def uU{f n:Fr}(h1:0 < f.2)(h2:0 < n.2):aW f n=true↔val f < val n:=by
 unfold aW;rw[aaR];have:=nC h2 h1;constructor
 ·intro h;by_cases c:val n<=val f
  ·have:=this.mpr c;omega
  ·grind
 ·intro h;by_cases c:n.1 * f.2<=f.1 * n.2
  ·have:=this.mp c;grind
  ·omega
def mi:∀(ns:List Fr) (f:Fr),0 < f.2->(∀n∈ns,0 < n.2)->(ns.foldl (λf n=>if aW f n then n else f) f∈f::ns)/\val f<=val (ns.foldl (λf n=>if aW f n then n else f) f)/\∀n∈ns,val n<=val (ns.foldl (λf n=>if aW f n then n else f) f)
 | [],f,_,_=>⟨List.mem_cons_self,by show val f<=val f;grind,λ_ z=>nomatch z⟩
 | a::ns,f,h,hn=>by
  have ha:=hn a aad;have u:=uU h ha;rw[abA];by_cases c:aW f a=true
  ·rw[aar c];have⟨m,l,al⟩:=mi ns a ha λn z=>hn n (aac _ z);have:=u.mp c;refine⟨List.mem_cons_of_mem _ m,by grind,λn z=>?_⟩;rcases aaA.mp z with e| e
   ·rw[e];exact l
   ·exact al n e
  ·rw[aaq c];have⟨m,l,al⟩:=mi ns f h λn z=>hn n (aac _ z);have c2:¬val f < val a:=λz=>c (u.mpr z);refine⟨?_,l,λn z=>?_⟩
   ·rcases aaA.mp m with e| e
    ·rw[e];exact aad
    ·exact aac _ (aac _ e)
   ·rcases aaA.mp z with e| e
    ·rw[e];grind
    ·exact al n e
def lF:∀(ns:List Fr) (f:Fr),0 < f.2->(∀n∈ns,0 < n.2)->(ns.foldl (λf n=>if aW n f then n else f) f∈f::ns)/\val (ns.foldl (λf n=>if aW n f then n else f) f)<=val f/\∀n∈ns,val (ns.foldl (λf n=>if aW n f then n else f) f)<=val n
 | [],f,_,_=>⟨List.mem_cons_self,by show val f<=val f;grind,λ_ z=>nomatch z⟩
 | a::ns,f,h,hn=>by
  have ha:=hn a aad;have u:=uU ha h;rw[abA];by_cases c:aW a f=true
  ·rw[aar c];have⟨m,l,al⟩:=lF ns a ha λn z=>hn n (aac _ z);have:=u.mp c;refine⟨List.mem_cons_of_mem _ m,by grind,λn z=>?_⟩;rcases aaA.mp z with e| e
   ·rw[e];exact l
   ·exact al n e
  ·rw[aaq c];have⟨m,l,al⟩:=lF ns f h λn z=>hn n (aac _ z);have c2:¬val a < val f:=λz=>c (u.mpr z);refine⟨?_,l,λn z=>?_⟩
   ·rcases aaA.mp m with e| e
    ·rw[e];exact aad
    ·exact aac _ (aac _ e)
   ·rcases aaA.mp z with e| e
    ·rw[e];grind
    ·exact al n e
def fH(k:Str):Rat:=if k="one" then 1 else -1
structure FR(ε:Fr)(γ:List Rw):Prop where
 pl:RX ε γ
 n1:1<=γ.length
 Yi:∀k ds,Rw.ω k ds∈γ->Θ k=true->∀d∈ds,d.2.2=[]
def eB(γ:List Rw)(i:Nat):Rw:=γ.getD i (.fin (0,1))
def rw_at{γ:List Rw}(h:i < γ.length):γ[i]? =some (eB γ i):=by unfold eB;rw[aab,aaa h];rfl
def cN{γ:List Rw}{r:Rw}(hi:γ[i]? =some r):eB γ i=r:=by unfold eB;rw[aab,hi];rfl
def FR.Q2{ε:Fr}{γ:List Rw}(h:FR ε γ):Gy γ:=⟨h.pl.len,h.pl.row⟩
def xX{ds:List ba}(o:y8 (ds.map ξ)):∀d∈ds,0 < cV d:=λd hd=>by
 have hm:ξ d∈ds.map ξ:=aam.mpr ⟨d,hd,rfl⟩;have⟨_,_,hB⟩:=gy (ds.map ξ) 1 0 @_ (abZ _) λc hc=>⟨(o.Gs.2 c hc).1,abZ _⟩;have e:=BX (o.Gs.2 _ hm).1 (hB _ hm);have p:(0:Rat) < ((j0 (bt (ds.map ξ)) (ξ d):Int):Rat):=abw.mpr (o.pos _ hm);have b0:(0:Rat) < ((bt (ds.map ξ):Int):Rat):=abw.mpr o.b0;have e:((j0 (bt (ds.map ξ)) (ξ d):Int):Rat)=val (ξ d) * ((bt (ds.map ξ):Int):Rat):=e;rw[e]at p;show 0 < val (ξ d);by_cases z:0 < val (ξ d)
 ·exact z
 ·have:=Rat.mul_nonneg (show 0<= -val (ξ d) by grind) (Rat.le_of_lt b0);grind
structure Z3(n:Nat)(B:Int)(d:ba):Prop where
 to:0<=d.1/\d.1 < n
 one:d.2.2=[ξ d]
 ch:Ch B (ξ d)
 p:0 < cV d
section
variable{ε:Fr}{γ:List Rw}{acc acc':Pl}{tb tb':List Fr}{k:Str}{ds:List ba}
def j7(fr:FR ε γ)(hi:γ[i]? =some (.ω k ds))(hh:Θ k=true)(gj:Τ acc i=some (j:Int))(jl:j < ds.length):eW acc i (.ω k ds)=[(ds[j].1,ds[j].2.1,[(1,1)])]:=by
 have gd:ds.getD j d0=ds[j]:=by rw[aab,aaa jl];rfl
 unfold eW;rw[gj];show[((ds.getD ((j:Int)).toNat d0).1,(ds.getD ((j:Int)).toNat d0).2.1,(ds.getD ((j:Int)).toNat d0).2.2++[(1,1)])]=_;rw[aaU,gd,fr.Yi k ds (aaj hi) hh _ (aan jl)];rfl
def pW:val ((1,1):Fr)=1:=by show((1:Int):Rat) / ((1:Int):Rat)=1;grind
def l3:val ((0,1):Fr)=0:=by show((0:Int):Rat) / ((1:Int):Rat)=0;grind
def FR.Ρ(fr:FR ε γ)(dk:oq γ acc)(hi:γ[i]? =some (.ω k ds)):(eW acc i (.ω k ds)).length<=6/\ay cV (eW acc i (.ω k ds))=1/\∃B,0 < B/\B<=1000000/\∀d∈eW acc i (.ω k ds),Z3 γ.length B d:=by
 have rm:Rw.ω k ds∈γ:=aaj hi;have dr:=cW fr.pl rm;cases hh:Θ k with
 | true=>
  have⟨j,hj,jl⟩:=dk.hand i _ hi hh;have jl:j < ds.length:=jl;have v1:cV (ds[j].1,ds[j].2.1,[((1,1):Fr)])=1:=pW;rw[j7 fr hi hh hj jl];refine⟨by simp,?_,1,@_,@_,λd hd=>?_⟩
  ·show cV (ds[j].1,ds[j].2.1,[(1,1)])+0=1;rw[v1];grind
  ·rw[abm.mp hd];refine⟨dr.to ds[j] (List.getElem_mem jl),rfl,?_,by rw[v1];grind⟩;show Ch 1 ((1,1):Fr);exact⟨@_,⟨1,@_⟩,⟨@_,@_⟩,wU (k:=2) ⟨@_,@_,@_⟩ @_⟩
 | false=>
  have hc:k="chance"/\y8 (ds.map ξ):=by
   rcases dr.kd with z| ⟨_,z⟩
   ·rw[z]at hh;cases hh
   ·exact z
  have⟨rfl,co⟩:=hc;have e:eW acc i (.ω "chance" ds)=ds:=by unfold eW;rw[dk.GF i _ hi hh];rfl
  rw[e];refine⟨dr.l6,(MK co).1,bt (ds.map ξ),co.b0,co.b1,λd hd=>?_⟩;have⟨a,b,c,f⟩:=Dw co (aam.mpr ⟨d,hd,rfl⟩);exact⟨dr.to d hd,(dr.ro.2.2.1 rfl).1 d hd,⟨a,Iw b,c,f⟩,xX co d hd⟩
def qH(S:Sp)(i:Nat):Prop:=∃s,at_ S i=some (s+1)
def gH(γ:List Rw)(S:Sp)(acc:Pl)(i:Nat):List ba:=match at_ S i with
 | some (_+1)=>eW acc i (eB γ i)
 | _=>[]
def oz(S:Sp)(i:Nat):Fr:=match at_ S i with
 | some 0=>(1,1)
 | _=>(0,1)
def jM(h:qH S i):gH γ S acc i=eW acc i (eB γ i):=by have⟨s,e⟩:=h;unfold gH;rw[e]
def qS(h:¬qH S i):gH γ S acc i=[]:=by
 unfold gH;split
 ·rename_i s e;exact aaC ⟨s,e⟩ h
 ·rfl
def ND(h:qH S i):oz S i=(0,1):=by have⟨s,e⟩:=h;unfold oz;rw[e];rfl
def jZ(dr:aE γ gs S)(il:i < γ.length)(h:qH S i):∃k ds,γ[i]? =some (.ω k ds):=by
 have hi:=rw_at il;have⟨s,e⟩:=h;have:=dr.2 i _ hi;cases hr:eB γ i with
 | ω k ds=>rw[hr]at hi;exact⟨k,ds,hi⟩
 | fin p=>
  rw[hr]at this;have this:at_ S i=if i∈gs then some 0 else none:=this
  rw[e]at this;split at this <;> cases this
def pj(fr:FR ε γ)(dk:oq γ acc)(dr:aE γ gs S)(il:i < γ.length)(h:qH S i):(gH γ S acc i).length<=6/\ay cV (gH γ S acc i)=1/\∃B,0 < B/\B<=1000000/\∀d∈gH γ S acc i,Z3 γ.length B d:=by have⟨k,ds,hi⟩:=jZ dr il h;rw[jM h,cN hi];exact fr.Ρ dk hi
def Ny{p:Fr}(e0:0 < E)(h:p=(0,1)\/p=(1,1)):Nr E 7 p:=by
 rcases h with rfl| rfl
 ·exact⟨⟨@_,@_⟩,⟨0,by simp⟩,⟨@_,@_⟩⟩
 ·exact⟨⟨@_,@_⟩,⟨E,by simp⟩,⟨@_,@_⟩⟩
def Jq:oz S i=(0,1)\/oz S i=(1,1):=by
 unfold oz;split
 ·exact .inr rfl
 ·exact .inl rfl
def Pw(fr:FR ε γ)(dk:oq γ acc)(dr:aE γ gs S)(il:i < γ.length):∃E,CS (1,1) γ.length E 7 (gH γ S acc i) (oz S i)/\7 * E<=7000000/\SzE E 7/\(∀d∈gH γ S acc i,∃c,d.2.2=[c])/\∀d∈gH γ S acc i,Sz 300 (ξ d):=by
 by_cases h:qH S i
 ·have⟨l6,one,B,b0,b1,hw⟩:=pj (acc:=acc) fr dk dr il h;generalize gH γ S acc i=ws at *
  refine⟨B,⟨⟨λd hd=>(hw d hd).to,λd hd=>Rat.le_of_lt (hw d hd).p,by rw[one];grind⟩,λd hd=>⟨@_,⟨@_,@_⟩,(hw d hd).ch.pos,(hw d hd).ch.u,?_⟩,Ny b0 Jq,b0,()⟩,(),⟨Int.lt_of_le_of_lt b1 @_,@_⟩,λd hd=>⟨_,(hw d hd).one⟩,λd hd=>(hw d hd).ch.sz⟩;have:=BU @_ (hw d hd).ch.pos (FL ((1,1):Fr)) (hw d hd).ch.he;rwa[Int.one_mul]at this
 ·rw[qS h];exact⟨1,⟨⟨λ_ z=>(nomatch z),λ_ z=>(nomatch z),by show(0:Rat)<=1;grind⟩,λ_ z=>(nomatch z),Ny @_ Jq,@_,by show 1+0<=(7:Int);decide⟩,@_,⟨@_,@_⟩,λ_ z=>(nomatch z),λ_ z=>(nomatch z)⟩
def x5{z:ba->Rat}{m:Rat}:∀{Ρ:List ba},(∀d∈Ρ,0 < cV d)->(∀d∈Ρ,z d<=m)->ay (λd=>cV d * z d) Ρ<=ay cV Ρ * m
 | [],_,_=>by show(0:Rat)<=0 * m;grind
 | a::Ρ,h1,h2=>by have ih:=x5 (Ρ:=Ρ) (λd hd=>h1 d (aac _ hd)) (λd hd=>h2 d (aac _ hd));have:=Rat.mul_le_mul_of_nonneg_left (h2 a aad) (Rat.le_of_lt (h1 a aad));show cV a * z a+ay (λd=>cV d * z d) Ρ<=(cV a+ay cV Ρ) * m;grind
def AQ{z:ba->Rat}{m:Rat}:∀{Ρ:List ba},(∀d∈Ρ,0 < cV d)->(∀d∈Ρ,z d<=m)->ay cV Ρ * m<=ay (λd=>cV d * z d) Ρ->∀d∈Ρ,z d=m
 | a::Ρ,h1,h2,h,d,hd=>by
  have le:=x5 (Ρ:=Ρ) (λd hd=>h1 d (aac _ hd)) (λd hd=>h2 d (aac _ hd));have ca:=h1 a aad;have za:=h2 a aad;have h:(cV a+ay cV Ρ) * m<=cV a * z a+ay (λd=>cV d * z d) Ρ:=h;have la:=Rat.mul_le_mul_of_nonneg_left za (Rat.le_of_lt ca);rcases aaA.mp hd with e| e
  ·rw[e];by_cases c:z a=m
   ·exact c
   ·have:=Rat.mul_pos ca (show 0 < m - z a by grind);grind
  ·exact AQ (λd hd=>h1 d (List.mem_cons_of_mem _ hd)) (λd hd=>h2 d (List.mem_cons_of_mem _ hd)) (by grind) d e
def kT(c:Rat)(f:ba->Rat):∀ds:List ba,ay (λd=>c * f d) ds=c * ay f ds
 | []=>by show(0:Rat)=c * 0;grind
 | d::ds=>by show c * f d+ay (λd=>c * f d) ds=c * (f d+ay f ds);rw[kT c f ds];grind
def BL(C:Nat->Prop)(x:Nat->Rat):∀n,(∃i,i < n/\C i)->∃i,i < n/\C i/\∀j,j < n->C j->x j<=x i
 | 0,⟨i,h,_⟩=>aaC h (abF _)
 | n +1,⟨i,h,hc⟩=>by
  by_cases e:∃i,i < n/\C i
  ·have⟨t,tl,tc,tm⟩:=BL C x n e;by_cases c:C n/\x t<=x n
   ·refine⟨n,(),c.1,λj jl jc=>?_⟩;by_cases ej:j=n
    ·rw[ej];grind
    ·have:=tm j () jc;grind
   ·refine⟨t,(),tc,λj jl jc=>?_⟩;by_cases ej:j=n
    ·subst ej;have:¬x t<=x j:=λz=>c ⟨jc,z⟩;grind
    ·exact tm j () jc
  ·have hi:i=n:=by
    by_cases ei:i=n
    ·exact ei
    ·exact aaC ⟨i,(),hc⟩ e
   subst hi;refine⟨i,(),hc,λj jl jc=>?_⟩;by_cases ej:j=i
   ·rw[ej];grind
   ·exact aaC ⟨j,(),jc⟩ e
def Nx(γ:List Rw)(S:Sp)(acc:Pl):Prop:=∀C:Nat->Prop,(∀i,i < γ.length->C i->qH S i/\∀d∈gH γ S acc i,C d.1.toNat)->∀i,i < γ.length->¬C i
def GZ(fr:FR ε γ)(dk:oq γ acc)(dr:aE γ gs S)(pr:Nx γ S acc){y:Nat->Rat}(h:∀i,i < γ.length->qH S i->y i<=ay (λd=>cV d * y d.1.toNat) (gH γ S acc i))(h0:∀i,i < γ.length->¬qH S i->y i<=0):∀i,i < γ.length->y i<=0:=λi il=>by
 have⟨t,tl,_,tm⟩:=BL (λ_=>True) y γ.length ⟨i,il,trivial⟩;by_cases c:y t<=0
 ·have:=tm i il trivial;grind
 ·refine aaC ⟨tl,rfl⟩ (pr (λj=>j < γ.length/\y j=y t) (λj jl hj=>?_) t tl);have e:=hj.2;have sj:qH S j:=by
   by_cases z:qH S j
   ·exact z
   ·have:=h0 j jl z;grind
  refine⟨sj,λd hd=>?_⟩;have⟨_,one,B,_,_,hw⟩:=pj (acc:=acc) fr dk dr jl sj;have tn:∀d∈gH γ S acc j,d.1.toNat < γ.length:=λd hd=>by have:=(hw d hd).to;omega
  exact⟨tn d hd,AQ (z:=λd=>y d.1.toNat) (m:=y t) (λd hd=>(hw d hd).p) (λd hd=>tm _ (tn d hd) trivial) (by rw[one,Rat.one_mul,<-e];exact h j jl sj) d hd⟩
def yP(f:ba->Rat)(ds:List ba):ay (λd=> -f d) ds= -ay f ds:=by rw[show(λd=> -f d)=λd=>(-1:Rat) * f d by funext d;grind,kT];grind
def Ro(fr:FR ε γ)(dk:oq γ acc)(dr:aE γ gs S)(pr:Nx γ S acc):Sys (1,1) γ.length 7000000 (gH γ S acc) (oz S):=by
 refine⟨fr.n1,@_,λi il=>?_,λ{y} h=>?_⟩
 ·have⟨E,p,l,_⟩:=Pw (acc:=acc) fr dk dr il;exact⟨E,7,p,l⟩
 ·have h:∀k,k < γ.length->y k=ay (λd=>cV d * y d.1.toNat) (gH γ S acc k):=λk kl=>by have:=h k kl;rw[pW,Rat.one_mul]at this;exact this
  have z:∀k,k < γ.length->¬qH S k->y k=0:=λk kl ns=>by have:=h k kl;rw[qS ns]at this;exact this
  have a:=GZ fr dk dr pr (y:=y) (λi il _=>by rw[<-h i il];grind) λi il ns=>by rw[z i il ns];grind
  have b:=GZ fr dk dr pr (y:=λi=> -y i) (λi il _=>by
   have e:(λd:ba=>cV d * -y d.1.toNat)=λd=> -(cV d * y d.1.toNat):=by funext d;grind
   rw[e,yP,<-h i il];grind) λi il ns=>by rw[z i il ns];grind
  intro k kl;have:=a k kl;have:=b k kl;grind
structure qL(γ:List Rw)(S:Sp)(acc:Pl)(tb:List Fr):Prop where
 tab:Tab (1,1) γ.length (gH γ S acc) (oz S) tb
 bot:∀i,i < γ.length->(tb.getD i (0,1)).2 < 2 ^ 400
abbrev V_(tb:List Fr)(i:Nat):Rat:=val (tb.getD i (0,1))
def qL.st(h:qL γ S acc tb)(il:i < γ.length)(s:qH S i):V_ tb i=ay (λd=>cV d * V_ tb d.1.toNat) (gH γ S acc i):=by have:=h.tab.eq i il;rw[ND s,l3,pW]at this;show val (tb.getD i (0,1))=_;rw[this];grind
def qL.no(h:qL γ S acc tb)(il:i < γ.length)(s:¬qH S i):V_ tb i=val (oz S i):=by have:=h.tab.eq i il;rw[qS s]at this;show val (tb.getD i (0,1))=_;rw[this];show val (oz S i)+val (1,1) * 0=_;grind
def Rp(fr:FR ε γ)(Vk:oq γ acc')(dr:aE γ gs S)(Gq:Nx γ S acc')(h:qL γ S acc tb)(h':qL γ S acc' tb'){sg:Rat}(hs:∀i,i < γ.length->qH S i->sg * V_ tb i<=sg * ay (λd=>cV d * V_ tb d.1.toNat) (gH γ S acc' i)):(∀i,i < γ.length->sg * V_ tb i<=sg * V_ tb' i)/\∀i,i < γ.length->qH S i->sg * V_ tb i < sg * ay (λd=>cV d * V_ tb d.1.toNat) (gH γ S acc' i)->sg * V_ tb i < sg * V_ tb' i:=by
 have e:∀i,ay (λd=>cV d * (sg * V_ tb d.1.toNat - sg * V_ tb' d.1.toNat)) (gH γ S acc' i)=sg * ay (λd=>cV d * V_ tb d.1.toNat) (gH γ S acc' i) - sg * ay (λd=>cV d * V_ tb' d.1.toNat) (gH γ S acc' i):=λi=>by rw[<-kT,<-kT,<-nM];exact mC λd _=>by grind
 have le:=GZ fr Vk dr Gq (y:=λi=>sg * V_ tb i - sg * V_ tb' i) (λi il st=>by
  have a:=hs i il st;have b:=h'.st il st;rw[e]
  grind) λi il ns=>by
  have a:=h.no il ns;have b:=h'.no il ns;grind
 refine⟨λi il=>by have:=le i il;grind,λi il st lt=>?_⟩;have⟨_,one,B,_,_,hw⟩:=pj (acc:=acc') fr Vk dr il st;have m:=x5 (z:=λd=>sg * V_ tb d.1.toNat - sg * V_ tb' d.1.toNat) (m:=0) (Ρ:=gH γ S acc' i) (λd hd=>(hw d hd).p) λd hd=>le _ (by have:=(hw d hd).to;omega);rw[e]at m;have b:=h'.st il st;grind
def qL.unit(fr:FR ε γ)(dk:oq γ acc)(dr:aE γ gs S)(pr:Nx γ S acc)(h:qL γ S acc tb):∀i,i < γ.length->0<=V_ tb i/\V_ tb i<=1:=by
 have g:∀i,0<=val (oz S i)/\val (oz S i)<=1:=λi=>by
  rcases Jq (S:=S) (i:=i) with e| e <;> rw[e]
  ·rw[l3];grind
  ·rw[pW];grind
 have a:=GZ fr dk dr pr (y:=λi=> -V_ tb i) (λi il st=>by
  have e:(λd:ba=>cV d * -V_ tb d.1.toNat)=λd=> -(cV d * V_ tb d.1.toNat):=by funext d;grind
  rw[e,yP,<-h.st il st];grind) λi il ns=>by
  have:=h.no il ns;have:=g i;grind
 have b:=GZ fr dk dr pr (y:=λi=>V_ tb i - 1) (λi il st=>by
  have e:(λd:ba=>cV d * (V_ tb d.1.toNat - 1))=λd=>cV d * V_ tb d.1.toNat - cV d:=by funext d;grind
  rw[e,nM,(pj (acc:=acc) fr dk dr il st).2.1,<-h.st il st];grind) λi il ns=>by
  have:=h.no il ns;have:=g i;grind
 intro i il;have:=a i il;have:=b i il;grind
def qL.sz(fr:FR ε γ)(dk:oq γ acc)(dr:aE γ gs S)(pr:Nx γ S acc)(h:qL γ S acc tb)(il:i < γ.length):Red (tb.getD i (0,1))/\0<=(tb.getD i (0,1)).1/\(tb.getD i (0,1)).1<=(tb.getD i (0,1)).2/\Sz 400 (tb.getD i (0,1)):=by
 have r:=h.tab.red i il;have u:0<=val (tb.getD i (0,1))/\val (tb.getD i (0,1))<=1:=h.unit fr dk dr pr i il;have b:=h.bot i il;generalize tb.getD i (0,1)=p at *
 have p0:=r.pos;have u0:=(nC (a:=(0,1)) (b:=p) @_ p0).mpr (by rw[l3];exact u.1);have u1:=(nC (a:=p) (b:=(1,1)) p0 @_).mpr (by rw[pW];exact u.2);have u0:(0:Int) * p.2<=p.1 * 1:=u0;have u1:p.1 * 1<=1 * p.2:=u1;have c0:0<=p.1:=()
 have c1:p.1<=p.2:=()
 refine⟨r,c0,c1,?_,p0,?_⟩
 ·have:(p.1.natAbs:Int) < ((2 ^ 400:Nat):Int):=by rw[abf c0];exact abh c1 b
  exact abS.mp this
 ·have:(p.2.natAbs:Int) < ((2 ^ 400:Nat):Int):=by rw[abf (aav p0)];exact b
  exact abS.mp this
end
def kG{i:Int}:∀{pl:Pl},i∉pl.map (·.1)->Τ pl i=none
 | [],_=>rfl
 | p::r,h=>by unfold Τ;rw[aaq λz=>h (by rw[<-z];exact aad)];exact kG λz=>h (aac _ z)
def eU(γ:List Rw)(i:Nat):Str:=match γ[i]? with
 | some r=>kindOf r
 | none=>""
def fR(γ:List Rw)(hand:Str):List Nat:=(List.range γ.length).filter λi=>decide (eU γ i=hand)
def BI(γ:List Rw)(hand:Str):Pl:=(fR γ hand).map λi:Nat=>((i:Int),0)
def B7(p:Nat->Bool)(n:Nat):((cP 0 n).filter λx=>match x with| .int j=>p j.toNat| _=>false)=((List.range n).filter p).map λi:Nat=>Dt.int i:=by
 unfold cP;rw[List.filter_map];have e:((λx:Dt=>match x with| .int j=>p j.toNat| _=>false) ∘ λi:Nat=>Dt.int (0+(i:Int)))=p:=funext λi=>by show p (0+(i:Int)).toNat=p i;rw[show(0+(i:Int)).toNat=i by omega]
 rw[e];exact abb λi _=>by show Dt.int (0+(i:Int))=Dt.int i;rw[Int.zero_add]
def wL(A:Addr):DF:=λas M q _=>∃(ε:Fr) (γ:List Rw) (hand:Str),as=[aj A ε γ,.str hand]/\γ.length<=12/\q (.lst ((fR γ hand).map λi:Nat=>Dt.int i)) M
def r6:Γ ["floor","hand"] ["floor","hand"] (τ oV):=.of rfl
def yC(F:c_ K "places_of" "places_of" oV f fd)(E:Ev K mg Cm)(ah:fG P w K mg base 1 Cm "size" ["self"] (rT Cm) bB bG)(ae:fG P w K mg base 1 Cm "kind" ["self","place"] (sU Cm) bC bF):ak P w K mg base (cF P w) 2 f fd ["floor","hand"] (cQ K (wL Cm)):=by
 refine F.d7 r6 (λds M q x h=>?_) (λbq A outer s H E' hr=>⟨_,(ι (Β (zD (ys:=["hand","floor"]) (Μ:=[1,0]) (.of r6 rfl rfl rfl) (vz (cf E.bP (θ (g_ ah hr ν (jv 0)) η aO))) (λC s H fp=>(d9 hr (gE ae hr (eE (P:=P) (w:=w)) (jv 2) (Λ (jv 0) η)) (jv 1))) (λC s H fp=>(jv 0))))),λds M q x h=>?_⟩)
 ·have⟨ε,γ,hand,rfl,_⟩:=h;rfl
 ·have⟨ε,γ,hand,rfl,r_,h⟩:=h;have sl:∀{z:Nat},z<=1000->z<=sizeLine:=λh=>aat h @_;walk_at "vc";dsimp only[JH,kOf];walk_at "vc";refine⟨⟨_,_,.inl rfl,rfl⟩,ε,γ,rfl,?_⟩;refine⟨(),by rw[eG];exact sl (),?_⟩;rw[show((γ.length:Int)).toNat=γ.length by omega];refine eO trivial (λx=>match x with| .int j=>decide (eU γ j.toNat=hand)| _=>false) (λx=>x) _ _ (λx hx q' p' h1 h2=>?_) ?_
  ·have⟨j,hj,rfl⟩:=iI hx;rw[Int.zero_add]at h1 h2⊢;have hr:γ[j]? =some γ[j]:=aaa hj;have PJ:eU γ j=kindOf γ[j]:=by unfold eU;rw[hr]
   have h1:decide (eU γ j=hand)=true->q' (.int (j:Int)) M:=h1;have h2:decide (eU γ j=hand)=false->p' M:=h2;rw[PJ]at h1 h2;refine⟨⟨_,_,.inl rfl,rfl⟩,ε,γ,j,γ[j],rfl,hr,?_⟩;show(match decide (kindOf γ[j]=hand) with| true=>q' (.int (j:Int)) M| false=>p' M);cases hb:decide (kindOf γ[j]=hand) with
   | true=>exact h1 hb
   | false=>exact h2 hb
  ·rw[aaH,List.map_id'];exact(λ(key:∀l,l=(fR γ hand).map (λi:Nat=>Dt.int i)->q (.lst l) M)=>key _ (B7 (λi=>decide (eU γ i=hand)) γ.length)) λl hl=>by rw[hl];exact h
def Dq(A:Addr):DF:=λas M q _=>∃(ε:Fr) (γ:List Rw) (hand:Str),as=[aj A ε γ,.str hand]/\γ.length<=12/\q (.loc M.length) (M++[dP (BI γ hand)])
def jS:Γ ["floor","hand","plan","place"] ["floor","hand"] (τ lU):=.of rfl
def wC(F:c_ K "first_plan" "first_plan" lU f fd)(E:Ev K mg Cm){oF:Addr}{n_:FuncData}(e6:aw P w K mg base 2 "places_of" ["floor","hand"] (wL Cm) oF n_):ak P w K mg base (cF P w) 3 f fd ["floor","hand"] (cQ K (Dq Cm)):=by
 refine F.d7 jS (λds M q x h=>?_) (λbq A outer s H E' hr=>⟨_,(ζ (χ 2 jS.nd B_)
   (ζ (b9 (aY (Χ e6 hr ν (Λ (jv 0) (Λ (jv 1) η)))) (ai (i:=3) jS.nd rfl (Or.inl rfl)) az (ι (qB hr (jv 2) (jv 3) ο)))
   (ι (Β (jv 2))))),λds M q x h=>?_⟩)
 ·have⟨ε,γ,hand,rfl,_⟩:=h;rfl
 ·have⟨ε,γ,hand,rfl,r_,h⟩:=h;have Jo:(fR γ hand).length<=12:=by have:=List.length_filter_le (λi=>decide (eU γ i=hand)) (List.range γ.length);rw[aa8]at this;unfold fR;omega
  have Ta:(fR γ hand).Nodup:=List.nodup_range.filter _;walk_at "vc";dsimp only[pQ,eJ];walk_at "vc";refine⟨ε,γ,hand,rfl,r_,?_⟩;refine aZ (λxs ρ' M'=>∃(cv rest:List Nat) (o3:Option Dt),fR γ hand=cv++rest/\xs=rest.map (λi:Nat=>Dt.int i)/\M'=M++[dP (cv.map λi:Nat=>((i:Int),0))]/\ρ'=[some (aj Cm ε γ),some (.str hand),some (.loc M.length),o3]) (λxs ρ' M' hj=>trivial) (λx xs ρ' M' hj fm=>?_) (λρ' M' hj=>?_) _ _ _ ⟨[],fR γ hand,none,rfl,rfl,rfl,rfl⟩
  ·have⟨cv,rest,o3,e,ex,rfl,rfl⟩:=hj;cases rest with
   | nil=>cases ex
   | cons i rest=>
    cases ex;have dl:cv.length<=12:=by have:=aaP List.length e;rw[aag]at this;omega
    dsimp only[o7];walk_at "vc";refine⟨M.length,_,_,Sum.inl (i:Int),rfl,aL,rfl,by unfold kP;rw[List.length_map,List.length_map];omega,?_⟩;rw[zV (v:=0),Ed,eI];have gn:Τ (cv.map λi:Nat=>((i:Int),0)) (i:Int)=none:=kG λy=>by
     rw[aaG]at y;have⟨j,hj,ej⟩:=aam.mp y;have ej:(j:Int)=(i:Int):=ej;have:j=i:=()
     subst this;rw[e,ab1]at Ta;exact Ta.2.2 _ hj _ aad rfl
    refine fm _ _ ⟨cv++[i],rest,_,by rw[e,aaJ];rfl,rfl,?_,rfl⟩;unfold jG;rw[gn,aaq @_,aaW];rfl
  ·have⟨cv,rest,o3,e,ex,rfl,rfl⟩:=hj;have:rest=[]:=by cases rest with| nil=>rfl| cons p r=>cases ex
   subst this;rw[aaV]at e;rw[<-e];exact h
def aI:Pl->Pl->Pl
 | p,[]=>p
 | p,e::r=>aI (jG p e.1 e.2) r
def D6:∀{r p:Pl},qa (kP p) (kP r)=kP (aI p r)
 | [],p=>rfl
 | e::r,p=>by show qa (gM (kP p) (Sum.inl e.1)) (kP r)=kP (aI (jG p e.1 e.2) r);rw[zV (v:=e.2)];exact D6
def DY:∀{r p:Pl},sG (kP p) (vP p) (kP r) (vP r)=vP (aI p r)
 | [],p=>rfl
 | e::r,p=>by show sG (gM (kP p) (Sum.inl e.1)) (eV (kP p) (Sum.inl e.1) (vP p) (.int e.2)) (kP r) (vP r)=vP (aI (jG p e.1 e.2) r);rw[zV (v:=e.2),Ed];exact DY
def kK{i:Int}:∀{r p:Pl},IQ r->Τ (aI p r) i=match Τ r i with| some v=>some v| none=>Τ p i
 | [],p,_=>rfl
 | e::r,p,nd=>by
  unfold IQ at nd;rw[aaM,abz]at nd;have ih:=kK (i:=i) (r:=r) (p:=jG p e.1 e.2) nd.2;show Τ (aI (jG p e.1 e.2) r) i=match (if e.1=i then some e.2 else Τ r i) with| some v=>some v| none=>Τ p i
  rw[ih,Lj];by_cases h:e.1=i
  ·have hn:Τ r i=none:=by
    cases hg:Τ r i with
    | none=>rfl
    | some v=>exact aaC (aam.mpr ⟨_,Ee hg,h.symm⟩) nd.1
   rw[hn,aar h,aar h.symm]
  ·rw[aaq h,aaq (Ne.symm h)]
def aa:List (Int×Nat)->Pl->Prop
 | [],[]=>True
 | (k,c)::r,(k',v)::p=>k=k'/\0<=v/\v < c/\aa r p
 | _,_=>False
def MT:List (Int×Nat)->List Pl
 | []=>[[]]
 | (k,c)::r=>(List.range c).flatMap λj:Nat=>(MT r).map λp=>(k,(j:Int))::p
def sQ:∀{kc:List (Int×Nat)} {p:Pl},aa kc p->p∈MT kc
 | [],[],_=>abm.mpr rfl
 | (k,c)::r,(k',v)::p,h=>by have⟨rfl,v0,v1,h⟩:=h;refine List.mem_flatMap.mpr ⟨v.toNat,aa9.mpr (),aam.mpr ⟨p,sQ h,?_⟩⟩;rw[Int.toNat_of_nonneg v0]
 | [],_::_,h=>h.elim
 | _::_,[],h=>h.elim
def cJ:∀{kc:List (Int×Nat)} {p:Pl},aa kc p->p.map (·.1)=kc.map (·.1)
 | [],[],_=>rfl
 | (k,c)::r,(k',v)::p,h=>by have⟨rfl,_,_,h⟩:=h;rw[aaM,aaM,cJ h]
 | [],_::_,h=>h.elim
 | _::_,[],h=>h.elim
def yu:∀{kc:List (Int×Nat)} {p:Pl} {i v:Int},aa kc p->Τ p i=some v->∃c,(i,c)∈kc/\0<=v/\v < (c:Int)
 | [],[],_,_,_,h=>by cases h
 | (k,c)::r,(k',v')::p,i,v,h,g=>by
  have⟨rfl,v0,v1,h⟩:=h;unfold Τ at g;split at g
  ·rename_i e;have e:k=i:=e;cases g;exact⟨c,by rw[<-e];exact aad,v0,v1⟩
  ·have⟨c',m,a⟩:=yu h g;exact⟨c',aac _ m,a⟩
 | [],_::_,_,_,h,_=>h.elim
 | _::_,[],_,_,h,_=>h.elim
def Ac:∀{kc:List (Int×Nat)} {p:Pl} {i v:Int},aa kc p->(∀c,(i,c)∈kc->0<=v/\v < (c:Int))->aa kc (p.map λq=>if q.1=i then (q.1,v) else q)
 | [],[],_,_,_,_=>trivial
 | (k,c)::r,(k',v')::p,i,v,h,g=>by
  have⟨rfl,v0,v1,h⟩:=h;have ih:=Ac h λc hc=>g c (aac _ hc);show aa ((k,c)::r) ((if k=i then (k,v) else (k,v'))::p.map λq=>if q.1=i then (q.1,v) else q);by_cases e:k=i
  ·rw[aar e];have:=g c (by rw[<-e];exact aad);exact⟨rfl,this.1,this.2,ih⟩
  ·rw[aaq e];exact⟨rfl,v0,v1,ih⟩
 | [],_::_,_,_,h,_=>h.elim
 | _::_,[],_,_,h,_=>h.elim
def sV{i:Int}:∀{p:Pl},i∈p.map (·.1)->(Τ p i).isSome=true
 | q::p,h=>by
  unfold Τ;split
  ·rfl
  ·rcases aaA.mp h with e| e
   ·rename_i ne;exact aaC e.symm ne
   ·exact sV e
def HJ{kc:List (Int×Nat)}{p:Pl}{i v:Int}(h:aa kc p)(hk:i∈kc.map (·.1))(g:∀c,(i,c)∈kc->0<=v/\v < (c:Int)):aa kc (jG p i v):=by unfold jG;rw[aar (sV (by rw[cJ h];exact hk))];exact Ac h g
def Bs{α:Type}{P Q:α->Bool}:∀{l:List α},(∀a∈l,P a=true->Q a=true)->∀{b:α},b∈l->Q b=true->P b=false->l.countP P < l.countP Q
 | a::l,h,b,hb,hq,hp=>by
  have le:l.countP P<=l.countP Q:=List.countP_mono_left λx hx=>h x (aac _ hx);rw[List.countP_cons,List.countP_cons];rcases aaA.mp hb with e| e
  ·subst e;rw[hq,hp];show l.countP P+0 < l.countP Q+1;omega
  ·have:=Bs (λx hx=>h x (aac _ hx)) e hq hp;have ha:=h a aad;cases hP:P a with
   | false=>rw[aaq @_];split <;> omega
   | true=>rw[ha hP,aar rfl];omega
def C2{f g:Nat->Rat}:∀{n:Nat},(∀i,i < n->f i<=g i)->∀{k:Nat},k < n->f k < g k->eA f n < eA g n
 | n+1,h,k,hk,hl=>by
  have le:∀{m:Nat},(∀i,i < m->f i<=g i)->eA f m<=eA g m:=λ{m}=>by
   induction m with
   | zero=>intro _;show(0:Rat)<=0;grind
   | succ m ih=>
    intro h;have:=ih λi hi=>h i (aby hi);have:=h m (abr _);show eA f m+f m<=eA g m+g m;grind
  show eA f n+f n < eA g n+g n;by_cases e:k=n
  ·subst e;have:=le λi hi=>h i (aby hi);grind
  ·have:=C2 (λi hi=>h i (aby hi)) (show k < n by omega) hl;have:=h n (abr _);grind
def fF(γ:List Rw)(dF:Str):List (Int×Nat):=(fR γ dF).map λi:Nat=>((i:Int),(au (eB γ i)).length)
def Ef{γ:List Rw}:∀{l:List Nat},(∀i∈l,1<=(au (eB γ i)).length)->aa (l.map λi:Nat=>((i:Int),(au (eB γ i)).length)) (l.map λi:Nat=>((i:Int),(0:Int)))
 | [],_=>trivial
 | i::l,h=>⟨rfl,Int.le_refl _,by have:=h i aad;omega,Ef λj hj=>h j (aac _ hj)⟩
section
variable{ε:Fr}{γ:List Rw}{tb:List Fr}{hand dF:Str}{pl p:Pl}
def n8:i∈fR γ dF↔i < γ.length/\eU γ i=dF:=by unfold fR;rw[List.mem_filter,aa9,aaR]
def iM(fw:FR ε γ)(hh:Θ dF=true)(h:i∈fR γ dF):∃ds,γ[i]? =some (.ω dF ds)/\au (eB γ i)=ds/\1<=ds.length:=by
 have⟨il,e⟩:=n8.mp h;have hi:γ[i]? =some γ[i]:=aaa il;unfold eU at e;rw[hi]at e;have e:kindOf γ[i]=dF:=e;cases hr:γ[i] with
 | fin p=>
  rw[hr]at e;rw[<-e]at hh;exact aaC hh (by show¬Θ (Str.ofString "end")=true;decide)
 | ω k ds=>
  rw[hr]at e hi;have e:k=dF:=e;subst e;exact⟨ds,hi,by rw[cN hi];rfl,(cW fw.pl (aaj hi)).l1⟩
def BZ(fw:FR ε γ)(hh:Θ dF=true):aa (fF γ dF) (BI γ dF):=Ef λi hi=>by have⟨ds,_,e,l⟩:=iM fw hh hi;rw[e];exact l
def jk:(fF γ dF).map (·.1)=(fR γ dF).map λi:Nat=>(i:Int):=by unfold fF;rw[List.map_map];rfl
def gZ(h:aa (fF γ dF) p):IQ p:=by unfold IQ;rw[cJ h,jk];have nd:(fR γ dF).Nodup:=List.nodup_range.filter _;exact List.Pairwise.map _ (λa b Yu z=>Yu (by have z:(a:Int)=(b:Int):=z;omega)) nd
def br(fw:FR ε γ)(hh:Θ dF=true)(h:aa (fF γ dF) p):(∀ds,γ[i]? =some (.ω dF ds)->∃j:Nat,Τ p i=some (j:Int)/\j < ds.length)/\(∀r,γ[i]? =some r->kindOf r≠dF->Τ p i=none):=by
 refine⟨λds hi=>?_,λr hi hk=>?_⟩
 ·have il:=(aaf.mp hi).1;have m:i∈fR γ dF:=n8.mpr ⟨il,by unfold eU;rw[hi];rfl⟩;have s:=sV (i:=(i:Int)) (p:=p) (by rw[cJ h,jk];exact aam.mpr ⟨i,m,rfl⟩);have⟨v,hv⟩:=aa7.mp s;have⟨c,hc,v0,v1⟩:=yu h hv;unfold fF at hc;have⟨i',_,e⟩:=aam.mp hc;have e1:(i':Int)=(i:Int):=aaP Prod.fst e;have e2:(au (eB γ i')).length=c:=aaP Prod.snd e;have:i'=i:=()
  subst this;rw[cN hi]at e2;have e2:ds.length=c:=e2;exact⟨v.toNat,by rw[hv,Int.toNat_of_nonneg v0],()⟩
 ·refine kG λz=>?_;rw[cJ h,jk]at z;have⟨i',m,e⟩:=aam.mp z;have:i'=i:=by have e:(i':Int)=(i:Int):=e;omega
  subst this;have:=(n8.mp m).2;unfold eU at this;rw[hi]at this;exact hk this
end
def zc{kc:List (Int×Nat)}:∀(q s:Pl),aa kc s->(∀e∈q,e.1∈kc.map (·.1)/\∀c,(e.1,c)∈kc->0<=e.2/\e.2 < (c:Int))->aa kc (aI s q)
 | [],s,h,_=>h
 | e::q,s,h,hq=>by have⟨a,b⟩:=hq e aad;exact zc q (jG s e.1 e.2) (HJ h a b) λx hx=>hq x (aac _ hx)
section
variable{c:Int->Int->Bool}{f:Int->Int}{i:Int}
def pb(c:Int->Int->Bool)(f:Int->Int)(p:Int×Int):Pl:=if c p.1 p.2 then [] else [(p.1,f p.1)]
def iL:∀{pl:Pl},i∈(pl.flatMap (pb c f)).map (·.1)->i∈pl.map (·.1)
 | p::r,h=>by
  rw[List.flatMap_cons,aaW]at h;rcases aaT.mp h with z| z
  ·unfold pb at z;split at z
   ·cases z
   ·rw[aaM];exact aaA.mpr (.inl (abm.mp z))
  ·exact aac _ (iL z)
def s_:∀pl:Pl,((pl.flatMap (pb c f)).map (·.1)).Sublist (pl.map (·.1))
 | []=>List.Sublist.refl _
 | a::r=>by
  have ih:=s_ r;rw[List.flatMap_cons,aaW,aaM];unfold pb;split
  ·exact List.Sublist.cons _ ih
  ·exact List.Sublist.cons₂ _ ih
def qP(pl:Pl):(pl.flatMap (pb c f)).length<=pl.length:=by have:=(s_ (c:=c) (f:=f) pl).length_le;rwa[aae,aae]at this
def zz:∀{pl:Pl},IQ pl->Τ (pl.flatMap (pb c f)) i=match Τ pl i with
  | some v=>if c i v then none else some (f i)
  | none=>none
 | [],_=>rfl
 | a::r,nd=>by
  unfold IQ at nd;rw[aaM,abz]at nd;have ih:=zz (pl:=r) nd.2;rw[List.flatMap_cons];by_cases ei:a.1=i
  ·have e2:Τ (a::r) i=some a.2:=by unfold Τ;rw[if_pos ei]
   have hn:Τ (r.flatMap (pb c f)) i=none:=kG λz=>nd.1 (by rw[ei];exact iL z);rw[e2];dsimp only;unfold pb;rw[ei];by_cases cc:c i a.2=true
   ·rw[aar cc,aar cc,aaH];exact hn
   ·rw[aaq cc,aaq cc];show Τ ((i,f i)::_) i=_;unfold Τ;rw[aar rfl]
  ·have e2:Τ (a::r) i=Τ r i:=by rw[Τ,aaq ei]
   rw[e2,<-ih];unfold pb;split
   ·rfl
   ·show Τ ((a.1,_)::_) i=_;rw[Τ,aaq ei];rfl
def qU:∀{l:Pl} {e:Int×Int},IQ l->e∈l->Τ l e.1=some e.2
 | a::l,e,nl,hm=>by
  unfold IQ at nl;rw[aaM,abz]at nl;unfold Τ;rcases aaA.mp hm with y| y
  ·rw[aar (by rw[y]),y]
  ·rw[aaq λz=>nl.1 (by rw[z];exact aam.mpr ⟨e,y,rfl⟩)];exact qU nl.2 y
end
def aB(tb:List Fr)(ds:List ba):List Fr:=ds.map λd=>tb.getD d.1.toNat (0,1)
def bQ(k:Str)(ns:List Fr):Fr:=if k="one" then oW ns else ow ns
def AF(b:Fr):List Fr->Nat
 | []=>0
 | x::r=>if x=b then 0 else AF b r+1
def Cu{b:Fr}:∀{ns:List Fr},b∈ns->AF b ns < ns.length/\ns[AF b ns]? =some b/\∀i,i < AF b ns->ns[i]? ≠some b
 | x::r,h=>by
  unfold AF;by_cases e:x=b
  ·rw[aar e];exact⟨by simp,by rw[e];rfl,λi hi=>absurd hi (Nat.not_lt_zero _)⟩
  ·rw[aaq e];have hr:b∈r:=(aaA.mp h).resolve_left λz=>e z.symm;have⟨a,c,d⟩:=Cu hr;refine⟨by rw[aaI];omega,by rw[List.getElem?_cons_succ];exact c,λi hi=>?_⟩;cases i with
   | zero=>rw[List.getElem?_cons_zero];exactλz=>e (aas z)
   | succ i=>rw[List.getElem?_cons_succ];exact d i ()
def xZ{k:Str}{ns:List Fr}(h0:ns≠[])(hp:∀n∈ns,0 < n.2):bQ k ns∈ns/\∀n∈ns,fH k * val n<=fH k * val (bQ k ns):=by
 have⟨a,r,rfl⟩:=abv h0;have ha:=hp a aad;have Z6:∀{x:Fr},x∈a::a::r->x∈a::r:=λh=>by
  rcases aaA.mp h with e| e
  ·rw[e];exact aad
  ·exact e
 unfold fH bQ;by_cases e:k="one"
 ·rw[aar e,aar e];have⟨m,_,al⟩:=mi (a::r) a ha hp;exact⟨Z6 m,λn hn=>by have h:val n<=val (oW (a::r)):=al n hn;grind⟩
 ·rw[aaq e,aaq e];have⟨m,_,al⟩:=lF (a::r) a ha hp;exact⟨Z6 m,λn hn=>by have h:val (ow (a::r))<=val n:=al n hn;grind⟩
def KS(γ:List Rw)(i:Int):List ba:=au (eB γ i.toNat)
def tZ(γ:List Rw)(tb:List Fr)(i v:Int):Bool:=decide ((aB tb (KS γ i)).getD v.toNat (0,1)=bQ (eU γ i.toNat) (aB tb (KS γ i)))
def Ay(γ:List Rw)(tb:List Fr)(i:Int):Int:=(AF (bQ (eU γ i.toNat) (aB tb (KS γ i))) (aB tb (KS γ i)):Nat)
def Δ(γ:List Rw)(tb:List Fr)(pl:Pl):Pl:=pl.flatMap (pb (tZ γ tb) (Ay γ tb))
def Ur{k:Str}{x b:Rat}(h:fH k * x<=fH k * b)(ne:x≠b):fH k * x < fH k * b:=by
 unfold fH at h⊢;by_cases e:k="one"
 ·rw[if_pos e]at h⊢;grind
 ·rw[if_neg e]at h⊢;grind
section
variable{ε:Fr}{γ:List Rw}{tb tb':List Fr}{k:Str}{ds:List ba}{p p' a a':Pl}
def nv(hi:γ[i]? =some (.ω k ds)):eU γ i=k:=by unfold eU;rw[hi];rfl
def D'(jl:j < ds.length):(aB tb ds).getD j (0,1)=tb.getD ds[j].1.toNat (0,1):=by unfold aB;rw[aab,aah,aaa jl];rfl
structure Imp(γ:List Rw)(tb:List Fr)(k:Str)(p p':Pl):Prop where
 fit:aa (fF γ k) p'
 at_:∀(i:Nat) (ds:List ba),γ[i]? =some (.ω k ds)->∃j j':Nat,∃(jl:j < ds.length) (uk:j' < ds.length),Τ p i=some (j:Int)/\Τ p' i=some (j':Int)/\(∀d∈ds,fH k * V_ tb d.1.toNat<=fH k * V_ tb ds[j'].1.toNat)/\(j'=j\/fH k * V_ tb ds[j].1.toNat < fH k * V_ tb ds[j'].1.toNat)
def rF(fr:FR ε γ)(hh:Θ k=true)(h:aa (fF γ k) p)(hr:∀t,t < γ.length->Red (tb.getD t (0,1))):Imp γ tb k p (aI p (Δ γ tb p))/\(Δ γ tb p≠[]->∃(i:Nat) (ds:List ba) (j j':Nat) (jl:j < ds.length) (uk:j' < ds.length),γ[i]? =some (.ω k ds)/\Τ p i=some (j:Int)/\Τ (aI p (Δ γ tb p)) i=some (j':Int)/\fH k * V_ tb ds[j].1.toNat < fH k * V_ tb ds[j'].1.toNat):=by
 have nd:=gZ h;have X':IQ (Δ γ tb p):=(s_ p).nodup nd;have core:∀(i:Nat) (ds:List ba),γ[i]? =some (.ω k ds)->∃j:Nat,∃(jl:j < ds.length) (bl:AF (bQ k (aB tb ds)) (aB tb ds) < ds.length),Τ p i=some (j:Int)/\(∀d∈ds,fH k * V_ tb d.1.toNat<=fH k * V_ tb ds[AF (bQ k (aB tb ds)) (aB tb ds)].1.toNat)/\((Τ (Δ γ tb p) i=none/\tb.getD ds[j].1.toNat (0,1)=bQ k (aB tb ds)/\∀d∈ds,fH k * V_ tb d.1.toNat<=fH k * V_ tb ds[j].1.toNat)\/(Τ (Δ γ tb p) i=some ((AF (bQ k (aB tb ds)) (aB tb ds):Nat):Int)/\fH k * V_ tb ds[j].1.toNat < fH k * V_ tb ds[AF (bQ k (aB tb ds)) (aB tb ds)].1.toNat)):=λi ds hi=>by
  have⟨j,gj,jl⟩:=(br (i:=i) fr hh h).1 ds hi;have rm:Rw.ω k ds∈γ:=aaj hi;have dr:=cW fr.pl rm;have rd:∀d∈ds,Red (tb.getD d.1.toNat (0,1)):=λd hd=>hr _ (by have:=dr.to d hd;omega);have np:∀n∈aB tb ds,0 < n.2:=λn hn=>by have⟨d,hd,rfl⟩:=aam.mp hn;exact(rd d hd).pos
  have⟨bm,bb⟩:=xZ (k:=k) (ns:=aB tb ds) (λz=>by
   have:=aaP List.length z;unfold aB at this;rw[aae]at this;have l1:=dr.l1;rw[this]at l1
   exact aaC l1 @_) np
  have⟨xl,xe,_⟩:=Cu bm;have nl:(aB tb ds).length=ds.length:=by unfold aB;rw[List.length_map]
  rw[nl]at xl;have xb:tb.getD ds[AF (bQ k (aB tb ds)) (aB tb ds)].1.toNat (0,1)=bQ k (aB tb ds):=by rw[<-D' xl,aab,xe];rfl
  have all:∀d∈ds,fH k * V_ tb d.1.toNat<=fH k * val (bQ k (aB tb ds)):=λd hd=>bb _ (aam.mpr ⟨d,hd,rfl⟩);have gb:=zz (c:=tZ γ tb) (f:=Ay γ tb) (i:=(i:Int)) nd;rw[gj]at gb;have ed:KS γ (i:Int)=ds:=by unfold KS;rw[Int.toNat_natCast,cN hi];rfl
  have eb:tZ γ tb (i:Int) (j:Int)=decide (tb.getD ds[j].1.toNat (0,1)=bQ k (aB tb ds)):=by unfold tZ;rw[ed,aaU,aaU,nv hi,D' jl]
  have ex:Ay γ tb (i:Int)=(AF (bQ k (aB tb ds)) (aB tb ds):Nat):=by unfold Ay;rw[ed,aaU,nv hi]
  have gb:Τ (Δ γ tb p) i=if tZ γ tb (i:Int) (j:Int) then none else some (Ay γ tb (i:Int)):=gb
  rw[eb,ex]at gb;refine⟨j,jl,xl,gj,λd hd=>by have:=all d hd;unfold V_;rw[xb];exact this,?_⟩;by_cases c:tb.getD ds[j].1.toNat (0,1)=bQ k (aB tb ds)
  ·rw[aau c,aar rfl]at gb;exact .inl ⟨gb,c,λd hd=>by have:=all d hd;unfold V_;rw[c];exact this⟩
  ·rw[aal c,aaq @_]at gb;refine .inr ⟨gb,?_⟩;have le:=all _ (aan jl);have ne:V_ tb ds[j].1.toNat≠val (bQ k (aB tb ds)):=λz=>c (ju (rd _ (aan jl)) (by rw[<-xb];exact rd _ (aan xl)) z);unfold V_ at le ne⊢;rw[xb];exact Ur le ne
 have g1:∀i:Nat,Τ (aI p (Δ γ tb p)) i=match Τ (Δ γ tb p) i with| some v=>some v| none=>Τ p i:=λi=>kK (i:=(i:Int)) (p:=p) X'
 refine⟨⟨?_,λi ds hi=>?_⟩,λne=>?_⟩
 ·refine zc _ _ h λe he=>?_;have ke:e.1∈p.map (·.1):=iL (aam.mpr ⟨e,he,rfl⟩);have kk:=ke;rw[cJ h]at kk;rw[cJ h,jk]at ke;have⟨i,hm,ei⟩:=aam.mp ke;have ei:(i:Int)=e.1:=ei;have⟨ds,hi,ed,l1⟩:=iM fr hh hm;have⟨j,jl,bl,gj,_,hc⟩:=core i ds hi;refine⟨kk,λc AR=>?_⟩;have c1:c=ds.length:=by
   unfold fF at AR;have⟨i',_,e'⟩:=aam.mp AR;have e1:(i':Int)=e.1:=aaP Prod.fst e';have e2:(au (eB γ i')).length=c:=aaP Prod.snd e';have:i'=i:=()
   subst this;rw[<-e2,ed]
  have ge:=qU X' he;rw[<-ei]at ge;rcases hc with ⟨z,_⟩| ⟨z,_⟩
  ·rw[z]at ge;cases ge
  ·rw[z]at ge;have:=aas ge;omega
 ·have⟨j,jl,bl,gj,all,hc⟩:=core i ds hi;rw[g1];rcases hc with ⟨z,e,al⟩| ⟨z,lt⟩
  ·rw[z];exact⟨j,j,jl,jl,gj,gj,al,.inl rfl⟩
  ·rw[z];exact⟨j,_,jl,bl,gj,rfl,all,.inr lt⟩
 ·have⟨e,r,er⟩:=abv ne;have he:e∈Δ γ tb p:=by rw[er];exact aad
  have ke:e.1∈p.map (·.1):=iL (aam.mpr ⟨e,he,rfl⟩);rw[cJ h,jk]at ke;have⟨i,hm,ei⟩:=aam.mp ke;have ei:(i:Int)=e.1:=ei;have⟨ds,hi,ed,l1⟩:=iM fr hh hm;have⟨j,jl,bl,gj,_,hc⟩:=core i ds hi;have ge:=qU X' he;rw[<-ei]at ge;rcases hc with ⟨z,_⟩| ⟨z,lt⟩
  ·rw[z]at ge;cases ge
  ·exact⟨i,ds,j,_,jl,bl,hi,gj,by rw[g1,z],lt⟩
def yo(fr:FR ε γ)(hh:Θ k=true)(h:aa (fF γ k) p)(hr:∀t,t < γ.length->Red (tb.getD t (0,1)))(e:Δ γ tb p=[])(hi:γ[i]? =some (.ω k ds)):∃(j:Nat) (jl:j < ds.length),Τ p i=some (j:Int)/\∀d∈ds,fH k * V_ tb d.1.toNat<=fH k * V_ tb ds[j].1.toNat:=by
 have⟨⟨_,al⟩,_⟩:=rF (tb:=tb) fr hh h hr;have⟨j,j',jl,uk,gj,zE,all,_⟩:=al i ds hi;rw[e]at zE;have zE:Τ p i=some (j':Int):=zE;rw[gj]at zE;have:j=j':=by have:=aas zE;omega
 subst this;exact⟨j,jl,gj,all⟩
def aA:Θ (Str.ofString "one")=true:=@_
def aF:Θ (Str.ofString "other")=true:=@_
def jj(fr:FR ε γ)(hp:aa (fF γ "one") p)(ha:aa (fF γ "other") a):oq γ (aI p a):=by
 refine⟨λi r hi hk=>?_,λi r hi hk=>?_⟩
 ·rw[kK (gZ ha)];cases r with
  | fin q=>exact aaC hk (by show¬Θ (Str.ofString "end")=true;decide)
  | ω k ds=>
   have two:k="one"\/k="other":=by have hk:Θ k=true:=hk;unfold Θ at hk;rw[aci,abJ,abJ]at hk;exact hk
   rcases two with rfl| rfl
   ·rw[(br (i:=i) fr aF ha).2 _ hi (by show¬(Str.ofString "one"=Str.ofString "other");decide)];have⟨j,gj,jl⟩:=(br (i:=i) fr aA hp).1 ds hi;rw[gj];exact⟨j,rfl,jl⟩
   ·have⟨j,gj,jl⟩:=(br (i:=i) fr aF ha).1 ds hi;rw[gj];exact⟨j,rfl,jl⟩
 ·rw[kK (gZ ha),(br (i:=i) fr aF ha).2 r hi (λz=>by rw[z]at hk;exact aaC aF (by rw[hk];decide)),(br (i:=i) fr aA hp).2 r hi (λz=>by rw[z]at hk;exact aaC aA (by rw[hk];decide))]
def fe(fr:FR ε γ)(ha:aa (fF γ "other") a)(hi:γ[i]? =some (.ω "one" ds)):Τ (aI p a) i=Τ p i:=by rw[kK (gZ ha),(br (i:=i) fr aF ha).2 _ hi (by show¬(Str.ofString "one"=Str.ofString "other");decide)]
def hG(fr:FR ε γ)(ha:aa (fF γ "other") a)(hi:γ[i]? =some (.ω "other" ds)):Τ (aI p a) i=Τ a i:=by have⟨j,gj,_⟩:=(br (i:=i) fr aF ha).1 ds hi;rw[kK (gZ ha),gj]
def de{acc:Pl}(fr:FR ε γ)(hi:γ[i]? =some (.ω k ds))(hh:Θ k=true)(gj:Τ acc i=some (j:Int))(jl:j < ds.length)(st:qH S i)(y:Nat->Rat):ay (λd=>cV d * y d.1.toNat) (gH γ S acc i)=y ds[j].1.toNat:=by rw[jM st,cN hi,j7 fr hi hh gj jl];show cV (ds[j].1,ds[j].2.1,[((1,1):Fr)]) * y ds[j].1.toNat+0=_;have:cV (ds[j].1,ds[j].2.1,[((1,1):Fr)])=1:=pW;rw[this];grind
def k4{acc acc':Pl}(h:Τ acc i=Τ acc' i):gH γ S acc i=gH γ S acc' i:=by unfold gH eW;rw[h]
def AG(γ:List Rw)(S:Sp)(p:Pl):Prop:=∀a,aa (fF γ "other") a->Nx γ S (aI p a)
def mM(fr:FR ε γ)(hi:γ[i]? =some (.ω k ds)):k="one"\/k="other"\/k="chance":=by
 rcases(cW fr.pl (aaj hi)).kd with z| ⟨_,z,_⟩
 ·unfold Θ at z;rw[aci,abJ,abJ]at z;rcases z with z| z
  ·exact .inl z
  ·exact .inr (.inl z)
 ·exact .inr (.inr z)
def g7(fr:FR ε γ)(hp:aa (fF γ "one") p)(ha:aa (fF γ "other") a)(hi:γ[i]? =some (.ω "chance" ds)):Τ (aI p a) i=none:=(jj fr hp ha).GF i _ hi (by show Θ (Str.ofString "chance")=false;decide)
def ou:fH (Str.ofString "one")=1:=aar rfl
def CM:fH (Str.ofString "other")= -1:=aaq @_
def xj(γ:List Rw)(tb:List Fr)(a:Pl):Prop:=∀(i:Nat) (ds:List ba),γ[i]? =some (.ω "other" ds)->∃(j:Nat) (jl:j < ds.length),Τ a i=some (j:Int)/\∀d∈ds,V_ tb ds[j].1.toNat<=V_ tb d.1.toNat
def HN(fr:FR ε γ)(ha:aa (fF γ "other") a)(hr:∀t,t < γ.length->Red (tb.getD t (0,1)))(e:Δ γ tb a=[]):xj γ tb a:=λi ds hi=>by have⟨j,jl,gj,al⟩:=yo fr aF ha hr e hi;refine⟨j,jl,gj,λd hd=>?_⟩;have:=al d hd;rw[CM]at this;grind
def Ha(fr:FR ε γ)(dr:aE γ gs S)(hp:aa (fF γ "one") p)(ha:aa (fF γ "other") a)(xm:aa (fF γ "one") p')(uC:aa (fF γ "other") a')(h:qL γ S (aI p a) tb)(la:xj γ tb a)(up:∀(i:Nat) (ds:List ba),γ[i]? =some (.ω "one" ds)->∃j j':Nat,∃(jl:j < ds.length) (uk:j' < ds.length),Τ p i=some (j:Int)/\Τ p' i=some (j':Int)/\V_ tb ds[j].1.toNat<=V_ tb ds[j'].1.toNat):∀i,i < γ.length->qH S i->V_ tb i<=ay (λd=>cV d * V_ tb d.1.toNat) (gH γ S (aI p' a') i):=λi il st=>by
 have⟨k,ds,hi⟩:=jZ dr il st;rcases mM fr hi with rfl| rfl| rfl
 ·have⟨j,j',jl,uk,gj,zE,le⟩:=up i ds hi;rw[h.st il st,de fr hi aA (by rw[fe fr ha hi];exact gj) jl st,de fr hi aA (by rw[fe fr uC hi];exact zE) uk st];exact le
 ·have⟨j,jl,gj,le⟩:=la i ds hi;have⟨j',zE,uk⟩:=(br (i:=i) fr aF uC).1 ds hi;rw[h.st il st,de fr hi aF (by rw[hG fr ha hi];exact gj) jl st,de fr hi aF (by rw[hG fr uC hi];exact zE) uk st];exact le _ (aan uk)
 ·rw[h.st il st,k4 (acc:=aI p a) (acc':=aI p' a') ((g7 fr hp ha hi).trans (g7 fr xm uC hi).symm)];grind
def AG.better(fr:FR ε γ)(dr:aE γ gs S)(hp:aa (fF γ "one") p)(ha:aa (fF γ "other") a)(pr:AG γ S p)(h:qL γ S (aI p a) tb)(la:xj γ tb a)(im:Imp γ tb "one" p p'):AG γ S p':=λa' uC C hC i il Vt=>by
 have Vk:=jj fr im.fit uC;have⟨t,tl,tc,tm⟩:=BL C (V_ tb) γ.length ⟨i,il,Vt⟩;have ua:=Ha fr dr hp ha im.fit uC h la λi ds hi=>by have⟨j,j',jl,uk,gj,zE,al,_⟩:=im.at_ i ds hi;have:=al _ (aan jl);rw[ou]at this;exact⟨j,j',jl,uk,gj,zE,by grind⟩
 refine pr a' uC (λj=>j < γ.length/\C j/\V_ tb j=V_ tb t) (λj jl hj=>?_) t tl ⟨tl,tc,rfl⟩;have⟨_,jc,je⟩:=hj;have⟨sj,cl⟩:=hC j jl jc;refine⟨sj,?_⟩;have⟨_,one,B,_,_,hw⟩:=pj (acc:=aI p' a') fr Vk dr jl sj;have tn:∀d∈gH γ S (aI p' a') j,d.1.toNat < γ.length:=λd hd=>by have:=(hw d hd).to;omega
 have eqs:∀d∈gH γ S (aI p' a') j,V_ tb d.1.toNat=V_ tb t:=AQ (z:=λd=>V_ tb d.1.toNat) (m:=V_ tb t) (λd hd=>(hw d hd).p) (λd hd=>tm _ (tn d hd) (cl d hd)) (by rw[one,Rat.one_mul,<-je];exact ua j jl sj);have same:gH γ S (aI p a') j=gH γ S (aI p' a') j:=by
  have⟨k,ds,hi⟩:=jZ dr jl sj;rcases mM fr hi with rfl| rfl| rfl
  ·refine k4 ?_;rw[fe fr uC hi,fe fr uC hi];have⟨x,x',xl,WD,gx,U7,al,ch⟩:=im.at_ j ds hi;rcases ch with e| lt
   ·rw[gx,U7,e]
   ·exfalso;rw[ou]at lt;have e1:=h.st jl sj;rw[de fr hi aA (by rw[fe fr ha hi];exact gx) xl sj]at e1;have e2:=eqs (ds[x'].1,ds[x'].2.1,[(1,1)]) (by rw[jM sj,cN hi,j7 fr hi aA (by rw[fe fr uC hi];exact U7) WD];exact abm.mpr rfl);have e2:V_ tb ds[x'].1.toNat=V_ tb t:=e2;grind
  ·refine k4 ?_;rw[hG fr uC hi,hG fr uC hi]
  ·exact k4 ((g7 fr hp uC hi).trans (g7 fr im.fit uC hi).symm)
 rw[same];exactλd hd=>⟨tn d hd,cl d hd,eqs d hd⟩
def xV(γ:List Rw)(tb:List Fr)(p:Pl)(i:Nat):Rat:=match Τ p i with
 | some j=>V_ tb ((KS γ i).getD j.toNat d0).1.toNat
 | none=>0
def nu(γ:List Rw)(tb:List Fr)(p:Pl):Rat:=eA (λi=>V_ tb i+xV γ tb p i) γ.length
def DU(hi:γ[i]? =some (.ω k ds))(gj:Τ p i=some (j:Int))(jl:j < ds.length):xV γ tb p i=V_ tb ds[j].1.toNat:=by unfold xV KS;rw[gj,aaU,cN hi];show V_ tb (ds.getD ((j:Int)).toNat d0).1.toNat=_;rw[aaU,aab,aaa jl];rfl
def Pj(fr:FR ε γ)(hh:Θ k=true)(hp:aa (fF γ k) p)(im:Imp γ tb k p p')(le:∀i,i < γ.length->fH k * V_ tb i<=fH k * V_ tb' i)(il:i < γ.length):fH k * xV γ tb p i<=fH k * xV γ tb' p' i:=by
 have hi:=rw_at il;by_cases e:kindOf (eB γ i)=k
 ·cases hr:eB γ i with
  | fin q=>rw[hr]at e;rw[<-e]at hh;exact aaC hh (by show¬Θ (Str.ofString "end")=true;decide)
  | ω k' ds=>
   rw[hr]at e hi;have e:k'=k:=e;subst e;have⟨j,j',jl,uk,gj,zE,al,_⟩:=im.at_ i ds hi;rw[DU hi gj jl,DU hi zE uk];have a:=al _ (aan jl);have b:=le ds[j'].1.toNat (by have:=(cW fr.pl (aaj hi)).to _ (aan uk);omega);grind
 ·have g:=(br (i:=i) fr hh hp).2 _ hi e;have g':=(br (i:=i) fr hh im.fit).2 _ hi e;unfold xV;rw[g,g'];grind
def IX(fr:FR ε γ)(hh:Θ k=true)(hp:aa (fF γ k) p)(im:Imp γ tb k p p')(le:∀i,i < γ.length->fH k * V_ tb i<=fH k * V_ tb' i)(ex:∃(i:Nat) (ds:List ba) (j j':Nat) (jl:j < ds.length) (uk:j' < ds.length),γ[i]? =some (.ω k ds)/\Τ p i=some (j:Int)/\Τ p' i=some (j':Int)/\fH k * V_ tb ds[j].1.toNat < fH k * V_ tb ds[j'].1.toNat):fH k * nu γ tb p < fH k * nu γ tb' p':=by
 have⟨i,ds,j,j',jl,uk,hi,gj,zE,lt⟩:=ex;have il:=(aaf.mp hi).1;have e:∀(t:List Fr) (q:Pl),fH k * nu γ t q=eA (λi=>fH k * (V_ t i+xV γ t q i)) γ.length:=λt q=>by unfold nu;have:=nI (fH k) 0 (λi=>V_ t i+xV γ t q i) (λ_=>0) γ.length;rw[show(λi=>fH k * (V_ t i+xV γ t q i) - 0 * 0)=λi=>fH k * (V_ t i+xV γ t q i) by funext i;grind]at this;rw[this];grind
 rw[e,e];refine C2 (λt tl=>?_) il ?_
 ·have a:=le t tl;have b:=Pj fr hh hp im le tl;grind
 ·have a:=le i il;rw[DU hi gj jl,DU hi zE uk];have b:=le ds[j'].1.toNat (by have:=(cW fr.pl (aaj hi)).to _ (aan uk);omega);grind
def HC(fr:FR ε γ)(dr:aE γ gs S)(hp:aa (fF γ "one") p)(ha:aa (fF γ "other") a)(pr:AG γ S p)(h:qL γ S (aI p a) tb)(ne:Δ γ tb a≠[])(h':qL γ S (aI p (aI a (Δ γ tb a))) tb'):nu γ tb' (aI a (Δ γ tb a)) < nu γ tb a:=by
 have⟨im,ex⟩:=rF (tb:=tb) fr aF ha h.tab.red;have uC:=im.fit;have ex:=ex ne;generalize aI a (Δ γ tb a)=a' at *
 have hs:∀i,i < γ.length->qH S i->fH "other" * V_ tb i<=fH "other" * ay (λd=>cV d * V_ tb d.1.toNat) (gH γ S (aI p a') i):=λi il st=>by
  have⟨k,ds,hi⟩:=jZ dr il st;rcases mM fr hi with rfl| rfl| rfl
  ·rw[h.st il st,k4 (acc:=aI p a) (acc':=aI p a') (by rw[fe fr ha hi,fe fr uC hi])];grind
  ·have⟨x,x',xl,WD,gx,U7,al,_⟩:=im.at_ i ds hi;rw[h.st il st,de fr hi aF (by rw[hG fr ha hi];exact gx) xl st,de fr hi aF (by rw[hG fr uC hi];exact U7) WD st];exact al _ (aan xl)
  ·rw[h.st il st,k4 (acc:=aI p a) (acc':=aI p a') ((g7 fr hp ha hi).trans (g7 fr hp uC hi).symm)];grind
 have⟨c1,_⟩:=Rp fr (jj fr hp uC) dr (pr a' uC) h h' hs;have:=IX fr aF ha im c1 ex;rw[CM]at this;grind
structure qv(γ:List Rw)(S:Sp)(p a:Pl)(tb:List Fr):Prop where
 fa:aa (fF γ "other") a
 ch:qL γ S (aI p a) tb
 le:xj γ tb a
def qv.up(fr:FR ε γ)(dr:aE γ gs S)(hp:aa (fF γ "one") p)(h:qv γ S p a tb)(xm:aa (fF γ "one") p')(Gq:AG γ S p')(h':qv γ S p' a' tb')(up:∀(i:Nat) (ds:List ba),γ[i]? =some (.ω "one" ds)->∃j j':Nat,∃(jl:j < ds.length) (uk:j' < ds.length),Τ p i=some (j:Int)/\Τ p' i=some (j':Int)/\V_ tb ds[j].1.toNat<=V_ tb ds[j'].1.toNat):∀i,i < γ.length->V_ tb i<=V_ tb' i:=λi il=>by
 have:=(Rp fr (jj fr xm h'.fa) dr (Gq a' h'.fa) h.ch h'.ch (sg:=1) λi il st=>by
  have:=Ha fr dr hp h.fa xm h'.fa h.ch h.le up i il st
  grind).1 i il
 grind
def qv.uniq(fr:FR ε γ)(dr:aE γ gs S)(hp:aa (fF γ "one") p)(pr:AG γ S p)(h:qv γ S p a tb)(h':qv γ S p a' tb'):tb=tb':=by
 have same:∀(tb:List Fr) (i:Nat) (ds:List ba),γ[i]? =some (.ω "one" ds)->∃j j':Nat,∃(jl:j < ds.length) (uk:j' < ds.length),Τ p i=some (j:Int)/\Τ p i=some (j':Int)/\V_ tb ds[j].1.toNat<=V_ tb ds[j'].1.toNat:=λtb i ds hi=>by have⟨j,gj,jl⟩:=(br (i:=i) fr aA hp).1 ds hi;exact⟨j,j,jl,jl,gj,gj,by grind⟩
 have u:=h.up fr dr hp hp pr h' (same tb);have v:=h'.up fr dr hp hp pr h (same tb');apply abc
 ·rw[h.ch.tab.len,h'.ch.tab.len]
 ·intro i h1 h2;have hi:i < γ.length:=by rw[<-h.ch.tab.len];exact h1
  have x:=h.ch.tab.red i hi;have y:=h'.ch.tab.red i hi;have c:=u i hi;have d:=v i hi;have e1:tb.getD i (0,1)=tb[i]:=by rw[aab,aaa h1];rfl
  have e2:tb'.getD i (0,1)=tb'[i]:=by rw[aab,aaa h2];rfl
  rw[<-e1,<-e2];exact ju x y (by have c:val (tb.getD i (0,1))<=val (tb'.getD i (0,1)):=c;have d:val (tb'.getD i (0,1))<=val (tb.getD i (0,1)):=d;grind)
def J6(fr:FR ε γ)(dr:aE γ gs S)(hp:aa (fF γ "one") p)(h:qv γ S p a tb)(ne:Δ γ tb p≠[])(Gq:AG γ S (aI p (Δ γ tb p)))(h':qv γ S (aI p (Δ γ tb p)) a' tb'):nu γ tb p < nu γ tb' (aI p (Δ γ tb p)):=by
 have⟨im,ex⟩:=rF (tb:=tb) fr aA hp h.ch.tab.red;have ex:=ex ne;generalize aI p (Δ γ tb p)=p' at *
 have c:=h.up fr dr hp im.fit Gq h' λi ds hi=>by have⟨j,j',jl,uk,gj,zE,al,_⟩:=im.at_ i ds hi;have:=al _ (aan jl);rw[ou]at this;exact⟨j,j',jl,uk,gj,zE,by grind⟩
 have:=IX (tb':=tb') fr aA hp im (λi il=>by have:=c i il;rw[ou,Rat.one_mul,Rat.one_mul];exact this) ex;rw[ou]at this;grind
noncomputable def R9(l:List Pl)(Q:Pl->Rat->Prop):Option Rat->Nat
 | none=>l.length+1
 | some t=>open Classical in l.countP λq=>decide (∃u,Q q u/\t < u)
def GY{l:List Pl}{Q:Pl->Rat->Prop}{q:Pl}{u:Rat}(hq:q∈l)(h:Q q u)(un:∀u',Q q u'->u'=u):∀{o:Option Rat},(∀t,o=some t->t < u)->R9 l Q (some u) < R9 l Q o
 | none,_=>Nat.lt_succ_of_le List.countP_le_length
 | some t,ht=>by
  classical
  have lt:=ht t rfl;unfold R9;refine Bs (λx _ hx=>?_) hq (aau ⟨u,h,lt⟩) (aal λz=>?_)
  ·have⟨v,a,b⟩:=aaD hx;exact decide_eq_true ⟨v,a,by grind⟩
  ·have⟨v,a,b⟩:=z;rw[un v a]at b;grind
end
def g6(S:Sp)(o:Option Nat)(d:ba):Bool:=match at_ S d.1.toNat,o with
 | some a,some b=>decide (a < b)
 | _,_=>false
def tN(S:Sp)(o:Option Nat):List ba->Nat->Nat
 | [],_=>0
 | d::ds,n=>if g6 S o d then n else tN S o ds (n+1)
def Oj{γ:List Rw}(hl:S.length=γ.length)(h0:0<=t)(h1:t < γ.length):jA (S.map fo) t=some (fo (at_ S t.toNat)):=by have:=yI (S:=S) (p:=t.toNat) ();rwa[show((t.toNat:Nat):Int)=t by omega]at this
def mr(γ:List Rw)(S:Sp):Pl:=(fR γ "one").map λi:Nat=>((i:Int),((tN S (at_ S i) (au (eB γ i)) 0:Nat):Int))
def tF(A:Addr):DF:=λas M q _=>∃ε γ p st S k ds,as=[aj A ε γ,.int (p:Nat),st]/\ic M st=some (S.map fo)/\S.length=γ.length/\Gy γ/\γ[p]? =some (.ω k ds)/\(at_ S p=none->∀d∈ds,at_ S d.1.toNat=none)/\q (.int (tN S (at_ S p) ds 0:Nat)) M
def jY:Γ ["floor","place","steps","door","way"] ["floor","place","steps"] (τ lS):=.of rfl
def x9(F:c_ K "drawn_door" "drawn_door" lS f fd)(E:Ev K mg Cm)(aK:fG P w K mg base 2 Cm "doors" ["self","place"] (sL Cm) cU cY):ak P w K mg base (cF P w) 3 f fd ["floor","place","steps"] (cQ K (tF Cm)):=by
 refine F.d7 jY (λds M q x h=>?_) (λbq A outer s H E' hr=>⟨_,(ζ (b9 (nQ E.cw (θ (bo (gE aK hr ν (jv 0) (Λ (jv 1) η))) η aO)) (oi rfl (cH (ai (i:=3) jY.nd rfl (Or.inl rfl)) (cH (ai (i:=4) jY.nd rfl (Or.inl rfl)) kQ))) mP (ι (ao (JW.jt (oP (Dm (Ε (jv 2) (Ε (jv 4) ο)) yL) (kH (pL (Ε (jv 2) (Ε (jv 4) ο)) (Ε (jv 2) (jv 1)))))) (ι (Β (jv 3))) Η)))
   (ι (Β ο))),λds M q x h=>?_⟩)
 ·have⟨ε,γ,p,st,S,k,ds,rfl,_⟩:=h;rfl
 ·have⟨ε,γ,p,st,S,k,ds,rfl,hs,hl,f,hi,hn,h⟩:=h;have rm:Rw.ω k ds∈γ:=aaj hi;have ro:=(f.row _ rm).1;have pl:p < γ.length:=(aaf.mp hi).1;have l6:=oG f rm;refine⟨⟨_,_,.inl rfl,rfl⟩,ε,γ,p,.ω k ds,rfl,hi,ro,cz (fQ _) ?_⟩;refine⟨.lst (ds.map cE),ds.map cE,λ_=>True,rfl,rfl,?_⟩;refine aZ (λxs ρ' M'=>∃(rest:List ba) (n:Nat) (o3 o4:Option Dt),xs=g8 n (rest.map cE)/\(∀d∈rest,d∈ds)/\tN S (at_ S p) rest n=tN S (at_ S p) ds 0/\M'=M/\ρ'=[some (aj Cm ε γ),some (.int (p:Int)),some st,o3,o4]) (λxs ρ' M' hj=>trivial) (λx xs ρ' M' hj fm=>?_) (λρ' M' hj=>?_) _ _ _ ⟨ds,0,none,none,rfl,λ_ h=>h,rfl,rfl,rfl⟩
  ·have⟨rest,n,o3,o4,ex,hm,he,rfl,rfl⟩:=hj;cases rest with
   | nil=>cases ex
   | cons d rest=>
    cases ex;have dm:=hm d aad;have⟨d0',d1'⟩:=iJ f rm dm;have a1:=Oj hl d0' d1';have a2:jA (S.map fo) (p:Int)=some (fo (at_ S p)):=yI ();have nx:g6 S (at_ S p) d=false->_:=λz=>fm [some (aj Cm ε γ),some (.int (p:Int)),some st,some (.int (n:Int)),some (cE d)] M' ⟨rest,n+1,_,_,rfl,λx hx=>hm x (aac _ hx),by rw[<-he];show _=if g6 S (at_ S p) d=true then n else tN S (at_ S p) rest (n+1);rw[z];rfl,rfl,rfl⟩;have yes:g6 S (at_ S p) d=true->q (.int (n:Int)) M':=λz=>by
     rw[<-he]at h;have:tN S (at_ S p) (d::rest) n=n:=by show(if g6 S (at_ S p) d=true then n else tN S (at_ S p) rest (n+1))=n;rw[z];rfl
     rw[this]at h;exact h
    dsimp only[g2];walk_at "vc";refine nW ?_;refine(Α hs a1 ?_:cx st (.int d.1) _ _);refine wb ⟨λz=>?_,λz=>?_⟩
    ·refine nW ?_;refine(Α hs a1 ?_:cx st (.int d.1) _ _);refine(Α hs a2 ?_:cx st (.int (p:Int)) _ _);have⟨a,ea⟩:=aa7.mp z;cases eb:at_ S p with
     | none=>rw[hn eb d dm]at ea;cases ea
     | some b=>
      have lz:g6 S (at_ S p) d=decide (a < b):=by unfold g6;rw[ea,eb]
      rw[lz]at nx yes;rw[ea];show(decide ((a:Int) < (b:Int))=true->_)/\(decide ((a:Int) < (b:Int))=false->_);exact⟨λz=>yes (aau (by have:=aaD z;omega)),λz=>nx (aal (by have:=aa3 z;omega))⟩
    ·have z:at_ S d.1.toNat=none:=by simpa using z
     refine⟨nofun,λ_=>?_⟩;exact nx (by unfold g6;rw[z])
  ·have⟨rest,n,o3,o4,ex,hm,he,rfl,rfl⟩:=hj;have:rest=[]:=by cases rest with| nil=>rfl| cons p r=>cases ex
   subst this;have he:0=tN S (at_ S p) ds 0:=he;rw[<-he]at h;exact h
def pJ{γ:List Rw}(dr:aE γ gs S){k:Str}{ds:List ba}(hi:γ[i]? =some (.ω k ds))(hk:k≠"other")(h:at_ S i=none):∀d∈ds,at_ S d.1.toNat=none:=λd hd=>by
 have:=dr.2 i _ hi;have this:iK k (aS S ds) (at_ S i):=this;unfold iK at this;rw[aaq hk,h]at this;rcases this with ⟨_,e⟩| ⟨v,e,_⟩
 ·exact e _ (ag.mpr ⟨d,hd,rfl⟩)
 ·cases e
def sI(A:Addr):DF:=λas M q _=>∃ε γ st S gs,as=[aj A ε γ,st]/\(∀E,ic (M++E) st=some (S.map fo))/\aE γ gs S/\FR ε γ/\q (.loc M.length) (M++[dP (mr γ S)])
def j1:Γ ["floor","steps","plan","place"] ["floor","steps"] (τ mx):=.of rfl
def wO(F:c_ K "drawn_plan" "drawn_plan" mx f fd)(E:Ev K mg Cm){oF:Addr}{n_:FuncData}(e6:aw P w K mg base 2 "places_of" ["floor","hand"] (wL Cm) oF n_){Co:Addr}{CC:FuncData}(j4:aw P w K mg base 3 "drawn_door" ["floor","place","steps"] (tF Cm) Co CC):ak P w K mg base (cF P w) 4 f fd ["floor","steps"] (cQ K (sI Cm)):=by
 refine F.d7 j1 (λds M q x h=>?_) (λbq A outer s H E' hr=>⟨_,(ζ (χ 2 j1.nd B_)
   (ζ (b9 (aY (Χ e6 hr ν (Λ (jv 0) (θ fc η bJ)))) (ai (i:=3) j1.nd rfl (Or.inl rfl)) az (ι (qB hr (jv 2) (jv 3) (Χ j4 hr ν (Λ (jv 0) (Λ (jv 3) (Λ (jv 1) η)))))))
   (ι (Β (jv 2))))),λds M q x h=>?_⟩)
 ·have⟨ε,γ,st,S,gs,rfl,_⟩:=h;rfl
 ·have⟨ε,γ,st,S,gs,rfl,hs,dr,fr,h⟩:=h;have r_:=fr.pl.len;have Jo:(fR γ "one").length<=12:=by have:=List.length_filter_le (λi=>decide (eU γ i="one")) (List.range γ.length);rw[aa8]at this;unfold fR;omega
  have Ta:(fR γ "one").Nodup:=List.nodup_range.filter _;walk_at "vc";dsimp only[pQ,eJ];walk_at "vc";refine⟨ε,γ,"one",rfl,r_,?_⟩;refine aZ (λxs ρ' M'=>∃(cv rest:List Nat) (o3:Option Dt),fR γ "one"=cv++rest/\xs=rest.map (λi:Nat=>Dt.int i)/\M'=M++[dP (cv.map λi:Nat=>((i:Int),((tN S (at_ S i) (au (eB γ i)) 0:Nat):Int)))]/\ρ'=[some (aj Cm ε γ),some st,some (.loc M.length),o3]) (λxs ρ' M' hj=>trivial) (λx xs ρ' M' hj fm=>?_) (λρ' M' hj=>?_) _ _ _ ⟨[],fR γ "one",none,rfl,rfl,rfl,rfl⟩
  ·have⟨cv,rest,o3,e,ex,rfl,rfl⟩:=hj;cases rest with
   | nil=>cases ex
   | cons i rest=>
    cases ex;have dl:cv.length<=12:=by have:=aaP List.length e;rw[aag]at this;omega
    have⟨ds,hi,ed,_⟩:=iM fr aA (show i∈fR γ "one" by rw[e];simp);have gn:Τ (cv.map λi:Nat=>((i:Int),((tN S (at_ S i) (au (eB γ i)) 0:Nat):Int))) (i:Int)=none:=kG λy=>by
     rw[aaG]at y;have⟨j,hj,ej⟩:=aam.mp y;have ej:(j:Int)=(i:Int):=ej;have:j=i:=()
     subst this;rw[e,ab1]at Ta;exact Ta.2.2 _ hj _ aad rfl
    dsimp only[o7];walk_at "vc";refine⟨ε,γ,i,st,S,"one",ds,rfl,hs _,dr.1,fr.Q2,hi,pJ dr hi @_,?_⟩;refine⟨M.length,_,_,Sum.inl (i:Int),rfl,aL,rfl,by unfold kP;rw[List.length_map,List.length_map];omega,?_⟩;rw[zV (v:=((tN S (at_ S i) ds 0:Nat):Int)),Ed,eI];refine fm _ _ ⟨cv++[i],rest,_,by rw[e,aaJ];rfl,rfl,?_,rfl⟩;unfold jG;rw[gn,aaq @_,aaW,<-ed];rfl
  ·have⟨cv,rest,o3,e,ex,rfl,rfl⟩:=hj;have:rest=[]:=by cases rest with| nil=>rfl| cons p r=>cases ex
   subst this;rw[aaV]at e;unfold mr at h;rw[e]at h;exact h
def IE(A:Addr):DF:=λas M q _=>∃ε γ i k acc st S gs,as=[aj A ε γ,.int (i:Nat),.loc k,st]/\M[k]? =some (dP acc)/\ic M st=some (S.map fo)/\i < γ.length/\oq γ acc/\aE γ gs S/\FR ε γ/\∀E',q (cC (nV (1,1) γ.length i (gH γ S acc i) (oz S i))) (M++E')
def zO:Γ ["floor","place","doors","steps"] ["floor","place","doors","steps"] (τ mq):=.of rfl
def wV(F:c_ K "chance_row" "chance_row" mq f fd)(E:Ev K mg Cm){LK:Addr}{LH:FuncData}(jQ:aw P w K mg base 5 "led_row" ["floor","place","ways","share","given"] (Tc Cm) LK LH){Fc:Addr}{Fl:FuncData}(lG:aw P w K mg base 3 "ways_from" ["floor","place","doors"] (NK Cm) Fc Fl):ak P w K mg base (cF P w) 6 f fd ["floor","place","doors","steps"] (cQ K (IE Cm)):=by
 refine F.d7 zO (λds M q x h=>?_) (λbq A outer s H E' hr=>⟨_,(ζ (ao (Bw (Ε (jv 3) (jv 1)) yL) (ι (Β (Χ jQ hr ν (Λ (jv 0) (Λ (jv 1) (θ (mV η) (θ (cb (θ ο (θ ο η bJ) bJ)) (θ (cb (θ ο (θ ο η bJ) bJ)) η kq) kq))))))) Η)
   (ζ (ao (d9 hr (Ε (jv 3) (jv 1)) ο) (ι (Β (Χ jQ hr ν (Λ (jv 0) (Λ (jv 1) (θ (mV η) (θ (cb (θ ο (θ ο η bJ) bJ)) (θ (cb (θ ο (θ ο η bJ) bJ)) η kq) kq))))))) Η)
   (ι (Β (Χ jQ hr ν (Λ (jv 0) (Λ (jv 1) (θ (Χ lG hr ν (Λ (jv 0) (Λ (jv 1) (Λ (jv 2) η)))) (θ (cb (θ ο (θ ο η bJ) bJ)) (θ (cb (θ ο (θ ο η bJ) bJ)) η kq) kq) aO)))))))),λds M q x h=>?_⟩)
 ·have⟨ε,γ,i,k,acc,st,S,gs,rfl,_⟩:=h;rfl
 ·have⟨ε,γ,i,k,acc,st,S,gs,rfl,hk,hs,il,dk,dr,fr,h⟩:=h;have⟨Ep,p,_,sz,one,NI⟩:=Pw (acc:=acc) fr dk dr il;have sl:∀{z:Nat},z<=1000->z<=sizeLine:=λh=>aat h @_;have a2:jA (S.map fo) (i:Int)=some (fo (at_ S i)):=yI (by rw[dr.1];exact il);have Vr:Sz 11 ((1,1):Fr):=⟨@_,@_,@_⟩;walk_at "vc";refine(Α hs a2 ?_:cx st (.int (i:Int)) _ _);refine PH ⟨λz=>?_,λz=>?_⟩
  ·have z:at_ S i=none:=by simpa using z
   have e1:gH γ S acc i=[]:=qS λ⟨s,e⟩=>by rw[z]at e;cases e
   have e2:oz S i=(0,1):=by unfold oz;rw[z]
   rw[e1,e2]at h p;rw[e1]at one NI;exact⟨sl @_,sl @_,sl @_,ε,(1,1),γ,i,[],(0,1),Ep,7,rfl,il,fr.pl.len,Vr,one,p,sz,NI,h⟩
  ·refine(Α hs a2 ?_:cx st (.int (i:Int)) _ _);cases e:at_ S i with
   | none=>rw[e]at z;cases z
   | some v=>
    show(decide ((v:Int)=0)=true->_)/\(decide ((v:Int)=0)=false->_);refine⟨λy=>?_,λy=>?_⟩
    ·have y:v=0:=by have:=aaD y;omega
     subst y;have e1:gH γ S acc i=[]:=qS λ⟨s,e'⟩=>by rw[e]at e';cases e'
     have e2:oz S i=(1,1):=by unfold oz;rw[e];rfl
     rw[e1,e2]at h p;rw[e1]at one NI;exact⟨sl @_,sl @_,sl @_,ε,(1,1),γ,i,[],(1,1),Ep,7,rfl,il,fr.pl.len,Vr,one,p,sz,NI,h⟩
    ·have y:v≠0:=by have:=aa3 y;omega
     have Pz:qH S i:=⟨v - 1,by rw[e,Nat.sub_add_cancel ()]⟩;have⟨kd,ds,hi⟩:=jZ dr il Pz;have e1:gH γ S acc i=eW acc i (.ω kd ds):=by rw[jM Pz,cN hi]
     rw[ND Pz]at h p;rw[e1]at h p one NI;refine⟨ε,γ,i,.ω kd ds,k,acc,rfl,hk,hi,(fr.pl.row _ (aaj hi)).1,dk,?_⟩;exact⟨sl @_,sl @_,ε,(1,1),γ,i,_,(0,1),Ep,7,rfl,il,fr.pl.len,Vr,one,p,sz,NI,h⟩
def b7(h:n<=12):(12 * 7000000:Int) ^ n < 2 ^ 400:=by have h1:=abP (show 0 < 84000000 by decide) h;have h2:((84000000 ^ n:Nat):Int)<=((84000000 ^ 12:Nat):Int):=Int.ofNat_le.mpr h1;rw[Int.natCast_pow,Int.natCast_pow]at h2;exact abh h2 @_
def NU(A:Addr):DF:=λas M q _=>∃ε γ kp ka st S gs p a,as=[aj A ε γ,.loc kp,.loc ka,st]/\M[kp]? =some (dP p)/\M[ka]? =some (dP a)/\(∀E,ic (M++E) st=some (S.map fo))/\p.length+a.length<=1000/\oq γ (aI p a)/\aE γ gs S/\FR ε γ/\Nx γ S (aI p a)/\∀tb,qL γ S (aI p a) tb->q (.loc (M.length+1)) (M++[dP (aI p a),.lst (tb.map Υ)])
def jX:Γ ["floor","plan","answer","steps","doors"] ["floor","plan","answer","steps"] (τ md):=.of rfl
def vO(F:c_ K "chances_by" "chances_by" md f fd)(E:Ev K mg Cm){FO:Addr}{FJ:FuncData}(mD:aw P w K mg base 4 "answer_of" ["rows"] wc FO FJ)(ah:fG P w K mg base 1 Cm "size" ["self"] (rT Cm) bB bG){Be:Addr}{B':FuncData}(kz:aw P w K mg base 6 "chance_row" ["floor","place","doors","steps"] (IE Cm) Be B'):ak P w K mg base (cF P w) 7 f fd ["floor","plan","answer","steps"] (cQ K (NU Cm)):=by
 refine F.d7 jX (λds M q x h=>?_) (λbq A outer s H E' hr=>⟨_,(ζ (χ 4 jX.nd (Qz E.ya (Λ (jv 1) η)))
   (ζ (eL (AN (jv 4) (jv 2)))
   (ι (Β (Χ mD hr ν (θ (Oi (ys:=["floor","doors","steps"]) (Μ:=[0,4,3]) (.of jX rfl rfl rfl) (cf E.bP (θ (g_ ah hr ν (jv 0)) η aO)) (λC s H fp=>(bo (Χ kz hr (eE (P:=P) (w:=w)) (Λ (jv 1) (Λ (jv 0) (Λ (jv 2) (Λ (jv 3) η)))))))) η)))))),λds M q x h=>?_⟩)
 ·have⟨ε,γ,kp,ka,st,S,gs,p,a,rfl,_⟩:=h;rfl
 ·have⟨ε,γ,kp,ka,st,S,gs,p,a,rfl,hp,ha,hs,lz,dk,dr,fr,pr,h⟩:=h;have r_:=fr.pl.len;have n1:=fr.n1;have sl:∀{z:Nat},z<=1000->z<=sizeLine:=λh=>aat h @_;have kl:ka < M.length:=(aaf.mp ha).1;have Sy:=Ro fr dk dr pr;have⟨tb,z,N,sol,n0,Sr,tab,bot⟩:=Sy.ex r_;have cn:qL γ S (aI p a) tb:=⟨tab,λi hi=>abh (bot i hi) (b7 r_)⟩;have hq:=h tb cn;have bd:=Sy.bd;have VD:=Sy.VD;walk_at "vc";refine⟨kp,_,_,rfl,hp,?_⟩;dsimp only[DP,AA];walk_at "vc";refine⟨⟨M.length,_,_,rfl,aL⟩,M.length,ka,_,_,_,_,rfl,rfl,(),aL,aH ha,by unfold kP;rw[List.length_map,List.length_map];exact lz,?_⟩;rw[D6,DY,eI];generalize E8:aI p a=acc at *
  dsimp only[An];walk_at "vc";refine⟨⟨_,_,.inl rfl,rfl⟩,ε,γ,rfl,?_⟩;refine⟨⟨(),()⟩,by rw[eG];exact sl (),?_⟩;refine pf (f:=λx=>match x with| .int j=>cC ((gT (1,1) γ.length (gH γ S acc) (oz S)).getD j.toNat [])| _=>.aP) _ _ (λx O3 q' hq=>?_) ?_
  ·have⟨j,hj,rfl⟩:=iI O3;have hj:j < γ.length:=()
   rw[Int.zero_add]at hq⊢;have hq:q' (cC ((gT (1,1) γ.length (gH γ S acc) (oz S)).getD j [])) (M++[dP acc]):=hq;have e:(gT (1,1) γ.length (gH γ S acc) (oz S)).getD j []=nV (1,1) γ.length j (gH γ S acc j) (oz S j):=by unfold gT;rw[aab,aah,aaK hj];rfl
   rw[e]at hq;exact⟨ε,γ,j,M.length,acc,st,S,gs,rfl,aL,hs _,hj,dk,dr,fr,λE'=>gF (.old (m8 _)) hq⟩
  have er:=MD (gT (1,1) γ.length (gH γ S acc) (oz S)) [] cC;rw[kJ]at er;rw[aaH,show((γ.length:Int)).toNat=γ.length by omega];refine(λ(key:∀l,l=(gT (1,1) γ.length (gH γ S acc) (oz S)).map cC->wc [.lst l] (M++[dP acc]) q _)=>key _ er) λl hl=>?_;subst hl;have ln:∀r∈gT (1,1) γ.length (gH γ S acc) (oz S),r.length=γ.length+1:=λr qc=>by unfold gT at qc;have⟨i,hi,rfl⟩:=aam.mp qc;have⟨E,p,_⟩:=Pw (acc:=acc) fr dk dr (aa9.mp hi);exact(B2 (aa9.mp hi) p).1
  refine⟨gT (1,1) γ.length (gH γ S acc) (oz S),γ.length,7000000,tb,z,N,rfl,⟨by rw[kJ];exact n1,by rw[kJ];exact r_,r_,ln,by rw[kJ];exact bd,@_⟩,n1,tab.len,by rw[kJ];exact sol,n0,λi hi=>⟨(tab.red i hi).pos,(tab.red i hi).low,Sr i hi⟩,by rw[kJ];exact VD,?_⟩;simpa [List.append_assoc] using hq
end
end Pg
namespace L2
open PySem
def yR{g:Dt->En->(En->Prop)->Prop}{tb:DS}{Dn:ly}{k:Nat}{u:Addr->HO}{m:MO}(J:List Key->En->Ms->Prop)(aQ:∀xs ρ M,J xs ρ M->M[k]? =some (.raw u))
  (step:∀x xs ρ M,J (x::xs) ρ M->(∀ρ M,J xs ρ M->uh g tb Dn k u m xs ρ M)->g (Iq x) ρ λρ'=>tb {Dn with nx:=uh g tb Dn k u m xs,ct:=uh g tb Dn k u m xs,bk:=λρ M=>M[k]? =some (.raw u)/\Dn.nx ρ (M.set k m)} ρ' M)
  (fin:∀ρ M,J [] ρ M->Dn.nx ρ (M.set k m)):∀(xs:List Key) (ρ:En) (M:Ms),J xs ρ M->uh g tb Dn k u m xs ρ M
 | [],ρ,M,h=>⟨aQ _ _ _ h,fin _ _ h⟩
 | x::xs,ρ,M,h=>⟨aQ _ _ _ h,step x xs ρ M h λρ' M' h'=>yR J aQ step fin xs ρ' M' h'⟩
end L2
namespace Pg
open PySem L2 Fr0 Tx
variable{M:Ms}{γ:List Rw}{tb:List Fr}{mg:Str->Option Value}{f dU dR:Addr}{fd dN dX:FuncData}{ε:Fr}{gs:List Nat}{S:Sp}{p:Pl}{i n:Nat}{ds:List ba}{ns:List Int}
def KO{k:Nat}{m:MO}(h:M[k]? =some m):M.set k m=M:=by
 apply List.ext_getElem?;intro i;rw[List.getElem?_set];split
 ·rename_i e;subst e;rw[aar (aaf.mp h).1,h]
 ·rfl
def xF(pl:Pl):vP pl=(pl.map (·.2)).map Dt.int:=by unfold vP;rw[List.map_map];rfl
def Sg(p q:Fr):lE [.int p.1,.int p.2] [.int q.1,.int q.2]=decide (p=q):=by
 have⟨a,b⟩:=p;have⟨c,d⟩:=q;show((a==c)&&((b==d)&&true))=_;rw[Bool.and_true];by_cases h1:a=c
 ·by_cases h2:b=d
  ·subst h1 h2;simp
  ·have:¬((a,b)=(c,d)):=λz=>h2 (Prod.mk.inj z).2;rw[decide_eq_false this];simp[h2]
 ·have:¬((a,b)=(c,d)):=λz=>h1 (Prod.mk.inj z).1;rw[decide_eq_false this];simp[h1]
structure Pf(γ:List Rw)(tb:List Fr):Prop where
 tl:tb.length=γ.length
 sz:∀i,i < γ.length->Sz 400 (tb.getD i (0,1))
def RJ{t:Int}(h:Pf γ tb)(h0:0<=t)(h1:t < γ.length):jA (tb.map Υ) t=some (Υ (tb.getD t.toNat (0,1))):=by
 have hl:t.toNat < tb.length:=by rw[h.tl];omega
 have e2:(tb.map Υ)[t.toNat]? =some (Υ (tb.getD t.toNat (0,1))):=by rw[aah,aab,aaa hl];rfl
 have:=Ω e2;rwa[show((t.toNat:Nat):Int)=t by omega]at this
def PU(p r:Fr):pV M 1 (Υ p) (Υ r) (decide (p=r)):=by
 have:=pV.tup (M:=M) (n:=0) (ds:=[.int p.1,.int p.2]) (es:=[.int r.1,.int r.2]) (f:=λj=>if j=0 then decide (p.1=r.1) else decide (p.2=r.2)) (λj d e hd he=>by
  match j,hd,he with
  | 0,hd,he=>cases hd;cases he;have:=pV.flat (M:=M) (n:=0) (d:=.int p.1) (e:=.int r.1) rfl rfl;rwa[show tX (.int p.1) (.int r.1)=decide (p.1=r.1) by show(p.1==r.1)=_;by_cases h:p.1=r.1 <;> simp[h]]at this
  | 1,hd,he=>cases hd;cases he;have:=pV.flat (M:=M) (n:=0) (d:=.int p.2) (e:=.int r.2) rfl rfl;rwa[show tX (.int p.2) (.int r.2)=decide (p.2=r.2) by show(p.2==r.2)=_;by_cases h:p.2=r.2 <;> simp[h]]at this
  | j+2,hd,_=>cases hd)
 have e:((List.range (min [Dt.int p.1,.int p.2].length [Dt.int r.1,.int r.2].length)).all (λj=>if j=0 then decide (p.1=r.1) else decide (p.2=r.2))&&[Dt.int p.1,.int p.2].length==[Dt.int r.1,.int r.2].length)=decide (p=r):=by show((decide (p.1=r.1)&&(decide (p.2=r.2)&&true))&&true)=_;rw[Bool.and_true,Bool.and_true];have⟨a,b⟩:=p;have⟨c,d⟩:=r;simp[Prod.ext_iff,Bool.decide_and]
 rw[e]at this;exact this
section
variable{P:Program}{w:World}{K:fv}{base:Heap}{Cm:Addr}
def Kj(A:Addr):DF:=λas M q _=>∃(ε:Fr) (γ:List Rw) (tb:List Fr) (k kt:Nat) (pl:Pl),as=[aj A ε γ,.loc k,.loc kt]/\M[k]? =some (dP pl)/\M[kt]? =some (.lst (tb.map Υ))/\Pf γ tb/\Gy γ/\IQ pl/\pl.length<=12/\(∀p∈pl,0<=p.1/\∃kd ds,γ[p.1.toNat]? =some (.ω kd ds)/\0<=p.2/\p.2 < ds.length)/\q (.loc M.length) (M++[dP (Δ γ tb pl)])
def dZ:Γ ["floor","plan","table","better","place","numbers","best"] ["floor","plan","table"] (τ lJ):=.of rfl
def ye(F:c_ K "better_led" "better_led" lJ f fd)(E:Ev K mg Cm){cU:Addr}{cY:FuncData}(aK:fG P w K mg base 2 Cm "doors" ["self","place"] (sL Cm) cU cY){bC:Addr}{bF:FuncData}(ae:fG P w K mg base 1 Cm "kind" ["self","place"] (sU Cm) bC bF){Ez:Addr}{EX:FuncData}(mJ:aw P w K mg base 2 "greatest" ["numbers"] (yj oW) Ez EX){P4:Addr}{Oo:FuncData}(v8:aw P w K mg base 2 "least" ["numbers"] (yj ow) P4 Oo):ak P w K mg base (cF P w) 3 f fd ["floor","plan","table"] (cQ K (Kj Cm)):=by
 refine F.d7 dZ (λds M q x h=>?_) (λbq A outer s H E' hr=>⟨_,(ζ (χ 3 dZ.nd B_)
   (ζ (LL (jv 1) (ai (i:=4) dZ.nd rfl (Or.inl rfl)) az (ζ (cT (i:=5) dZ.nd rfl (Or.inl rfl) (ys:=["table"]) (Μ:=[2]) (.of dZ rfl rfl rfl) (aY (bo (gE aK hr ν (jv 0) (Λ (jv 4) η)))) (λC s H fp=>(Ε (jv 1) (Ε (jv 0) ο))))
   (ζ (jq (χ 6 dZ.nd (uL (d9 hr (gE ae hr ν (jv 0) (Λ (jv 4) η)) fc) (Χ mJ hr ν (Λ (jv 5) η)) (Χ v8 hr ν (Λ (jv 5) η)))))
   (ι (ao (gP hr (Ε (jv 5) (Ml (jv 1) (jv 4))) (jv 6)) (ι (qB hr (jv 3) (jv 4) (LU 1 hr (jv 5) (Λ (jv 6) η)))) Η)))))
   (ι (Β (jv 3))))),λds M q x h=>?_⟩)
 ·have⟨ε,γ,tb,k,kt,pl,rfl,_⟩:=h;rfl
 ·have⟨ε,γ,tb,k,kt,pl,rfl,hk,ny,tok,f,nd,r_,hp,h⟩:=h;have kl:k < M.length:=(aaf.mp hk).1;have U4:kt < M.length:=(aaf.mp ny).1;have kn:k≠kt:=λe=>by rw[e,ny]at hk;cases hk
  walk_at "vc";refine⟨k,kP pl,pl.map (·.2),rfl,by rw[<-xF];exact aH hk,λep=>?_⟩;show uh _ _ _ k (Lg P w (kP pl) (pl.map (·.2)) ep) _ _ _ ((M++[MO.iC [] []]).set k (.raw (Lg P w (kP pl) (pl.map (·.2)) ep)));have WN:∀p∈pl,bH (kP pl) ((pl.map (·.2)).map Dt.int) (Sum.inl p.1)=some (.int p.2):=λp hm=>by rw[<-xF,Dp,qU nd hm];rfl
  generalize hu:Lg P w (kP pl) (pl.map (·.2)) ep=u;have V5:(M++[MO.iC [] []]).set k (.raw u)=M.set k (.raw u)++[dP []]:=by rw[abO _ _ kl];rfl
  have hb:∀acc,((M.set k (.raw u)++[dP acc]).set k (.iC (kP pl) (vP pl)))=M++[dP acc]:=λacc=>by
   rw[abO _ _ (by rw[aaZ];exact kl),List.set_set]
   congr 1
   exact KO hk
  have hT:∀acc,(M.set k (.raw u)++[dP acc])[kt]? =some (.lst (tb.map Υ)):=λacc=>aH (by rw[aa6 kn];exact ny);rw[V5];refine yR (λxs ρ' M'=>∃(cv rest:Pl) (o4 o5 o6:Option Dt),pl=cv++rest/\xs=kP rest/\M'=M.set k (.raw u)++[dP (Δ γ tb cv)]/\ρ'=[some (aj Cm ε γ),some (.loc k),some (.loc kt),some (.loc M.length),o4,o5,o6]) (λxs ρ' M' hj=>?_) (λx xs ρ' M' hj fm=>?_) (λρ' M' hj=>?_) _ _ _ ⟨[],pl,none,none,none,rfl,rfl,rfl,rfl⟩
  ·have⟨cv,rest,o4,o5,o6,e,rfl,rfl,rfl⟩:=hj;exact aH (by rw[aa5 kl])
  ·have⟨cv,rest,o4,o5,o6,e,ex,rfl,rfl⟩:=hj;cases rest with
   | nil=>cases ex
   | cons p rest=>
    cases ex;have pm:p∈pl:=by rw[e];simp
    have⟨p0,kd,ds,N1,v0,v1⟩:=hp p pm;have⟨p1,v⟩:=p;obtain⟨i,rfl⟩:∃i:Nat,p1=(i:Int):=⟨p1.toNat,by have:0<=p1:=p0;omega⟩;obtain⟨j,rfl⟩:∃j:Nat,v=(j:Int):=⟨v.toNat,by have:0<=v:=v0;omega⟩;have N1:γ[i]? =some (.ω kd ds):=N1;have jl:j < ds.length:=by have:(j:Int) < ds.length:=v1;omega
    have rm:Rw.ω kd ds∈γ:=aaj N1;have ro:=(f.row _ rm).1;have l6:=oG f rm;have LJ:(M.set k (.raw u)++[dP (Δ γ tb cv)])[k]? =some (.raw u):=aH (by rw[aa5 kl]);have TB:(M.set k (.raw u)++[dP (Δ γ tb cv)])[M.length]? =some (dP (Δ γ tb cv)):=by have:=aL (M:=M.set k (.raw u)) (o:=dP (Δ γ tb cv));rwa[aaZ]at this
    have Z_:Δ γ tb (cv++[((i:Int),(j:Int))])=Δ γ tb cv++pb (tZ γ tb) (Ay γ tb) ((i:Int),(j:Int)):=by unfold Δ;rw[List.flatMap_append];simp
    have ed:KS γ (i:Int)=ds:=by unfold KS;rw[Int.toNat_natCast,cN N1];rfl
    have nl:(aB tb ds).length=ds.length:=by unfold aB;rw[List.length_map]
    have eb:tZ γ tb (i:Int) (j:Int)=decide ((aB tb ds).getD j (0,1)=bQ kd (aB tb ds)):=by unfold tZ;rw[ed,aaU,aaU,nv N1]
    have ex:Ay γ tb (i:Int)=(AF (bQ kd (aB tb ds)) (aB tb ds):Nat):=by unfold Ay;rw[ed,aaU,nv N1]
    have TK:∀acc o5 o6,acc=Δ γ tb (cv++[((i:Int),(j:Int))])->_:=λacc o5 o6 ea=>fm [some (aj Cm ε γ),some (.loc k),some (.loc kt),some (.loc M.length),some (.int (i:Int)),o5,o6] (M.set k (.raw u)++[dP acc]) ⟨cv++[((i:Int),(j:Int))],rest,_,o5,o6,by rw[e,aaJ];rfl,rfl,by rw[ea],rfl⟩;have hg:=WN _ pm;have nz:∀n∈aB tb ds,Sz 1300 n:=λn hn=>by have⟨d,hd,rfl⟩:=aam.mp hn;have:=iJ f rm hd;exact wU (tok.sz _ ()) @_
    have n0:aB tb ds≠[]:=λz=>by rw[z]at nl;have:(0:Nat)=ds.length:=nl;omega
    have⟨bm,_⟩:=xZ (k:=kd) n0 λn hn=>(nz n hn).2.1;have⟨xl,xe,xf⟩:=Cu bm;have Zn:=hT (Δ γ tb cv);rw[<-hu]at LJ TB TK Zn⊢;walk_at "vc";refine⟨⟨_,_,.inl rfl,rfl⟩,ε,γ,i,.ω kd ds,rfl,N1,ro,cz (fQ _) ?_⟩;refine⟨by show(ds.map cE).length<=sizeLine;rw[aae];exact aat l6.2 @_,?_⟩;refine cy (F:=λx d=>x=cE d/\d∈ds) (f:=λd=>Υ (tb.getD d.1.toNat (0,1))) (as:=ds) trivial (λx d hx qq hq=>?_) (fq cE ds ds λx hx=>hx) ?_
    ·have⟨rfl,hd⟩:=hx;have⟨t0,t1⟩:=iJ f rm hd;walk_at "vc";refine nW ?_;exact Α (d:=.loc kt) (rC Zn) (RJ tok t0 t1) hq
    rw[aaH];have en:ds.map (λd=>Υ (tb.getD d.1.toNat (0,1)))=(aB tb ds).map Υ:=by unfold aB;rw[List.map_map];rfl
    rw[en];generalize aB tb ds=ns at *
    refine⟨λρ M2=>M2=M.set k (.raw (Lg P w (kP pl) (pl.map (·.2)) ep))++[dP (Δ γ tb cv)]/\ρ=[some (aj Cm ε γ),some (.loc k),some (.loc kt),some (.loc M.length),some (.int (i:Int)),some (.lst (ns.map Υ)),some (Υ (bQ kd ns))],?_,?_⟩
    ·walk_at "vc";refine⟨⟨_,_,.inl rfl,rfl⟩,ε,γ,i,.ω kd ds,rfl,N1,λz=>?_,λz=>?_⟩
     ·have z:kd="one":=aaD z;exact⟨ns,rfl,n0,nz,rfl,by unfold bQ;rw[if_pos z];rfl⟩
     ·have z:kd≠"one":=aa3 z;exact⟨ns,rfl,n0,nz,rfl,by unfold bQ;rw[if_neg z];rfl⟩
    rintro ρ2 M2 ⟨rfl,rfl⟩;generalize bQ kd ns=b at *
    walk_at "vc";refine⟨k,kP pl,(pl.map λx:Int×Int=>x.2),ep,Sum.inl (i:Int),(j:Int),rfl,LJ,rfl,hg,?_⟩;refine(Α (d:=.lst (ns.map Υ)) (xs:=ns.map Υ) rfl (Ω (j:=j) (by rw[aah,aaa (show j < ns.length by omega)];rfl)) ?_:cx (.lst (ns.map Υ)) (.int (j:Int)) _ _);have gj:ns.getD j (0,1)=ns[j]'():=by rw[aab,aaa (show j < ns.length by omega)];rfl
    rw[gj]at eb;generalize ns[j]'()=c at *
    show((!lE [.int c.1,.int c.2] [.int b.1,.int b.2])=true->_)/\((!lE [.int c.1,.int c.2] [.int b.1,.int b.2])=false->_);rw[Sg,<-eb];refine⟨λz=>?_,λz=>?_⟩
    ·have z:¬tZ γ tb (i:Int) (j:Int)=true:=by simpa using z
     dsimp only[o7,GC];walk_at "vc";have dl:cv.length<=12:=by have:=aaP List.length e;rw[aag]at this;omega
     have ll:(Δ γ tb cv).length<=cv.length:=qP cv;refine⟨⟨ns.map Υ,rfl⟩,Υ b,ns.map Υ,λi=>decide (ns.getD i (0,1)=b),AF b ns,rfl,rfl,λi' z' UY=>?_,by rw[aae];exact xl,aau (by rw[aab,xe];rfl),λi' Hi=>aal λy=>xf i' Hi (by rw[aaa (show i' < ns.length by omega)];rw[aab,aaa (show i' < ns.length by omega)]at y;exact aaP some y),?_⟩
     ·rw[aah]at UY;have⟨n,hn,rfl⟩:=abV.mp UY;have en':ns.getD i' (0,1)=n:=by rw[aab,hn];rfl
      show pV _ 1 (Υ n) (Υ b) (decide (ns.getD i' (0,1)=b));rw[en'];exact PU n b
     refine⟨M.length,_,_,Sum.inl (i:Int),rfl,TB,rfl,by unfold kP;rw[List.length_map];omega,?_⟩;rw[zV (v:=((AF b ns:Nat):Int)),Ed];have gn:Τ (Δ γ tb cv) (i:Int)=none:=kG λy=>by have y:=iL y;rw[e]at nd;unfold IQ at nd;rw[aaW,ab1]at nd;exact nd.2.2 _ y _ aad rfl
     have e1:jG (Δ γ tb cv) (i:Int) ((AF b ns:Nat):Int)=Δ γ tb (cv++[((i:Int),(j:Int))]):=by rw[Z_];unfold jG pb;rw[gn,aaq z,ex,aaq @_]
     rw[e1,List.set_append_right (h:=by rw[aaZ];exact aai _),aaZ,abY];exact TK _ _ _ rfl
    ·have z:tZ γ tb (i:Int) (j:Int)=true:=by simpa using z
     exact TK _ _ _ (by rw[Z_];unfold pb;rw[if_pos z,List.append_nil])
  ·have⟨cv,rest,o4,o5,o6,e,ex,rfl,rfl⟩:=hj;have:rest=[]:=by cases rest with| nil=>rfl| cons p r=>cases ex
   subst this;rw[aaV]at e;rw[xF]at hb;rw[hb,<-e];exact h
section
variable{tb':List Fr}{a:Pl}{k:Str}
def qL.tok(fr:FR ε γ)(dr:aE γ gs S)(hp:aa (fF γ "one") p)(ha:aa (fF γ "other") a)(pr:AG γ S p)(h:qL γ S (aI p a) tb):Pf γ tb:=⟨h.tab.len,λi il=>(h.sz fr (jj fr hp ha) dr (pr a ha) il).2.2.2⟩
def sv(h:aa (fF γ k) a)(r_:γ.length<=12):a.length<=12:=by have:=aaP List.length (cJ h);rw[aae,jk,aae]at this;have l:=List.length_filter_le (λi=>decide (eU γ i=k)) (List.range γ.length);rw[aa8]at l;have l:(fR γ k).length<=γ.length:=l;omega
def Ea(fr:FR ε γ)(hh:Θ k=true)(h:aa (fF γ k) a):∀e∈a,0<=e.1/\∃kd ds,γ[e.1.toNat]? =some (.ω kd ds)/\0<=e.2/\e.2 < ds.length:=λe he=>by have ke:e.1∈a.map (·.1):=aam.mpr ⟨e,he,rfl⟩;rw[cJ h,jk]at ke;have⟨i,hm,ei⟩:=aam.mp ke;have ei:(i:Int)=e.1:=ei;have⟨ds,hi,_,_⟩:=iM fr hh hm;have⟨j,gj,jl⟩:=(br (i:=i) fr hh h).1 ds hi;have ge:=qU (gZ h) he;rw[<-ei,gj]at ge;have ge:=aas ge;exact⟨(),k,ds,by rw[<-ei,aaU];exact hi,(),()⟩
def Qin(γ:List Rw)(S:Sp)(p:Pl):Pl->Rat->Prop:=λa u=>∃tb,qL γ S (aI p a) tb/\u= -nu γ tb a
def qL.uniq(fr:FR ε γ)(dr:aE γ gs S)(hp:aa (fF γ "one") p)(ha:aa (fF γ "other") a)(pr:AG γ S p)(h:qL γ S (aI p a) tb)(h':qL γ S (aI p a) tb'):tb=tb':=(Ro fr (jj fr hp ha) dr (pr a ha)).uniq h.tab h'.tab
end
def NN(A:Addr):DF:=λas M q _=>∃(ε:Fr) (γ:List Rw) (kp:Nat) (p:Pl) (S:Sp) (gs:List Nat),as=[aj A ε γ,.loc kp,.lst (S.map fo)]/\M[kp]? =some (dP p)/\FR ε γ/\aE γ gs S/\aa (fF γ "one") p/\AG γ S p/\∀(a:Pl) (tb:List Fr) (E':Ms) (kt:Nat),qv γ S p a tb->Δ γ tb a=[]->M.length < kt->(M++[dP a]++E')[kt]? =some (.lst (tb.map Υ))->q (.tup [.loc M.length,.loc kt]) (M++[dP a]++E')
def hU:Γ ["floor","plan","steps","answer","table","better"] ["floor","plan","steps"] (τ lH):=.of rfl
def xT(F:c_ K "kept_least" "kept_least" lH f fd)(E:Ev K mg Cm){AX:Addr}{Cs:FuncData}(j2:aw P w K mg base 3 "first_plan" ["floor","hand"] (Dq Cm) AX Cs){CK:Addr}{B1:FuncData}(ki:aw P w K mg base 7 "chances_by" ["floor","plan","answer","steps"] (NU Cm) CK B1){mK:Addr}{lY:FuncData}(ef:aw P w K mg base 3 "better_led" ["floor","plan","table"] (Kj Cm) mK lY):ak P w K mg base (cF P w) 8 f fd ["floor","plan","steps"] (cQ K (NN Cm)):=by
 refine F.d7 hU (λds M q x h=>?_) (λbq A outer s H E' hr=>⟨_,(ζ (χ 3 hU.nd (Χ j2 hr ν (Λ (jv 0) (θ fc η bJ))))
   (ι (j6 (bV yH) (ζ (χ 4 hU.nd (Χ ki hr ν (Λ (jv 0) (Λ (jv 1) (Λ (jv 3) (Λ (jv 2) η))))))
   (ζ (χ 5 hU.nd (Χ ef hr ν (Λ (jv 0) (Λ (jv 3) (Λ (jv 4) η)))))
   (ζ (ao (d9 hr (Ii E.bR (Λ (jv 5) η)) ο) (ι (Β (cb (Λ (jv 3) (Λ (jv 4) η))))) Η)
   (ι (eL (AN (jv 3) (jv 5)))))))))),λds M q x h=>?_⟩)
 ·have⟨ε,γ,kp,p,S,gs,rfl,_⟩:=h;rfl
 ·have⟨ε,γ,kp,p,S,gs,rfl,hp,fr,dr,fp,pr,h⟩:=h;have r_:=fr.pl.len;have f0:=BZ fr aF;walk_at "vc";refine⟨ε,γ,"other",rfl,r_,?_⟩;generalize BI γ "other"=a0 at *
  refine⟨λm ρ' M'=>∃(a:Pl) (E1:Ms) (o:Option Rat) (o4 o5:Option Dt),aa (fF γ "other") a/\m=R9 (MT (fF γ "other")) (Qin γ S p) o/\(∀t,o=some t->∀tb,qL γ S (aI p a) tb->t < -nu γ tb a)/\M'=M++[dP a]++E1/\ρ'=[some (aj Cm ε γ),some (.loc kp),some (.lst (S.map fo)),some (.loc M.length),o4,o5],⟨_,a0,[],none,none,none,f0,rfl,λ_ z=>(nomatch z),by rw[aaV],rfl⟩,λm ρ' M' hw=>?_⟩;have⟨a,E1,o,o4,o5,fa,rfl,ho,rfl,rfl⟩:=hw;have kpl:kp < M.length:=(aaf.mp hp).1;have Qr:(M++[dP a]++E1)[kp]? =some (dP p):=aH (aH hp);have Vp:∀(a:Pl) (E:Ms),(M++[dP a]++E)[M.length]? =some (dP a):=λa E=>aH aL;have Jo:=sv fp r_;have RR:=sv fa r_;have dk:=jj fr fp fa;walk_at "vc";refine⟨λ_=>⟨_,λρ2 M2 hn=>hn,?_⟩,nofun⟩;refine⟨ε,γ,kp,M.length,.lst (S.map fo),S,gs,p,a,rfl,Qr,Vp a E1,λ_=>rfl,(),dk,dr,fr,pr a fa,λtb cn=>?_⟩;have tok:=cn.tok fr dr fp fa pr;have e1:M++[dP a]++E1++[dP (aI p a),MO.lst (tb.map Υ)]=M++[dP a]++(E1++[dP (aI p a),MO.lst (tb.map Υ)]):=by simp
  obtain⟨E2,hE2⟩:∃E2,E2=E1++[dP (aI p a),MO.lst (tb.map Υ)]:=⟨_,rfl⟩;obtain⟨kt,ny⟩:∃kt,kt=(M++[dP a]++E1).length+1:=⟨_,rfl⟩;have R6:M.length < kt:=by rw[ny,aag,aag];show M.length < M.length+1+E1.length+1;omega
  have Zg:(M++[dP a]++E2)[kt]? =some (.lst (tb.map Υ)):=by rw[hE2,<-e1,ny,aaw (abu _ 1),abq];rfl
  rw[e1,<-hE2,<-ny];refine⟨ε,γ,tb,M.length,kt,a,rfl,Vp a E2,Zg,tok,fr.Q2,gZ fa,RR,Ea fr aF fa,?_⟩;have V1:(Δ γ tb a).length<=12:=aat (qP a) RR;have TL:(M++[dP a]++E2++[dP (Δ γ tb a)])[(M++[dP a]++E2).length]? =some (dP (Δ γ tb a)):=aL;have kl:(kP (Δ γ tb a)).length=(Δ γ tb a).length:=by unfold kP;rw[List.length_map]
  refine⟨_,_,_,rfl,TL,?_⟩;rw[kl];show(decide (((Δ γ tb a).length:Int)=0)=true->_)/\(decide (((Δ γ tb a).length:Int)=0)=false->_);refine⟨λz=>?_,λz=>?_⟩
  ·have e:Δ γ tb a=[]:=List.length_eq_zero_iff.mp (by have:=aaD z;omega);refine⟨fI,?_⟩;rw[aaJ (M++[dP a]) E2];exact h a tb _ kt ⟨fa,cn,HN fr fa cn.tab.red e⟩ e R6 (by rw[<-aaJ];exact aH Zg)
  ·have ne:Δ γ tb a≠[]:=λy=>by rw[y]at z;exact aaC z @_
   have⟨im,_⟩:=rF (tb:=tb) fr aF fa cn.tab.red;have ml:M.length < (M++[dP a]++E2).length:=by rw[aag,aag];show M.length < M.length+1+E2.length;omega
   dsimp only[AA,DP];walk_at "vc";refine⟨⟨M.length,_,_,rfl,aH (Vp a E2)⟩,M.length,_,_,_,_,_,rfl,rfl,(),aH (Vp a E2),TL,by rw[kl];unfold kP;rw[List.length_map];omega,?_⟩;rw[D6,DY];have se:(M++[dP a]++E2++[dP (Δ γ tb a)]).set M.length (dP (aI a (Δ γ tb a)))=M++[dP (aI a (Δ γ tb a))]++(E2++[dP (Δ γ tb a)]):=by rw[aaJ (M++[dP a]),aaJ,aaJ,List.set_append_right (h:=aai _),abY];rfl
   rw[se];refine⟨_,?_,aI a (Δ γ tb a),_,some (-nu γ tb a),_,_,im.fit,rfl,λt et tb' Wk=>?_,rfl,rfl⟩
   ·exact GY (sQ fa) ⟨tb,cn,rfl⟩ (λu' ⟨tb',Wk,e⟩=>by rw[e,Wk.uniq fr dr fp fa pr cn]) λt et=>ho t et tb cn
   ·cases et;have:=HC fr dr fp fa pr cn ne Wk;grind
def pK{E:Ms}{n:Nat}:∀(γ:List Rw) (j:Nat),(∀i m,(lx γ)[i]? =some m->E[j+i]? =some m)->fN n E (nL (n+j) γ) (γ.map Κ)
 | [],_,_=>.nil
 | .fin p::r,j,h=>.cons (.old (DL (.fin p))) (pK r j h)
 | .ω k ds::r,j,h=>.cons (.tup (.cons (.old trivial) (.cons (.w6 (abu _ _) (by rw[abq];exact h 0 _ rfl) (fN.old (fQ ds))) .nil))) (pK r (j+1) λi m e=>by rw[show j+1+i=j+(i+1) by omega];exact h (i+1) m e)
def JL(γ:List Rw)(M:Ms)(x:MO):fN M.length (lx γ++[x]) (nL M.length γ) (γ.map Κ):=
 pK γ 0 λi m e=>by rw[acd,aao (aaf.mp e).1];exact e
def C9(M:Ms):∀rs:List Rw,Paired (jC M) (rs.map Κ) rs
 | []=>.nil
 | r::rs=>.cons (wu _ r) (C9 M rs)
def jD(p:Pl)(i:Nat)(r:Rw):Rw:=match Τ p i,r with
 | some j,.ω k ds=>.ω k [ds.getD j.toNat d0]
 | _,r=>r
def jw(p:Pl):Nat->List Rw->List Rw
 | _,[]=>[]
 | n,r::rs=>jD p n r::jw p (n+1) rs
def kN(p:Pl):∀(rs:List Rw) (n:Nat),(jw p n rs).length=rs.length
 | [],_=>rfl
 | _::rs,n=>aaP Nat.succ (kN p rs (n+1))
def qT(p:Pl):∀(rs:List Rw) (n i:Nat),(jw p n rs)[i]? =(rs[i]?).map (jD p (n+i))
 | [],_,_=>rfl
 | r::rs,n,0=>rfl
 | r::rs,n,i+1=>by show(jw p (n+1) rs)[i]? =(rs[i]?).map (jD p (n+(i+1)));rw[qT p rs (n+1) i,show n+1+i=n+(i+1) by omega]
def vp{te:DE}{ρ0:En}{ok:Ms->Prop}{M:Ms}{p:Pl}{k:List Dt->Ms->Prop}(ho:ok M):∀(rs:List Rw) (n:Nat) (acc:List Dt),(∀j r,rs[j]? =some r->∀q:DQ,q (Κ (jD p (n+j) r)) M->g2 0 1 (.tup [.int ((n+j:Nat):Int),Κ r]) ρ0 λρ'=>te ρ' M q jP)->k (acc++(jw p n rs).map Κ) M->vd (g2 0 1) te ρ0 ok (g8 n (rs.map Κ)) acc M k
 | [],n,acc,ht,h=>⟨ho,by simpa [jw] using h⟩
 | r::rs,n,acc,ht,h=>⟨ho,ht 0 r rfl _ (vp ho rs (n+1) _ (λj r' hj q hq=>by
   have:=ht (j+1) r' hj q (by rw[show n+(j+1)=n+1+j by omega];exact hq)
   rwa[show n+(j+1)=n+1+j by omega]at this) (by simpa [jw] using h))⟩
def MN(M:Ms)(g:Dt)(gs:List Nat):Prop:=g= .lst (gs.map bc)\/∃k,g= .loc k/\M[k]? =some (.lst (gs.map bc))
def MN.app{E:Ms}{g:Dt}(h:MN M g gs):MN (M++E) g gs:=by
 rcases h with h| ⟨k,e,h⟩
 ·exact .inl h
 ·exact .inr ⟨k,e,aH h⟩
def MN.it{g:Dt}(h:MN M g gs):∃ok,j9 M g=some (gs.map bc,ok)/\ok M/\ic M g=some (gs.map bc):=by
 rcases h with rfl| ⟨k,rfl,h⟩
 ·exact⟨λ_=>True,rfl,trivial,rfl⟩
 ·have e:iA M (.loc k)=some (gs.map bc,λM':Ms=>M'[k]? =some (MO.lst (gs.map bc))):=by show(match M[k]? with| some (MO.lst xs)=>some (xs,λM':Ms=>M'[k]? =some (MO.lst xs))| _=>none)=_;rw[h]
  exact⟨_,nh e,h,rC h⟩
section
def HA(fr:FR ε γ)(fp:aa (fF γ "one") p)(hi:γ[i]? =some (.ω "one" ds)):∃(j:Nat) (jl:j < ds.length),Τ p i=some (j:Int)/\jD p i (.ω "one" ds)= .ω "one" [ds[j]]:=by have⟨j,gj,jl⟩:=(br (i:=i) fr aA fp).1 ds hi;refine⟨j,jl,gj,?_⟩;unfold jD;rw[gj];show Rw.ω "one" [ds.getD ((j:Int)).toNat d0]=_;rw[aaU,aab,aaa jl];rfl
def yM(fr:FR ε γ)(fp:aa (fF γ "one") p){r:Rw}(hi:γ[i]? =some r)(hk:kindOf r≠"one"):jD p i r=r:=by unfold jD;rw[(br (i:=i) fr aA fp).2 r hi hk]
def IF(fr:FR ε γ)(fp:aa (fF γ "one") p):Gy (jw p 0 γ):=by
 refine⟨by rw[kN];exact fr.pl.len,λr hr=>?_⟩;rw[kN];have⟨i,hi,rfl⟩:=aba hr;have e:=aaa hi;rw[qT]at e;have⟨r0,X0,er⟩:=abV.mp e;rw[acd]at er;rw[<-er];have rm:=aaj X0;by_cases hk:kindOf r0="one"
 ·cases r0 with
  | fin q=>exact aaC hk (by show¬(Str.ofString "end"=Str.ofString "one");decide)
  | ω k ds=>
   have hk:k="one":=hk;subst hk;have⟨j,jl,_,eh⟩:=HA fr fp X0;rw[eh];have dm:=aan jl;have⟨ro,rf⟩:=fr.pl.row _ rm;have fd:=(og fr.Q2 rm).1;unfold Ι at fd;rw[aaB,aaB]at fd;refine⟨⟨@_,(by show 1<=12;decide),λz=>aaC z @_,λd hd=>by rw[abm.mp hd];exact ro.2.2.2 _ dm⟩,?_⟩;show(if Θ (Str.ofString "one") then Ι [ds[j]] γ.length else if (Str.ofString "one")="chance" then Ι [ds[j]] γ.length&&Ο ([ds[j]].map ξ) else false)=true;rw[aar aA];unfold Ι;rw[aaB,aaB];refine⟨⟨rfl,rfl⟩,?_⟩;rw[abL,List.all_nil,Bool.and_true];exact aaS.mp fd.2 _ dm
 ·rw[yM fr fp X0 hk];exact fr.pl.row _ rm
def B3(fr:FR ε γ)(fp:aa (fF γ "one") p)(go:b_ γ gs):b_ (jw p 0 γ) gs:=by refine⟨go.up,λg hg=>?_⟩;have⟨q,hq⟩:=go.fin g hg;refine⟨q,?_⟩;rw[qT,hq,acd];show some (jD p g (.fin q))=_;rw[yM fr fp hq (by show¬(Str.ofString "end"=Str.ofString "one");decide)]
end
def NL:DF:=λas M q _=>∃(r:Rw) (i k:Nat) (p:Pl),as=[Κ r,.int (i:Nat),.loc k]/\M[k]? =some (dP p)/\(∀v,Τ p i=some v->∃kd ds,r= .ω kd ds/\0<=v/\v < ds.length)/\q (Κ (jD p i r)) M
def EA:Γ ["row","place","plan"] ["row","place","plan"] (τ tG):=.of rfl
def BV(F:c_ K "held_row" "held_row" tG f fd)(E:Ev K mg Cm):ak P w K mg base (cF P w) 1 f fd ["row","place","plan"] (cQ K NL):=by
 refine F.d7 EA (λds M q x h=>?_) (λbq A outer s H E' hr=>⟨_,(ζ (ao (Jv hr (jv 1) (jv 2)) (ι (Β (cb (θ (Ε (jv 0) ο) (θ (mV (θ (Ε (Ε (jv 0) ο) (wz hr (jv 2) (jv 1))) η aR)) η) aR)))) Η)
   (ι (Β (jv 0)))),λds M q x h=>?_⟩)
 ·have⟨r,i,k,p,rfl,_⟩:=h;rfl
 ·have⟨r,i,k,p,rfl,hk,hv,h⟩:=h;refine⟨k,_,_,Sum.inl (i:Int),rfl,hk,rfl,?_⟩;rw[LZ];cases hg:Τ p i with
  | none=>
   unfold jD at h;rw[hg]at h;exact⟨nofun,λ_=>h⟩
  | some v=>
   have⟨kd,ds,rfl,v0,v1⟩:=hv v hg;have dg:bH (kP p) (vP p) (Sum.inl (i:Int))=some (.int v):=by rw[Dp,hg];rfl
   obtain⟨j,rfl⟩:∃j:Nat,v=(j:Int):=⟨v.toNat,()⟩;have jl:j < ds.length:=()
   have gd:ds.getD j d0=ds[j]:=by rw[aab,aaa jl];rfl
   unfold jD at h;rw[hg]at h;have h:q (Κ (.ω kd [ds.getD ((j:Int)).toNat d0])) M:=h;rw[aaU,gd]at h;refine⟨λ_=>?_,nofun⟩;walk_at "vc";refine(Α (d:=.tup [.str kd,.lst (ds.map cE)]) (xs:=[.str kd,.lst (ds.map cE)]) rfl aN ?_:cx (.tup [.str kd,.lst (ds.map cE)]) (.int 0) M _);refine(DR ?_:cx (.tup [.str kd,.lst (ds.map cE)]) (.int 1) M _);refine⟨k,_,_,Sum.inl (i:Int),_,rfl,hk,rfl,dg,?_⟩;refine(Α (d:=.lst (ds.map cE)) (xs:=ds.map cE) rfl (Ω (j:=j) (by rw[aah,aaa jl];rfl)) ?_:cx (.lst (ds.map cE)) (.int (j:Int)) M _);exact⟨by show 1<=sizeLine;decide,fI,h⟩
def Kf(A:Addr):DF:=λas M q _=>∃(ε:Fr) (γ:List Rw) (kp:Nat) (p:Pl) (g:Dt) (gs:List Nat),as=[aj A ε γ,.loc kp,g]/\M[kp]? =some (dP p)/\aa (fF γ "one") p/\FR ε γ/\MN M g gs/\b_ γ gs/\∀(S2:Sp) (m:MO),aE (jw p 0 γ) gs S2->q (.loc M.length) (M++[.lst (S2.map fo),m])
def oj:Γ ["floor","plan","goals","rows"] ["floor","plan","goals"] (τ rY):=.of rfl
def Cg(F:c_ K "steps_by" "steps_by" rY f fd)(E:Ev K mg Cm){B5:Addr}{Bo:FuncData}(ko:fG P w K mg base 2 Cm "rows" ["self"] (NC Cm) B5 Bo){Hz:Addr}{Jf:FuncData}(o_:aw P w K mg base 1 "held_row" ["row","place","plan"] NL Hz Jf){HI:Addr}{JC:FuncData}(oy:aw P w K mg base 5 "draw" ["floor","goals"] (Kd Cm) HI JC){lO:Addr}{l7:FuncData}(c7:MS P w K mg base 5 "Floor" Cm ["self","share","rows"] (Iu Cm) lO l7){yO:Addr}{yX:FuncData}(iX:fG P w K mg base 1 Cm "share" ["self"] (JU Cm) yO yX):ak P w K mg base (cF P w) 7 f fd ["floor","plan","goals"] (cQ K (Kf Cm)):=by
 refine F.d7 oj (λds M q x h=>?_) (λbq A outer s H E' hr=>⟨_,(ζ (zp (i:=3) oj.nd rfl (Or.inl rfl) (ys:=["plan"]) (Μ:=[1]) (.of oj rfl rfl rfl) (nQ E.cw (θ (bo (g_ ko hr ν (jv 0))) η aO)) (λC s H fp=>(Χ o_ hr (eE (P:=P) (w:=w)) (Λ (jv 1) (Λ (jv 0) (Λ (jv 2) η))))))
   (ι (Β (Ε (Χ oy hr ν (θ (bo (Bu c7 hr ν (θ (g_ iX hr ν (jv 0)) (Λ (jv 3) η) aO))) (Λ (jv 2) η) aO)) ο)))),λds M q x h=>?_⟩)
 ·have⟨ε,γ,kp,p,g,gs,rfl,_⟩:=h;rfl
 ·have⟨ε,γ,kp,p,g,gs,rfl,hp,fp,fr,ga,go,h⟩:=h;have⟨ok,g1,TM,g3⟩:=ga.it;have fl:=IF fr fp;have hg:=B3 fr fp go;have sl:∀{z:Nat},z<=1000->z<=sizeLine:=λh=>aat h @_;have r_:=fr.pl.len;refine⟨⟨_,_,.inl rfl,rfl⟩,ε,γ,rfl,r_,λr hr=>(fr.pl.row r hr).1,?_⟩;rw[aaJ];refine gF (d':=.lst (γ.map Κ)) (.w6 (Nat.le_add_right _ _) (by simp) (JL γ M _)) ?_;walk_at "vc";refine⟨.lst (γ.map Κ),γ.map Κ,λ_=>True,rfl,rfl,?_⟩;refine⟨by rw[fW,aae];exact sl (),?_⟩;refine vp (p:=p) trivial γ 0 [] (λj r hj qq hq=>?_) ?_
  ·rw[acd]at hq⊢;dsimp only[g2];walk_at "vc";refine⟨r,j,kp,p,rfl,hp,λv hv=>?_,hq⟩;cases r with
   | fin e=>rw[(br (i:=j) fr aA fp).2 _ hj (by show¬(Str.ofString "end"=Str.ofString "one");decide)]at hv;cases hv
   | ω kd ds=>
    by_cases hk:kd="one"
    ·subst hk;have⟨x,gx,xl⟩:=(br (i:=j) fr aA fp).1 ds hj;rw[gx]at hv;cases hv;exact⟨_,ds,rfl,(),()⟩
    ·rw[(br (i:=j) fr aA fp).2 _ hj hk]at hv;cases hv
  rw[aaH];generalize hh:jw p 0 γ=mW at *
  have hl:mW.length=γ.length:=by rw[<-hh,kN]
  refine⟨⟨_,_,.inl rfl,rfl⟩,ε,γ,rfl,?_⟩;refine⟨M.length,.lst (mW.map Κ),ε,mW.map Κ,mW,λ_=>True,rfl,by simp,rfl,C9 _ _,fr.pl.sh,by rw[hl];exact fr.n1,fl.len,fl.row,rfl,?_⟩;rw[show(M++[MO.ins Cm [] []]).set M.length (.ins Cm ["kept_share","kept_rows"] [Υ ε,.lst (mW.map Κ)])=M++[.ins Cm ["kept_share","kept_rows"] [Υ ε,.lst (mW.map Κ)]] by simp[List.set_append]];refine gF (d':=aj Cm ε mW) (.TY (Nat.le_refl _) (by simp) (.cons (.old (mh ε)) (.cons (.old (gm mW)) .nil))) ?_;refine⟨ε,mW,g,gs,ok,rfl,g1,TM,g3,hg,fl,λS2 d2=>?_⟩;exact Α (xs:=[.loc (M.length+1),.loc M.length]) rfl (Ω (j:=1) rfl) (h S2 _ d2)
section
def A0(o:Option Nat):∀(ds:List ba) (n:Nat),(tN S o ds n=0/\∀d∈ds,g6 S o d=false)\/∃(j:Nat) (jl:j < ds.length),tN S o ds n=n+j/\g6 S o ds[j]=true
 | [],_=>.inl ⟨rfl,λ_ h=>nomatch h⟩
 | d::ds,n=>by
  by_cases c:g6 S o d=true
  ·refine .inr ⟨0,by simp,?_,c⟩;show(if g6 S o d=true then n else tN S o ds (n+1))=_;rw[aar c];rfl
  ·have e:tN S o (d::ds) n=tN S o ds (n+1):=aaq c;rw[e];rcases A0 o ds (n+1) with ⟨a,b⟩| ⟨j,jl,a,b⟩
   ·refine .inl ⟨a,λx hx=>?_⟩;rcases aaA.mp hx with y| y
    ·rw[y];simpa using c
    ·exact b x y
   ·exact .inr ⟨j+1,by simpa using jl,by rw[a];omega,b⟩
def FP{l:List Nat}{f:Nat->Int}(h:i∈l):Τ (l.map λi:Nat=>((i:Int),f i)) (i:Int)=some (f i):=by
 induction l with
 | nil=>cases h
 | cons a l ih=>
  rw[aaM];unfold Τ;by_cases e:a=i
  ·rw[aar (by show(a:Int)=i;omega)];show some (f a)=_;rw[e]
  ·rw[aaq (by show¬(a:Int)=i;omega)];exact ih ((aaA.mp h).resolve_left λz=>e z.symm)
def tH(fr:FR ε γ):aa (fF γ "one") (mr γ S):=by
 have key:∀{l:List Nat},(∀i∈l,tN S (at_ S i) (au (eB γ i)) 0 < (au (eB γ i)).length)->aa (l.map λi:Nat=>((i:Int),(au (eB γ i)).length)) (l.map λi:Nat=>((i:Int),((tN S (at_ S i) (au (eB γ i)) 0:Nat):Int))):=λ{l}=>by
  induction l with
  | nil=>exactλ_=>trivial
  | cons a l ih=>exactλh=>⟨rfl,(),by have:=h a aad;omega,ih λi hi=>h i (aac _ hi)⟩
 refine key λi hi=>?_;have⟨ds,_,e,l⟩:=iM fr aA hi;rw[e];rcases A0 (S:=S) (at_ S i) ds 0 with ⟨a,_⟩| ⟨j,jl,a,_⟩
 ·rw[a];exact l
 ·rw[a];omega
def fZ(dr:aE γ gs S){k:Str}(hi:γ[i]? =some (.ω k ds)){s:Nat}(e:at_ S i=some (s+1)):(k="other"->∀d∈ds,∃t,at_ S d.1.toNat=some t/\t<=s)/\∃d∈ds,at_ S d.1.toNat=some s:=by
 have:=dr.2 i _ hi;have this:iK k (aS S ds) (at_ S i):=this;unfold iK at this;rw[e]at this;by_cases hk:k="other"
 ·rw[aar hk]at this;rcases this with ⟨z,_⟩| ⟨v,ev,h1,h2⟩
  ·cases z
  ·cases ev;have⟨d,hd,ed⟩:=ag.mp h1;exact⟨λ_ d hd=>h2 _ (ag.mpr ⟨d,hd,rfl⟩),d,hd,ed⟩
 ·rw[aaq hk]at this;rcases this with ⟨z,_⟩| ⟨v,ev,h1,h2⟩
  ·cases z
  ·cases ev;have⟨d,hd,ed⟩:=ag.mp h1;exact⟨λz=>aaC z hk,d,hd,ed⟩
def GL(fr:FR ε γ)(dr:aE γ gs S)(fp:aa (fF γ "one") p)(hd:∀(i:Nat) (ds:List ba) (s:Nat),γ[i]? =some (.ω "one" ds)->at_ S i=some (s+1)->∃(j:Nat) (jl:j < ds.length) (t:Nat),Τ p i=some (j:Int)/\at_ S ds[j].1.toNat=some t/\t<=s):AG γ S p:=λa fa C hC i il Vt=>by
 have main:∀(s i:Nat),i < γ.length->C i->at_ S i=some s->False:=λs=>by
  induction s using Nat.strongRecOn with
  | _ s ih=>
   intro i il ci e;have⟨st,cl⟩:=hC i il ci;have⟨s',e'⟩:=id st;rw[e]at e';have es:s=s'+1:=aas e';subst es;have⟨k,ds,hi⟩:=jZ dr il st;have Fz:=cW fr.pl (aaj hi);have go:∀d∈gH γ S (aI p a) i,∀t,at_ S d.1.toNat=some t->t<=s'->False:=λd hd t et lt=>by have:=(pj (acc:=aI p a) fr (jj fr fp fa) dr il st).2.2;have⟨B,_,_,hw⟩:=this;have:=(hw d hd).to;exact ih t () d.1.toNat () (cl d hd) et
   have⟨n1,d1,K6,QW⟩:=fZ dr hi e;rcases mM fr hi with rfl| rfl| rfl
   ·have⟨j,jl,t,gj,et,lt⟩:=hd i ds s' hi e;refine go (ds[j].1,ds[j].2.1,[(1,1)]) ?_ t et lt;rw[jM st,cN hi,j7 fr hi aA (by rw[fe fr fa hi];exact gj) jl];exact abm.mpr rfl
   ·have⟨j,gj,jl⟩:=(br (i:=i) fr aF fa).1 ds hi;have⟨t,et,lt⟩:=n1 rfl _ (aan jl);refine go (ds[j].1,ds[j].2.1,[(1,1)]) ?_ t et lt;rw[jM st,cN hi,j7 fr hi aF (by rw[hG fr fa hi];exact gj) jl];exact abm.mpr rfl
   ·refine go d1 ?_ s' QW (aai _);rw[jM st,cN hi];unfold eW;rw[g7 fr fp fa hi];exact K6
 have⟨⟨s,e⟩,_⟩:=hC i il Vt;exact main _ i il Vt e
def Ib(fr:FR ε γ)(dr:aE γ gs S):AG γ S (mr γ S):=by
 refine GL fr dr (tH fr) λi ds s hi e=>?_;have il:=(aaf.mp hi).1;have hm:i∈fR γ "one":=n8.mpr ⟨il,nv hi⟩;have g:Τ (mr γ S) (i:Int)=some ((tN S (at_ S i) (au (eB γ i)) 0:Nat):Int):=FP (f:=λi=>((tN S (at_ S i) (au (eB γ i)) 0:Nat):Int)) hm;rw[cN hi]at g;have g:Τ (mr γ S) (i:Int)=some ((tN S (at_ S i) ds 0:Nat):Int):=g;have⟨_,d1,K6,QW⟩:=fZ dr hi e;rcases A0 (S:=S) (at_ S i) ds 0 with ⟨_,b⟩| ⟨j,jl,ej,b⟩
 ·have:=b d1 K6;unfold g6 at this;rw[QW,e]at this;exact aaC (aa3 this) ()
 ·rw[ej,acd]at g;unfold g6 at b;rw[e]at b;cases et:at_ S ds[j].1.toNat with
  | none=>rw[et]at b;cases b
  | some t=>
   rw[et]at b;have:=aaD b;exact⟨j,jl,t,g,et,()⟩
def V3(γ:List Rw)(S:Sp):Pl->Rat->Prop:=λp u=>∃a tb,AG γ S p/\qv γ S p a tb/\u=nu γ tb p
structure fE(γ:List Rw)(gs:List Nat)(S S2:Sp)(p a:Pl)(tb:List Fr):Prop where
 dr:aE γ gs S
 fp:aa (fF γ "one") p
 pr:AG γ S p
 kp:qv γ S p a tb
 np:Δ γ tb p=[]
 na:Δ γ tb a=[]
 d2:aE (jw p 0 γ) gs S2
end
def LM{q:DQ}{xs:List Nat}(h:q (.tup [.lst (xs.map bc),.lst (S.map fo)]) M):nJ M q (.tup [.loc (M.length+1),.loc M.length]) (M++[.lst (S.map fo),.lst (xs.map bc)]):=by
 have u1:∀(S:Sp),Dt.aV M.length (S.map fo):=λS=>by
  induction S with
  | nil=>trivial
  | cons o S ih=>cases o with| none=>exact⟨trivial,ih⟩| some v=>exact⟨trivial,ih⟩
 have u2:∀(xs:List Nat),Dt.aV M.length (xs.map bc):=λxs=>by
  induction xs with
  | nil=>trivial
  | cons o S ih=>exact⟨trivial,ih⟩
 exact gF (d':=.tup [.lst (xs.map bc),.lst (S.map fo)]) (.tup (.cons (.w6 (Nat.le_succ _) (by rw[abq];rfl) (fN.old (u2 xs))) (.cons (.w6 (aai _) (by rw[abY];rfl) (fN.old (u1 S))) .nil))) h
def zX(A:Addr):DF:=λas M q _=>∃(ε:Fr) (γ:List Rw) (g:Dt) (gs:List Nat),as=[aj A ε γ,g]/\FR ε γ/\MN M g gs/\b_ γ gs/\∀(S S2:Sp) (p a:Pl) (tb:List Fr) (E':Ms) (kt ka ks:Nat),fE γ gs S S2 p a tb->M.length < ka->ka < kt->kt < ks->(M++[dP p]++E')[ka]? =some (dP a)->(M++[dP p]++E')[kt]? =some (.lst (tb.map Υ))->(M++[dP p]++E')[ks]? =some (.lst (S2.map fo))->q (.tup [.loc kt,.loc M.length,.loc ka,.loc ks]) (M++[dP p]++E')
def iH:Γ ["floor","goals","steps","plan","found","better"] ["floor","goals"] (τ tq):=.of rfl
def Cp(F:c_ K "chances" "chances" tq f fd)(E:Ev K mg Cm){HI:Addr}{JC:FuncData}(oy:aw P w K mg base 5 "draw" ["floor","goals"] (Kd Cm) HI JC){AL:Addr}{Ca:FuncData}(kg:aw P w K mg base 4 "drawn_plan" ["floor","steps"] (sI Cm) AL Ca){Ct:Addr}{Ci:FuncData}(kr:aw P w K mg base 8 "kept_least" ["floor","plan","steps"] (NN Cm) Ct Ci){mK:Addr}{lY:FuncData}(ef:aw P w K mg base 3 "better_led" ["floor","plan","table"] (Kj Cm) mK lY){Ku:Addr}{Jh:FuncData}(oZ:aw P w K mg base 7 "steps_by" ["floor","plan","goals"] (Kf Cm) Ku Jh):ak P w K mg base (cF P w) 9 f fd ["floor","goals"] (cQ K (zX Cm)):=by
 refine F.d7 iH (λds M q x h=>?_) (λbq A outer s H E' hr=>⟨_,(ζ (χ 2 iH.nd (Ε (bo (Χ oy hr ν (Λ (jv 0) (Λ (jv 1) η)))) ο))
   (ζ (χ 3 iH.nd (Χ kg hr ν (Λ (jv 0) (Λ (jv 2) η))))
   (ι (j6 (bV yH) (ζ (χ 4 iH.nd (Χ kr hr ν (Λ (jv 0) (Λ (jv 3) (Λ (jv 2) η)))))
   (ζ (χ 5 iH.nd (Χ ef hr ν (Λ (jv 0) (Λ (jv 3) (θ (Ε (jv 4) ο) η aR)))))
   (ζ (ao (d9 hr (Ii E.bR (Λ (jv 5) η)) ο) (ι (Β (cb (θ (Ε (jv 4) ο) (Λ (jv 3) (θ (Ε (jv 4) ο) (θ (Χ oZ hr ν (Λ (jv 0) (Λ (jv 3) (Λ (jv 1) η)))) η aO) aR)) aR)))) Η)
   (ι (eL (AN (jv 3) (jv 5))))))))))),λds M q x h=>?_⟩)
 ·have⟨ε,γ,g,gs,rfl,_⟩:=h;rfl
 ·have⟨ε,γ,g,gs,rfl,fr,ga,go,h⟩:=h;have r_:=fr.pl.len;have⟨ok,g1,TM,g3⟩:=ga.it;refine⟨ε,γ,g,gs,ok,rfl,g1,TM,g3,go,fr.Q2,λS dr=>LM ?_⟩;walk_at "vc";refine(Α (d:=.tup [.lst ((jx S).map bc),.lst (S.map fo)]) (xs:=[.lst ((jx S).map bc),.lst (S.map fo)]) rfl (Ω (j:=1) rfl) ?_:cx (.tup [.lst ((jx S).map bc),.lst (S.map fo)]) (.int 1) _ _);refine⟨ε,γ,.lst (S.map fo),S,gs,rfl,λ_=>rfl,dr,fr,?_⟩;have f0:=tH (S:=S) fr;have pr0:=Ib fr dr;generalize mr γ S=p0 at *
  refine⟨λm ρ' M'=>∃(p:Pl) (E1:Ms) (o:Option Rat) (o4 o5:Option Dt),aa (fF γ "one") p/\AG γ S p/\m=R9 (MT (fF γ "one")) (V3 γ S) o/\(∀t,o=some t->∀a tb,qv γ S p a tb->t < nu γ tb p)/\M'=M++[dP p]++E1/\ρ'=[some (aj Cm ε γ),some g,some (.lst (S.map fo)),some (.loc M.length),o4,o5],⟨_,p0,[],none,none,none,f0,pr0,rfl,λ_ z=>(nomatch z),by rw[aaV],rfl⟩,λm ρ' M' hw=>?_⟩;have⟨p,E1,o,o4,o5,fp,pr,rfl,ho,rfl,rfl⟩:=hw;have Qr:∀(p:Pl) (E:Ms),(M++[dP p]++E)[M.length]? =some (dP p):=λa E=>aH aL;have Jo:=sv fp r_;walk_at "vc";refine⟨λ_=>⟨_,λρ2 M2 hn=>hn,?_⟩,nofun⟩;refine⟨ε,γ,M.length,p,S,gs,rfl,Qr p E1,fr,dr,fp,pr,λa tb E2 kt kp na R6 ny=>?_⟩;have tok:=kp.ch.tok fr dr fp kp.fa pr;obtain⟨ka,IW⟩:∃ka,ka=(M++[dP p]++E1).length:=⟨_,rfl⟩;have Vl:M.length < ka:=by rw[IW,aag,aag];show M.length < M.length+1+E1.length;omega
  have Ru:(M++[dP p]++E1++[dP a]++E2)[ka]? =some (dP a):=by rw[IW];exact aH aL
  rw[<-IW]at R6⊢;have e1:M++[dP p]++E1++[dP a]++E2=M++[dP p]++(E1++[dP a]++E2):=by simp
  rw[e1]at ny Ru⊢;generalize E1++[dP a]++E2=E3 at *
  refine(Α (d:=.tup [.loc ka,.loc kt]) (xs:=[.loc ka,.loc kt]) rfl (Ω (j:=1) rfl) ?_:cx (.tup [.loc ka,.loc kt]) (.int 1) _ _);refine⟨ε,γ,tb,M.length,kt,p,rfl,Qr p E3,ny,tok,fr.Q2,gZ fp,Jo,Ea fr aA fp,?_⟩;have V1:(Δ γ tb p).length<=12:=aat (qP p) Jo;have TL:(M++[dP p]++E3++[dP (Δ γ tb p)])[(M++[dP p]++E3).length]? =some (dP (Δ γ tb p)):=aL;have kl:(kP (Δ γ tb p)).length=(Δ γ tb p).length:=by unfold kP;rw[List.length_map]
  refine⟨_,_,_,rfl,TL,?_⟩;rw[kl];show(decide (((Δ γ tb p).length:Int)=0)=true->_)/\(decide (((Δ γ tb p).length:Int)=0)=false->_);refine⟨λz=>?_,λz=>?_⟩
  ·have e:Δ γ tb p=[]:=List.length_eq_zero_iff.mp (by have:=aaD z;omega);rw[aaJ (M++[dP p]) E3];generalize hE4:E3++[dP (Δ γ tb p)]=E4;have Sh:(M++[dP p]++E4)[kt]? =some (.lst (tb.map Υ)):=by rw[<-hE4,<-aaJ];exact aH ny
   have XE:(M++[dP p]++E4)[ka]? =some (dP a):=by rw[<-hE4,<-aaJ];exact aH Ru
   refine(Α (d:=.tup [.loc ka,.loc kt]) (xs:=[.loc ka,.loc kt]) rfl (Ω (j:=1) rfl) ?_:cx (.tup [.loc ka,.loc kt]) (.int 1) _ _);refine(Α (d:=.tup [.loc ka,.loc kt]) (xs:=[.loc ka,.loc kt]) rfl aN ?_:cx (.tup [.loc ka,.loc kt]) (.int 0) _ _);refine⟨ε,γ,M.length,p,g,gs,rfl,Qr p E4,fp,fr,MN.app (MN.app ga),go,λS2 m2 d2=>?_⟩;refine⟨by show 4<=sizeLine;decide,?_⟩;have U4:=(aaf.mp Sh).1;have es:(M++[dP p]++E4++[MO.lst (S2.map fo),m2])[(M++[dP p]++E4).length]? =some (.lst (S2.map fo)):=by rw[aaw (aai _),abY];rfl
   rw[aaJ (M++[dP p]) E4]at es⊢;exact h S S2 p a tb _ kt ka _ ⟨dr,fp,pr,kp,e,na,d2⟩ Vl R6 U4 (by rw[<-aaJ];exact aH XE) (by rw[<-aaJ];exact aH Sh) es
  ·have ne:Δ γ tb p≠[]:=λy=>by rw[y]at z;exact aaC z @_
   have⟨im,_⟩:=rF (tb:=tb) fr aA fp kp.ch.tab.red;have Gq:=AG.better fr dr fp kp.fa pr kp.ch kp.le im;have ml:M.length < (M++[dP p]++E3).length:=by rw[aag,aag];show M.length < M.length+1+E3.length;omega
   dsimp only[AA,DP];walk_at "vc";refine⟨⟨M.length,_,_,rfl,aH (Qr p E3)⟩,M.length,_,_,_,_,_,rfl,rfl,(),aH (Qr p E3),TL,by rw[kl];unfold kP;rw[List.length_map];omega,?_⟩;rw[D6,DY];have se:(M++[dP p]++E3++[dP (Δ γ tb p)]).set M.length (dP (aI p (Δ γ tb p)))=M++[dP (aI p (Δ γ tb p))]++(E3++[dP (Δ γ tb p)]):=by rw[aaJ (M++[dP p]),aaJ,aaJ,List.set_append_right (h:=aai _),abY];rfl
   rw[se];refine⟨_,?_,aI p (Δ γ tb p),_,some (nu γ tb p),_,_,im.fit,Gq,rfl,λt et a' tb' YM=>?_,rfl,rfl⟩
   ·exact GY (sQ fp) ⟨a,tb,pr,kp,rfl⟩ (λu' ⟨a',tb',_,YM,e⟩=>by rw[e,YM.uniq fr dr fp pr kp]) λt et=>ho t et a tb kp
   ·cases et;exact J6 fr dr fp kp ne Gq YM
def Kt(ns:List Int)(k:Int):Int:=ns.getD k.toNat 0
def Cv{k:Int}(h0:0<=k)(h2:k < ns.length):jA (ns.map Dt.int) k=some (.int (Kt ns k)):=by
 have e:(ns.map Dt.int)[k.toNat]? =some (.int (Kt ns k)):=by rw[aah,aaa (show k.toNat < ns.length by omega)];unfold Kt;rw[aab,aaa (show k.toNat < ns.length by omega)];rfl
 have:=Ω e;rwa[show((k.toNat:Nat):Int)=k by omega]at this
def Mx{k:Int}(h:¬k < ns.length):Kt ns k=0:=by unfold Kt;rw[aab,List.getElem?_eq_none ()];rfl
def Ls(ns:List Int)(k:Int):Bool:=decide (k < ns.length)&&(decide (Kt ns k < 0)|| decide (Kt ns k ≥ 10 ^ 18))
def Lp{k:Int}(h:Ls ns k=false):0<=Kt ns k/\Kt ns k < 10 ^ 18:=by
 unfold Ls at h;by_cases hk:k < ns.length
 ·rw[aau hk,Bool.true_and,Bool.or_eq_false_iff,decide_eq_false_iff_not,decide_eq_false_iff_not]at h;omega
 ·rw[Mx hk];exact⟨@_,@_⟩
def p18:x6 10 18:=⟨@_,@_,@_⟩
def Z0:x6 10 64:=⟨@_,@_,@_⟩
def p8:x6 10 8:=⟨@_,@_,@_⟩
def p6:x6 10 6:=⟨@_,@_,@_⟩
def p22:x6 10 22:=⟨@_,@_,@_⟩
def p30:x6 10 30:=⟨@_,@_,@_⟩
def Nm(n:Int):Prop:=0<=n/\n < 10 ^ 128
def J4{n:Int}(h:Nm n):gS n:=FX (k:=440) h.1 (Int.lt_of_lt_of_le h.2 @_) @_
def sX{a m:Int}(h0:0 < m)(h1:m<=10 ^ 128):Nm (a % m):=⟨abo _ (),Int.lt_of_lt_of_le (abl _ h0) h1⟩
def JF{a m:Int}(h:Nm a)(h0:0 < m):Nm (a / m):=⟨Int.ediv_nonneg h.1 (),abh (Int.ediv_le_self _ h.1) h.2⟩
def PX:DF:=λas M q _=>∃(ns:List Int) (k:Int),as=[.ip ns,.int k]/\0<=k/\q (.bl (Ls ns k)) M
def GV:Γ ["_law_script","_law_k"] ["_law_script","_law_k"] (τ wq):=.of rfl
def FI(F:c_ K "_law_far" "_law_far" wq f fd)(E:Ev K mg Cm):ak P w K mg base (cF P w) 1 f fd ["_law_script","_law_k"] (cQ K PX):=by
 refine F.d7 GV (λds M q x h=>?_) (λbq A outer s H E' hr=>⟨_,(ι (Β (ik (JJ (jv 1) (cL E.bR (Λ (jv 0) η))) (i5 (Uw (JJ (Ε (jv 0) (jv 1)) ο) (i5 (WA (Ε (jv 0) (jv 1)) (nc ο ο)))))))),λds M q x h=>?_⟩)
 ·have⟨ns,k,rfl,_⟩:=h;rfl
 ·have⟨ns,k,rfl,hk,h⟩:=h;unfold Ls at h;walk_at "vc";refine(aC (d:=.ip ns) (xs:=ns.map .int) rfl ?_:fP [.ip ns] M _);rw[aae];refine⟨λh1=>?_,λh1=>?_⟩
  ·have h1:decide (k < ns.length)=true:=h1;have nY:k < ns.length:=aaD h1;rw[h1,Bool.true_and]at h;refine(Α (d:=.ip ns) rfl (Cv hk nY) ?_:cx (.ip ns) (.int k) M _);refine⟨λh2=>?_,λh2=>?_⟩
   ·have h2:decide (Kt ns k < 0)=true:=h2;rw[h2,Bool.true_or]at h;exact h
   ·have h2:decide (Kt ns k < 0)=false:=h2;rw[h2,Bool.false_or]at h;refine(Α (d:=.ip ns) rfl (Cv hk nY) ?_:cx (.ip ns) (.int k) M _);exact⟨p18,h⟩
  ·have h1:decide (k < ns.length)=false:=h1;rw[h1,Bool.false_and]at h;exact h
def Ba:DF:=λas M q _=>∃(ns:List Int) (k:Int),as=[.ip ns,.int k]/\0<=k/\k<=200/\∀n,Nm n->q (.int n) M
def Ig(x:Int)(h0:0<=x)(h1:x < 2147483647):gS x/\gS (x % 65521+30011):=⟨bg (k:=40) (),bg (k:=40) ()⟩
def Px{k:Int}(h0:0<=k)(h1:k<=200):gS ((k+1) * (k+1)):=by have a:=Int.mul_le_mul (show k+1<=201 by omega) (show k+1<=201 by omega) (show 0<=k+1 by omega) (show(0:Int)<=201 by decide);have b:0<=(k+1) * (k+1):=abD () ();exact bg (k:=40) ()
def jW:Γ ["_law_script","_law_k","_law_cell","_law_number_here"] ["_law_script","_law_k"] (τ me):=.of rfl
def wK(F:c_ K "_law_number" "_law_number" me f fd)(E:Ev K mg Cm){xH:Addr}{wD:FuncData}(iF:aw P w K mg base 1 "_law_far" ["_law_script","_law_k"] PX xH wD):ak P w K mg base (cF P w) 2 f fd ["_law_script","_law_k"] (cQ K Ba):=by
 refine F.d7 jW (λds M q x h=>?_) (λbq A outer s H E' hr=>⟨_,(ζ (χ 2 jW.nd (uL (pL (jv 1) (cL E.bR (Λ (jv 0) η))) (Ε (jv 0) (jv 1)) ο))
   (ζ (ao (bV (Χ iF hr ν (Λ (jv 0) (Λ (jv 1) η)))) (ι (Β (dE (jv 2) (nc ο ο)))) Η)
   (ζ (χ 3 jW.nd (dE (dh (bY (jv 2) ο) (bY (bY (dh (jv 1) ο) (dh (jv 1) ο)) ο)) ο))
   (ι (Β (dE (dh (bY (jv 3) (dh (dE (jv 3) ο) ο)) (bY (dh (jv 1) ο) ο)) ο)))))),λds M q x h=>?_⟩)
 ·have⟨ns,k,rfl,_⟩:=h;rfl
 ·have⟨ns,k,rfl,hk,k2,h⟩:=h;have bk:=Px hk k2;have b1:gS (k+1):=bg (k:=40) ();have b3:gS (k+3):=bg (k:=40) ();have cc:∀n:Int,n.natAbs < 2 ^ 20->gS n:=λn hn=>bg hn;walk_at "vc";refine(aC (d:=.ip ns) (xs:=ns.map .int) rfl ?_:fP [.ip ns] M _);rw[aae];refine⟨λh1=>?_,λh1=>?_⟩
  ·have nY:k < ns.length:=aaD h1;refine(Α (d:=.ip ns) rfl (Cv hk nY) ?_:cx (.ip ns) (.int k) M _);refine⟨ns,k,rfl,hk,λh2=>?_,λh2=>?_⟩
   ·exact⟨Z0,@_,h _ (sX @_ @_)⟩
   ·have⟨c0,c1⟩:=Lp h2;refine⟨⟨bg (k:=64) (),cc _ @_⟩,⟨b1,b1⟩,⟨bk,cc _ @_⟩,@_,?_⟩;exact⟨@_,Ig _ (abo _ @_) (abl _ @_),⟨b3,cc _ @_⟩,@_,h _ (sX @_ @_)⟩
  ·have nY:¬k < ns.length:=aa3 h1;refine⟨ns,k,rfl,hk,λh2=>?_,λh2=>?_⟩
   ·exact⟨Z0,@_,h _ (sX @_ @_)⟩
   ·refine⟨⟨cc _ @_,cc _ @_⟩,⟨b1,b1⟩,⟨bk,cc _ @_⟩,@_,?_⟩;exact⟨@_,Ig _ (abo _ @_) (abl _ @_),⟨b3,cc _ @_⟩,@_,h _ (sX @_ @_)⟩
def vg:Γ ["_law_script","_law_k","_law_number_here"] ["_law_script","_law_k"] (τ r9):=.of rfl
def BJ(F:c_ K "_law_rest" "_law_rest" r9 f fd)(E:Ev K mg Cm)(av:aw P w K mg base 2 "_law_number" ["_law_script","_law_k"] Ba dU dN){xH:Addr}{wD:FuncData}(iF:aw P w K mg base 1 "_law_far" ["_law_script","_law_k"] PX xH wD):ak P w K mg base (cF P w) 3 f fd ["_law_script","_law_k"] (cQ K Ba):=by
 refine F.d7 vg (λds M q x h=>?_) (λbq A outer s H E' hr=>⟨_,(ζ (χ 2 vg.nd (Χ av hr ν (Λ (jv 0) (Λ (jv 1) η))))
   (ζ (ao (bV (Χ iF hr ν (Λ (jv 0) (Λ (jv 1) η)))) (ι (Β (fC (jv 2) (nc ο ο)))) Η)
   (ι (Β (dE (bY (jv 2) ο) ο))))),λds M q x h=>?_⟩)
 ·have⟨ns,k,rfl,_⟩:=h;rfl
 ·have⟨ns,k,rfl,hk,k2,h⟩:=h;refine⟨ns,k,rfl,hk,k2,λn hn=>?_⟩;refine⟨ns,k,rfl,hk,λh2=>?_,λh2=>?_⟩
  ·exact⟨p8,⟨@_,bg (k:=40) @_⟩,h _ (JF hn @_)⟩
  ·exact⟨⟨J4 hn,bg (k:=20) @_⟩,@_,h _ (sX @_ @_)⟩
def Rq{a b:Int}(h1: -(10 ^ 30)<=a)(h2:a<=10 ^ 30)(h3:b<=1000000):cB (a,b)=true:=by
 unfold cB;have:(if a < 0 then -a else a)<=10 ^ 30:=by split <;> omega
 show(decide ((if a < 0 then -a else a)<=10 ^ 30)&&decide (b<=1000000))=true;rw[aau this,aau h3];rfl
def Du{t b:Int}(h1: -(10 ^ 30)<=t)(h2:t<=10 ^ 30)(h0:0 < b)(h3:b<=1000000):cB (ax t b)=true:=by
 have l1:=rP (t:=t) (show b≠0 by omega);have l2:=mZ (t:=t) (show b≠0 by omega);generalize ax t b=f at *
 have⟨x,y⟩:=f;have l1:x.natAbs<=t.natAbs:=l1;have l2:y.natAbs<=b.natAbs:=l2;exact Rq () () ()
def Jb:DF:=λas M q _=>∃t b:Int,as=[.int t,.int b]/\0 < b/\gS b/\q (Υ (ax t b)) M
def hI:Γ ["_law_top","_law_bottom","_law_one","_law_other"] ["_law_top","_law_bottom"] (τ l'):=.of rfl
def vT(F:c_ K "_law_lowest" "_law_lowest" l' f fd)(E:Ev K mg Cm):ak P w K mg base (cF P w) 1 f fd ["_law_top","_law_bottom"] (cQ K Jb):=by
 refine F.d7 hI (λds M q x h=>?_) (λbq A outer s H E' hr=>⟨_,(ζ (χ 2 hI.nd (C5 E.sF (Λ (jv 0) η)))
   (ζ (χ 3 hI.nd (jv 1))
   (ζ (j6 (gP hr (jv 3) ο) (ι (ON (i:=2) (j:=3) hI.nd rfl rfl (Λ (jv 3) (θ (dE (jv 2) (jv 3)) η cG)))))
   (ι (Β (cb (θ (fC (jv 0) (jv 2)) (θ (fC (jv 1) (jv 2)) η cG) cG))))))),λds M q x h=>?_⟩)
 ·have⟨t,b,rfl,_⟩:=h;rfl
 ·have⟨t,b,rfl,h0,h1,h⟩:=h;have ga:g (if t < 0 then -t else t) b=g t b:=by have:=NB t b;rwa[aaq (show¬b < 0 by omega)]at this
  refine⟨λm ρ M'=>M'=M/\∃(x y:Int),ρ=[some (.int t),some (.int b),some (.int x),some (.int y)]/\0<=x/\0<=y/\g x y=g t b/\m=y.toNat,⟨_,rfl,_,_,rfl,by split <;> omega,(),ga,rfl⟩,?_⟩;rintro m ρ M' ⟨rfl,x,y,rfl,hx,hy,e,rfl⟩;refine⟨λhb=>?_,λhb=>?_⟩
  ·have Mt:y≠0:=by simpa using hb
   refine⟨_,λρ' M2 h2=>h2,?_⟩;refine⟨(),(x % y).toNat,?_,rfl,y,x % y,rfl,hy,abo _ Mt,?_,rfl⟩
   ·have:=abl x (show 0 < y by omega);have:=abo x Mt;omega
   ·rw[<-abI x hy,HH ()];exact e
  ·have Mt:y=0:=by simpa using hb
   subst Mt;rw[He hx]at e;subst e;have hg:0 < g t b:=Aw ();have hle:g t b<=b:=ab2 h0 (Int.gcd_dvd_right ..);have hb:gS (g t b):=aaY (show(g t b).natAbs<=b.natAbs by omega) h1;have e:ax t b=(t / g t b,b / g t b):=by rw[Mi h0,ab4 _ (aav hg),ab4 _ (aav hg)]
   rw[e]at h;exact⟨⟨hg,hb⟩,⟨hg,hb⟩,fI,h⟩
def HP:DF:=λas M q _=>∃n:Int,as=[.int n]/\Nm n/\∀p,cB p=true->0 < p.2->q (Υ p) M
def KI:Γ ["_law_number_here"] ["_law_number_here"] (τ yi):=.of rfl
def Fm(F:c_ K "_law_pay" "_law_pay" yi f fd)(E:Ev K mg Cm)(aM:aw P w K mg base 1 "_law_lowest" ["_law_top","_law_bottom"] Jb dR dX):ak P w K mg base (cF P w) 2 f fd ["_law_number_here"] (cQ K HP):=by
 refine F.d7 KI (λds M q x h=>?_) (λbq A outer s H E' hr=>⟨_,(ζ (ao (d9 hr (dE (jv 0) ο) ο) (ι (Β (Χ aM hr ν (θ (pY (dE (bY (jv 0) (nc ο ο)) (dh (bY ο (nc ο ο)) ο)) (nc ο ο)) (θ (dh ο (dE (fC (jv 0) ο) (nc ο ο))) η cG) cG)))) Η)
   (ι (Β (Χ aM hr ν (θ (pY (dE (fC (jv 0) ο) ο) ο) (θ (dh ο (dE (fC (jv 0) ο) ο)) η cG) cG))))),λds M q x h=>?_⟩)
 ·have⟨n,rfl,_⟩:=h;rfl
 ·have⟨n,rfl,hn,h⟩:=h;refine⟨@_,λ_=>?_,λ_=>?_⟩
  ·have SJ:0 < 1+n / 8 % 10 ^ (6:Int).toNat/\1+n / 8 % 10 ^ (6:Int).toNat<=1000000:=by show 0 < 1+n / 8 % 1000000/\1+n / 8 % 1000000<=1000000;omega
   have hb7:gS (1+n / 8 % 10 ^ (6:Int).toNat):=FX (k:=20) (aav SJ.1) (abh SJ.2 @_) @_;have b22:gS ((10:Int) ^ (22:Int).toNat):=bg (k:=110) @_;have b30:gS ((10:Int) ^ (30:Int).toNat):=bg (k:=110) @_;have m0:(0:Int) < 2 * 10 ^ (30:Int).toNat+1:=@_
   have Sn:=abo (n * 10 ^ (22:Int).toNat) (show(2 * 10 ^ (30:Int).toNat+1:Int)≠0 by decide);have Zj:=abl (n * 10 ^ (22:Int).toNat) m0;refine⟨p22,⟨J4 hn,b22⟩,p30,⟨bg (k:=4) @_,b30⟩,m0,p30,⟨@_,bg (k:=5) @_⟩,p6,(by show(0:Int) < 1000000;decide),_,_,rfl,SJ.1,hb7,h _ (Du ?_ ?_ SJ.1 SJ.2) (cq ())⟩
   ·show -(10 ^ 30)<=n * 10 ^ (22:Int).toNat % (2 * 10 ^ (30:Int).toNat+1) - 10 ^ 30;omega
   ·have e:(10:Int) ^ (30:Int).toNat=10 ^ 30:=rfl;rw[e]at Zj;show n * 10 ^ (22:Int).toNat % (2 * 10 ^ 30+1) - 10 ^ 30<=10 ^ 30;omega
  ·exact⟨⟨@_,bg (k:=4) @_⟩,@_,⟨@_,bg (k:=8) @_⟩,@_,_,_,rfl,(),bg (k:=10) (),h _ (Du () () () ()) (cq ())⟩
structure uJ(kd:Str)(size:Int)(cs:List Fr)(ds:List ba):Prop where
 fit:∀d∈ds,aJ d.1 d.2.1 size=true/\0 < d.2.1.2
 QU:kd="chance"->(∀d∈ds,d.2.2=[ξ d])/\ds.map ξ=cs.take ds.length
 Sv:kd≠"chance"->∀d∈ds,d.2.2=[]
def uJ.more{kd:Str}{size:Int}{cs:List Fr}{d:ba}(h:uJ kd size cs ds)(h1:aJ d.1 d.2.1 size=true)(h2:0 < d.2.1.2)(hl:ds.length < cs.length)(h3:kd="chance"->d.2.2=[cs[ds.length]])(h4:kd≠"chance"->d.2.2=[]):uJ kd size cs (ds++[d]):=by
 refine⟨λe he=>?_,λhc=>⟨λe he=>?_,?_⟩,λhc e he=>?_⟩
 ·rcases aaT.mp he with he| he
  ·exact h.fit e he
  ·have:e=d:=by simpa using he
   subst this;exact⟨h1,h2⟩
 ·rcases aaT.mp he with he| he
  ·exact(h.QU hc).1 e he
  ·have:e=d:=by simpa using he
   subst this;unfold ξ;rw[h3 hc];rfl
 ·rw[aaW,(h.QU hc).2,aag];show cs.take ds.length++[ξ d]=cs.take (ds.length+1);rw[List.take_succ,aaa hl];unfold ξ;rw[h3 hc];rfl
 ·rcases aaT.mp he with he| he
  ·exact h.Sv hc e he
  ·have:e=d:=by simpa using he
   subst this;exact h4 hc
def uJ.good{kd:Str}{size:Int}{cs:List Fr}(h:uJ kd size cs ds)(hk:Θ kd=true\/kd="chance")(h1:1<=ds.length)(h6:ds.length<=6)(hl:ds.length=cs.length)(hc:Ο cs=true)(ho:O8 cs):kO size (.ω kd ds):=by
 by_cases vC:kd="chance"
 ·subst vC;have e:ds.map ξ=cs:=by rw[(h.QU rfl).2,hl,List.take_length]
  exact Fx h1 h6 (λd hd=>(h.fit d hd).1) (h.QU rfl).1 (by rw[e];exact hc) (by rw[e];exact ho) λd hd=>(h.fit d hd).2
 ·exact Mh (hk.resolve_right vC) h1 h6 (λd hd=>(h.fit d hd).1) λd hd=>⟨h.Sv vC d hd,(h.fit d hd).2⟩
def NV(size:Int)(r:Rw):Prop:=kO size r/\∀k ds,r= .ω k ds->Θ k=true->∀d∈ds,d.2.2=[]
def MC{k:Str}(h:Θ k=true):k≠"chance":=λz=>by subst z;exact aaC h @_
def D4:DF:=λas M q _=>∃(ns:List Int) (a:Int) (kd:Str) (cK:Nat) (size:Int),as=[.ip ns,.int a,.str kd,.int cK,.int size]/\1<=a/\a<=150/\1<=cK/\cK<=6/\1<=size/\size<=12/\(Θ kd=true\/kd="chance")/\∀ds,NV size (.ω kd ds)->q (.loc M.length) (M++[.lst (ds.map cE)])
def bW:Γ ["_law_script","_law_at","_law_kind","_law_many","_law_size","_law_numbers","_law_most","_law_weights","_law_doors_here","_law_k","_law_door"] ["_law_script","_law_at","_law_kind","_law_many","_law_size"] (τ oU):=.of rfl
def Av(F:c_ K "_law_doors" "_law_doors" oU f fd)(E:Ev K mg Cm)(av:aw P w K mg base 2 "_law_number" ["_law_script","_law_k"] Ba dU dN){wk:Addr}{wj:FuncData}(iD:aw P w K mg base 2 "_law_pay" ["_law_number_here"] HP wk wj){JZ:Addr}{Kv:FuncData}(oK:aw P w K mg base 3 "_law_rest" ["_law_script","_law_k"] Ba JZ Kv)(aM:aw P w K mg base 1 "_law_lowest" ["_law_top","_law_bottom"] Jb dR dX):ak P w K mg base (cF P w) 4 f fd ["_law_script","_law_at","_law_kind","_law_many","_law_size"] (cQ K D4):=by
 refine F.d7 bW (λds M q x h=>?_) (λbq A outer s H E' hr=>⟨_,(ζ (Cy (i:=5) bW.nd rfl (Or.inl rfl) (ys:=["_law_script","_law_at"]) (Μ:=[0,1]) (.of bW rfl rfl rfl) (cf E.bP (Λ (jv 3) η)) (λC s H fp=>(Χ av hr (eE (P:=P) (w:=w)) (Λ (jv 1) (θ (dh (jv 2) (jv 0)) η cG)))))
   (ζ (χ 6 bW.nd (Ε (mV (θ ο (θ (fC (nc ο ο) (jv 3)) η cG) bJ)) (fC (dE (fC (Χ av hr ν (Λ (jv 0) (θ (pY (jv 1) ο) η cG))) ο) ο) ο)))
   (ζ (cT (i:=7) bW.nd rfl (Or.inl rfl) (ys:=["_law_most","_law_size"]) (Μ:=[6,4]) (.of bW rfl rfl rfl) (aY (jv 5)) (λC s H fp=>(dh ο (dE (fC (jv 0) (jv 2)) (jv 1)))))
   (ζ (χ 8 bW.nd (pH η))
   (ζ (jU (cf E.bP (Λ (jv 3) η)) (ai (i:=9) bW.nd rfl (Or.inl rfl)) az (ζ (χ 10 bW.nd (cb (θ (dE (Ε (jv 5) (jv 9)) (jv 4)) (θ (Χ iD hr ν (θ (Χ oK hr ν (Λ (jv 0) (θ (dh (jv 1) (jv 9)) η cG))) η aO)) η aO) cG)))
   (ζ (jq (ao (d9 hr (jv 2) fc) (ι (χ 10 bW.nd (dh (jv 10) (cb (θ (Χ aM hr ν (θ (Ε (jv 7) (jv 9)) (θ (NY E.yy (Λ (jv 7) η)) η aO) aR)) η aO))))) Η))
   (ι (eL (iR (jv 8) (Λ (jv 10) η)))))))
   (ι (Β (jv 8)))))))),λds M q x h=>?_⟩)
 ·have⟨ns,a,kd,cK,size,rfl,_⟩:=h;rfl
 ·have⟨ns,a,kd,cK,size,rfl,a0,a1,n1,n6,s1,s12,PJ,h⟩:=h;walk_at "vc";refine⟨⟨(),()⟩,by rw[eG];exact aat (show _<=6 by omega) @_,?_⟩;refine rZ (f:=Dt.int) Nm _ [] (λ_ z=>(nomatch z)) (λx O3 q' hq=>?_) λxs Vo hx=>?_
  ·have⟨k,hk,rfl⟩:=iI O3;have hk6:(k:Int) < 6:=()
   exact⟨ns,a+(0+(k:Int)),rfl,(),(),hq⟩
  have Vo:xs.length=cK:=by rw[Vo,eG];simp
  refine⟨p6,⟨(),bg (k:=10) ()⟩,fI,ns,a - 1,rfl,(),(),λn hn=>?_⟩;refine⟨⟨@_,bg (k:=8) @_⟩,@_,⟨@_,bg (k:=4) @_⟩,?_⟩;obtain⟨most,em,m0,m1⟩:∃most:Int,jA [Dt.int 6,Dt.int (10 ^ (6:Int).toNat / (cK:Int))] (n / 42 % 4 / 3)=some (.int most)/\0 < most/\cK * most<=1000000:=by
   have⟨t1,t2⟩:=Mu n1 n6;have:n / 42 % 4 / 3=0\/n / 42 % 4 / 3=1:=()
   rcases this with e| e
   ·rw[e];exact⟨6,aN,@_,()⟩
   ·rw[e];exact⟨_,Ω (j:=1) rfl,t1,t2⟩
  refine Α (d:=.lst [Dt.int 6,Dt.int (10 ^ (6:Int).toNat / (cK:Int))]) rfl em ?_;show eJ _ _ _ _ _;refine bz (i:=5) (d:=.lst (xs.map .int)) rfl rfl ⟨by rw[aae,Vo];exact aat n6 @_,?_⟩;refine d_ (f:=λd=>match d with| .int n=>.int (1+n / size % most)| _=>.aP) trivial (λx O3 q' hq=>?_) ?_
  ·have⟨y,hy,rfl⟩:=aam.mp O3;exact⟨⟨(),bg (k:=10) ()⟩,m0,hq⟩
  rw[aaH,show(xs.map Dt.int).map (λd=>match d with| .int n=>.int (1+n / size % most)| _=>.aP)=(xs.map λn=>1+n / size % most).map Dt.int by rw[aaG,aaG];rfl];generalize Yq:(xs.map λn=>1+n / size % most)=ws;have wl:ws.length=cK:=by rw[<-Yq,aae,Vo]
  have w0:∀w∈ws,0 < w/\w<=most:=λw hw=>by rw[<-Yq]at hw;have⟨y,_,rfl⟩:=aam.mp hw;have e0:=abo (y / size) (show most≠0 by omega);have e1:=abl (y / size) m0;omega
  have hS:ws.sum<=1000000:=by have:=Hq λw YZ=>(w0 w YZ).2;rw[wl]at this;omega
  have mR:ws≠[]:=λz=>by rw[z]at wl;simp at wl;omega
  have VI:=Dv (λw hw=>(w0 w hw).1) mR;have⟨c1,c2⟩:=CJ (S:=ws.sum) rfl (λw YZ=>(w0 w YZ).1) mR hS ();have cl:(ws.map λw=>ax w ws.sum).length=cK:=by rw[aae,wl]
  have bS:gS ws.sum:=bg (k:=21) ();clear Yq;refine⟨@_,⟨(),()⟩,?_⟩;refine eP (λzs ρ M'=>∃(n k:Nat) (ds:List ba) (o1 o2:Option Dt),zs=cP k n/\k+n=cK/\ds.length=k/\uJ kd size (ws.map λw=>ax w ws.sum) ds/\M'=M++[MO.lst (ds.map cE)]/\ρ=[some (.ip ns),some (.int a),some (.str kd),some (.int cK),some (.int size),some (.lst (xs.map .int)),some (.int most),some (.lst (ws.map .int)),some (.loc M.length),o1,o2]) (λx zs ρ M' hj fm=>?_) (λρ M' hj=>?_) _ _ _ ⟨cK,0,[],none,none,by simp,by simp,rfl,⟨λ_ z=>(nomatch z),λ_=>⟨λ_ z=>(nomatch z),rfl⟩,λ_ _ z=>(nomatch z)⟩,rfl,rfl⟩
  ·have⟨n,k,ds,o1,o2,ex,Qm,hl,hd,rfl,rfl⟩:=hj;have⟨m,rfl,rfl,rfl⟩:=d8 ex;have k6:(k:Int) < 6:=()
   have kx:k < xs.length:=()
   have kw:k < ws.length:=()
   have MR:(M++[MO.lst (ds.map cE)])[M.length]? =some (.lst (ds.map cE)):=by simp
   have setM:∀y:ba,(M++[MO.lst (ds.map cE)]).set M.length (.lst (ds.map cE++[cE y]))=M++[.lst ((ds++[y]).map cE)]:=λy=>by simp
   have lt:(ds.map cE).length < sizeLine:=by rw[aae,hl];exact aaY (show k<=12 by omega) @_
   walk_at "vc";refine(Α (d:=.lst (xs.map .int)) rfl (js kx) ?_:cx (.lst (xs.map .int)) (.int (k:Int)) _ _);refine⟨(),ns,_,rfl,(),(),λr qM=>⟨r,rfl,qM,λp hp UQ=>⟨fI,?_⟩⟩⟩;have MH:aJ (xs[k] % size) p size=true:=LQ (abo _ ()) (abl _ ()) hp;refine⟨λρ M2=>M2=M++[MO.lst (ds.map cE)]/\∃d:ba,(aJ d.1 d.2.1 size=true/\0 < d.2.1.2/\(kd="chance"->d.2.2=[ax ws[k] ws.sum])/\(kd≠"chance"->d.2.2=[]))/\ρ=[some (.ip ns),some (.int a),some (.str kd),some (.int cK),some (.int size),some (.lst (xs.map .int)),some (.int most),some (.lst (ws.map .int)),some (.loc M.length),some (.int (k:Int)),some (cE d)],⟨λhc=>?_,λhc=>?_⟩,?_⟩
   ·have hc:kd="chance":=aaD hc;walk_at "vc";refine(Α (d:=.lst (ws.map .int)) rfl (js kw) ?_:cx (.lst (ws.map .int)) (.int (k:Int)) _ _);exact⟨ws,rfl,⟨_,_,rfl⟩,_,_,rfl,VI,bS,(by show 1<=sizeLine;decide),⟨by simp,by show 3<=sizeLine;decide⟩,rfl,(xs[k] % size,p,[ax ws[k] ws.sum]),⟨MH,UQ,λ_=>rfl,λz=>absurd hc z⟩,rfl⟩
   ·have hc:kd≠"chance":=aa3 hc;exact⟨rfl,(xs[k] % size,p,[]),⟨MH,UQ,λz=>aaC z hc,λ_=>rfl⟩,rfl⟩
   ·rintro ρ2 M2 ⟨rfl,d,⟨d1,d2,d3,d4⟩,rfl⟩;refine⟨⟨M.length,_,rfl,MR⟩,M.length,_,_,rfl,rfl,MR,lt,?_⟩;rw[setM d];refine fm _ _ ⟨m,k+1,ds++[d],_,_,by simp,(),by simp[hl],hd.more d1 d2 (by rw[cl];omega) (λz=>?_) d4,rfl,rfl⟩;rw[d3 z];simp[hl]
  ·have⟨n,k,ds,o1,o2,ex,Qm,hl,hd,rfl,rfl⟩:=hj;have hn:n=0:=by have:=aaP List.length ex;unfold cP at this;simpa using this.symm
   exact h ds ⟨hd.good PJ () () (by rw[cl];omega) c1 c2,λk' Hh e hk d O5=>by cases e;exact hd.Sv (MC hk) d O5⟩
def Ij{n:Int}:∃kd:Str,jA [Dt.str "one",Dt.str "other",Dt.str "chance",Dt.str "end",Dt.str "one",Dt.str "other",Dt.str "chance"] (n % 7)=some (.str kd)/\(Θ kd=true\/kd="chance"\/kd="end"):=by
 have:n % 7=0\/n % 7=1\/n % 7=2\/n % 7=3\/n % 7=4\/n % 7=5\/n % 7=6:=()
 rcases this with e| e| e| e| e| e| e <;> rw[e]
 ·exact⟨_,aN,.inl @_⟩
 ·exact⟨_,Ω (j:=1) rfl,.inl @_⟩
 ·exact⟨_,Ω (j:=2) rfl,.inr (.inl rfl)⟩
 ·exact⟨_,Ω (j:=3) rfl,.inr (.inr rfl)⟩
 ·exact⟨_,Ω (j:=4) rfl,.inl @_⟩
 ·exact⟨_,Ω (j:=5) rfl,.inl @_⟩
 ·exact⟨_,Ω (j:=6) rfl,.inr (.inl rfl)⟩
abbrev pC(c1 c2:List Int):MO:=.iC [Sum.inr "one",Sum.inr "other"] [.lst (c1.map Dt.int),.lst (c2.map Dt.int)]
def jz(c:List Int):Prop:=c.length<=3/\∀x∈c,1<=x/\x<=6
def jz.drop{c:List Int}(h:jz c):jz (c.drop 1):=⟨by rw[abt];have:=h.1;omega,λx hx=>h.2 x (List.mem_of_mem_drop hx)⟩
def vG{c:List Int}(h:jz c):∃v:Int,jA (c.map Dt.int++[.int 1]) 0=some (.int v)/\1<=v/\v<=6:=by
 cases c with
 | nil=>exact⟨1,aN,@_,@_⟩
 | cons a c=>exact⟨a,aN,(h.2 a aad).1,(h.2 a aad).2⟩
def D8:DF:=λas M q _=>∃ns:List Int,as=[.ip ns]/\∀γ:List Rw,1<=γ.length->γ.length<=12->(∀r∈γ,NV γ.length r)->∀m:MO,q (.loc (M.length+1)) (M++[m,.lst (γ.map Κ)])
def bx:Γ ["_law_script","_law_size","_law_wide","_law_kept","_law_caps","_law_rows_here","_law_place","_law_at","_law_first","_law_kind","_law_many"] ["_law_script"] (τ qO):=.of rfl
def B6(F:c_ K "_law_rows" "_law_rows" qO f fd)(E:Ev K mg Cm)(av:aw P w K mg base 2 "_law_number" ["_law_script","_law_k"] Ba dU dN){wk:Addr}{wj:FuncData}(iD:aw P w K mg base 2 "_law_pay" ["_law_number_here"] HP wk wj){EL:Addr}{FU:FuncData}(l9:aw P w K mg base 4 "_law_doors" ["_law_script","_law_at","_law_kind","_law_many","_law_size"] D4 EL FU):ak P w K mg base (cF P w) 5 f fd ["_law_script"] (cQ K D8):=by
 refine F.d7 bx (λds M q x h=>?_) (λbq A outer s H E' hr=>⟨_,(ζ (χ 1 bx.nd (dh ο (dE (Χ av hr ν (Λ (jv 0) (θ ο η bJ))) ο)))
   (ζ (jq (χ 2 bx.nd (uL (KC (jv 1) ο) ο ο)))
   (ζ (χ 3 bx.nd (dE (Χ av hr ν (Λ (jv 0) (θ ο η bJ))) (jv 1)))
   (ζ (jq (χ 4 bx.nd (uL (KC (jv 1) ο) (yZ fc (dH 3 (d:=.lst [.int 5,.int 2,.int 2]) (by rfl)) fc (dH 3 (d:=.lst [.int 5,.int 2,.int 2]) (by rfl))) (yZ fc (dH 3 (d:=.lst [.int 3,.int 2]) (by rfl)) fc (dH 3 (d:=.lst [.int 3,.int 2]) (by rfl))))))
   (ζ (χ 5 bx.nd (pH η))
   (ζ (jU (cf E.bP (Λ (jv 1) η)) (ai (i:=6) bx.nd rfl (Or.inl rfl)) az (ζ (χ 7 bx.nd (dh ο (bY (jv 2) (jv 6))))
   (ζ (χ 8 bx.nd (Χ av hr ν (Λ (jv 0) (Λ (jv 7) η))))
   (ζ (χ 9 bx.nd (Ε (dH 3 (d:=.lst [.str "one",.str "other",.str "chance",.str "end",.str "one",.str "other",.str "chance"]) (by rfl)) (dE (jv 8) ο)))
   (ζ (χ 10 bx.nd (dh ο (dE (fC (jv 8) ο) (pY (jv 2) ο))))
   (ζ (jq (ao (JW.jt (oP (d9 hr (jv 6) (jv 3)) (kH (rG (dE (fC (Χ av hr ν (Λ (jv 0) (θ ο η bJ))) ο) ο) ο)))) (ι (χ 9 bx.nd fc)) Η))
   (ζ (jq (ao (JW.jt (oP (Jv hr (jv 9) (jv 4)) (kH (rG (jv 10) ο)))) (ζ (χ 10 bx.nd (Sw E.Dz (Λ (jv 10) (θ (Ε (jK (wz hr (jv 4) (jv 9)) (dH 3 (d:=.lst [.int 1]) (by rfl))) ο) η aR))))
   (ι (qB hr (jv 4) (jv 9) (bo (fX (wz hr (jv 4) (jv 9)) ο))))) Η))
   (ι (ao (d9 hr (jv 9) fc) (ι (eL (iR (jv 5) (θ (cb (θ fc (θ (Χ iD hr ν (θ (fC (jv 8) ο) η cG)) η aO) bJ)) η kq)))) (ι (eL (iR (jv 5) (θ (cb (Λ (jv 9) (θ (bo (Χ l9 hr ν (Λ (jv 0) (θ (dh (jv 7) ο) (Λ (jv 9) (Λ (jv 10) (Λ (jv 1) η))) cG)))) η aO))) η kq)))))))))))))
   (ι (Β (jv 5))))))))),λds M q x h=>?_⟩)
 ·have⟨ns,rfl,_⟩:=h;rfl
 ·have⟨ns,rfl,h⟩:=h;refine⟨ns,0,rfl,@_,@_,λn0 Zl=>⟨@_,?_⟩⟩;obtain⟨sz,hz,z1,z6⟩:∃sz:Nat,1+n0 % 12=(sz:Int)/\1<=sz/\sz<=12:=⟨(1+n0 % 12).toNat,(),(),()⟩;dsimp only[Jc];rw[hz];refine⟨λρ M'=>M'=M/\∃wd:Int,(wd=5\/wd=7)/\ρ=[some (.ip ns),some (.int sz),some (.int wd),none,none,none,none,none,none,none,none],⟨λ_=>⟨rfl,7,.inr rfl,rfl⟩,λ_=>⟨rfl,5,.inl rfl,rfl⟩⟩,?_⟩;rintro ρ' M' ⟨rfl,wd,hwd,rfl⟩;refine⟨ns,1,rfl,@_,@_,λn1 hn1=>⟨(),?_⟩⟩;generalize n1 % (sz:Int)=kp;refine⟨λρ M2=>∃c1 c2:List Int,jz c1/\jz c2/\M2=M'++[pC c1 c2]/\ρ=[some (.ip ns),some (.int sz),some (.int wd),some (.int kp),some (.loc M'.length),none,none,none,none,none,none],?_,?_⟩
  ·walk_at "vc";dsimp only[IH];walk_at "vc";exact⟨λ_=>⟨Sum.inr "one",Sum.inr "other",rfl,rfl,@_,[5,2,2],[5,2,2],⟨@_,@_⟩,⟨@_,@_⟩,rfl,rfl⟩,λ_=>⟨Sum.inr "one",Sum.inr "other",rfl,rfl,@_,[3,2],[3,2],⟨@_,@_⟩,⟨@_,@_⟩,rfl,rfl⟩⟩
  rintro ρc Mc ⟨c01,c02,k01,k02,rfl,rfl⟩;refine⟨@_,⟨(),()⟩,?_⟩;refine eP (λzs ρ M2=>∃(n k:Nat) (rs:List Rw) (c1 c2:List Int) (o1 o2 o3 o4 o5:Option Dt),zs=cP k n/\k+n=sz/\rs.length=k/\(∀r∈rs,NV sz r)/\jz c1/\jz c2/\M2=M'++[pC c1 c2,MO.lst (rs.map Κ)]/\ρ=[some (.ip ns),some (.int sz),some (.int wd),some (.int kp),some (.loc M'.length),some (.loc (M'.length+1)),o1,o2,o3,o4,o5]) (λx zs ρ M2 hj fm=>?_) (λρ M2 hj=>?_) _ _ _ ⟨sz,0,[],c01,c02,none,none,none,none,none,by simp,by simp,rfl,λ_ z=>(nomatch z),k01,k02,by simp,by simp⟩
  ·have⟨n,k,rs,c1,c2,o1,o2,o3,o4,o5,ex,Qm,hl,hd,k1,k2,rfl,rfl⟩:=hj;have⟨m,rfl,rfl,rfl⟩:=d8 ex;have k6:(k:Int) < 12:=()
   have Nu:0<=3+wd * (k:Int)/\3+wd * (k:Int)<=100:=by rcases hwd with rfl| rfl <;> omega
   have bw:gS wd:=bg (k:=10) ();have MR:∀c1 c2,(M'++[pC c1 c2,MO.lst (rs.map Κ)])[M'.length+1]? =some (.lst (rs.map Κ)):=λc1 c2=>by simp
   have atC:∀c1 c2,(M'++[pC c1 c2,MO.lst (rs.map Κ)])[M'.length]? =some (pC c1 c2):=λc1 c2=>by simp
   have setM:∀c1 c2 (y:Rw),(M'++[pC c1 c2,MO.lst (rs.map Κ)]).set (M'.length+1) (.lst (rs.map Κ++[Κ y]))=M'++[pC c1 c2,.lst ((rs++[y]).map Κ)]:=λc1 c2 y=>by simp[List.set_append]
   have setC:∀c1 c2 m,(M'++[pC c1 c2,MO.lst (rs.map Κ)]).set M'.length m=M'++[m,MO.lst (rs.map Κ)]:=λc1 c2 m=>by simp[List.set_append]
   have lt:(rs.map Κ).length < sizeLine:=by rw[aae,hl];exact aaY (show k<=12 by omega) @_
   have more:∀y,NV sz y->∀r∈rs++[y],NV sz r:=λy hy r hr=>by
    rcases aaT.mp hr with hr| hr
    ·exact hd r hr
    ·have:r=y:=by simpa using hr
     rw[this];exact hy
   refine⟨⟨bw,bg (k:=10) ()⟩,ns,_,rfl,Nu.1,(),λf hf=>⟨@_,?_⟩⟩;have⟨ZA,ek,Sk⟩:=Ij (n:=f);refine Α rfl ek ?_;have w1:0 < wd - 1:=()
   have Sn:=abo (f / 7) (show wd - 1≠0 by omega);have Zj:=abl (f / 7) w1;obtain⟨mn,emn,Yy,V4⟩:∃mn:Nat,1+f / 7 % (wd - 1)=(mn:Int)/\1<=mn/\mn<=6:=⟨(1+f / 7 % (wd - 1)).toNat,(),(),()⟩;refine⟨⟨@_,bg (k:=4) @_⟩,w1,?_⟩;dsimp only[Jc];rw[emn];refine⟨λρ M2=>M2=M'++[pC c1 c2,MO.lst (rs.map Κ)]/\∃kd:Str,(Θ kd=true\/kd="chance"\/kd="end")/\ρ=[some (.ip ns),some (.int sz),some (.int wd),some (.int kp),some (.loc M'.length),some (.loc (M'.length+1)),some (.int (k:Int)),some (.int (3+wd * (k:Int))),some (.int f),some (.str kd),some (.int mn)],⟨λ_=>⟨ns,1,rfl,@_,@_,λn2 QV=>⟨⟨@_,bg (k:=5) @_⟩,@_,λ_=>⟨rfl,"end",.inr (.inr rfl),rfl⟩,λ_=>⟨rfl,ZA,Sk,rfl⟩⟩⟩,λ_=>⟨nofun,λ_=>⟨rfl,ZA,Sk,rfl⟩⟩⟩,?_⟩;rintro ρ2 M2 ⟨rfl,kd,PJ,rfl⟩;refine⟨λρ M2=>∃(c1 c2:List Int) (mm:Nat),jz c1/\jz c2/\1<=mm/\mm<=6/\M2=M'++[pC c1 c2,MO.lst (rs.map Κ)]/\ρ=[some (.ip ns),some (.int sz),some (.int wd),some (.int kp),some (.loc M'.length),some (.loc (M'.length+1)),some (.int (k:Int)),some (.int (3+wd * (k:Int))),some (.int f),some (.str kd),some (.int mm)],?_,?_⟩
   ·have same:∃(c1' ZC:List Int) (mm:Nat),jz c1'/\jz ZC/\1<=mm/\mm<=6/\M'++[pC c1 c2,MO.lst (rs.map Κ)]=M'++[pC c1' ZC,MO.lst (rs.map Κ)]/\[some (Dt.ip ns),some (.int sz),some (.int wd),some (.int kp),some (.loc M'.length),some (.loc (M'.length+1)),some (.int (k:Int)),some (.int (3+wd * (k:Int))),some (.int f),some (.str kd),some (.int mn)]=[some (.ip ns),some (.int sz),some (.int wd),some (.int kp),some (.loc M'.length),some (.loc (M'.length+1)),some (.int (k:Int)),some (.int (3+wd * (k:Int))),some (.int f),some (.str kd),some (.int mm)]:=⟨c1,c2,mn,k1,k2,Yy,V4,rfl,rfl⟩;walk_at "vc";refine⟨M'.length,_,_,Sum.inr kd,rfl,atC c1 c2,rfl,λz=>⟨λz2=>?_,λ_=>same⟩,λz=>⟨nofun,λ_=>same⟩⟩;have two:kd="one"\/kd="other":=by
     unfold K0 at z;rw[abC,abC,List.any_nil,Bool.or_false,aci,aaR,aaR]at z;rcases z with z| z
     ·exact .inl (Sum.inr.inj z).symm
     ·exact .inr (Sum.inr.inj z).symm
    rcases two with rfl| rfl
    ·skip
     have⟨v,ev,v1,v6⟩:=vG k1;refine⟨M'.length,_,_,Sum.inr "one",_,rfl,atC c1 c2,rfl,rfl,?_⟩;refine⟨_,_,rfl,rfl,by rw[aae];have:=k1.1;exact aat (show _<=4 by show c1.length+1<=4;omega) @_,?_⟩;refine(Α (d:=.lst (c1.map Dt.int++[.int 1])) rfl ev ?_:cx (.lst (c1.map Dt.int++[.int 1])) (.int 0) _ _);obtain⟨mm,YW,Rt,TV⟩:∃mm:Nat,(if v < (mn:Int) then v else (mn:Int))=(mm:Int)/\1<=mm/\mm<=6:=by
      by_cases c:v < (mn:Int)
      ·rw[aar c];exact⟨v.toNat,(),(),()⟩
      ·rw[aaq c];exact⟨mn,rfl,Yy,V4⟩
     dsimp only[H_,o7,Uv,Mb];rw[YW];walk_at "vc";refine⟨M'.length,_,_,Sum.inr "one",_,rfl,atC c1 c2,rfl,rfl,?_⟩;refine⟨c1.map Dt.int,1,rfl,rfl,?_⟩;rw[<-abN];refine cz (m8 _) ?_;refine⟨M'.length,_,_,Sum.inr "one",rfl,atC c1 c2,rfl,by show 2 < 1000;decide,?_⟩;exact⟨c1.drop 1,c2,mm,k1.drop,k2,Rt,TV,setC c1 c2 _,rfl⟩
    ·skip
     have⟨v,ev,v1,v6⟩:=vG k2;refine⟨M'.length,_,_,Sum.inr "other",_,rfl,atC c1 c2,rfl,rfl,?_⟩;refine⟨_,_,rfl,rfl,by rw[aae];have:=k2.1;exact aat (show _<=4 by show c2.length+1<=4;omega) @_,?_⟩;refine(Α (d:=.lst (c2.map Dt.int++[.int 1])) rfl ev ?_:cx (.lst (c2.map Dt.int++[.int 1])) (.int 0) _ _);obtain⟨mm,YW,Rt,TV⟩:∃mm:Nat,(if v < (mn:Int) then v else (mn:Int))=(mm:Int)/\1<=mm/\mm<=6:=by
      by_cases c:v < (mn:Int)
      ·rw[aar c];exact⟨v.toNat,(),(),()⟩
      ·rw[aaq c];exact⟨mn,rfl,Yy,V4⟩
     dsimp only[H_,o7,Uv,Mb];rw[YW];walk_at "vc";refine⟨M'.length,_,_,Sum.inr "other",_,rfl,atC c1 c2,rfl,rfl,?_⟩;refine⟨c2.map Dt.int,1,rfl,rfl,?_⟩;rw[<-abN];refine cz (m8 _) ?_;refine⟨M'.length,_,_,Sum.inr "other",rfl,atC c1 c2,rfl,by show 2 < 1000;decide,?_⟩;exact⟨c1,c2.drop 1,mm,k1,k2.drop,Rt,TV,setC c1 c2 _,rfl⟩
   rintro ρ3 M3 ⟨c1,c2,mm,k1,k2,Rt,TV,rfl,rfl⟩;have first:∃k' xs',Dt.loc (M'.length+1)= .loc k'/\(M'++[pC c1 c2,MO.lst (rs.map Κ)])[k']? =some (.lst xs'):=⟨_,_,rfl,MR c1 c2⟩
   refine⟨λz=>?_,λz=>?_⟩
   ·refine⟨first,⟨@_,bg (k:=4) @_⟩,_,rfl,JF hf @_,λp hp UQ=>⟨fI,M'.length+1,_,_,rfl,rfl,MR c1 c2,lt,?_⟩⟩;refine fm _ _ ⟨m,k+1,rs++[Rw.fin p],c1,c2,_,_,_,_,_,by simp,(),by simp[hl],more (.fin p) ⟨⟨UQ,hp⟩,λ_ _ z=>(nomatch z)⟩,k1,k2,setM c1 c2 (.fin p),rfl⟩
   ·have z:kd≠"end":=aa3 z;have PJ:Θ kd=true\/kd="chance":=by
     rcases PJ with hk| hk| hk
     ·exact .inl hk
     ·exact .inr hk
     ·exact aaC hk z
    refine⟨first,ns,_,kd,mm,sz,rfl,(),(),Rt,TV,(),(),PJ,λds hds=>cz (fQ ds) ?_⟩;refine⟨fI,M'.length+1,_,_,rfl,rfl,MR c1 c2,lt,?_⟩;exact fm _ _ ⟨m,k+1,rs++[Rw.ω kd ds],c1,c2,_,_,_,_,_,by simp,(),by simp[hl],more (.ω kd ds) hds,k1,k2,setM c1 c2 (.ω kd ds),rfl⟩
  ·have⟨n,k,rs,c1,c2,o1,o2,o3,o4,o5,ex,Qm,hl,hd,k1,k2,rfl,rfl⟩:=hj;have hn:n=0:=by have:=aaP List.length ex;unfold cP at this;simpa using this.symm
   have e:rs.length=sz:=()
   exact h rs () () (by rw[e];exact hd) _
def Po{k:Nat}(h:gs.Pairwise (· < ·))(hl:∀g∈gs,g < k):(gs++[k]).Pairwise (· < ·):=by
 rw[List.pairwise_append];refine⟨h,List.pairwise_singleton _ _,λa ha b hb=>?_⟩;have:b=k:=by simpa using hb
 rw[this];exact hl a ha
def GR:DF:=λas M q _=>∃(γ:List Rw) (n:Int),as=[.lst (γ.map Κ),.int n]/\γ.length<=12/\(∀r∈γ,fJ r)/\∀gs,b_ γ gs->gs.length<=12->q (.loc M.length) (M++[.lst (gs.map bc)])
def jo:Γ ["_law_rows_here","_law_number_here","_law_found","_law_place"] ["_law_rows_here","_law_number_here"] (τ oC):=.of rfl
def yq(F:c_ K "_law_goals" "_law_goals" oC f fd)(E:Ev K mg Cm):ak P w K mg base (cF P w) 1 f fd ["_law_rows_here","_law_number_here"] (cQ K GR):=by
 refine F.d7 jo (λds M q x h=>?_) (λbq A outer s H E' hr=>⟨_,(ζ (χ 2 jo.nd (pH η))
   (ζ (jU (cf E.bP (θ (cL E.bR (Λ (jv 0) η)) η aO)) (ai (i:=3) jo.nd rfl (Or.inl rfl)) az (ι (ao (d9 hr (Ε (Ε (jv 0) (jv 3)) ο) fc) (ζ (jq (ao (rG (dE (jv 1) ο) ο) (ι (eL (iR (jv 2) (Λ (jv 3) η)))) Η))
   (ι (χ 1 jo.nd (fC (jv 1) ο)))) Η)))
   (ι (Β (jv 2))))),λds M q x h=>?_⟩)
 ·have⟨γ,n,rfl,_⟩:=h;rfl
 ·have⟨γ,nn,rfl,Nn,ro,h⟩:=h;refine⟨@_,?_⟩;walk_at "vc";refine(aC (d:=.lst (γ.map Κ)) (xs:=γ.map Κ) rfl ?_:fP [.lst (γ.map Κ)] _ _);rw[aae];refine⟨⟨(),()⟩,?_⟩;refine eP (λzs ρ M2=>∃(n k:Nat) (gs:List Nat) (m:Int) (o1:Option Dt),zs=cP k n/\k+n=γ.length/\b_ γ gs/\(∀g∈gs,g < k)/\gs.length<=k/\M2=M++[MO.lst (gs.map bc)]/\ρ=[some (.lst (γ.map Κ)),some (.int m),some (.loc M.length),o1]) (λx zs ρ M2 hj fm=>?_) (λρ M2 hj=>?_) _ _ _ ⟨γ.length,0,[],nn,none,by simp,by simp,⟨.nil,λ_ z=>(nomatch z)⟩,λ_ z=>(nomatch z),Nat.le_refl _,rfl,rfl⟩
  ·have⟨n,k,gs,mm,o1,ex,Qm,hg,F_,hl,rfl,rfl⟩:=hj;have⟨m,rfl,rfl,rfl⟩:=d8 ex;have hk:k < γ.length:=()
   have rk:γ[k]? =some γ[k]:=aaa hk;have hr:=ro _ (aan hk);generalize γ[k]=r at rk hr;have a1:jA (γ.map Κ) (k:Int)=some (Κ r):=Ω (mT rk);have MR:(M++[MO.lst (gs.map bc)])[M.length]? =some (.lst (gs.map bc)):=by simp
   have setM:(M++[MO.lst (gs.map bc)]).set M.length (.lst (gs.map bc++[bc k]))=M++[.lst ((gs++[k]).map bc)]:=by simp
   have lt:(gs.map bc).length < sizeLine:=by rw[aae];exact aaY (show gs.length<=12 by omega) @_
   walk_at "vc";refine(Α (d:=.lst (γ.map Κ)) rfl a1 ?_:cx (.lst (γ.map Κ)) (.int (k:Int)) _ _);cases r with
   | ω kd ds=>
    refine⟨λz=>absurd (of_decide_eq_true z) hr.1,λ_=>fm _ _ ⟨m,k+1,gs,mm,_,by simp,(),hg,λg PM=>Nat.lt_succ_of_lt (F_ g PM),(),rfl,rfl⟩⟩
   | fin p=>
    refine⟨λ_=>?_,nofun⟩;refine⟨λρ M2=>∃J9,b_ γ J9/\(∀g∈J9,g < k+1)/\J9.length<=k+1/\M2=M++[MO.lst (J9.map bc)]/\ρ=[some (.lst (γ.map Κ)),some (.int mm),some (.loc M.length),some (.int (k:Int))],⟨@_,λ_=>?_,λ_=>?_⟩,?_⟩
    ·refine⟨⟨M.length,_,rfl,MR⟩,M.length,_,_,rfl,rfl,MR,lt,gs++[k],⟨Po hg.up F_,λg PM=>?_⟩,λg PM=>?_,by simp;omega,setM,rfl⟩
     ·rcases aaT.mp PM with z| z
      ·exact hg.fin g z
      ·have:g=k:=by simpa using z
       rw[this];exact⟨p,rk⟩
     ·rcases aaT.mp PM with z| z
      ·exact aby (F_ g z)
      ·have:g=k:=by simpa using z
       omega
    ·exact⟨gs,hg,λg PM=>aby (F_ g PM),(),rfl,rfl⟩
    ·rintro ρ2 M2 ⟨J9,g1,g2,g3,rfl,rfl⟩;exact⟨⟨@_,bg (k:=4) @_⟩,fm _ _ ⟨m,k+1,J9,_,_,by simp,(),g1,g2,g3,rfl,rfl⟩⟩
  ·have⟨n,k,gs,mm,o1,ex,Qm,hg,F_,hl,rfl,rfl⟩:=hj;have hn:n=0:=by have:=aaP List.length ex;unfold cP at this;simpa using this.symm
   exact h gs hg ()
def Kc:DF:=λas M q _=>∃n:Int,as=[.int n]/\q (.bl true) M
def BA:Γ ["_law_one"] ["_law_one"] (τ oI):=.of rfl
def zb(F:c_ K "_law_is_int" "_law_is_int" oI f fd)(E:Ev K mg Cm):ak P w K mg base (cF P w) 1 f fd ["_law_one"] (cQ K Kc):=by
 refine F.d7 BA (λds M q x h=>?_) (λbq A outer s H E' hr=>⟨_,(ι (Β (ik (Pd (NF K E.bO (Λ (jv 0) (Λ (IY E.xp Bc) η)))) (i5 (NF K E.bO (Λ (jv 0) (Λ (IY E.zx va) η))))))),λds M q x h=>?_⟩)
 ·have⟨n,rfl,_⟩:=h;rfl
 ·have⟨n,rfl,h⟩:=h;walk_at "vc";refine(DZ rfl rfl E.ib ?_:FC K [.int n,.ty "bool"] M _);refine⟨λ_=>(DZ rfl rfl yc h:FC K [.int n,.ty "int"] M _),nofun⟩
section
def CN(S:Sp)(u p:Nat):Bool:=match at_ S p with
 | some v=>decide (v<=u)
 | none=>false
def rW{u p:Nat}:CN S u p=true↔∃v,at_ S p=some v/\v<=u:=by
 unfold CN;cases e:at_ S p with
 | none=>exact⟨nofun,λ⟨v',e',_⟩=>by cases e'⟩
 | some v=>
  show decide (v<=u)=true↔_;rw[aaR];exact⟨λh=>⟨v,rfl,h⟩,λ⟨v',e',h⟩=>by cases e';exact h⟩
def zh{p s:Nat}(hl:S.length=γ.length)(e:at_ S p=some s):p < γ.length:=by
 rcases Nat.lt_or_ge p γ.length with h| h
 ·exact h
 ·unfold at_ at e;rw[aab,List.getElem?_eq_none ()]at e;cases e
def tY(dr:aE γ gs S){p s:Nat}(e:at_ S p=some (s+1)):∃k ds,γ[p]? =some (.ω k ds):=by have pl:=zh (γ:=γ) dr.1 e;exact jZ dr pl ⟨s,e⟩
def uM(dr:aE γ gs S):∀{s p:Nat},at_ S p=some s->∀u,u<=s->∃q,q < γ.length/\at_ S q=some u
 | 0,p,e,u,hu=>⟨p,zh dr.1 e,by rw[e,show u=0 by omega]⟩
 | s+1,p,e,u,hu=>by
  by_cases c:u=s+1
  ·rw[c];exact⟨p,zh dr.1 e,e⟩
  ·have⟨k,ds,hi⟩:=tY dr e;have⟨_,d,_,ed⟩:=fZ dr hi e;exact uM dr ed u ()
def G9(dr:aE γ gs S){p s:Nat}(e:at_ S p=some s):s < γ.length:=by
 have ex:=uM dr e;have cnt:∀u,u<=s->u+1<=(List.range γ.length).countP (CN S u):=λu=>by
  induction u with
  | zero=>
   intro h;have⟨q,ql,eq⟩:=ex 0 h;exact List.countP_pos_iff.mpr ⟨q,aa9.mpr ql,rW.mpr ⟨0,eq,aai _⟩⟩
  | succ u ih=>
   intro h;have:=ih ();have⟨q,ql,eq⟩:=ex (u+1) h
   have lt:=Bs (P:=CN S u) (Q:=CN S (u+1)) (l:=List.range γ.length) (λa _ ha=>by
    have⟨v,ev,lv⟩:=rW.mp ha
    exact rW.mpr ⟨v,ev,()⟩) (aa9.mpr ql) (rW.mpr ⟨u+1,eq,aai _⟩) (by
    cases hb:CN S u q with
    | false=>rfl
    | true=>
     have⟨v,ev,lv⟩:=rW.mp hb;rw[eq]at ev;cases ev
     omega)
   omega
 have a:=cnt s (aai _);have b:=List.countP_le_length (p:=CN S s) (l:=List.range γ.length);rw[aa8]at b;omega
structure QZ(γ:List Rw)(S:Sp)(t:Nat)(F:List Bool):Prop where
 len:F.length=γ.length
 snd:∀p,F.getD p false=true->(at_ S p).isSome=true
 cmp:∀p s,at_ S p=some s->s<=t->F.getD p false=true
def QZ.fin(dr:aE γ gs S){F:List Bool}(h:QZ γ S γ.length F):F.map Dt.bl=S.map λo=>Dt.bl o.isSome:=by
 apply abc
 ·rw[aae,aae,h.len,dr.1]
 ·intro i h1 h2;rw[List.getElem_map,List.getElem_map];rw[aae]at h1 h2;have a:F.getD i false=F[i]:=by rw[aab,aaa h1];rfl
  have b:at_ S i=S[i]:=by unfold at_;rw[List.getD_eq_getElem?_getD,List.getElem?_eq_getElem h2];rfl
  congr 1
  rw[<-a,<-b];cases hf:F.getD i false with
  | true=>exact(h.snd i hf).symm
  | false=>
   cases hs:at_ S i with
   | none=>rfl
   | some s=>
    have:=h.cmp i s hs (Nat.le_of_lt (G9 dr hs));rw[hf]at this;cases this
end
def Hm:DF:=λas M q _=>∃(γ:List Rw) (gs:List Nat) (S:Sp),as=[.lst (γ.map Κ),.lst (gs.map bc)]/\Gy γ/\b_ γ gs/\gs.length<=12/\aE γ gs S/\q (.loc M.length) (M++[.lst (S.map λo=>Dt.bl o.isSome)])
def dW:Γ ["_law_rows_here","_law_goals_here","_law_found","_law_turn","_law_place","_law_near"] ["_law_rows_here","_law_goals_here"] (τ pE):=.of rfl
def yY   (F:c_ K "_law_hoped" "_law_hoped" pE f fd) (E:Ev K mg Cm):ak P w K mg base (cF P w) 1 f fd ["_law_rows_here","_law_goals_here"] (cQ K Hm):=by
 refine F.d7 dW (λds M q x h=>?_) (λbq A outer s H E' hr=>⟨_,(ζ (χ 2 dW.nd (Mz (ys:=["_law_goals_here"]) (Μ:=[1]) (.of dW rfl rfl rfl) (cf E.bP (θ (cL E.bR (Λ (jv 0) η)) η aO)) (λC s H fp=>(Nt (jv 0) (jv 1)))))
   (ζ (jU (cf E.bP (θ (cL E.bR (Λ (jv 0) η)) η aO)) (ai (i:=3) dW.nd rfl (Or.inl rfl)) az (ι (jU (cf E.bP (θ (cL E.bR (Λ (jv 0) η)) η aO)) (ai (i:=4) dW.nd rfl (Or.inl rfl)) az (ι (ao (JW.jt (oP (gP hr (Ε (Ε (jv 0) (jv 4)) ο) fc) (kH (e7 (bV (Ε (jv 2) (jv 4))))))) (ζ (cT (i:=5) dW.nd rfl (Or.inl rfl) (ys:=["_law_found"]) (Μ:=[2]) (.of dW rfl rfl rfl) (aY (Ε (Ε (jv 0) (jv 4)) ο)) (λC s H fp=>(Ε (jv 1) (Ε (jv 0) ο))))
   (ι (gq (jv 2) (jv 4) (uL (d9 hr (Ε (Ε (jv 0) (jv 4)) ο) fc) (Hl E.vA (Λ (jv 5) η)) (Hf E.uN (Λ (jv 5) η)))))) Η)))))
   (ι (Β (jv 2))))),λds M q x h=>?_⟩)
 ·have⟨γ,gs,S,rfl,_⟩:=h;rfl
 ·have⟨γ,gs,S,rfl,f,go,N2,dr,h⟩:=h;have Rh:=f.len;have sl:∀{z:Nat},z<=1000->z<=sizeLine:=λh=>aat h @_;have h0:QZ γ S 0 ((List.range γ.length).map λp=>decide (p∈gs)):=by
   have g:∀p,p < γ.length->((List.range γ.length).map λp=>decide (p∈gs)).getD p false=decide (p∈gs):=λp hp=>by rw[aab,aah,aaK hp];rfl
   refine⟨by simp,λp hp=>?_,λp s e hs=>?_⟩
   ·rcases Nat.lt_or_ge p γ.length with pl| pl
    ·rw[g p pl]at hp;have hp:=aaD hp;have⟨q',lD⟩:=go.fin p hp;have:=dr.2 p _ lD;have this:at_ S p=if p∈gs then some 0 else none:=this
     rw[aar hp]at this;rw[this];rfl
    ·rw[List.getD_eq_getElem?_getD,List.getElem?_eq_none (by simp;omega)]at hp;cases hp
   ·have pl:=zh (γ:=γ) dr.1 e;rw[g p pl];have s0:s=0:=()
    subst s0;have hi:=rw_at pl;have:=dr.2 p _ hi;cases hr:eB γ p with
    | fin q'=>
     rw[hr]at this;have this:at_ S p=if p∈gs then some 0 else none:=this
     by_cases c:p∈gs
     ·exact aau c
     ·rw[aaq c,e]at this;cases this
    | ω k ds=>
     rw[hr]at this;have this:iK k (aS S ds) (at_ S p):=this;unfold iK at this;rw[e]at this;split at this
     ·rcases this with ⟨z,_⟩| ⟨v,z,_⟩ <;> cases z
     ·rcases this with ⟨z,_⟩| ⟨v,z,_⟩ <;> cases z
  walk_at "vc";dsimp only[A6];walk_at "vc";refine(aC (d:=.lst (γ.map Κ)) (xs:=γ.map Κ) rfl ?_:fP [.lst (γ.map Κ)] _ _);rw[aae];refine⟨⟨(),()⟩,by rw[eG];exact sl (),?_⟩;refine pf (f:=λx=>match x with| .int j=>.bl (decide (j.toNat∈gs))| _=>.aP) _ _ (λx O3 q' hq=>?_) ?_
  ·have⟨j,hj,rfl⟩:=iI O3;have hq:q' (.bl (decide ((0+(j:Int)).toNat∈gs))) M:=hq;rw[show(0+(j:Int)).toNat=j by omega]at hq;rw[show(0+(j:Int))=(j:Int) by omega];refine⟨.int (j:Int),gs.map bc,_,rfl,rfl,kD gs,?_⟩;rw[qw];exact hq
  have e0:([]:List Dt)++(cP 0 ((γ.length:Int)).toNat).map (λx=>match x with| .int j=>.bl (decide (j.toNat∈gs))| _=>.aP)=((List.range γ.length).map λp=>decide (p∈gs)).map Dt.bl:=by
   unfold cP;rw[aaH,aaG,aaG,show((γ.length:Int)).toNat=γ.length by omega];exact abb λj _=>by show Dt.bl (decide ((0+(j:Int)).toNat∈gs))=_;rw[show(0+(j:Int)).toNat=j by omega];rfl
  rw[e0];generalize ((List.range γ.length).map λp=>decide (p∈gs))=F0 at *
  refine(aC (d:=.lst (γ.map Κ)) (xs:=γ.map Κ) rfl ?_:fP [.lst (γ.map Κ)] _ _);rw[aae];refine⟨⟨(),()⟩,?_⟩;refine eP (λzs ρ M2=>∃(n t:Nat) (F:List Bool) (o3 o4 o5:Option Dt),zs=cP t n/\t+n=γ.length/\QZ γ S t F/\M2=M++[MO.lst (F.map Dt.bl)]/\ρ=[some (.lst (γ.map Κ)),some (.lst (gs.map bc)),some (.loc M.length),o3,o4,o5]) (λx zs ρ M2 hj fm=>?_) (λρ M2 hj=>?_) _ _ _ ⟨γ.length,0,F0,none,none,none,by simp,by simp,h0,rfl,rfl⟩
  ·have⟨n,t,F,o3,o4,o5,ex,hn,hF,rfl,rfl⟩:=hj;have⟨n',rfl,rfl,rfl⟩:=d8 ex;walk_at "vc";refine(aC (d:=.lst (γ.map Κ)) (xs:=γ.map Κ) rfl ?_:fP [.lst (γ.map Κ)] _ _);rw[aae];refine⟨⟨(),()⟩,?_⟩;refine eP (λzs ρ M2=>∃(m k:Nat) (F:List Bool) (o4 o5:Option Dt),zs=cP k m/\k+m=γ.length/\QZ γ S t F/\(∀p s,p < k->at_ S p=some s->s<=t+1->F.getD p false=true)/\M2=M++[MO.lst (F.map Dt.bl)]/\ρ=[some (.lst (γ.map Κ)),some (.lst (gs.map bc)),some (.loc M.length),some (.int (t:Int)),o4,o5]) (λx zs ρ M2 hj Y9=>?_) (λρ M2 hj=>?_) _ _ _ ⟨γ.length,0,F,_,_,by simp,by simp,hF,λ_ _ z=>absurd z (Nat.not_lt_zero _),rfl,rfl⟩
   ·have⟨m,k,F,o4,o5,ex,hkm,hF,CA,rfl,rfl⟩:=hj;have⟨m',rfl,rfl,rfl⟩:=d8 ex;have kl:k < γ.length:=()
    have hi:=rw_at kl;have rm:=aaj hi;have ro:=(f.row _ rm).1;have a1:jA (γ.map Κ) (k:Int)=some (Κ (eB γ k)):=Ω (mT hi);have b1:jA (F.map Dt.bl) (k:Int)=some (.bl (F.getD k false)):=Ω (by rw[aah,aab,aaa (by rw[hF.len];exact kl)];rfl)
    have go2:∀(F':List Bool) o4 o5,QZ γ S t F'->(∀p s,p < k->at_ S p=some s->s<=t+1->F'.getD p false=true)->(∀s,at_ S k=some s->s<=t+1->F'.getD k false=true)->_:=λF' o4 o5 h1 h2 h3=>Y9 [some (.lst (γ.map Κ)),some (.lst (gs.map bc)),some (.loc M.length),some (.int (t:Int)),o4,o5] (M++[MO.lst (F'.map Dt.bl)]) ⟨m',k+1,F',o4,o5,by simp,(),h1,λp s hp=>by
     by_cases c:p=k
     ·rw[c];exact h3 s
     ·exact h2 p s (),rfl,rfl⟩
    walk_at "vc";refine(Α (d:=.lst (γ.map Κ)) rfl a1 ?_:cx (.lst (γ.map Κ)) (.int (k:Int)) _ _);cases hr:eB γ k with
    | fin e=>
     rw[hr]at hi;refine⟨nofun,λ_=>⟨nofun,λ_=>go2 F _ _ hF CA λs es _=>?_⟩⟩;have:=dr.2 k _ hi;have this:at_ S k=if k∈gs then some 0 else none:=this
     rw[es]at this;split at this
     ·cases this;exact hF.cmp k 0 es (abE _)
     ·cases this
    | ω kd ds=>
     rw[hr]at hi rm ro a1;have k8:=dr.2 k _ hi;have k8:iK kd (aS S ds) (at_ S k):=k8;refine⟨λ_=>?_,λz=>absurd (of_decide_eq_true (show decide (kd="end")=true by simpa using z)) ro.1⟩;refine(Α (d:=.loc M.length) (rC aL) b1 ?_:cx (.loc M.length) (.int (k:Int)) _ _);refine⟨λz=>?_,λz=>go2 F _ _ hF CA λs _ _=>by simpa using z⟩;have z:F.getD k false=false:=by simpa using z
     dsimp only[ot,eJ];walk_at "vc";refine(Α (d:=.lst (γ.map Κ)) rfl a1 ?_:cx (.lst (γ.map Κ)) (.int (k:Int)) _ _);refine DR ?_;have l6:=oG f rm;refine⟨by show(ds.map cE).length<=sizeLine;rw[aae];exact sl (),?_⟩;refine cy (F:=λx d=>x=cE d/\d∈ds) (f:=λd=>Dt.bl (F.getD d.1.toNat false)) (as:=ds) trivial (λx d hx qq hq=>?_) (fq cE ds ds λx hx=>hx) ?_
     ·have⟨rfl,hd⟩:=hx;have⟨t0,t1⟩:=iJ f rm hd;have b2:jA (F.map Dt.bl) d.1=some (.bl (F.getD d.1.toNat false)):=by have:=Ω (xs:=F.map Dt.bl) (j:=d.1.toNat) (v:=.bl (F.getD d.1.toNat false)) (by rw[aah,aab,aaa (show d.1.toNat < F.length by rw[hF.len];omega)];rfl);rwa[show((d.1.toNat:Nat):Int)=d.1 by omega]at this
      walk_at "vc";refine nW ?_;exact Α (d:=.loc M.length) (rC aL) b2 hq
     rw[aaH];have eb:ds.map (λd=>Dt.bl (F.getD d.1.toNat false))=(ds.map λd=>F.getD d.1.toNat false).map Dt.bl:=by rw[aaG];rfl
     rw[eb];dsimp only[o9];walk_at "vc";refine(Α (d:=.lst (γ.map Κ)) rfl a1 ?_:cx (.lst (γ.map Κ)) (.int (k:Int)) _ _);have kF:k < F.length:=by rw[hF.len];exact kl
     have tn:∀d∈ds,d.1.toNat < γ.length:=λd hd=>by have:=iJ f rm hd;omega
     have J9:∀(b:Bool) p,(F.set k b).getD p false=if p=k then b else F.getD p false:=λb p=>by
      rw[aab,aab,List.getElem?_set];by_cases c:k=p
      ·rw[aar c,aar c.symm,aar ()];rfl
      ·rw[aaq c,aaq (λz=>c z.symm)]
     have fin:∀(b:Bool) (o5:Option Dt),((b=true->(at_ S k).isSome=true)/\∀s,at_ S k=some s->s<=t+1->b=true)->_:=λb o5 hb=>go2 (F.set k b) (some (.int (k:Int))) o5 ⟨by rw[aaZ];exact hF.len,λp hp=>by
       rw[J9]at hp;by_cases c:p=k
       ·rw[aar c]at hp;rw[c];exact hb.1 hp
       ·rw[aaq c]at hp;exact hF.snd p hp,λp s e hs=>by
       rw[J9];by_cases c:p=k
       ·rw[aar c];rw[c]at e;exact hb.2 s e ()
       ·rw[aaq c];exact hF.cmp p s e hs⟩ (λp s hp e hs=>by rw[J9,aaq ()];exact CA p s hp e hs) λs e hs=>by rw[J9,aar rfl];exact hb.2 s e hs
     refine⟨λy=>?_,λy=>?_⟩
     ·have y:kd="other":=aaD y;refine⟨_,rfl,?_⟩;refine⟨M.length,(k:Int),F.map Dt.bl,k,rfl,rfl,aL,by rw[aae];exact jN kF,?_⟩;rw[eI,<-List.map_set];refine fin _ _ ⟨λhb=>?_,λs e hs=>?_⟩
      ·rw[acm]at hb;have hb:=aaS.mp hb;unfold iK at k8;rw[aar y]at k8;rcases k8 with ⟨_,e2⟩| ⟨v,e1,_⟩
       ·have⟨d,hd,ed⟩:=ag.mp e2;have:=hF.snd _ (hb d hd);rw[ed]at this;cases this
       ·rw[e1];rfl
      ·rw[acm];refine aaS.mpr λd hd=>?_;cases s with
       | zero=>
        have:=hF.cmp k 0 e (abE _);rw[z]at this;cases this
       | succ s=>
        have⟨n1,_⟩:=fZ dr hi e;have⟨u,eu,lu⟩:=n1 y d hd;exact hF.cmp _ u eu ()
     ·have y:kd≠"other":=aa3 y;refine⟨_,rfl,λ_ z=>(nomatch z),λ_ z=>(nomatch z),?_⟩;refine⟨M.length,(k:Int),F.map Dt.bl,k,rfl,rfl,aL,by rw[aae];exact jN kF,?_⟩;rw[eI,<-List.map_set];refine fin _ _ ⟨λhb=>?_,λs e hs=>?_⟩
      ·rw[List.any_map]at hb;have⟨d,hd,hb⟩:=aca.mp hb;unfold iK at k8;rw[aaq y]at k8;rcases k8 with ⟨_,e2⟩| ⟨v,e1,_⟩
       ·have:=hF.snd _ hb;rw[e2 _ (ag.mpr ⟨d,hd,rfl⟩)]at this;cases this
       ·rw[e1];rfl
      ·rw[List.any_map];cases s with
       | zero=>
        have:=hF.cmp k 0 e (abE _);rw[z]at this;cases this
       | succ s=>
        have⟨_,d,hd,ed⟩:=fZ dr hi e;exact aca.mpr ⟨d,hd,hF.cmp _ s ed ()⟩
   ·have⟨m,k,F,o4,o5,ex,hkm,hF,CA,rfl,rfl⟩:=hj;have hm:m=0:=by have:=aaP List.length ex;rw[eG]at this;exact this.symm
    exact fm _ _ ⟨n',t+1,F,_,_,_,by simp,(),⟨hF.len,hF.snd,λp s e hs=>CA p s (by have:=zh (γ:=γ) dr.1 e;omega) e hs⟩,rfl,rfl⟩
  ·have⟨n,t,F,o3,o4,o5,ex,hn,hF,rfl,rfl⟩:=hj;have hm:n=0:=by have:=aaP List.length ex;rw[eG]at this;exact this.symm
   have:t=γ.length:=()
   subst this;rw[hF.fin dr];exact h
def OW(M:Ms)(d:Dt)(xs:List Dt):Prop:=d= .lst xs\/∃k,d= .loc k/\M[k]? =some (.lst xs)
def OW.kind{d:Dt}{xs:List Dt}(h:OW M d xs):I0 M d=some (.type "list"):=by
 rcases h with rfl| ⟨k,rfl,h⟩
 ·rfl
 ·show(match M[k]? with| some (.lst _)=>some (Value.type "list")| _=>none)=_;rw[h]
def K1{k:Nat}{xs:List Dt}(h:M[k]? =some (MO.lst xs)):iA M (.loc k)=some (xs,λM':Ms=>M'[k]? =some (MO.lst xs)):=by show(match M[k]? with| some (MO.lst xs)=>some (xs,λM':Ms=>M'[k]? =some (MO.lst xs))| _=>none)=_;rw[h]
def OW.k{M:Ms}{d:Dt}{xs:List Dt}(h:OW M d xs):∃ok,iA M d=some (xs,ok):=by
 rcases h with rfl| ⟨k,rfl,h⟩
 ·exact⟨λ_=>True,rfl⟩
 ·exact⟨_,K1 h⟩
structure CH(tb:List Fr)(n:Nat):Prop where
 len:tb.length=n
 red:∀i,i < n->Red (tb.getD i (0,1))
 unt:∀i,i < n->0<=(tb.getD i (0,1)).1/\(tb.getD i (0,1)).1<=(tb.getD i (0,1)).2
 sz:∀i,i < n->Sz 400 (tb.getD i (0,1))
def CH.mem(h:CH tb n){t:Fr}(ht:t∈tb):Red t/\Sz 400 t:=by
 have⟨i,hi,rfl⟩:=aba ht;have e:tb.getD i (0,1)=tb[i]:=by rw[aab,aaa hi];rfl
 have l:=h.len;exact⟨by rw[<-e];exact h.red i (),by rw[<-e];exact h.sz i ()⟩
def CH.at{tb:List Fr}{n:Nat}(h:CH tb n){t:Int}(h0:0<=t)(h1:t < n):jA (tb.map Υ) t=some (Υ (tb.getD t.toNat (0,1))):=by
 have hl:t.toNat < tb.length:=by rw[h.len];omega
 have e2:(tb.map Υ)[t.toNat]? =some (Υ (tb.getD t.toNat (0,1))):=by rw[aah,aab,aaa hl];rfl
 have:=Ω e2;rwa[show((t.toNat:Nat):Int)=t by omega]at this
def Eg{p:Fr}{k:Bool->Ms->Prop}(h:k false M):Hw (Υ p) (Υ p) M (λd M1=>match d with| .bl b=>k b M1| _=>False):=by show k (!lE [.int p.1,.int p.2] [.int p.1,.int p.2]) M;rw[Sg,aau rfl];exact h
def vh{a f:Fr}:decide (a.1 * f.2 - f.1 * a.2 > 0)=aW f a:=by
 unfold aW;by_cases c:f.1 * a.2 < a.1 * f.2
 ·rw[aau c,aau ()]
 ·rw[aal c,aal ()]
def yV{a f:Fr}:decide (a.1 * f.2 - f.1 * a.2 < 0)=aW a f:=by
 unfold aW;by_cases c:a.1 * f.2 < f.1 * a.2
 ·rw[aau c,aau ()]
 ·rw[aal c,aal ()]
def Tw:DF:=λas M q _=>∃(td:Dt) (tb:List Fr) (n:Nat),as=[td,.int (n:Nat)]/\OW M td (tb.map Υ)/\CH tb n/\q (.bl true) M
def kf:Γ ["_law_some","_law_many","_law_one"] ["_law_some","_law_many"] (τ iz):=.of rfl
def qo(F:c_ K "_law_fractions" "_law_fractions" iz f fd)(E:Ev K mg Cm){Fs:Addr}{Fg:FuncData}(ji:aw P w K mg base 1 "_law_is_int" ["_law_one"] Kc Fs Fg)(aM:aw P w K mg base 1 "_law_lowest" ["_law_top","_law_bottom"] Jb dR dX):ak P w K mg base (cF P w) 2 f fd ["_law_some","_law_many"] (cQ K Tw):=by
 refine F.d7 kf (λds M q x h=>?_) (λbq A outer s H E' hr=>⟨_,(ζ (ao (JW.jt (gL (e7 (bV (By K E.bO (Λ (jv 0) (Λ (IY E.fb rA) η))))) (gK (gP hr (cL E.bR (Λ (jv 0) η)) (jv 1))))) (ι (Β yH)) Η)
   (ζ (b9 (aY (jv 0)) (ai (i:=2) kf.nd rfl (Or.inl rfl)) az (ζ (ao (JW.jt (gL (e7 (bV (By K E.bO (Λ (jv 2) (Λ (IY E.nj pS) η))))) (gL (gP hr (cL E.bR (Λ (jv 2) η)) ο) (gL (e7 (bV (Χ ji hr ν (θ (Ε (jv 2) ο) η aR)))) (gK (e7 (bV (Χ ji hr ν (θ (Ε (jv 2) ο) η aR))))))))) (ι (Β yH)) Η)
   (ι (ao (JW.jt (gL (pL (Ε (jv 2) ο) ο) (gK (gP hr (Χ aM hr ν (θ (Ε (jv 2) ο) (θ (Ε (jv 2) ο) η aR) aR)) (jv 2))))) (ι (Β yH)) Η))))
   (ι (Β yH)))),λds M q x h=>?_⟩)
 ·have⟨td,tb,n,rfl,_⟩:=h;rfl
 ·have⟨td,tb,n,rfl,la,tk,h⟩:=h;have J7:=la.kind;have⟨ok,hk⟩:=la.k;walk_at "vc";refine⟨_,_,_,_,true,rfl,J7,rfl,yc,nofun,λ_=>?_⟩;refine(aC (d:=td) (gJ hk) ?_:fP [td] _ _);rw[aae,tk.len];refine⟨λz=>?_,λ_=>?_⟩
  ·have z:(!decide ((n:Int)=(n:Int)))=true:=z;rw[aau rfl]at z;exact nomatch z
  dsimp only[pQ];refine bz (i:=0) (d:=td) rfl hk ?_;refine aZ (λzs ρ' M'=>M=M'/\∃(rest:List Fr) (o2:Option Dt),zs=rest.map Υ/\(∀p∈rest,p∈tb)/\ρ'=[some td,some (.int (n:Int)),o2]) (λzs ρ' M' hj=>by have⟨rfl,_⟩:=hj;exact nR hk) (λx zs ρ' M' hj fm=>?_) (λρ' M' hj=>?_) _ _ _ ⟨rfl,tb,none,rfl,λ_ h=>h,rfl⟩
  ·have⟨rfl,rest,o2,ex,qc,rfl⟩:=hj;cases rest with
   | nil=>cases ex
   | cons p rest=>
    cases ex;have⟨rp,sp⟩:=tk.mem (qc p aad);walk_at "vc";refine⟨_,_,_,_,true,rfl,rfl,rfl,yc,nofun,λ_=>?_⟩;refine(aC (d:=Υ p) (xs:=[.int p.1,.int p.2]) rfl ?_:fP [Υ p] _ _);refine⟨nofun,λ_=>?_⟩;refine(sE ?_:cx (Υ p) (.int 0) _ _);refine⟨p.1,rfl,nofun,λ_=>?_⟩;refine(rV ?_:cx (Υ p) (.int 1) _ _);refine⟨p.2,rfl,nofun,λ_=>?_⟩;refine(rV ?_:cx (Υ p) (.int 1) _ _);refine⟨λz=>?_,λ_=>?_⟩
    ·have z:p.2 < 1:=aaD z;have:=rp.pos;omega
    refine(sE ?_:cx (Υ p) (.int 0) _ _);refine(rV ?_:cx (Υ p) (.int 1) _ _);refine⟨p.1,p.2,rfl,rp.pos,cM sp @_,?_⟩;rw[uG rp.pos rp.low];refine Eg ?_;exact⟨nofun,λ_=>fm _ _ ⟨rfl,rest,_,rfl,λy hy=>qc y (aac _ hy),rfl⟩⟩
  ·have⟨rfl,rest,o2,ex,qc,rfl⟩:=hj;exact h
def DW:DF:=λas M q _=>∃(k:Str) (ns:List Fr),as=[.str k,.lst (ns.map Υ)]/\(k="one"\/k="other")/\ns≠[]/\(∀n∈ns,Sz 400 n)/\q (Υ (bQ k ns)) M
def eK:Γ ["_law_kind","_law_some","_law_found","_law_one","_law_gap"] ["_law_kind","_law_some"] (τ km):=.of rfl
def tV(F:c_ K "_law_first_of" "_law_first_of" km f fd)(E:Ev K mg Cm):ak P w K mg base (cF P w) 1 f fd ["_law_kind","_law_some"] (cQ K DW):=by
 refine F.d7 eK (λds M q x h=>?_) (λbq A outer s H E' hr=>⟨_,(ζ (χ 2 eK.nd (Ε (jv 1) ο))
   (ζ (b9 (aY (jv 1)) (ai (i:=3) eK.nd rfl (Or.inl rfl)) az (ζ (χ 4 eK.nd (pY (bY (Ε (jv 3) ο) (Ε (jv 2) ο)) (bY (Ε (jv 2) ο) (Ε (jv 3) ο))))
   (ι (ao (JW.jt (gL (JW.jt (oP (d9 hr (jv 0) fc) (kH (rG (jv 4) ο)))) (gK (JW.jt (oP (d9 hr (jv 0) fc) (kH (pL (jv 4) ο))))))) (ι (χ 2 eK.nd (jv 3))) Η))))
   (ι (Β (jv 2))))),λds M q x h=>?_⟩)
 ·have⟨k,ns,rfl,_⟩:=h;rfl
 ·have⟨k,ns,rfl,two,h0,hn,h⟩:=h;have⟨n0,ns',rfl⟩:=abv h0;have eF:∃F:Fr->Fr->Fr,(∀f n,F f n=if (if k="one" then aW f n else aW n f) then n else f)/\bQ k (n0::ns')=(n0::ns').foldl F n0:=by
   refine⟨λf n=>if (if k="one" then aW f n else aW n f) then n else f,λ_ _=>rfl,?_⟩;unfold bQ oW ow;by_cases c:k="one"
   ·rw[aar c];simp only[if_pos c];rfl
   ·rw[aaq c];simp only[if_neg c];rfl
  have⟨F,hF,eb⟩:=eF;rw[eb]at h;walk_at "vc";refine Α (d:=.lst ((n0::ns').map Υ)) rfl aN ?_;refine bz (i:=1) (d:=.lst ((n0::ns').map Υ)) rfl rfl ?_;refine aZ (λxs ρ M'=>M'=M/\∃(rest:List Fr) (f:Fr) (a b:Option Dt),xs=rest.map Υ/\(∀p∈rest,Sz 400 p)/\Sz 400 f/\rest.foldl F f=(n0::ns').foldl F n0/\ρ=[some (.str k),some (.lst ((n0::ns').map Υ)),some (Υ f),a,b]) (λxs ρ M' hj=>trivial) (λx xs ρ M' hj fm=>?_) (λρ M' hj=>?_) _ _ _ ⟨rfl,n0::ns',n0,none,none,rfl,hn,hn n0 aad,rfl,rfl⟩
  ·have⟨rfl,rest,f,a,b,ex,qM,hw,hf,rfl⟩:=hj;cases rest with
   | nil=>cases ex
   | cons p rest=>
    cases ex;have hp:=qM p aad;rw[abA]at hf;have big:∀{x:Fr},Sz 400 x->gS x.1/\gS x.2:=λs=>⟨eR s @_,cM s @_⟩;have yes:F f p=p->_:=λe=>fm [some (.str k),some (.lst ((n0::ns').map Υ)),some (Υ p),some (Υ p),some (.int (p.1 * f.2 - f.1 * p.2))] M' ⟨rfl,rest,p,_,_,rfl,λp hp=>qM p (aac _ hp),hp,by rw[<-hf,e],rfl⟩;have no:F f p=f->_:=λe=>fm [some (.str k),some (.lst ((n0::ns').map Υ)),some (Υ f),some (Υ p),some (.int (p.1 * f.2 - f.1 * p.2))] M' ⟨rfl,rest,f,_,_,rfl,λp hp=>qM p (aac _ hp),hw,by rw[<-hf,e],rfl⟩;walk_at "vc";refine(sE ?_:cx (Υ p) (.int 0) _ _);refine(rV ?_:cx (Υ f) (.int 1) _ _);refine⟨⟨(big hp).1,(big hw).2⟩,?_⟩;refine(sE ?_:cx (Υ f) (.int 0) _ _);refine(rV ?_:cx (Υ p) (.int 1) _ _);refine⟨⟨(big hw).1,(big hp).2⟩,?_⟩;have e1:∀z:decide (0 < p.1 * f.2 - f.1 * p.2)=true,aW f p=true:=λz=>by rw[<-vh];exact z
    have e2:∀z:decide (0 < p.1 * f.2 - f.1 * p.2)=false,aW f p=false:=λz=>by rw[<-vh];exact z
    have e3:∀z:decide (p.1 * f.2 - f.1 * p.2 < 0)=true,aW p f=true:=λz=>by rw[<-yV];exact z
    have e4:∀z:decide (p.1 * f.2 - f.1 * p.2 < 0)=false,aW p f=false:=λz=>by rw[<-yV];exact z
    rcases two with rfl| rfl
    ·refine⟨λ_=>⟨λz=>⟨λ_=>yes (by rw[hF,aar rfl,e1 z];rfl),nofun⟩,λz=>⟨λy=>aaC y @_,λ_=>⟨nofun,λ_=>no (by rw[hF,aar rfl,e2 z];rfl)⟩⟩⟩,λz=>aaC z @_⟩
    ·have Ze:¬(Str.ofString "other"=Str.ofString "one"):=@_
     exact⟨λz=>aaC z @_,λ_=>⟨nofun,λ_=>⟨λ_=>⟨λz=>yes (by rw[hF,aaq Ze,e3 z];rfl),λz=>no (by rw[hF,aaq Ze,e4 z];rfl)⟩,λz=>aaC z @_⟩⟩⟩
  ·have⟨rfl,rest,f,a,b,ex,qM,hw,hf,rfl⟩:=hj;cases rest with
   | nil=>rw[<-hf]at h;exact h
   | cons p rest=>cases ex
def Ks{f:ba->Rat}:∀{ds:List ba},(∀d∈ds,f d=0)->ay f ds=0
 | [],_=>rfl
 | d::ds,h=>by show f d+ay f ds=0;rw[h d List.mem_cons_self,Ks λx hx=>h x (List.mem_cons_of_mem _ hx)];grind
def Ap{f:ba->Rat}:∀{ds:List ba},(∀d∈ds,0<=f d)->∀{e:ba},e∈ds->0 < f e->0 < ay f ds
 | d::ds,h,e,he,hp=>by
  have nn:∀{l:List ba},(∀d∈l,0<=f d)->0<=ay f l:=λ{l}=>by
   induction l with
   | nil=>intro _;show(0:Rat)<=0;grind
   | cons a l ih=>
    intro h;have:=ih λx hx=>h x (aac _ hx);have:=h a aad;show 0<=f a+ay f l;grind
  have n1:=nn λx hx=>h x (aac _ hx);have n2:=h d aad;show 0 < f d+ay f ds;rcases aaA.mp he with z| z
  ·rw[z]at hp;grind
  ·have:=Ap (λx hx=>h x (aac _ hx)) z hp;grind
theorem ID{w c t:Fr}(hw:0 < w.2)(hc:0 < c.2)(ht:0 < t.2):val (ax (w.1 * (c.2 * t.2)+c.1 * t.1 * w.2) (w.2 * (c.2 * t.2)))=val w+val c * val t:=by
 have h:=abj hw (abj hc ht);rw[kB ()];have z1:=bI (show w.2≠0 by omega);have z2:=bI (show c.2≠0 by omega);have z3:=bI (show t.2≠0 by omega);unfold val;simp only[Rat.intCast_add,Rat.intCast_mul];generalize (w.1:Rat)=x1 at *
 generalize (w.2:Rat)=x2 at *
 generalize (c.1:Rat)=y1 at *
 generalize (c.2:Rat)=y2 at *
 generalize (t.1:Rat)=u1 at *
 generalize (t.2:Rat)=u2 at *
 clear h hw hc ht;grind
section
variable{S2:Sp}{a:Pl}{k:Str}
def fE.dk(fr:FR ε γ)(t:fE γ gs S S2 p a tb):oq γ (aI p a):=jj fr t.fp t.kp.fa
def fE.Gq(t:fE γ gs S S2 p a tb):Nx γ S (aI p a):=t.pr a t.kp.fa
def fE.tk(fr:FR ε γ)(t:fE γ gs S S2 p a tb):CH tb γ.length:=
 ⟨t.kp.ch.tab.len,t.kp.ch.tab.red,λi il=>let z:=t.kp.ch.sz fr (t.dk fr) t.dr t.Gq il;⟨z.2.1,z.2.2.1⟩,λi il=>(t.kp.ch.sz fr (t.dk fr) t.dr t.Gq il).2.2.2⟩
def fE.unit(fr:FR ε γ)(t:fE γ gs S S2 p a tb):∀i,i < γ.length->0<=V_ tb i/\V_ tb i<=1:=t.kp.ch.unit fr (t.dk fr) t.dr t.Gq
def fE.A7(t:fE γ gs S S2 p a tb)(il:i < γ.length)(h:at_ S i=none):V_ tb i=0:=by rw[t.kp.ch.no il λ⟨s,e⟩=>by rw[h]at e;cases e];unfold oz;rw[h];exact l3
def fE.goal(t:fE γ gs S S2 p a tb)(il:i < γ.length)(h:at_ S i=some 0):V_ tb i=1:=by rw[t.kp.ch.no il λ⟨s,e⟩=>by rw[h]at e;cases e];unfold oz;rw[h];exact pW
def fE.hand(fr:FR ε γ)(t:fE γ gs S S2 p a tb)(hi:γ[i]? =some (.ω k ds))(hh:Θ k=true):∃(j:Nat) (jl:j < ds.length),Τ (if k="one" then p else a) i=some (j:Int)/\(∀d∈ds,fH k * V_ tb d.1.toNat<=fH k * V_ tb ds[j].1.toNat)/\(qH S i->V_ tb i=V_ tb ds[j].1.toNat):=by
 have il:=(aaf.mp hi).1;rcases mM fr hi with rfl| rfl| rfl
 ·have⟨j,jl,gj,al⟩:=yo fr aA t.fp t.kp.ch.tab.red t.np hi;refine⟨j,jl,by rw[aar rfl];exact gj,al,λst=>?_⟩;rw[t.kp.ch.st il st,de fr hi aA (by rw[fe fr t.kp.fa hi];exact gj) jl st]
 ·have⟨j,jl,gj,al⟩:=yo fr aF t.kp.fa t.kp.ch.tab.red t.na hi;refine⟨j,jl,by rw[aaq @_];exact gj,al,λst=>?_⟩;rw[t.kp.ch.st il st,de fr hi aF (by rw[hG fr t.kp.fa hi];exact gj) jl st]
 ·exact aaC hh @_
def fE.Hs(fr:FR ε γ)(t:fE γ gs S S2 p a tb)(hi:γ[i]? =some (.ω "chance" ds)):V_ tb i=ay (λd=>cV d * V_ tb d.1.toNat) ds:=by
 have il:=(aaf.mp hi).1;have Fz:=cW fr.pl (aaj hi);by_cases st:qH S i
 ·rw[t.kp.ch.st il st,jM st,cN hi];unfold eW;rw[g7 fr t.fp t.kp.fa hi];rfl
 ·have hn:at_ S i=none:=by
   have:=t.dr.2 i _ hi;have this:iK "chance" (aS S ds) (at_ S i):=this;unfold iK at this;rw[aaq @_]at this;rcases this with ⟨z,_⟩| ⟨v,z,_⟩
   ·exact z
   ·exact aaC ⟨v,z⟩ st
  rw[t.A7 il hn,Ks λd hd=>?_];have:=pJ t.dr hi @_ hn d hd;rw[t.A7 (by have:=Fz.to d hd;omega) this];grind
def fE.pos(fr:FR ε γ)(t:fE γ gs S S2 p a tb):∀(s i:Nat),i < γ.length->at_ S i=some s->0 < V_ tb i:=λs=>by
 induction s using Nat.strongRecOn with
 | _ s ih=>
  intro i il e;cases s with
  | zero=>rw[t.goal il e];grind
  | succ s=>
   have st:qH S i:=⟨s,e⟩;have⟨k,ds,hi⟩:=jZ t.dr il st;have Fz:=cW fr.pl (aaj hi);have tn:∀d∈ds,d.1.toNat < γ.length:=λd hd=>by have:=Fz.to d hd;omega
   have⟨n1,d1,K6,QW⟩:=fZ t.dr hi e;rcases mM fr hi with rfl| rfl| rfl
   ·have⟨j,jl,_,al,es⟩:=t.hand fr hi aA;have:=al d1 K6;rw[ou]at this;have:=ih s () d1.1.toNat (tn d1 K6) QW;rw[es st];grind
   ·have⟨j,jl,_,_,es⟩:=t.hand fr hi aF;rw[es st];have⟨u,eu,lu⟩:=n1 rfl _ (aan jl);exact ih u () _ (tn _ (aan jl)) eu
   ·rw[t.Hs fr hi];have co:y8 (ds.map ξ):=by
     rcases Fz.kd with z| ⟨_,_,z⟩
     ·exact aaC z @_
     ·exact z
    refine Ap (λd hd=>Rat.mul_nonneg (Rat.le_of_lt (xX co d hd)) (t.unit fr _ (tn d hd)).1) K6 ?_;exact Rat.mul_pos (xX co d1 K6) (ih s () _ (tn d1 K6) QW)
def fE.best(fr:FR ε γ)(t:fE γ gs S S2 p a tb)(hi:γ[i]? =some (.ω k ds))(hh:Θ k=true):tb.getD i (0,1)=bQ k (aB tb ds):=by
 have il:=(aaf.mp hi).1;have Fz:=cW fr.pl (aaj hi);have tn:∀d∈ds,d.1.toNat < γ.length:=λd hd=>by have:=Fz.to d hd;omega
 have⟨j,jl,_,al,es⟩:=t.hand fr hi hh;have red:=t.kp.ch.tab.red
 have⟨bm,bb⟩:=xZ (k:=k) (ns:=aB tb ds) (λz=>by
  have:=aaP List.length z;unfold aB at this;rw[aae]at this;have l1:=Fz.l1;rw[this]at l1
  exact aaC l1 @_) λn hn=>by have⟨d,hd,rfl⟩:=aam.mp hn;exact(red _ (tn d hd)).pos
 have⟨d,hd,eb⟩:=aam.mp bm;have eb:tb.getD d.1.toNat (0,1)=bQ k (aB tb ds):=eb;rw[<-eb];refine ju (red i il) (red _ (tn d hd)) ?_;have e1:V_ tb d.1.toNat=V_ tb ds[j].1.toNat:=by
  have x:=al d hd;have y:=bb _ (aam.mpr ⟨ds[j],aan jl,rfl⟩);rw[<-eb]at y;have y:fH k * V_ tb ds[j].1.toNat<=fH k * V_ tb d.1.toNat:=y;have:fH k * V_ tb d.1.toNat=fH k * V_ tb ds[j].1.toNat:=by grind
  unfold fH at this;split at this <;> grind
 show V_ tb i=V_ tb d.1.toNat;by_cases st:qH S i
 ·rw[es st,e1]
 ·have k8:=t.dr.2 i _ hi;have k8:iK k (aS S ds) (at_ S i):=k8;have hn:at_ S i=none:=by
   unfold iK at k8;split at k8
   ·rcases k8 with ⟨z,_⟩| ⟨v,z,_⟩
    ·exact z
    ·exact aaC ⟨v,z⟩ st
   ·rcases k8 with ⟨z,_⟩| ⟨v,z,_⟩
    ·exact z
    ·exact aaC ⟨v,z⟩ st
  rw[t.A7 il hn];by_cases hk:k="other"
  ·unfold iK at k8;rw[aar hk]at k8;rcases k8 with ⟨_,z⟩| ⟨v,z,_⟩
   ·have⟨d2,hd2,YD⟩:=ag.mp z;have z2:=t.A7 (tn d2 hd2) YD;have:=al d2 hd2;rw[z2,<-e1,hk,CM]at this;have:=(t.unit fr _ (tn d hd)).1;grind
   ·exact aaC ⟨v,z⟩ st
  ·exact(t.A7 (tn d hd) (pJ t.dr hi hk hn d hd)).symm
def fE.fin(t:fE γ gs S S2 p a tb){e:Fr}(hi:γ[i]? =some (.fin e)):tb.getD i (0,1)=if i∈gs then (1,1) else (0,1):=by
 have il:=(aaf.mp hi).1;have:=t.dr.2 i _ hi;have this:at_ S i=if i∈gs then some 0 else none:=this
 have red:=t.kp.ch.tab.red i il;split at this
 ·rename_i c;rw[aar c];exact ju red ⟨@_,@_⟩ (by rw[pW];exact t.goal il this)
 ·rename_i c;rw[aaq c];exact ju red ⟨@_,@_⟩ (by rw[l3];exact t.A7 il this)
def fE.some(fr:FR ε γ)(t:fE γ gs S S2 p a tb)(il:i < γ.length):decide (0 < (tb.getD i (0,1)).1)=(at_ S i).isSome:=by
 have r:=t.kp.ch.tab.red i il;have key:(0 < (tb.getD i (0,1)).1)↔0 < V_ tb i:=by
  have:=nC (a:=tb.getD i (0,1)) (b:=(0,1)) r.pos @_;rw[l3]at this;have this:(tb.getD i (0,1)).1 * 1<=0 * (tb.getD i (0,1)).2↔V_ tb i<=0:=this;constructor
  ·intro h;by_cases c:V_ tb i<=0
   ·have:=this.mpr c;omega
   ·grind
  ·intro h;by_cases c:(tb.getD i (0,1)).1 * 1<=0 * (tb.getD i (0,1)).2
   ·have:=this.mp c;grind
   ·omega
 cases e:at_ S i with
 | none=>rw[decide_eq_false λz=>by have:=key.mp z;rw[t.A7 il e]at this;grind];rfl
 | some s=>rw[aau (key.mpr (t.pos fr s i il e))];rfl
end
structure Pm(tb:List Fr)(k:Str)(ds:List ba)(w:Fr):Prop where
 Sv:k≠"chance"->w=bQ k (aB tb ds)
 QU:k="chance"->Red w/\val w=ay (λd=>cV d * V_ tb d.1.toNat) ds
def Nh:DF:=λas M q _=>∃(td:Dt) (tb:List Fr) (n:Nat) (k:Str) (ds:List ba),as=[Κ (.ω k ds),td]/\OW M td (tb.map Υ)/\CH tb n/\(k="one"\/k="other"\/k="chance")/\1<=ds.length/\ds.length<=6/\(∀d∈ds,0<=d.1/\d.1 < n)/\(k="chance"->∀d∈ds,d.2.2=[ξ d]/\Sz 300 (ξ d))/\∀w,Pm tb k ds w->q (Υ w) M
def cI:Γ ["_law_row","_law_table","_law_top","_law_bottom","_law_door","_law_one","_law_below"] ["_law_row","_law_table"] (τ sR):=.of rfl
def BG(F:c_ K "_law_seen" "_law_seen" sR f fd)(E:Ev K mg Cm){zJ:Addr}{zL:FuncData}(jg:aw P w K mg base 1 "_law_first_of" ["_law_kind","_law_some"] DW zJ zL)(aM:aw P w K mg base 1 "_law_lowest" ["_law_top","_law_bottom"] Jb dR dX):ak P w K mg base (cF P w) 2 f fd ["_law_row","_law_table"] (cQ K Nh):=by
 refine F.d7 cI (λds M q x h=>?_) (λbq A outer s H E' hr=>⟨_,(ζ (ao (gP hr (Ε (jv 0) ο) fc) (ι (Β (Χ jg hr ν (θ (Ε (jv 0) ο) (θ (iY (ys:=["_law_table"]) (Μ:=[1]) (.of cI rfl rfl rfl) (aY (Ε (jv 0) ο)) (λC s H fp=>(Ε (jv 1) (Ε (jv 0) ο)))) η) aR)))) Η)
   (ζ (χ 2 cI.nd ο)
   (ζ (χ 3 cI.nd ο)
   (ζ (b9 (aY (Ε (jv 0) ο)) (ai (i:=4) cI.nd rfl (Or.inl rfl)) az (ζ (χ 5 cI.nd (Ε (jv 1) (Ε (jv 4) ο)))
   (ζ (χ 6 cI.nd (bY (Ε (Ε (jv 4) ο) ο) (Ε (jv 5) ο)))
   (ζ (χ 2 cI.nd (dh (bY (jv 2) (jv 6)) (bY (bY (Ε (Ε (jv 4) ο) ο) (Ε (jv 5) ο)) (jv 3))))
   (ι (LX (Χ aM hr ν (Λ (jv 2) (θ (bY (jv 3) (jv 6)) η cG))) (oi rfl (cH (ai (i:=2) cI.nd rfl (Or.inl rfl)) (cH (ai (i:=3) cI.nd rfl (Or.inl rfl)) kQ)))))))))
   (ι (Β (cb (Λ (jv 2) (Λ (jv 3) η))))))))),λds M q x h=>?_⟩)
 ·have⟨td,tb,n,k,ds,rfl,_⟩:=h;rfl
 ·have⟨td,tb,n,k,ds,rfl,la,tk,kd,l1,l6,XS,vC,h⟩:=h;have⟨ok,hk⟩:=la.k;have hs:=gJ hk;have sl:∀{z:Nat},z<=1000->z<=sizeLine:=λh=>aat h @_;have ed:Κ (.ω k ds)= .tup [.str k,.lst (ds.map cE)]:=rfl;rw[ed];walk_at "vc";refine(Α (d:=.tup [.str k,.lst (ds.map cE)]) (xs:=[.str k,.lst (ds.map cE)]) rfl aN ?_:cx (.tup [.str k,.lst (ds.map cE)]) (.int 0) M _);show((!decide (k="chance"))=true->_)/\((!decide (k="chance"))=false->_);refine⟨λz=>?_,λz=>?_⟩
  ·have z:k≠"chance":=λy=>by rw[aau y]at z;cases z
   have kd:k="one"\/k="other":=by
    rcases kd with y| y| y
    ·exact .inl y
    ·exact .inr y
    ·exact aaC y z
   refine(Α (d:=.tup [.str k,.lst (ds.map cE)]) (xs:=[.str k,.lst (ds.map cE)]) rfl aN ?_:cx (.tup [.str k,.lst (ds.map cE)]) (.int 0) M _);dsimp only[ot,eJ];walk_at "vc";refine(DR ?_:cx (.tup [.str k,.lst (ds.map cE)]) (.int 1) M _);refine⟨by show(ds.map cE).length<=sizeLine;rw[aae];exact sl (),?_⟩;refine cy (F:=λx d=>x=cE d/\d∈ds) (f:=λd=>Υ (tb.getD d.1.toNat (0,1))) (as:=ds) trivial (λx d hx qq hq=>?_) (fq cE ds ds λx hx=>hx) ?_
   ·have⟨rfl,hd⟩:=hx;have⟨t0,t1⟩:=XS d hd;walk_at "vc";refine nW ?_;exact Α (d:=td) hs (tk.at t0 t1) hq
   rw[aaH];have en:ds.map (λd=>Υ (tb.getD d.1.toNat (0,1)))=(aB tb ds).map Υ:=by unfold aB;rw[List.map_map];rfl
   rw[en];refine⟨k,aB tb ds,rfl,kd,λy=>?_,λm hm=>?_,h _ ⟨λ_=>rfl,λy=>aaC y z⟩⟩
   ·have:=aaP List.length y;unfold aB at this;rw[aae]at this;have this:ds.length=0:=this;omega
   ·have⟨d,hd,rfl⟩:=aam.mp hm;have:=XS d hd;exact tk.sz _ ()
  ·have z:k="chance":=by
    by_cases y:k="chance"
    ·exact y
    ·rw[aal y]at z;cases z
   have vC:=vC z;dsimp only[pQ,eJ];walk_at "vc";refine(DR ?_:cx (.tup [.str k,.lst (ds.map cE)]) (.int 1) M _);refine aZ (λxs ρ M'=>M'=M/\∃(cv rest:List ba) (w:Fr) (o4 o5 o6:Option Dt),ds=cv++rest/\xs=rest.map cE/\Red w/\val w=ay (λd=>cV d * V_ tb d.1.toNat) cv/\Sz (1+701 * cv.length) w/\ρ=[some (.tup [.str k,.lst (ds.map cE)]),some td,some (.int w.1),some (.int w.2),o4,o5,o6]) (λxs ρ M' hj=>trivial) (λx xs ρ M' hj fm=>?_) (λρ M' hj=>?_) _ _ _ ⟨rfl,[],ds,(0,1),none,none,none,rfl,rfl,⟨@_,@_⟩,l3,⟨@_,@_,@_⟩,rfl⟩
   ·have⟨rfl,cv,rest,w,o4,o5,o6,e,ex,rw_,vw,sw,rfl⟩:=hj;cases rest with
    | nil=>cases ex
    | cons d rest=>
     cases ex;have dm:d∈ds:=by rw[e];simp
     have dl:cv.length<=5:=by have:=aaP List.length e;rw[aag,aaI]at this;omega
     have⟨t0,t1⟩:=XS d dm;have⟨Cb,sc⟩:=vC d dm;have st:=tk.sz d.1.toNat ();have ta:=tk.at t0 t1;have vt:V_ tb d.1.toNat=val (tb.getD d.1.toNat (0,1)):=rfl;generalize tb.getD d.1.toNat (0,1)=t at *
     have vc:cV d=val (ξ d):=rfl;generalize ξ d=c at *
     have b1:(c.2 * t.2).natAbs < 2 ^ 700:=by rw[aa4];exact bD sc.2.2 st.2.2
     have b2:(c.1 * t.1).natAbs < 2 ^ 700:=by rw[aa4];exact bD sc.1 st.1
     have b0:0 < c.2 * t.2:=abj sc.2.1 st.2.1;have kk:1+701 * cv.length+700<=8000:=()
     have b3:(w.1 * (c.2 * t.2)).natAbs < 2 ^ (1+701 * cv.length+700):=by rw[aa4];exact bD sw.1 b1
     have b4:(c.1 * t.1 * w.2).natAbs < 2 ^ (700+(1+701 * cv.length)):=by rw[aa4];exact bD b2 sw.2.2
     have b5:(w.2 * (c.2 * t.2)).natAbs < 2 ^ (1+701 * cv.length+700):=by rw[aa4];exact bD sw.2.2 b1
     have b50:0 < w.2 * (c.2 * t.2):=abj rw_.pos b0;have ek:1+701 * (cv.length+1)=1+701 * cv.length+700+1:=()
     have ep:(2:Nat) ^ (1+701 * cv.length+700+1)=2 ^ (1+701 * cv.length+700)+2 ^ (1+701 * cv.length+700):=by rw[Nat.pow_succ];omega
     have b6:(w.1 * (c.2 * t.2)+c.1 * t.1 * w.2).natAbs < 2 ^ (1+701 * (cv.length+1)):=by rw[ek,ep];rw[Nat.add_comm 700]at b4;have:=Int.natAbs_add_le (w.1 * (c.2 * t.2)) (c.1 * t.1 * w.2);omega
     have b7:(w.2 * (c.2 * t.2)).natAbs < 2 ^ (1+701 * (cv.length+1)):=by rw[ek,ep];omega
     have sf:=MF b50 b6 b7;have vf:val (ax (w.1 * (c.2 * t.2)+c.1 * t.1 * w.2) (w.2 * (c.2 * t.2)))=val w+cV d * V_ tb d.1.toNat:=by rw[vt,vc];exact ID rw_.pos sc.2.1 st.2.1
     have rf:=nH (t:=w.1 * (c.2 * t.2)+c.1 * t.1 * w.2) (show w.2 * (c.2 * t.2)≠0 by omega);have ls:∀l:List ba,ay (λd=>cV d * V_ tb d.1.toNat) (l++[d])=ay (λd=>cV d * V_ tb d.1.toNat) l+cV d * V_ tb d.1.toNat:=λl=>by
      induction l with
      | nil=>show cV d * V_ tb d.1.toNat+0=0+cV d * V_ tb d.1.toNat;grind
      | cons x l ih=>
       show cV x * V_ tb x.1.toNat+ay (λd=>cV d * V_ tb d.1.toNat) (l++[d])=cV x * V_ tb x.1.toNat+ay (λd=>cV d * V_ tb d.1.toNat) l+cV d * V_ tb d.1.toNat;rw[ih];grind
     have fin:∀o5 o6,_:=λo5 o6=>fm [some (.tup [.str k,.lst (ds.map cE)]),some td,some (.int (ax (w.1 * (c.2 * t.2)+c.1 * t.1 * w.2) (w.2 * (c.2 * t.2))).1),some (.int (ax (w.1 * (c.2 * t.2)+c.1 * t.1 * w.2) (w.2 * (c.2 * t.2))).2),some (cE d),o5,o6] M' ⟨rfl,cv++[d],rest,_,_,o5,o6,by rw[e];simp,rfl,rf,by rw[vf,vw,ls],by rw[List.length_append];exact sf,rfl⟩;have sw1:=eR sw (show 1+701 * cv.length<=8000 by omega);have Zo:=cM sw (show 1+701 * cv.length<=8000 by omega);dsimp only[gN,NO];walk_at "vc";refine nW ?_;refine(Α (d:=td) hs ta ?_:cx td (.int d.1) _ _);refine Ju Cb ?_;refine(rV ?_:cx (Υ c) (.int 1) _ _);refine(rV ?_:cx (Υ t) (.int 1) _ _);refine⟨⟨cM sc @_,cM st @_⟩,?_⟩;refine⟨⟨sw1,bg b1⟩,?_⟩;refine Ju Cb ?_;refine(sE ?_:cx (Υ c) (.int 0) _ _);refine(sE ?_:cx (Υ t) (.int 0) _ _);refine⟨⟨eR sc @_,eR st @_⟩,⟨bg b2,Zo⟩,?_⟩;refine⟨⟨Zo,bg b1⟩,?_⟩;exact⟨_,_,rfl,b50,bg b5 kk,fin _ _⟩
   ·have⟨rfl,cv,rest,w,o4,o5,o6,e,ex,rw_,vw,sw,rfl⟩:=hj;cases rest with
    | cons d rest=>cases ex
    | nil=>
     rw[aaV]at e;exact⟨fI,h w ⟨λy=>aaC z y,λ_=>⟨rw_,by rw[e];exact vw⟩⟩⟩
def Ji{n:Nat}:∀S:Sp,Dt.aV n (S.map λo=>Dt.bl o.isSome)
 | []=>trivial
 | _::S=>⟨trivial,Ji S⟩
def GH:DF:=λas M q _=>∃(td d2 d3 d4:Dt) (ε:Fr) (γ:List Rw) (gs:List Nat) (S S2:Sp) (p a:Pl) (tb:List Fr),as=[.tup [td,d2,d3,d4],.lst (γ.map Κ),.lst (gs.map bc)]/\OW M td (tb.map Υ)/\FR ε γ/\b_ γ gs/\gs.length<=12/\fE γ gs S S2 p a tb/\q (.bl true) M
def gf:Γ ["_law_found","_law_rows_here","_law_goals_here","_law_hoped_here","_law_place","_law_due"] ["_law_found","_law_rows_here","_law_goals_here"] (τ oa):=.of rfl
def zB   (F:c_ K "_law_holds" "_law_holds" oa f fd) (E:Ev K mg Cm) {um:Addr} {uy:FuncData} (gD:aw P w K mg base 2 "_law_fractions" ["_law_some","_law_many"] Tw um uy) {Eu:Addr} {FE:FuncData} (mj:aw P w K mg base 1 "_law_hoped" ["_law_rows_here","_law_goals_here"] Hm Eu FE) {JM:Addr} {HY:FuncData} (pq:aw P w K mg base 2 "_law_seen" ["_law_row","_law_table"] Nh JM HY):ak P w K mg base (cF P w) 4 f fd ["_law_found","_law_rows_here","_law_goals_here"] (cQ K GH):=by
 refine F.d7 gf (λds M q x h=>?_) (λbq A outer s H E' hr=>⟨_,(ζ (ao (JW.jt (gL (e7 (bV (By K E.bO (Λ (jv 0) (Λ (IY E.nj pS) η))))) (gL (gP hr (cL E.bR (Λ (jv 0) η)) ο) (gK (e7 (bV (Χ gD hr ν (θ (Ε (jv 0) ο) (θ (cL E.bR (Λ (jv 1) η)) η aO) aR)))))))) (ι (Β yH)) Η)
   (ζ (χ 3 gf.nd (bo (Χ mj hr ν (Λ (jv 1) (Λ (jv 2) η)))))
   (ζ (jU (cf E.bP (θ (cL E.bR (Λ (jv 1) η)) η aO)) (ai (i:=4) gf.nd rfl (Or.inl rfl)) az (ζ (χ 5 gf.nd (cb (θ (Rm E.zx (θ (Nt (jv 4) (jv 2)) η Np)) (θ ο η bJ) aO)))
   (ζ (jq (ao (gP hr (Ε (Ε (jv 1) (jv 4)) ο) fc) (ι (χ 5 gf.nd (Χ pq hr ν (θ (Ε (jv 1) (jv 4)) (θ (Ε (jv 0) ο) η aR) aR)))) Η))
   (ι (ao (JW.jt (gL (gP hr (Ε (Ε (jv 0) ο) (jv 4)) (jv 5)) (gK (gP hr (V8 (Ε (jv 5) ο) ο) (Ε (jv 3) (jv 4)))))) (ι (Β yH)) Η)))))
   (ι (Β yH))))),λds M q x h=>?_⟩)
 ·have⟨td,d2,d3,d4,ε,γ,gs,S,S2,p,a,tb,rfl,_⟩:=h;rfl
 ·have⟨td,d2,d3,d4,ε,γ,gs,S,S2,p,a,tb,rfl,la,fr,go,N2,t,h⟩:=h;have tk:=t.tk fr;have⟨ok,hk⟩:=la.k;have hs:=gJ hk;have r_:=fr.pl.len;have f:=fr.Q2;obtain⟨fd,Vn⟩:∃fd,fd=Dt.tup [td,d2,d3,d4]:=⟨_,rfl⟩;have i0:∀{M':Ms} {q':DQ},q' td M'->cx fd (.int 0) M' q':=λh=>by rw[Vn];exact Α (xs:=[td,d2,d3,d4]) rfl aN h
  rw[<-Vn];walk_at "vc";refine⟨_,_,_,_,true,rfl,by rw[Vn];rfl,rfl,yc,nofun,λ_=>?_⟩;refine(aC (d:=fd) (xs:=[td,d2,d3,d4]) (by rw[Vn];rfl) ?_:fP [fd] _ _);refine⟨nofun,λ_=>?_⟩;refine i0 ?_;refine(aC (d:=.lst (γ.map Κ)) (xs:=γ.map Κ) rfl ?_:fP [.lst (γ.map Κ)] _ _);rw[aae];refine⟨td,tb,γ.length,rfl,la,tk,nofun,λ_=>?_⟩;refine⟨γ,gs,S,rfl,f,go,N2,t.dr,cz (Ji S) ?_⟩;refine(aC (d:=.lst (γ.map Κ)) (xs:=γ.map Κ) rfl ?_:fP [.lst (γ.map Κ)] _ _);rw[aae];refine⟨⟨(),()⟩,?_⟩;refine eP (λzs ρ M2=>∃(n k:Nat) (o4 o5:Option Dt),zs=cP k n/\k+n=γ.length/\M2=M/\ρ=[some fd,some (.lst (γ.map Κ)),some (.lst (gs.map bc)),some (.lst (S.map λo=>Dt.bl o.isSome)),o4,o5]) (λx zs ρ M2 hj fm=>?_) (λρ M2 hj=>?_) _ _ _ ⟨γ.length,0,none,none,by simp,by simp,rfl,rfl⟩
  ·have⟨n,k,o4,o5,ex,Qm,rfl,rfl⟩:=hj;have⟨m,rfl,rfl,rfl⟩:=d8 ex;have kl:k < γ.length:=()
   have hi:=rw_at kl;have rm:=aaj hi;have a1:jA (γ.map Κ) (k:Int)=some (Κ (eB γ k)):=Ω (mT hi);have a2:jA (S.map λo=>Dt.bl o.isSome) (k:Int)=some (.bl (at_ S k).isSome):=by
    have hS:k < S.length:=by rw[t.dr.1];exact kl
    have e:at_ S k=S[k]:=by unfold at_;rw[List.getD_eq_getElem?_getD,List.getElem?_eq_getElem hS];rfl
    rw[e];exact Ω (by rw[aah,aaa hS];rfl)
   have a3:jA (tb.map Υ) (k:Int)=some (Υ (tb.getD k (0,1))):=by have:=tk.at (t:=(k:Int)) () ();rwa[aaU]at this
   have nx:∀o5,_:=λo5=>fm [some fd,some (.lst (γ.map Κ)),some (.lst (gs.map bc)),some (.lst (S.map λo=>Dt.bl o.isSome)),some (.int (k:Int)),o5] M2 ⟨m,k+1,_,o5,by simp,(),rfl,rfl⟩;walk_at "vc";refine⟨.int (k:Int),gs.map bc,_,rfl,rfl,kD gs,?_⟩;rw[qw];refine⟨fI,?_⟩;refine⟨λρ M'=>M'=M2/\ρ=[some fd,some (.lst (γ.map Κ)),some (.lst (gs.map bc)),some (.lst (S.map λo=>Dt.bl o.isSome)),some (.int (k:Int)),some (Υ (tb.getD k (0,1)))],?_,?_⟩
   ·walk_at "vc";refine(Α (d:=.lst (γ.map Κ)) rfl a1 ?_:cx (.lst (γ.map Κ)) (.int (k:Int)) _ _);cases hr:eB γ k with
    | fin e=>
     rw[hr]at hi;refine⟨nofun,λ_=>⟨rfl,?_⟩⟩;rw[t.fin hi];by_cases c:k∈gs
     ·rw[aar c,aau c];rfl
     ·rw[aaq c,aal c];rfl
    | ω kd ds=>
     rw[hr]at hi rm a1;have ro:=(f.row _ rm).1;have l6:=oG f rm;have Fz:=cW fr.pl rm;refine⟨λ_=>?_,λz=>absurd (of_decide_eq_true (show decide (kd="end")=true by simpa using z)) ro.1⟩;refine(Α (d:=.lst (γ.map Κ)) rfl a1 ?_:cx (.lst (γ.map Κ)) (.int (k:Int)) _ _);refine i0 ?_;refine⟨td,tb,γ.length,kd,ds,rfl,la,tk,mM fr hi,l6.1,l6.2,Fz.to,λhc d hd=>?_,λw sk=>⟨rfl,?_⟩⟩
     ·have co:y8 (ds.map ξ):=by
       rcases Fz.kd with z| ⟨_,_,z⟩
       ·rw[hc]at z;exact aaC z @_
       ·exact z
      exact⟨(Fz.ro.2.2.1 hc).1 d hd,(Dw co (aam.mpr ⟨d,hd,rfl⟩)).2.2.2⟩
     ·have ew:w=tb.getD k (0,1):=by
       by_cases hc:kd="chance"
       ·have⟨rw_,vw⟩:=sk.QU hc;subst hc;exact ju rw_ (tk.red k kl) (by rw[vw];exact(t.Hs fr hi).symm)
       ·have hh:Θ kd=true:=by
         rcases Fz.kd with z| ⟨_,z,_⟩
         ·exact z
         ·exact aaC z hc
        rw[sk.Sv hc,t.best fr hi hh]
      rw[ew]
   rintro ρ3 M3 ⟨rfl,rfl⟩;have so:=t.some fr kl;generalize tb.getD k (0,1)=du at *
   walk_at "vc";refine i0 ?_;refine(Α (d:=td) hs a3 ?_:cx td (.int (k:Int)) _ _);refine Eg ?_;refine⟨nofun,λ_=>?_⟩;refine(sE ?_:cx (Υ du) (.int 0) _ _);show cx (.lst (S.map λo=>Dt.bl o.isSome)) (.int (k:Int)) M3 (λd2 M2=>Hw (.bl (decide (0 < du.1))) d2 M2 _);refine(Α (d:=.lst (S.map λo=>Dt.bl o.isSome)) rfl a2 ?_:cx (.lst (S.map λo=>Dt.bl o.isSome)) (.int (k:Int)) _ _);rw[<-so];show((!(decide (0 < du.1)==decide (0 < du.1)))=true->_)/\((!(decide (0 < du.1)==decide (0 < du.1)))=false->_);rw[ab9];exact⟨nofun,λ_=>nx _⟩
  ·have⟨n,k,o4,o5,ex,Qm,rfl,rfl⟩:=hj;exact h
def LF(i:Int):tX (V.int i) (V.int i)=true:=by unfold tX;simp
def AD{l:List Nat}{f:Nat->Bool}(h:∀j,f j=true):l.all f=true:=aaS.mpr λj _=>h j
def CZ(i:Int):pV M n (.int i) (.int i) true:=by have:=pV.flat (M:=M) (n:=n) (d:=.int i) (e:=.int i) rfl rfl;rwa[LF]at this
def Lz{ds:List Dt}(h:∀d∈ds,pV M n d d true):pV M (n+1) (.tup ds) (.tup ds) true:=by
 have:=pV.tup (M:=M) (n:=n) (ds:=ds) (es:=ds) (f:=λ_=>true) λj d e h1 h2=>by rw[h1]at h2;cases h2;exact h d (aaj h1)
 rwa[AD λ_=>rfl,ab9]at this
def D3{d e:Dt}{ds:List Dt}(h1:jH M d=some ds)(h2:jH M e=some ds)(h:∀d∈ds,pV M n d d true):pV M (n+1) d e true:=by
 have:=pV.lst (M:=M) (n:=n) (d:=d) (e:=e) (f:=λ_=>true) h1 h2 rfl λj d e h1 h2=>by rw[h1]at h2;cases h2;exact h d (aaj h1)
 rwa[AD λ_=>rfl]at this
def Oh(p:Fr):pV M (n+1) (Υ p) (Υ p) true:=Lz λd hd=>by have hd:d∈[Dt.int p.1,Dt.int p.2]:=hd;simp only[List.mem_cons,List.not_mem_nil,or_false]at hd;rcases hd with rfl| rfl <;> exact CZ _
def K_{d e:Dt}(h1:jH M d=some (tb.map Υ))(h2:jH M e=some (tb.map Υ)):pV M (n+2) d e true:=D3 h1 h2 λd hd=>by have⟨p,_,rfl⟩:=aam.mp hd;exact Oh p
def Mn{d e:Dt}{S:List Nat}(h1:jH M d=some (S.map bc))(h2:jH M e=some (S.map bc)):pV M (n+1) d e true:=D3 h1 h2 λd hd=>by have⟨p,_,rfl⟩:=aam.mp hd;exact CZ _
def gp(k:Str):Str:=if k="one" then "other" else if k="other" then "one" else k
def dj:Rw->Rw
 | .fin p=>.fin p
 | .ω k ds=>.ω (gp k) ds
def sT{M:Ms}:∀rs:List Rw,Paired (jC M) (rs.map Κ) rs
 | []=>.nil
 | r::rs=>.cons (wu _ r) (sT rs)
def Ax{q:DQ}{A:Addr}(h:q (aj A ε γ) M):nJ M q (.loc M.length) ((M++[MO.ins A [] []]).set M.length (.ins A ["kept_share","kept_rows"] [Υ ε,.lst (γ.map Κ)])):=by rw[eI];exact gF (d':=aj A ε γ) (.TY (Nat.le_refl _) (by simp) (.cons (.old (mh ε)) (.cons (.old (gm γ)) .nil))) h
def FW{k:Str}(h:Θ k=true\/k="chance"):(Θ (gp k)=Θ k)/\(gp k="chance"↔k="chance")/\gp k≠"end":=by
 rcases h with h| rfl
 ·unfold Θ at h;rw[aci,abJ,abJ]at h;rcases h with rfl| rfl <;> decide
 ·decide
def CI{cK:Int}{r:Rw}(h:kO cK r):kO cK (dj r):=by
 cases r with
 | fin p=>exact h
 | ω k ds=>
  have⟨⟨h1,h2,h3,h4⟩,h5⟩:=h;have KR:(if Θ k then Ι ds cK else if k="chance" then Ι ds cK&&Ο (ds.map ξ) else false)=true:=h5;have hk:Θ k=true\/k="chance":=by
   by_cases a:Θ k=true
   ·exact .inl a
   ·rw[aaq a]at KR;by_cases b:k="chance"
    ·exact .inr b
    ·rw[aaq b]at KR;cases KR
  have⟨o1,o2,o3⟩:=FW hk;refine⟨⟨o3,h2,λz=>h3 (o2.mp z),h4⟩,?_⟩;show(if Θ (gp k) then Ι ds cK else if gp k="chance" then Ι ds cK&&Ο (ds.map ξ) else false)=true;rw[o1];by_cases a:Θ k=true
  ·rw[aar a]at KR⊢;exact KR
  ·rw[aaq a]at KR⊢;have b:=hk.resolve_left a;rw[aar b]at KR;rw[aar (o2.mpr b)];exact KR
def p_(h:b_ γ gs):b_ (γ.map dj) gs:=⟨h.up,λg hg=>by
 have⟨q,e⟩:=h.fin g hg
 exact⟨q,by rw[aah,e];rfl⟩⟩
def Cw(h:b_ γ gs):b_ γ (gs.drop 1):=⟨h.up.sublist (List.drop_sublist 1 gs),λg hg=>h.fin g (List.mem_of_mem_drop hg)⟩
abbrev X8:MO:=.iC [Sum.inr "one",Sum.inr "other"] [.str "other",.str "one"]
def IA:DF:=λas M q _=>∃r,as=[Κ r]/\q (Κ (dj r)) (M++[X8])
def sC:Γ ["_law_row"] ["_law_row"] (τ ie):=.of rfl
def qm(F:c_ K "_law_other_hand" "_law_other_hand" ie f fd)(E:Ev K mg Cm):ak P w K mg base (cF P w) 1 f fd ["_law_row"] (cQ K IA):=by
 refine F.d7 sC (λds M q x h=>?_) (λbq A outer s H E' hr=>⟨_,(ι (Β (cb (θ (HB hr (MG (kvs:=[("one","other"),("other","one")]) (m_ UR UR (m_ UR UR Dx)) (by decide+kernel)) (Ε (jv 0) ο) (Ε (jv 0) ο)) (θ (Ε (jv 0) ο) η aR) aO)))),λds M q x h=>?_⟩)
 ·have⟨r,rfl,_⟩:=h;rfl
 ·have⟨r,rfl,h⟩:=h;have hg:∀k:Str,((bH [Sum.inr "one",Sum.inr "other"] [Dt.str "other",Dt.str "one"] (Sum.inr k)).getD (.str k))= .str (gp k):=λk=>by
   unfold gp;by_cases h1:k="one"
   ·subst h1;rfl
   ·by_cases h2:k="other"
    ·subst h2;rfl
    ·rw[aaq h1,aaq h2];have a1:¬((Sum.inr "one":Key)=Sum.inr k):=λz=>h1 (Sum.inr.inj z).symm;have a2:¬((Sum.inr "other":Key)=Sum.inr k):=λz=>h2 (Sum.inr.inj z).symm;unfold bH;rw[List.zip_cons_cons,List.find?_cons_of_neg (by simpa using a1),List.zip_cons_cons,List.find?_cons_of_neg (by simpa using a2)];rfl
  obtain⟨e,e1,e2⟩:∃e,Κ r= .tup [.str (kindOf r),e]/\Κ (dj r)= .tup [.str (gp (kindOf r)),e]:=by
   cases r with
   | fin p=>exact⟨_,rfl,rfl⟩
   | ω k ds=>exact⟨_,rfl,rfl⟩
  rw[e2,<-hg]at h;rw[e1];generalize kindOf r=k at *
  refine⟨⟨M.length,_,_,rfl,aL⟩,?_⟩;exact⟨M.length,_,_,Sum.inr k,rfl,aL,rfl,fI,h⟩
def FR.of(hs:iQ ε=true)(n1:1<=γ.length)(Gn:γ.length<=12)(hg:∀r∈γ,NV γ.length r):FR ε γ:=⟨⟨hs,Gn,λr hr=>(hg r hr).1⟩,n1,λk ds hm hh d hd=>(hg _ hm).2 k ds rfl hh d hd⟩
def E6{n:Int}{r:Rw}(h:NV n r):NV n (dj r):=by
 refine⟨CI h.1,λk ds e hh d hd=>?_⟩;cases r with
 | fin p=>cases e
 | ω k' Hh=>
  have e:Rw.ω (gp k') Hh= .ω k ds:=e;have⟨ek,ed⟩:=Rw.ω.inj e;rw[<-ed]at hd;rw[<-ek]at hh;refine h.2 k' Hh rfl ?_ d hd;unfold gp Θ at hh;unfold Θ;rw[aci,abJ,abJ]at hh⊢;split at hh
  ·rename_i e;exact .inl e
  ·split at hh
   ·rename_i e;exact .inr e
   ·exact hh
def EO{γ:List Rw}(h:gs.length<=12):(gs.drop 1).length<=12:=by rw[abt];omega
def Mm{q:DQ}{m:MO}{ds:List Dt}(u:Dt.aV M.length ds)(h:q (.lst ds) M):nJ M q (.loc (M.length+1)) (M++[m,.lst ds]):=gF (.w6 (Nat.le_succ _) (by rw[abq];rfl) (fN.old u)) h
def KL{n:Nat}:∀tb:List Fr,Dt.aV n (tb.map Υ)
 | []=>trivial
 | t::tb=>⟨mh t,KL tb⟩
def Il{q:DQ}{k:Nat}{ds:List Dt}(hk:M[k]? =some (.lst ds))(u:Dt.aV M.length ds)(h:q (.lst ds) M):zf [.loc k] M (nJ M q):=by show(match y_ M (.loc k) with| some xs=>nJ M q (.loc M.length) (M++[.lst xs])| none=>False);rw[hV hk];exact cz u h
def lA:Γ ["_law_script","_law_rows_here","_law_goals_here","_law_floor","_law_handed","_law_found","_law_kept","_law_others","_law_more"] ["_law_script"] (τ OA):=.of rfl
def N9(F:c_ K "law" "law" OA f fd)(E:Ev K mg Cm){KD:Addr}{Iz:FuncData}(oM:aw P w K mg base 5 "_law_rows" ["_law_script"] D8 KD Iz){FQ:Addr}{Ff:FuncData}(lM:aw P w K mg base 1 "_law_goals" ["_law_rows_here","_law_number_here"] GR FQ Ff)(av:aw P w K mg base 2 "_law_number" ["_law_script","_law_k"] Ba dU dN){lO:Addr}{l7:FuncData}(c7:MS P w K mg base 5 "Floor" Cm ["self","share","rows"] (Iu Cm) lO l7){Io:Addr}{Hu:FuncData}(e_:aw P w K mg base 9 "chances" ["floor","goals"] (zX Cm) Io Hu){Ey:Addr}{ER:FuncData}(dJ:aw P w K mg base 4 "_law_holds" ["_law_found","_law_rows_here","_law_goals_here"] GH Ey ER){uw:Addr}{tW:FuncData}(gA:aw P w K mg base 1 "_law_other_hand" ["_law_row"] IA uw tW):ak P w K mg base (cF P w) 11 f fd ["_law_script"] (cQ K Qp):=by
 refine F.d7 lA (λds M q x h=>?_) (λbq A outer s H E' hr=>⟨_,(ζ (χ 1 lA.nd (bo (Χ oM hr ν (Λ (jv 0) η))))
   (ζ (χ 2 lA.nd (bo (Χ lM hr ν (Λ (jv 1) (θ (Χ av hr ν (Λ (jv 0) (θ ο η bJ))) η aO)))))
   (ζ (χ 3 lA.nd (bo (Bu c7 hr ν (θ (cb (θ ο (θ ο η bJ) bJ)) (θ (bo (i8 E.fb (Λ (jv 1) η))) η aO) kq))))
   (ζ (χ 4 lA.nd (i8 E.fb (Λ (jv 2) η)))
   (ζ (χ 5 lA.nd (Χ e_ hr ν (Λ (jv 3) (Λ (jv 4) η))))
   (ζ (ao (JW.jt (gL (Oq 1 hr (jv 4) (jv 2)) (gK (e7 (bV (Χ dJ hr ν (Λ (jv 5) (Λ (jv 1) (Λ (jv 2) η))))))))) (ι (Β yH)) Η)
   (ζ (χ 6 lA.nd (bo (i8 E.fb (θ (Ε (jv 5) ο) η aR))))
   (ζ (ao (e7 (bV (Χ dJ hr ν (θ (Χ e_ hr ν (Λ (jv 3) (θ (bo (fX (jv 2) ο)) η aR))) (Λ (jv 1) (θ (bo (fX (jv 2) ο)) η aR)) aO)))) (ι (Β yH)) Η)
   (ζ (eL (Me (jv 4)))
   (ζ (cT (i:=7) lA.nd rfl (Or.inl rfl) (ys:=[]) (Μ:=[]) (.of lA rfl rfl rfl) (aY (jv 1)) (λC s H fp=>(bo (Χ gA hr (eE (P:=P) (w:=w)) (Λ (jv 0) η)))))
   (ζ (ao (e7 (bV (Χ dJ hr ν (θ (Χ e_ hr ν (θ (bo (Bu c7 hr ν (θ (cb (θ ο (θ ο η bJ) bJ)) (θ (bo (i8 E.fb (Λ (jv 7) η))) η aO) kq))) (θ (bo (i8 E.fb (Λ (jv 2) η))) η aO) aO)) (Λ (jv 7) (Λ (jv 2) η)) aO)))) (ι (Β yH)) Η)
   (ζ (χ 8 lA.nd (Χ e_ hr ν (Λ (jv 3) (θ (bo (i8 E.fb (Λ (jv 2) η))) η aO))))
   (ζ (ao (e7 (bV (Χ dJ hr ν (Λ (jv 8) (Λ (jv 1) (Λ (jv 2) η)))))) (ι (Β yH)) Η)
   (ζ (gq (Ε (jv 8) ο) ο (cb (θ ο (θ ο η bJ) bJ)))
   (ι (Β (ik (Χ dJ hr ν (θ (Χ e_ hr ν (Λ (jv 3) (θ (bo (i8 E.fb (Λ (jv 2) η))) η aO))) (Λ (jv 1) (Λ (jv 2) η)) aO)) (i5 (Tu 2 hr (Ε (jv 5) ο) (jv 6)))))))))))))))))))),λds M q x h=>?_⟩)
 ·have⟨ns,rfl,_⟩:=h;rfl
 ·have⟨ns,rfl,hl,hq⟩:=h;refine⟨ns,rfl,λγ r1 Nn hg m0=>Mm (gm γ) ?_⟩;refine⟨ns,2,rfl,@_,@_,λn2 QV=>⟨γ,n2,rfl,Nn,λr hr=>(hg r hr).1.1,λgs go N2=>cz (hX gs) ?_⟩⟩;have fr:FR (1,2) γ:=.of @_ r1 Nn hg;have W8:FR (1,2) (γ.map dj):=.of @_ (by rw[aae];exact r1) (by rw[aae];exact Nn) λr hr=>by have⟨r',qc,rfl⟩:=aam.mp hr;rw[aae];exact E6 (hg r' qc)
  walk_at "vc";refine⟨fI,?_⟩;refine mX (gm γ) ?_;refine⟨M.length,.lst (γ.map Κ),(1,2),γ.map Κ,γ,λ_=>True,rfl,aL,rfl,sT γ,@_,r1,Nn,λr hr=>(hg r hr).1,rfl,Ax ?_⟩;refine⟨(1,2),γ,.loc M.length,gs,rfl,fr,.inr ⟨M.length,rfl,aL⟩,go,λS S2 p a tb E1 kt ka ks t Vl R6 ks1 _ ny _=>?_⟩;have h0:(M++[MO.lst (gs.map bc)]++[dP p]++E1)[M.length]? =some (.lst (gs.map bc)):=aH (aH aL);have kt0:M.length < kt:=by rw[aag]at Vl;have:M.length+1 < ka:=Vl;omega
  generalize (M++[MO.lst (gs.map bc)]).length=kp at *
  generalize M++[MO.lst (gs.map bc)]++[dP p]++E1=M1 at *
  refine⟨true,.inr ⟨_,xW (hV h0)⟩,.inr ⟨_,rfl⟩,Mn (xW (hV h0)) rfl,nofun,λ_=>?_⟩;refine⟨.loc kt,_,_,_,(1,2),γ,gs,S,S2,p,a,tb,rfl,.inr ⟨kt,rfl,ny⟩,fr,go,N2,t,nofun,λ_=>?_⟩;refine(Α (d:=.tup [.loc kt,.loc kp,.loc ka,.loc ks]) (xs:=[.loc kt,.loc kp,.loc ka,.loc ks]) rfl aN ?_:cx (.tup [.loc kt,.loc kp,.loc ka,.loc ks]) (.int 0) _ _);refine Il ny (KL tb) ?_;refine⟨gs.map bc,1,rfl,rfl,?_⟩;rw[<-abN];refine cz (hX _) ?_;have go1:=Cw go;have g1l:=EO (γ:=γ) N2;refine⟨(1,2),γ,.lst ((gs.drop 1).map bc),gs.drop 1,rfl,fr,.inl rfl,go1,λS3 S4 p3 a3 tb3 E3 ZT ka3 ks3 t3 _ _ _ _ Yt _=>?_⟩;have h0:(M1++[dP p3]++E3)[M.length]? =some (.lst (gs.map bc)):=aH (aH h0);have ny:(M1++[dP p3]++E3)[kt]? =some (.lst (tb.map Υ)):=aH (aH ny);generalize M1++[dP p3]++E3=M3 at *
  refine⟨gs.map bc,1,rfl,rfl,?_⟩;rw[<-abN];refine cz (hX _) ?_;refine⟨.loc ZT,_,_,_,(1,2),γ,gs.drop 1,S3,S4,p3,a3,tb3,rfl,.inr ⟨ZT,rfl,Yt⟩,fr,go1,g1l,t3,nofun,λ_=>?_⟩;refine⟨M.length,_,rfl,h0,?_⟩;have ny:(M3.set M.length (.lst []))[kt]? =some (.lst (tb.map Υ)):=by rw[aa6 ()];exact ny
  generalize M3.set M.length (MO.lst [])=M4 at *
  show eJ _ _ _ _ _;refine bz (i:=1) (d:=.lst (γ.map Κ)) rfl rfl ⟨by rw[aae];exact aat Nn @_,?_⟩;refine cy (F:=λx a=>x=Κ a/\a∈γ) (f:=λr=>Κ (dj r)) trivial (λx a ha q' lD=>?_) (fq Κ γ γ λ_ h=>h) ?_
  ·have⟨rfl,ha⟩:=ha;refine⟨a,rfl,gF (.old ?_) lD⟩;exact(gm [dj a]).1
  rw[aaH,show γ.map (λr=>Κ (dj r))=(γ.map dj).map Κ by rw[aaG];rfl];refine⟨fI,?_⟩;refine mX (gm (γ.map dj)) ?_;refine⟨M4.length,.lst ((γ.map dj).map Κ),(1,2),(γ.map dj).map Κ,γ.map dj,λ_=>True,rfl,aL,rfl,sT _,@_,by rw[aae];exact r1,by rw[aae];exact Nn,W8.pl.row,rfl,Ax ?_⟩;refine mX (hX _) ?_;refine⟨(1,2),γ.map dj,.lst (gs.map bc),gs,rfl,W8,.inl rfl,p_ go,λS5 S6 p5 a5 tb5 E5 Zz ka5 ks5 t5 _ _ _ _ YB _=>?_⟩;have ny:(M4++[dP p5]++E5)[kt]? =some (.lst (tb.map Υ)):=aH (aH ny);generalize M4++[dP p5]++E5=M5 at *
  refine⟨.loc Zz,_,_,_,(1,2),γ.map dj,gs,S5,S6,p5,a5,tb5,rfl,.inr ⟨Zz,rfl,YB⟩,W8,p_ go,N2,t5,nofun,λ_=>?_⟩;refine mX (hX _) ?_;refine⟨(1,2),γ,.lst (gs.map bc),gs,rfl,fr,.inl rfl,go,λS7 S8 p7 a7 V9 E7 LW WB WQ t7 acL ab6 _ _ Tv _=>?_⟩;have k7:kt≠LW:=by have:=(aaf.mp ny).1;omega
  have ny:(M5++[dP p7]++E7)[kt]? =some (.lst (tb.map Υ)):=aH (aH ny);generalize M5.length=X5 at *
  generalize M5++[dP p7]++E7=M7 at *
  refine⟨.loc LW,_,_,_,(1,2),γ,gs,S7,S8,p7,a7,V9,rfl,.inr ⟨LW,rfl,Tv⟩,fr,go,N2,t7,nofun,λ_=>?_⟩;dsimp only[o9];walk_at "vc";refine⟨fI,?_⟩;refine(Α (d:=.tup [.loc LW,.loc X5,.loc WB,.loc WQ]) (xs:=[.loc LW,.loc X5,.loc WB,.loc WQ]) rfl aN ?_:cx (.tup [.loc LW,.loc X5,.loc WB,.loc WQ]) (.int 0) _ _);refine⟨LW,0,_,0,rfl,rfl,Tv,jN (p:=0) (by rw[aae,t7.kp.ch.tab.len];omega),?_⟩;have ny:(M7.set LW (.lst ((V9.map Υ).set 0 (.tup [.int 7,.int 1]))))[kt]? =some (.lst (tb.map Υ)):=by rw[aa6 (Ne.symm k7)];exact ny
  generalize M7.set LW (.lst ((V9.map Υ).set 0 (.tup [.int 7,.int 1])))=M8 at *
  refine mX (hX _) ?_;refine⟨(1,2),γ,.lst (gs.map bc),gs,rfl,fr,.inl rfl,go,λS9 S10 p9 a9 tb9 E9 ZW ka9 ks9 t9 _ _ _ _ YC _=>?_⟩;have ny:(M8++[dP p9]++E9)[kt]? =some (.lst (tb.map Υ)):=aH (aH ny);generalize M8++[dP p9]++E9=M9 at *
  refine⟨.loc ZW,_,_,_,(1,2),γ,gs,S9,S10,p9,a9,tb9,rfl,.inr ⟨ZW,rfl,YC⟩,fr,go,N2,t9,λ_=>?_,nofun⟩;refine(Α (d:=.tup [.loc kt,.loc kp,.loc ka,.loc ks]) (xs:=[.loc kt,.loc kp,.loc ka,.loc ks]) rfl aN ?_:cx (.tup [.loc kt,.loc kp,.loc ka,.loc ks]) (.int 0) _ _);exact⟨true,.inr ⟨_,xW (hV ny)⟩,.inr ⟨_,rfl⟩,K_ (xW (hV ny)) rfl,hq _⟩
structure FT(K:fv)(f:Addr)(x:Str)(st:Stmt):Prop where
 a:PySem.W.nsIn K mainGlobals x=some (some (.ref f))
 e:∃fd,c_ K x x st f fd
structure FM(K:fv)(C f:Addr)(m x:Str)(st:Stmt):Prop where
 a:PySem.W.findIn K (.ref C) m=some (some (.ref f))
 i:PySem.W.isFn K (.ref f)=true
 e:∃fd,c_ K m x st f fd
section
variable{K:fv}{C:Addr}{m x:Str}{st:Stmt}{oc:Value}{od an:Option Addr}{Ia:Array (Option Value)}{kV doc pm bq ct:Value}
def FT.of(a:PySem.W.nsIn K mainGlobals x=some (some (.ref f)))(l:K.lookup f=some ⟨oc,od,.func (PySem.W.fnOf x x (kI st) (hJ st) (τ st) .none kV doc pm an bq ct),Ia⟩)(c:PySem.W.codeIn K bq x=true)(k:PySem.W.keepIn K (.ref f)=true):FT K f x st:=⟨a,_,Jm l c k⟩
def FM.of(a:PySem.W.findIn K (.ref C) m=some (some (.ref f)))(i:PySem.W.isFn K (.ref f)=true)(l:K.lookup f=some ⟨oc,od,.func (PySem.W.fnOf m x (kI st) (hJ st) (τ st) .none kV doc pm an bq ct),Ia⟩)(c:PySem.W.codeIn K bq x=true)(k:PySem.W.keepIn K (.ref f)=true):FM K C f m x st:=⟨a,i,_,Jm l c k⟩
end
section
variable{P:List Value->Prop}
def Ul(h:P []):∀us:List Value,us.length=0->P us
 | [],_=>h
 | _::_,e=>nomatch e
def eX(h:∀a0:Value,P [a0]):∀us:List Value,us.length=1->P us
 | [],e=>nomatch e
 | a::us,e=>Ul (P:=λus=>P (a::us)) (h a) us (Nat.succ.inj e)
def b8(h:∀a0 a1:Value,P [a0,a1]):∀us:List Value,us.length=2->P us
 | [],e=>nomatch e
 | a::us,e=>eX (P:=λus=>P (a::us)) (h a) us (Nat.succ.inj e)
def jy(h:∀a0 a1 a2:Value,P [a0,a1,a2]):∀us:List Value,us.length=3->P us
 | [],e=>nomatch e
 | a::us,e=>b8 (P:=λus=>P (a::us)) (h a) us (Nat.succ.inj e)
def zN(h:∀a0 a1 a2 a3:Value,P [a0,a1,a2,a3]):∀us:List Value,us.length=4->P us
 | [],e=>nomatch e
 | a::us,e=>jy (P:=λus=>P (a::us)) (h a) us (Nat.succ.inj e)
def Nf(h:∀a0 a1 a2 a3 a4:Value,P [a0,a1,a2,a3,a4]):∀us:List Value,us.length=5->P us
 | [],e=>nomatch e
 | a::us,e=>zN (P:=λus=>P (a::us)) (h a) us (Nat.succ.inj e)
end
def wa{K:fv}(h:PySem.W.subIn K (.type "int") (.type "bool")=some false):PySem.W.kitOne K (.type "int") (.type "bool")=some false:=by unfold PySem.W.kitOne PySem.W.kitCls;rw[aaq (by decide+kernel)];show(if PySem.W.kitMeta "bool"=true then _ else _)=_;rw[aar (by decide+kernel)];exact h
def Au{K:fv}(h:PySem.W.subIn K (.type "int") (.type "str")=some false):PySem.W.kitOne K (.type "int") (.type "str")=some false:=by unfold PySem.W.kitOne PySem.W.kitCls;rw[aaq (by decide+kernel)];show(if PySem.W.kitMeta "str"=true then _ else _)=_;rw[aar (by decide+kernel)];exact h
def uj{K:fv}(h:PySem.W.subIn K (.type "tuple") (.type "str")=some false):PySem.W.kitOne K (.type "tuple") (.type "str")=some false:=by unfold PySem.W.kitOne PySem.W.kitCls;rw[aaq (by decide+kernel)];show(if PySem.W.kitMeta "str"=true then _ else _)=_;rw[aar (by decide+kernel)];exact h
def uc{K:fv}(h:PySem.W.subIn K (.type "tuple") (.type "int")=some false):PySem.W.kitOne K (.type "tuple") (.type "int")=some false:=by unfold PySem.W.kitOne PySem.W.kitCls;rw[aaq (by decide+kernel)];show(if PySem.W.kitMeta "int"=true then _ else _)=_;rw[aar (by decide+kernel)];exact h
def xv{K:fv}(h:PySem.W.subIn K (.type "list") (.type "str")=some false):PySem.W.kitOne K (.type "list") (.type "str")=some false:=by unfold PySem.W.kitOne PySem.W.kitCls;rw[aaq (by decide+kernel)];show(if PySem.W.kitMeta "str"=true then _ else _)=_;rw[aar (by decide+kernel)];exact h
def wH{K:fv}(h:PySem.W.subIn K (.type "list") (.type "int")=some false):PySem.W.kitOne K (.type "list") (.type "int")=some false:=by unfold PySem.W.kitOne PySem.W.kitCls;rw[aaq (by decide+kernel)];show(if PySem.W.kitMeta "int"=true then _ else _)=_;rw[aar (by decide+kernel)];exact h
def rj{K:fv}(h:PySem.W.subIn K (.type "tuple") (.type "list")=some false):PySem.W.kitOne K (.type "tuple") (.type "list")=some false:=by unfold PySem.W.kitOne PySem.W.kitCls;rw[aaq (by decide+kernel)];show(if PySem.W.kitMeta "list"=true then _ else _)=_;rw[aar (by decide+kernel)];exact h
def rS{K:fv}(h:PySem.W.subIn K (.type "list") (.type "tuple")=some false):PySem.W.kitOne K (.type "list") (.type "tuple")=some false:=by unfold PySem.W.kitOne PySem.W.kitCls;rw[aaq (by decide+kernel)];show(if PySem.W.kitMeta "tuple"=true then _ else _)=_;rw[aar (by decide+kernel)];exact h
open PySem.W in
def all_mk{l:OpenLaw}{w:World}{K:Frag}{h:Heap}{fa Cm Di f1 f2 f3 f4 f5 f6 f7 f8 f9 f10 f11 Rh f13 f14 f15 f16 f17 f18 f19 f20 f21 f22 f23 f24 f25 f26 f27 f28 f29 f30 f31 f32 f33 f34 f35 f36 f37 f38 f39 f40 f41 f42 f43 f44 f45 f46 f47 f48 f49 f50 f51 f52 f53 f54 f55 f56 f57 f58 f59 f60 f61 f62:Addr}(X:K.In h)(G:h.Ns mainGlobals mg)(hfa:mg "law"=some (.ref fa))
  {wB tP ue k_:Tok}
  (vQ:nsIn K mainGlobals "MOST_DOORS"=some (some (.int (6) wB)))
  (tQ:nsIn K mainGlobals "MOST_BOTTOM"=some (some (.int (1000000) tP)))
  (uu:nsIn K mainGlobals "MOST_PLACES"=some (some (.int (12) ue)))
  (k9:nsIn K mainGlobals "MOST_SHARE_BOTTOM"=some (some (.int (1000) k_)))
  (MI:nsIn K mainGlobals "Floor"=some (some (.ref Cm))) (kZ:plainGet K Cm Str.empty=true) (kX:hasDictIn K Cm=true) (kU:plainOver K Cm=true) (kM:findIn K (.ref Cm) "__setattr__"=some (some (.builtin "object.__setattr__"))) (Mg:makesIn K Cm=true) (Lo:keepIn K (.ref Cm)=true)
  (xY:findIn K (.ref Cm) "kept_rows"=some none)
  (uD:findIn K (.ref Cm) "kept_share"=some none)
  {J' GO:Tok} {Hy:Option Addr} {J3:Array (Option Value)} {Km:Nat} (KJ:nsIn K mainGlobals "HANDS"=some (some (.ref Di))) (JD:K.lookup Di=some ⟨.type "tuple",Hy,.seq #[(.str "one" J'),(.str "other" GO)] Km,J3⟩)
  (yF:subIn K (.type "int") (.type "bool")=some false)
  (CL:subIn K (.type "int") (.type "str")=some false)
  (w4:subIn K (.type "tuple") (.type "str")=some false)
  (yh:subIn K (.type "tuple") (.type "int")=some false)
  (Aq:subIn K (.type "list") (.type "str")=some false)
  (Al:subIn K (.type "list") (.type "int")=some false)
  (ux:subIn K (.type "tuple") (.type "list")=some false)
  (tO:subIn K (.type "list") (.type "tuple")=some false)
  (t1:FT K f1 "_law_far" wq)
  (t2:FT K f2 "_law_number" me)
  (t3:FT K f3 "_law_lowest" l')
  (t4:FT K f4 "_law_pay" yi)
  (t5:FT K f5 "_law_rest" r9)
  (t6:FT K f6 "_law_doors" oU)
  (t7:FT K f7 "_law_rows" qO)
  (t8:FT K f8 "_law_goals" oC)
  (t9:FT K f9 "fits_share" lN)
  (t10:FT K f10 "fits_pay" rX)
  (t11:FT K f11 "fits_door" oH)
  (t12:FT K Rh "fits_doors" lV)
  (t13:FT K f13 "common_divisor" gC)
  (t14:FT K f14 "common_bottom" iw)
  (t15:FT K f15 "fits_chances" i9)
  (t16:FT K f16 "fits_row" rK)
  (t17:FT K f17 "copied_row" lX)
  (t18:FM K Cm f18 "__init__" "Floor.__init__" lQ)
  (t19:FM K Cm f19 "kind" "Floor.kind" mL)
  (t20:FM K Cm f20 "size" "Floor.size" lR)
  (t21:FT K f21 "check_goals" ky)
  (t22:FM K Cm f22 "doors" "Floor.doors" jV)
  (t23:FT K f23 "is_drawn" rM)
  (t24:FT K f24 "drawn_next" lZ)
  (t25:FT K f25 "draw" KG)
  (t26:FT K f26 "places_of" oV)
  (t27:FT K f27 "drawn_door" lS)
  (t28:FT K f28 "drawn_plan" mx)
  (t29:FT K f29 "first_plan" lU)
  (t30:FT K f30 "with_weights" jd)
  (t31:FT K f31 "number_of_head" ia)
  (t32:FT K f32 "moved_ahead" jL)
  (t33:FT K f33 "cleared_line" jn)
  (t34:FT K f34 "cleared" r8)
  (t35:FT K f35 "fraction" pG)
  (t36:FT K f36 "quotients" my)
  (t37:FT K f37 "answer_of" oN)
  (t38:FT K f38 "minus" AS)
  (t39:FT K f39 "times" AO)
  (t40:FT K f40 "whole_row" oh)
  (t41:FT K f41 "led_row" xc)
  (t42:FT K f42 "ways_from" o8)
  (t43:FT K f43 "chance_row" mq)
  (t44:FT K f44 "chances_by" md)
  (t45:FT K f45 "under" Cf)
  (t46:FT K f46 "greatest" oX)
  (t47:FT K f47 "least" Bl)
  (t48:FT K f48 "better_led" lJ)
  (t49:FT K f49 "kept_least" lH)
  (t50:FM K Cm f50 "rows" "Floor.rows" lT)
  (t51:FT K f51 "held_row" tG)
  (t52:FM K Cm f52 "share" "Floor.share" j_)
  (t53:FT K f53 "steps_by" rY)
  (t54:FT K f54 "chances" tq)
  (t55:FT K f55 "_law_is_int" oI)
  (t56:FT K f56 "_law_fractions" iz)
  (t57:FT K f57 "_law_hoped" pE)
  (t58:FT K f58 "_law_first_of" km)
  (t59:FT K f59 "_law_seen" sR)
  (t60:FT K f60 "_law_holds" oa)
  (t61:FT K f61 "_law_other_hand" ie)
  (t62:FT K f62 "law" OA)
  (So:nsIn K mainGlobals "len"=some none)
  (Tq:nsIn K mainGlobals "abs"=some none)
  (xt:nsIn K mainGlobals "isinstance"=some none)
  (UH:nsIn K mainGlobals "int"=some none)
  (P2:nsIn K mainGlobals "bool"=some none)
  (Rk:nsIn K mainGlobals "str"=some none)
  (Ma:nsIn K mainGlobals "tuple"=some none)
  (QA:nsIn K mainGlobals "list"=some none)
  (ME:nsIn K mainGlobals "range"=some none)
  (zo:nsIn K mainGlobals "enumerate"=some none)
  (Up:nsIn K mainGlobals "any"=some none)
  (R0:nsIn K mainGlobals "all"=some none)
  (SO:nsIn K mainGlobals "sum"=some none)
  (RO:nsIn K mainGlobals "zip"=some none)
  (Ol:nsIn K mainGlobals "dict"=some none)
  (SD:nsIn K mainGlobals "min"=some none)
  :∃fd:FuncData,(∀(s:Shared) (v:Value),BindsTo s fd ⟨[v],[]⟩ [("_law_script",v)])/\∀base:Heap,K.In base->base.Ns mainGlobals mg->ak l.prog w K mg base VA 11 fa fd ["_law_script"] (zC K):=by
 have⟨a1,_,F1⟩:=t1;have⟨a2,_,F2⟩:=t2;have⟨a3,_,F3⟩:=t3;have⟨a4,_,F4⟩:=t4;have⟨a5,_,F5⟩:=t5;have⟨a6,_,F6⟩:=t6;have⟨a7,_,F7⟩:=t7;have⟨a8,_,F8⟩:=t8;have⟨a9,_,F9⟩:=t9;have⟨X9,_,Y4⟩:=t10;have⟨a11,_,Y0⟩:=t11;have⟨a12,_,Wv⟩:=t12;have⟨a13,_,VG⟩:=t13;have⟨a14,_,Wj⟩:=t14;have⟨a15,_,Yw⟩:=t15;have⟨a16,_,YX⟩:=t16;have⟨a17,_,YQ⟩:=t17;have⟨a18,i18,_,ZU⟩:=t18;have⟨a19,i19,_,XO⟩:=t19;have⟨a20,i20,_,Wu⟩:=t20;have⟨a21,_,Xi⟩:=t21;have⟨a22,i22,_,Xv⟩:=t22;have⟨a23,_,Xh⟩:=t23;have⟨a24,_,X1⟩:=t24;have⟨a25,_,WS⟩:=t25;have⟨a26,_,WM⟩:=t26;have⟨a27,_,XT⟩:=t27;have⟨a28,_,Yr⟩:=t28;have⟨a29,_,XB⟩:=t29;have⟨a30,_,WO⟩:=t30;have⟨a31,_,Yd⟩:=t31;have⟨a32,_,YV⟩:=t32;have⟨a33,_,VR⟩:=t33;have⟨a34,_,WC⟩:=t34;have⟨a35,_,Y8⟩:=t35;have⟨a36,_,WG⟩:=t36;have⟨a37,_,VS⟩:=t37;have⟨a38,_,W6⟩:=t38;have⟨a39,_,XI⟩:=t39;have⟨a40,_,W2⟩:=t40;have⟨a41,_,Yh⟩:=t41;have⟨a42,_,Ws⟩:=t42;have⟨a43,_,VP⟩:=t43;have⟨a44,_,Ym⟩:=t44;have⟨a45,_,Y3⟩:=t45;have⟨a46,_,Yz⟩:=t46;have⟨a47,_,XY⟩:=t47;have⟨a48,_,Yv⟩:=t48;have⟨a49,_,W0⟩:=t49;have⟨a50,i50,_,Wt⟩:=t50;have⟨a51,_,VY⟩:=t51;have⟨a52,i52,_,YO⟩:=t52;have⟨a53,_,Xo⟩:=t53;have⟨a54,_,YT⟩:=t54;have⟨a55,_,Wq⟩:=t55;have⟨a56,_,Xd⟩:=t56;have⟨a57,_,XH⟩:=t57;have⟨a58,_,Yk⟩:=t58;have⟨a59,_,VW⟩:=t59;have⟨a60,_,Xp⟩:=t60;have⟨a61,_,Yc⟩:=t61;have⟨a62,dL,Zq⟩:=t62;have e:=hfa.symm.trans (mg_of X G a62);cases e;have xA:=mg_of X G vQ;have uf:=mg_of X G tQ;have uz:=mg_of X G uu;have lj:=mg_of X G k9;have bR:=mg_none_of X G So;have sF:=mg_none_of X G Tq;have bO:=mg_none_of X G xt;have zx:=mg_none_of X G UH;have xp:=mg_none_of X G P2;have Je:=mg_none_of X G Rk;have nj:=mg_none_of X G Ma;have fb:=mg_none_of X G QA;have bP:=mg_none_of X G ME;have cw:=mg_none_of X G zo;have uN:=mg_none_of X G Up;have vA:=mg_none_of X G R0;have yy:=mg_none_of X G SO;have yE:=mg_none_of X G RO;have ya:=mg_none_of X G Ol;have Dz:=mg_none_of X G SD;have E:Ev K mg Cm:={bR:=bR,sF:=sF,bO:=bO,zx:=zx,xp:=xp,Je:=Je,nj:=nj,fb:=fb,bP:=bP,cw:=cw,uN:=uN,vA:=vA,yy:=yy,yE:=yE,ya:=ya,Dz:=Dz,ib:=wa yF,kis:=Au CL,kts:=uj w4,kti:=uc yh,kls:=xv Aq,kli:=wH Al,U4:=rj ux,klt:=rS tO,fA:=⟨kZ,kX,kU,kM⟩,dc:=xY,h_:=uD,Bm:=⟨_,_,_,_,mg_of X G KJ,JD,rfl,rfl,fI,.cons ⟨_,rfl⟩ (.cons ⟨_,rfl⟩ .nil)⟩,pZ:=⟨_,xA⟩,i7:=⟨_,uf⟩,ni:=⟨_,uz⟩,gz:=⟨_,lj⟩};refine⟨dL,λs v=>by have⟨_,_,_,_,_,_,_,_,_,rfl,_⟩:=Zq.ex;exact .of_eq rfl,λbase _ _=>?_⟩;have mc:=@aw.mk l.prog w K mg base;have iF:=(FI F1 E)&&&(F1,a1,b8 λ_ _=>rfl);have av:=(wK F2 E iF)&&&(F2,a2,b8 λ_ _=>rfl);have aM:=(vT F3 E)&&&(F3,a3,b8 λ_ _=>rfl);have iD:=(Fm F4 E aM)&&&(F4,a4,eX λ_=>rfl);have oK:=(BJ F5 E av iF)&&&(F5,a5,b8 λ_ _=>rfl);have l9:=(Av F6 E av iD oK aM)&&&(F6,a6,Nf λ_ _ _ _ _=>rfl);have oM:=(B6 F7 E av iD l9)&&&(F7,a7,eX λ_=>rfl);have lM:=(yq F8 E)&&&(F8,a8,b8 λ_ _=>rfl);have jO:=(yk F9 E)&&&(F9,a9,eX λ_=>rfl);have fY:=(BD Y4 E)&&&(Y4,X9,eX λ_=>rfl);have l_:=(yG Y0 E fY)&&&(Y0,a11,b8 λ_ _=>rfl);have gU:=(x4 Wv E l_)&&&(Wv,a12,b8 λ_ _=>rfl);have bL:=(pI VG E)&&&(VG,a13,b8 λ_ _=>rfl);have ck:=(qh Wj E bL)&&&(Wj,a14,eX λ_=>rfl);have h7:=(rB Yw E ck)&&&(Yw,a15,eX λ_=>rfl);have pd:=(B9 YX E fY gU h7)&&&(YX,a16,b8 λ_ _=>rfl);have dY:=(wQ YQ E)&&&(YQ,a17,eX λ_=>rfl);have c7:MS l.prog w K mg base _ "Floor" Cm _ _ _ _:=⟨xG ZU E jO pd dY,(ZU.binds λ_ _ _ _ _ _=>jy λ_ _ _=>rfl),⟨Mg,a18,i18,Lo⟩,mg_of X G MI⟩;have ae:fG l.prog w K mg base _ Cm "kind" _ _ _ _:=(wX XO E)|||(XO,a19,i19,b8 λ_ _=>rfl);have ah:fG l.prog w K mg base _ Cm "size" _ _ _ _:=(xg Wu E)|||(Wu,a20,i20,eX λ_=>rfl);have jh:=(tU Xi E ae ah)&&&(Xi,a21,b8 λ_ _=>rfl);have aK:fG l.prog w K mg base _ Cm "doors" _ _ _ _:=(ur Xv E ae)|||(Xv,a22,i22,b8 λ_ _=>rfl);have om:=(Bj Xh E ae aK)&&&(Xh,a23,jy λ_ _ _=>rfl);have gX:=(vZ X1 E ah om)&&&(X1,a24,b8 λ_ _=>rfl);have oy:=(La WS E jh ah gX)&&&(WS,a25,b8 λ_ _=>rfl);have e6:=(yC WM E ah ae)&&&(WM,a26,b8 λ_ _=>rfl);have j4:=(x9 XT E aK)&&&(XT,a27,jy λ_ _ _=>rfl);have kg:=(wO Yr E e6 j4)&&&(Yr,a28,b8 λ_ _=>rfl);have j2:=(wC XB E e6)&&&(XB,a29,b8 λ_ _=>rfl);have h8:=(tI WO E)&&&(WO,a30,eX λ_=>rfl);have gh:=(qi Yd E)&&&(Yd,a31,jy λ_ _ _=>rfl);have i_:=(ub YV E)&&&(YV,a32,jy λ_ _ _=>rfl);have fj:=(sN VR E)&&&(VR,a33,zN λ_ _ _ _=>rfl);have pA:=(A9 WC E h8 gh i_ fj)&&&(WC,a34,b8 λ_ _=>rfl);have cD:=(As Y8 E bL)&&&(Y8,a35,b8 λ_ _=>rfl);have jT:=(xS WG E cD)&&&(WG,a36,zN λ_ _ _ _=>rfl);have mD:=(yz VS E pA jT)&&&(VS,a37,eX λ_=>rfl);have xu:=(HK W6 E cD)&&&(W6,a38,b8 λ_ _=>rfl);have wA:=(IP XI E cD)&&&(XI,a39,b8 λ_ _=>rfl);have mB:=(yK W2 E ck)&&&(W2,a40,eX λ_=>rfl);have jQ:=(EG Yh E ah xu wA mB)&&&(Yh,a41,Nf λ_ _ _ _ _=>rfl);have lG:=(yS Ws E aK ae)&&&(Ws,a42,jy λ_ _ _=>rfl);have kz:=(wV VP E jQ lG)&&&(VP,a43,zN λ_ _ _ _=>rfl);have ki:=(vO Ym E mD ah kz)&&&(Ym,a44,zN λ_ _ _ _=>rfl);have kE:=(IK Y3 E)&&&(Y3,a45,b8 λ_ _=>rfl);have mJ:=(zW Yz E kE)&&&(Yz,a46,eX λ_=>rfl);have v8:=(HW XY E kE)&&&(XY,a47,eX λ_=>rfl);have ef:=(ye Yv E aK ae mJ v8)&&&(Yv,a48,jy λ_ _ _=>rfl);have kr:=(xT W0 E j2 ki ef)&&&(W0,a49,jy λ_ _ _=>rfl);have ko:fG l.prog w K mg base _ Cm "rows" _ _ _ _:=(yd Wt E dY)|||(Wt,a50,i50,eX λ_=>rfl);have o_:=(BV VY E)&&&(VY,a51,jy λ_ _ _=>rfl);have iX:fG l.prog w K mg base _ Cm "share" _ _ _ _:=(uE YO E)|||(YO,a52,i52,eX λ_=>rfl);have oZ:=(Cg Xo E ko o_ oy c7 iX)&&&(Xo,a53,jy λ_ _ _=>rfl);have e_:=(Cp YT E oy kg kr ef oZ)&&&(YT,a54,b8 λ_ _=>rfl);have ji:=(zb Wq E)&&&(Wq,a55,eX λ_=>rfl);have gD:=(qo Xd E ji aM)&&&(Xd,a56,b8 λ_ _=>rfl);have mj:=(yY XH E)&&&(XH,a57,b8 λ_ _=>rfl);have jg:=(tV Yk E)&&&(Yk,a58,b8 λ_ _=>rfl);have pq:=(BG VW E jg aM)&&&(VW,a59,b8 λ_ _=>rfl);have dJ:=(zB Xp E gD mj pq)&&&(Xp,a60,jy λ_ _ _=>rfl);have gA:=(qm Yc E)&&&(Yc,a61,eX λ_=>rfl);exact PD (N9 Zq E oM lM av c7 e_ dJ gA)
def walk{l:PySem.W.OpenLaw}{q:Program}{loose:List Str}{XP:(Str->Option Value)->Heap->Prop}{YP:World->Heap->Prop}{d:DefRec}{K:Params->fv}(hn:l.most=some 63)(UE:d.params.defaults=[])
  (hY:∀(w:World) (h:Heap),YP w h->(K w.params).In h)
  (F:∀(w:World) (mg:Str->Option Value) (fa:Addr) (h:Heap),(K w.params).In h->h.Ns mainGlobals mg->mg d.name=some (.ref fa)->
   ∃fd:FuncData,(∀(s:Shared) (u:Value),BindsTo s fd ⟨[u],[]⟩ [("_law_script",u)])/\∀base:Heap,(K w.params).In base->base.Ns mainGlobals mg->ak l.prog w (K w.params) mg base VA 11 fa fd ["_law_script"] (zC (K w.params))):
  PySem.W.WalkO q loose XP YP l.row.toRowW d [] (λf vs=>PySem.call f vs):=
 L2.vX (n:=63) (k:=11) (x:="_law_script") (CX:=λ_=>VA) (sp:=λw=>zC (K w.params)) hn @_ UE ⟨rfl,@_,@_⟩ hY F (λ_ _ a ns hl _ hS=>⟨a,ns,rfl,hS,hl,λ_=>rfl⟩) λ_ _ _ _ _ z=>z
end
end Pg
open PySem PySem.W PyProof.Rows
set_option maxRecDepth 100000 in
set_option maxHeartbeats 0 in
theorem PySem.Challenge.cw_chanceduel_k43_chances_of_goals_holds : PySem.Challenge.rw_chanceduel_k43_chances_of_goals.Holds := by
 w_on;o_law
 refine holds_open (q:=Hd.q) (loose:=[]) (Xt:=Hd.Xt) (XP:=XL Hd.q [])
  (Yf:=Hd.H.obs) (Ya:=Hd.H.val) (YP:=Hd.H.says) Hd.left Hd.H.of Hd.H.keeps
  (λs e=>xl_of s (Bool.and_eq_true_iff.mp e).1) XL.keeps (by rfl) (by rfl) (by rfl)
  (λs e=>recFacts_of (Bool.and_eq_true_iff.mp e).2) (by rfl) (by assumption) (by decide+kernel)
  ⟨rfl,rfl,rfl,rfl,rfl,by decide+kernel⟩ ?hw ?hc
 (case hw=>w_witness2)
 refine Pg.walk (l:=PySem.Challenge.rw_chanceduel_k43_chances_of_goals) rfl rfl (fun w h Y=>PySem.W.kIn_of Y) ?F
 case F=>
  k_fill
  intro w mg fa h KX G LG
  refine' Pg.all_mk KX G LG ?_ ?_ ?_ ?_ ?_ ?_ ?_ ?_ ?_ ?_ ?_ ?_ ?_ ?_ ?_ ?_ ?_ ?_ ?_ ?_ ?_ ?_ ?_ ?_ ?_ ?_ ?_ ?_ ?_ ?_ ?_ ?_ ?_ ?_ ?_ ?_ ?_ ?_ ?_ ?_ ?_ ?_ ?_ ?_ ?_ ?_ ?_ ?_ ?_ ?_ ?_ ?_ ?_ ?_ ?_ ?_ ?_ ?_ ?_ ?_ ?_ ?_ ?_ ?_ ?_ ?_ ?_ ?_ ?_ ?_ ?_ ?_ ?_ ?_ ?_ ?_ ?_ ?_ ?_ ?_ ?_ ?_ ?_ ?_ ?_ ?_ ?_ ?_ ?_ ?_ ?_ ?_ ?_ ?_ ?_ ?_ ?_ ?_ ?_ ?_ ?_
  all_goals try first| (refine' Pg.FT.of ?_ ?_ ?_ ?_ <;> try k_is)| (refine' Pg.FM.of ?_ ?_ ?_ ?_ ?_ <;> try k_is)| k_is| k_exc| kernel_rfl
