import PyProof.Rows.All
import Wide.All
import OpenK.AllK
import Wide.FinOn
import Lean
import PyProof.EqAt
import PyProof.EqKinds
import PyProof.TupleCall
import PyProof.NeKinds
import PyProof.ZipIter
import PyProof.DictUpdate
import PyProof.FactsAll.dict_1
import PyProof.DictIter
import PyProof.DictWalks
import PySem.Challenge.RW_chanceduel_k45_whole_whatever_the_hand_d
set_option Elab.async false
set_option linter.all false
set_option maxRecDepth 100000
set_option maxHeartbeats 4000000
set_option compiler.extract_closed false
def aaa:=@List.getElem?_eq_getElem
def aab:=@List.getD_eq_getElem?_getD
def aac:=@List.mem_cons_of_mem
def aad:=@List.mem_cons_self
def aae:=@List.length_map
def aaf:=@List.getElem?_eq_some_iff
def aag:=@Int.le_of_lt
def aah:=@List.length_append
def aai:=@List.mem_of_getElem?
def aaj:=@Nat.le_refl
def aak:=@List.getElem?_map
def aal:=@List.getElem_mem
def aam:=@PySem.Heap.get?_push_of_some
def aan:=@List.mem_map
def aao:=@Option.some.inj
def aaq:=@if_pos
def aar:=@decide_eq_false
def aas:=@List.getElem?_append_left
def aat:=@PySem.Heap.lt_size
def aau:=@if_neg
def aav:=@of_decide_eq_true
def aaw:=@Nat.le_trans
def aax:=@List.getElem?_append_right
def aay:=@absurd
def aaz:=@Nat.lt_of_lt_of_le
def aaA:=@List.mem_append_right
def aaB:=@Bool.false_ne_true
def aaC:=@Bool.and_eq_true
def aaD:=@List.mem_cons
def aaE:=@decide_eq_true
def aaF:=@Int.mul_le_mul_of_nonneg_right
def aaG:=@PySem.wpAny_bind
def aaH:=@List.nil_append
def aaI:=@List.append_assoc
def aaJ:=@List.length_cons
def aaK:=@Nat.ne_of_lt
def aaL:=@Int.le_trans
def aaM:=@congrArg
def aaN:=@List.map_map
def aaO:=@List.getElem?_range
def aaP:=@Rat.intCast_lt_intCast
def aaQ:=@Int.eq_of_mul_eq_mul_left
def aaR:=@List.mem_append
def aaS:=@PySem.Heap.get?_push_size
def aaU:=@List.map_cons
def aaV:=@List.mem_singleton
def aaW:=@Int.toNat_natCast
def aaX:=@Int.mul_le_mul_of_nonneg_left
def aaY:=@List.append_nil
def aaZ:=@decide_eq_true_iff
def aa0:=@List.size_toArray
def aa1:=@of_decide_eq_false
def aa2:=@List.map_append
def aa3:=@Rat.intCast_mul
def aa4:=@List.length_replicate
def aa5:=@List.mem_range
def aa6:=@List.length_set
def aa7:=@Nat.zero_add
def aa8:=@List.length_range
def aa9:=@List.all_eq_true
def aba:=@List.getElem_of_mem
def abb:=@List.getElem?_set_self
def abc:=@Rat.intCast_le_intCast
def abd:=@Option.isSome_iff_exists
def abf:=@Nat.lt_of_le_of_lt
def abg:=@Int.emod_lt_of_pos
def abh:=@Int.lt_of_le_of_lt
def abi:=@List.map_congr_left
def abj:=@Int.emod_nonneg
def abk:=@PySem.wpAny_pure
def abl:=@Int.mul_comm
def abm:=@Int.natAbs_of_nonneg
def abn:=@Int.mul_ediv_cancel_left
def abo:=@List.replicate_succ
def abp:=@List.ext_getElem
def abq:=@List.getElem?_set_ne
def abr:=@List.drop_eq_getElem_cons
def abt:=@Int.mul_nonneg
def abu:=@Rat.mul_le_mul_of_nonneg_left
def abv:=@Int.mul_pos
def abw:=@Int.natAbs_mul
def abx:=@List.nodup_cons
def aby:=@Nat.add_sub_cancel_left
def abz:=@List.zip_cons_cons
def abA:=@Nat.lt_succ_self
def abB:=@Nat.le_add_right
def abC:=@List.range_succ_eq_map
def abD:=@List.flatten_cons
def abE:=@Nat.lt_succ_of_lt
def abF:=@Rat.le_refl
def abG:=@Int.pow_succ
def abH:=@List.length_drop
def abI:=@Nat.pow_le_pow_right
def abJ:=@Nat.lt_irrefl
def abK:=@List.any_cons
def abL:=@Int.ofNat_lt
def abM:=@List.foldl_cons
def abN:=@Nat.not_lt_zero
def abO:=@List.take_of_length_le
def abP:=@Int.fmod_eq_emod_of_nonneg
def abQ:=@List.exists_cons_of_ne_nil
def abR:=@List.lookup_cons
def abS:=@List.all_cons
def abT:=@Int.dvd_zero
def abU:=@List.set_append_left
def abV:=@List.length_zip
def abW:=@Nat.min_eq_left
def abX:=@Nat.sub_self
def abY:=@List.getElem?_replicate
def abZ:=@Int.le_of_dvd
def ab0:=@Int.toNat_of_nonneg
def ab1:=@List.length_take
def ab2:=@List.drop_eq_nil_of_le
def ab3:=@Option.map_eq_some_iff
def ab4:=@Bool.eq_iff_iff
def ab5:=@Nat.zero_le
def ab6:=@Int.natCast_pow
def ab7:=@List.length_filter_le
def ab8:=@PySem.wpAny_mono
def ab9:=@List.nodup_append
def aca:=@List.map_drop
def acb:=@Array.getElem?_eq_some_iff
def acd:=@Int.fdiv_eq_ediv_of_nonneg
def ace:=@Int.pow_nonneg
def acf:=@Int.mul_neg_of_pos_of_neg
def acg:=@Int.le_of_mul_le_mul_left
def ach:=@Int.ediv_le_self
def aci:=@List.nodup_range
def acj:=@Nat.succ_lt_succ
def ack:=@beq_iff_eq
def acm:=@List.getElem?_take_of_lt
def acn:=@List.mem_of_mem_eraseIdx
def aco:=@Nat.succ.inj
def acp:=@List.mem_filter
def acq:=@List.mem_filterMap
def acr:=@List.of_mem_zip
def acs:=@Int.ediv_nonneg
def acu:=@Rat.intCast_add
def acv:=@Int.le_refl
def acw:=@Rat.one_mul
def acx:=@List.drop_zero
def acy:=@Int.mul_le_mul
def acz:=@Nat.ne_of_gt
def acA:=@Int.pow_zero
def acB:=@Int.ne_of_gt
def acC:=@Int.lt_or_le
namespace Hd
open PySem PySem.W PyProof.Rows
def at_(i:Nat):Stmt:=PySem.Challenge.pw_chanceduel_k45_whole_whatever_the_hand_d.main.body.getD i (.Pass ⟨0,0,0,0⟩)
def QE:Stmt->Nat->Stmt
  | .ClassDef _ _ _ b _ _ _ _ _ _ _,j=>b.getD j (.Pass ⟨0,0,0,0⟩)
  | s,_=>s
def dA:Stmt->Arguments
  | .FunctionDef _ a _ _ _ _ _ _ _ _=>a
  | _=>⟨[],[],none,[],[],none,[]⟩
def dB:Stmt->List Stmt
  | .FunctionDef _ _ b _ _ _ _ _ _ _=>b
  | _=>[]
def dS:Stmt->Scope
  | .FunctionDef _ _ _ _ _ _ c _ _ _=>c
  | _=>{kind:= .function,names:=[],isGenerator:=false,isCoroutine:=false}
abbrev row:=PySem.Challenge.rw_chanceduel_k45_whole_whatever_the_hand_d.row
abbrev en(P:Params)(x:Str)(t:Tok)(v:Value):DictEntry:=⟨PyData.keyHash P x, .str x t,v⟩
def q:Program:={PySem.Challenge.pw_chanceduel_k45_whole_whatever_the_hand_d with main:={PySem.Challenge.pw_chanceduel_k45_whole_whatever_the_hand_d.main with body:=[at_ 1,at_ 2,at_ 3,at_ 4,at_ 5,at_ 6,at_ 7,at_ 9,at_ 10,at_ 11,at_ 12,at_ 13,at_ 14,at_ 16,at_ 17,at_ 18,at_ 19,at_ 20,at_ 21,at_ 22,at_ 23,at_ 24,at_ 25,at_ 27,at_ 28,at_ 29,at_ 30,at_ 31,at_ 32,at_ 33,at_ 35,at_ 36,at_ 37,at_ 38,at_ 39,at_ 40,at_ 41,at_ 42,at_ 44,at_ 45,at_ 46,at_ 47,at_ 48,at_ 50,at_ 51,at_ 52,at_ 53,at_ 55,at_ 56,at_ 57,at_ 58,at_ 59,at_ 60,at_ 61,at_ 62,at_ 63,at_ 65,at_ 66,at_ 67,at_ 68,at_ 69,at_ 70,at_ 71,at_ 72,at_ 73,at_ 74,at_ 75,at_ 76,at_ 77]}}
abbrev cO(x q:Str)(t l n f a m:Nat):Obj:=⟨.type "code",none, .fields #[.str x t, .str q (t+1), .str "/claim/cut.py" (t+2), .int l 0, .int n 0, .int 0 0, .int 0 0, .int f 0, .ref a, .bool true, .int 181 0, .ref (a+1), .none, .ref (a+2), .ref (a+3), .ref (a+4), .int m 0, .int l 0, .str "/claim/cut.py" (m+1)], #[]⟩
abbrev dO(x q:Str)(t l n f a m:Nat):Obj:=⟨.type "code",none, .fields #[.str x t, .str q (t+1), .str "/claim/cut.py" (t+2), .int l 0, .int n 0, .int 0 0, .int 0 0, .int f 0, .ref a, .bool true, .int 181 0, .ref (a+1), .none, .none, .none, .ref (a+2), .int m 0, .int l 0, .str "/claim/cut.py" (m+1)], #[]⟩
abbrev fO(x q:Str)(s:Stmt)(m:Value)(c:Nat):Obj:=⟨.type "function",none, .func ⟨x,q,(dA s), .stmts (dB s),(dS s),3,[], .none, .none, .none,m,none, .ref c, .none,0⟩, #[]⟩
abbrev m0:Value:= .str "chanceduel.parts" 341
abbrev m1:Value:= .str "chanceduel.places" 395
abbrev m2:Value:= .str "chanceduel.floors" 453
abbrev m3:Value:= .str "chanceduel.rows" 596
abbrev m4:Value:= .str "chanceduel.plans" 672
abbrev m5:Value:= .str "chanceduel.shuts" 719
abbrev m6:Value:= .str "chanceduel.reach" 749
abbrev m7:Value:= .str "law_chanceduel_k45_whole_whatever_the_hand_d" 833
noncomputable def K:Params->Frag:=λP=>
(nat_lit 2,⟨.none,none,(.dict #[] 0), #[]⟩)::
(nat_lit 3,⟨(.type "dict"),none,(.dict #[(en P "__name__" 165 m7),(en P "__doc__" 166 .none),(en P "__package__" 167 .none),(en P "__loader__" 168 (.builtin "__main__.__loader__#opaque")),(en P "__spec__" 169 .none),(en P "__annotations__" 170 (.ref 6)),(en P "__builtins__" 171 (.ref 4)),(en P "__file__" 173 (.str "/claim/cut.py" 172)),(en P "__cached__" 174 .none),(en P "DuelError" 206 (.ref 24)),(en P "NoNumber" 222 (.ref 37)),(en P "NoFloor" 238 (.ref 49)),(en P "NoPlace" 263 (.ref 68)),(en P "NoAnswer" 288 (.ref 87)),(en P "ManyAnswers" 315 (.ref 106)),(en P "NoGoal" 340 (.ref 125)),(en P "common_divisor" 353 (.ref 134)),(en P "fraction" 362 (.ref 141)),(en P "plus" 370 (.ref 148)),(en P "minus" 378 (.ref 155)),(en P "times" 386 (.ref 162)),(en P "under" 394 (.ref 169)),(en P "HANDS" 399 (.ref 170)),(en P "MOST_DOORS" 401 (.int 6 400)),(en P "MOST_BOTTOM" 403 (.int 1000000 402)),(en P "fits_pay" 410 (.ref 177)),(en P "fits_door" 418 (.ref 184)),(en P "common_bottom" 427 (.ref 191)),(en P "fits_chances" 433 (.ref 196)),(en P "fits_doors" 439 (.ref 201)),(en P "fits_row" 445 (.ref 206)),(en P "copied_row" 452 (.ref 213)),(en P "MOST_PLACES" 456 (.int 12 455)),(en P "MOST_SHARE_BOTTOM" 458 (.int 1000 457)),(en P "fits_share" 465 (.ref 220)),(en P "weighed" 476 (.ref 227)),(en P "greatest" 485 (.ref 234)),(en P "least" 494 (.ref 241)),(en P "Floor" 595 (.ref 318)),(en P "with_weights" 608 (.ref 329)),(en P "number_of_head" 618 (.ref 336)),(en P "moved_ahead" 627 (.ref 343)),(en P "cleared_line" 633 (.ref 348)),(en P "cleared" 639 (.ref 353)),(en P "quotients" 652 (.ref 360)),(en P "still_of" 658 (.ref 365)),(en P "answer_of" 671 (.ref 372)),(en P "places_of" 679 (.ref 377)),(en P "first_plan" 689 (.ref 384)),(en P "ways_from" 699 (.ref 391)),(en P "whole_row" 705 (.ref 396)),(en P "led_row" 718 (.ref 403)),(en P "check_goals" 730 (.ref 410)),(en P "is_drawn" 736 (.ref 415)),(en P "drawn_next" 742 (.ref 420)),(en P "draw" 748 (.ref 425)),(en P "drawn_door" 761 (.ref 432)),(en P "drawn_plan" 771 (.ref 439)),(en P "chance_row" 781 (.ref 446)),(en P "chances_by" 787 (.ref 451)),(en P "better_led" 793 (.ref 456)),(en P "kept_least" 805 (.ref 463)),(en P "held_row" 814 (.ref 470)),(en P "steps_by" 820 (.ref 475)),(en P "chances" 832 (.ref 482)),(en P "_law_far" 842 (.ref 489)),(en P "_law_number" 852 (.ref 496)),(en P "_law_rest" 861 (.ref 503)),(en P "_law_lowest" 871 (.ref 510)),(en P "_law_pay" 878 (.ref 517)),(en P "_law_doors" 884 (.ref 522)),(en P "_law_rows" 900 (.ref 529)),(en P "_law_goals" 910 (.ref 536)),(en P "_law_bottom" 920 (.ref 543)),(en P "_law_turn" 926 (.ref 548)),(en P "_law_mean" 938 (.ref 555)),(en P "_law_held" 944 (.ref 560)),(en P "law" 957 (.ref 567))] 78), #[]⟩)::
(nat_lit 23,⟨(.type "dict"),none,(.dict #[(en P "__module__" 196 (.str "chanceduel.errors" 187)),(en P "__firstlineno__" 200 (.int 2 199)),(en P "__static_attributes__" 201 (.ref 22)),(en P "__weakref__" 203 (.ref 25)),(en P "__doc__" 204 .none)] 3), #[]⟩)::
(nat_lit 24,⟨(.type "type"),none,(.cls ⟨"DuelError",[(.type "ValueError")],[(.ref 24),(.type "ValueError"),(.type "Exception"),(.type "BaseException"),(.type "object")],23,"DuelError",true,[],[(.ref 37),(.ref 49),(.ref 68),(.ref 87),(.ref 106),(.ref 125)],false,none,false⟩), #[(some (.ref 15)),none,(some (.str "DuelError" 189)),(some (.str "DuelError" 197)),(some (.builtin "ValueError.__new__")),(some (.bool true))]⟩)::
(nat_lit 37,⟨(.type "type"),none,(.cls ⟨"NoNumber",[(.ref 24)],[(.ref 37),(.ref 24),(.type "ValueError"),(.type "Exception"),(.type "BaseException"),(.type "object")],36,"NoNumber",true,[],[],false,none,false⟩), #[(some (.ref 28)),none,(some (.str "NoNumber" 207)),(some (.str "NoNumber" 215)),(some (.builtin "ValueError.__new__")),(some (.bool true))]⟩)::
(nat_lit 49,⟨(.type "type"),none,(.cls ⟨"NoFloor",[(.ref 24)],[(.ref 49),(.ref 24),(.type "ValueError"),(.type "Exception"),(.type "BaseException"),(.type "object")],48,"NoFloor",true,[],[],false,none,false⟩), #[(some (.ref 40)),none,(some (.str "NoFloor" 223)),(some (.str "NoFloor" 231)),(some (.builtin "ValueError.__new__")),(some (.bool true))]⟩)::
(nat_lit 68,⟨(.type "type"),none,(.cls ⟨"NoPlace",[(.ref 24)],[(.ref 68),(.ref 24),(.type "ValueError"),(.type "Exception"),(.type "BaseException"),(.type "object")],67,"NoPlace",true,[],[],false,none,false⟩), #[(some (.ref 52)),none,(some (.str "NoPlace" 239)),(some (.str "NoPlace" 247)),(some (.builtin "ValueError.__new__")),(some (.bool true))]⟩)::
(nat_lit 87,⟨(.type "type"),none,(.cls ⟨"NoAnswer",[(.ref 24)],[(.ref 87),(.ref 24),(.type "ValueError"),(.type "Exception"),(.type "BaseException"),(.type "object")],86,"NoAnswer",true,[],[],false,none,false⟩), #[(some (.ref 71)),none,(some (.str "NoAnswer" 264)),(some (.str "NoAnswer" 272)),(some (.builtin "ValueError.__new__")),(some (.bool true))]⟩)::
(nat_lit 106,⟨(.type "type"),none,(.cls ⟨"ManyAnswers",[(.ref 24)],[(.ref 106),(.ref 24),(.type "ValueError"),(.type "Exception"),(.type "BaseException"),(.type "object")],105,"ManyAnswers",true,[],[],false,none,false⟩), #[(some (.ref 90)),none,(some (.str "ManyAnswers" 289)),(some (.str "ManyAnswers" 297)),(some (.builtin "ValueError.__new__")),(some (.bool true))]⟩)::
(nat_lit 125,⟨(.type "type"),none,(.cls ⟨"NoGoal",[(.ref 24)],[(.ref 125),(.ref 24),(.type "ValueError"),(.type "Exception"),(.type "BaseException"),(.type "object")],124,"NoGoal",true,[],[],false,none,false⟩), #[(some (.ref 109)),none,(some (.str "NoGoal" 316)),(some (.str "NoGoal" 324)),(some (.builtin "ValueError.__new__")),(some (.bool true))]⟩)::
(nat_lit 133,cO "common_divisor" "common_divisor" 343 30 2 3 128 351)::
(nat_lit 134,fO "common_divisor" "common_divisor" (at_ 9) m0 133)::
(nat_lit 140,cO "fraction" "fraction" 354 38 2 3 135 360)::
(nat_lit 141,fO "fraction" "fraction" (at_ 10) m0 140)::
(nat_lit 154,cO "minus" "minus" 371 47 2 3 149 376)::
(nat_lit 155,fO "minus" "minus" (at_ 12) m0 154)::
(nat_lit 161,cO "times" "times" 379 49 2 3 156 384)::
(nat_lit 162,fO "times" "times" (at_ 13) m0 161)::
(nat_lit 168,cO "under" "under" 387 51 2 3 163 392)::
(nat_lit 169,fO "under" "under" (at_ 14) m0 168)::
(nat_lit 170,⟨(.type "tuple"),none,(.seq #[(.str "one" 397),(.str "other" 398)] 0), #[]⟩)::
(nat_lit 176,cO "fits_pay" "fits_pay" 404 57 1 3 171 408)::
(nat_lit 177,fO "fits_pay" "fits_pay" (at_ 19) m1 176)::
(nat_lit 183,cO "fits_door" "fits_door" 411 59 2 3 178 416)::
(nat_lit 184,fO "fits_door" "fits_door" (at_ 20) m1 183)::
(nat_lit 190,cO "common_bottom" "common_bottom" 419 61 1 3 185 425)::
(nat_lit 191,fO "common_bottom" "common_bottom" (at_ 21) m1 190)::
(nat_lit 195,dO "fits_chances" "fits_chances" 428 66 1 3 192 431)::
(nat_lit 196,fO "fits_chances" "fits_chances" (at_ 22) m1 195)::
(nat_lit 200,dO "fits_doors" "fits_doors" 434 72 2 3 197 437)::
(nat_lit 201,fO "fits_doors" "fits_doors" (at_ 23) m1 200)::
(nat_lit 205,dO "fits_row" "fits_row" 440 76 2 3 202 443)::
(nat_lit 206,fO "fits_row" "fits_row" (at_ 24) m1 205)::
(nat_lit 212,cO "copied_row" "copied_row" 446 85 1 3 207 450)::
(nat_lit 213,fO "copied_row" "copied_row" (at_ 25) m1 212)::
(nat_lit 219,cO "fits_share" "fits_share" 459 92 1 3 214 463)::
(nat_lit 220,fO "fits_share" "fits_share" (at_ 29) m2 219)::
(nat_lit 233,cO "greatest" "greatest" 477 99 1 3 228 483)::
(nat_lit 234,fO "greatest" "greatest" (at_ 31) m2 233)::
(nat_lit 240,cO "least" "least" 486 105 1 3 235 492)::
(nat_lit 241,fO "least" "least" (at_ 32) m2 240)::
(nat_lit 252,dO "__init__" "Floor.__init__" 507 113 3 3 249 510)::
(nat_lit 253,fO "__init__" "Floor.__init__" (QE (at_ 33) 0) m2 252)::
(nat_lit 259,cO "size" "Floor.size" 513 124 1 3 254 517)::
(nat_lit 260,fO "size" "Floor.size" (QE (at_ 33) 1) m2 259)::
(nat_lit 266,cO "share" "Floor.share" 520 127 1 3 261 524)::
(nat_lit 267,fO "share" "Floor.share" (QE (at_ 33) 2) m2 266)::
(nat_lit 273,cO "kind" "Floor.kind" 527 130 2 3 268 532)::
(nat_lit 274,fO "kind" "Floor.kind" (QE (at_ 33) 3) m2 273)::
(nat_lit 280,cO "doors" "Floor.doors" 535 133 2 3 275 540)::
(nat_lit 281,fO "doors" "Floor.doors" (QE (at_ 33) 4) m2 280)::
(nat_lit 292,dO "rows" "Floor.rows" 551 143 1 3 289 554)::
(nat_lit 293,fO "rows" "Floor.rows" (QE (at_ 33) 6) m2 292)::
(nat_lit 317,⟨(.type "dict"),none,(.dict #[(en P "__module__" 502 m2),(en P "__firstlineno__" 506 (.int 111 505)),(en P "__init__" 512 (.ref 253)),(en P "size" 519 (.ref 260)),(en P "share" 526 (.ref 267)),(en P "kind" 534 (.ref 274)),(en P "doors" 542 (.ref 281)),(en P "pay" 550 (.ref 288)),(en P "rows" 556 (.ref 293)),(en P "shown" 567 (.ref 300)),(en P "all_shown" 573 (.ref 305)),(en P "look" 579 (.ref 310)),(en P "best" 585 (.ref 315)),(en P "__static_attributes__" 588 (.ref 316)),(en P "__dict__" 590 (.ref 319)),(en P "__weakref__" 592 (.ref 320)),(en P "__doc__" 593 .none)] 4), #[]⟩)::
(nat_lit 318,⟨(.type "type"),none,(.cls ⟨"Floor",[(.type "object")],[(.ref 318),(.type "object")],317,"Floor",true,[],[],false,none,false⟩), #[none,none,(some (.str "Floor" 495)),(some (.str "Floor" 503)),(some (.builtin "object.__new__")),(some (.bool true))]⟩)::
(nat_lit 328,cO "with_weights" "with_weights" 598 169 1 3 323 606)::
(nat_lit 329,fO "with_weights" "with_weights" (at_ 35) m3 328)::
(nat_lit 335,cO "number_of_head" "number_of_head" 609 176 3 3 330 616)::
(nat_lit 336,fO "number_of_head" "number_of_head" (at_ 36) m3 335)::
(nat_lit 342,cO "moved_ahead" "moved_ahead" 619 181 3 3 337 625)::
(nat_lit 343,fO "moved_ahead" "moved_ahead" (at_ 37) m3 342)::
(nat_lit 347,dO "cleared_line" "cleared_line" 628 183 4 3 344 631)::
(nat_lit 348,fO "cleared_line" "cleared_line" (at_ 38) m3 347)::
(nat_lit 352,dO "cleared" "cleared" 634 185 2 3 349 637)::
(nat_lit 353,fO "cleared" "cleared" (at_ 39) m3 352)::
(nat_lit 359,cO "quotients" "quotients" 640 202 4 3 354 650)::
(nat_lit 360,fO "quotients" "quotients" (at_ 40) m3 359)::
(nat_lit 371,cO "answer_of" "answer_of" 659 212 1 3 366 669)::
(nat_lit 372,fO "answer_of" "answer_of" (at_ 42) m3 371)::
(nat_lit 376,dO "places_of" "places_of" 674 225 2 3 373 677)::
(nat_lit 377,fO "places_of" "places_of" (at_ 44) m4 376)::
(nat_lit 383,cO "first_plan" "first_plan" 680 227 2 3 378 687)::
(nat_lit 384,fO "first_plan" "first_plan" (at_ 45) m4 383)::
(nat_lit 390,cO "ways_from" "ways_from" 690 232 3 3 385 697)::
(nat_lit 391,fO "ways_from" "ways_from" (at_ 46) m4 390)::
(nat_lit 395,dO "whole_row" "whole_row" 700 237 1 3 392 703)::
(nat_lit 396,fO "whole_row" "whole_row" (at_ 47) m4 395)::
(nat_lit 402,cO "led_row" "led_row" 706 240 5 3 397 716)::
(nat_lit 403,fO "led_row" "led_row" (at_ 48) m4 402)::
(nat_lit 409,cO "check_goals" "check_goals" 721 247 2 3 404 728)::
(nat_lit 410,fO "check_goals" "check_goals" (at_ 50) m5 409)::
(nat_lit 414,dO "is_drawn" "is_drawn" 731 253 3 3 411 734)::
(nat_lit 415,fO "is_drawn" "is_drawn" (at_ 51) m5 414)::
(nat_lit 419,dO "drawn_next" "drawn_next" 737 260 2 3 416 740)::
(nat_lit 420,fO "drawn_next" "drawn_next" (at_ 52) m5 419)::
(nat_lit 424,dO "draw" "draw" 743 262 2 3 421 746)::
(nat_lit 425,fO "draw" "draw" (at_ 53) m5 424)::
(nat_lit 431,cO "drawn_door" "drawn_door" 751 275 3 3 426 759)::
(nat_lit 432,fO "drawn_door" "drawn_door" (at_ 55) m6 431)::
(nat_lit 438,cO "drawn_plan" "drawn_plan" 762 280 2 3 433 769)::
(nat_lit 439,fO "drawn_plan" "drawn_plan" (at_ 56) m6 438)::
(nat_lit 445,cO "chance_row" "chance_row" 772 285 4 3 440 779)::
(nat_lit 446,fO "chance_row" "chance_row" (at_ 57) m6 445)::
(nat_lit 450,dO "chances_by" "chances_by" 782 291 4 3 447 785)::
(nat_lit 451,fO "chances_by" "chances_by" (at_ 58) m6 450)::
(nat_lit 455,dO "better_led" "better_led" 788 295 3 3 452 791)::
(nat_lit 456,fO "better_led" "better_led" (at_ 59) m6 455)::
(nat_lit 462,cO "kept_least" "kept_least" 794 303 3 3 457 803)::
(nat_lit 463,fO "kept_least" "kept_least" (at_ 60) m6 462)::
(nat_lit 469,cO "held_row" "held_row" 806 311 3 3 464 812)::
(nat_lit 470,fO "held_row" "held_row" (at_ 61) m6 469)::
(nat_lit 474,dO "steps_by" "steps_by" 815 315 3 3 471 818)::
(nat_lit 475,fO "steps_by" "steps_by" (at_ 62) m6 474)::
(nat_lit 481,cO "chances" "chances" 821 318 2 3 476 830)::
(nat_lit 482,fO "chances" "chances" (at_ 63) m6 481)::
(nat_lit 488,cO "_law_far" "_law_far" 835 328 2 3 483 840)::
(nat_lit 489,fO "_law_far" "_law_far" (at_ 65) m7 488)::
(nat_lit 495,cO "_law_number" "_law_number" 843 330 2 3 490 850)::
(nat_lit 496,fO "_law_number" "_law_number" (at_ 66) m7 495)::
(nat_lit 502,cO "_law_rest" "_law_rest" 853 336 2 3 497 859)::
(nat_lit 503,fO "_law_rest" "_law_rest" (at_ 67) m7 502)::
(nat_lit 509,cO "_law_lowest" "_law_lowest" 862 341 2 3 504 869)::
(nat_lit 510,fO "_law_lowest" "_law_lowest" (at_ 68) m7 509)::
(nat_lit 516,cO "_law_pay" "_law_pay" 872 347 1 3 511 876)::
(nat_lit 517,fO "_law_pay" "_law_pay" (at_ 69) m7 516)::
(nat_lit 521,dO "_law_doors" "_law_doors" 879 351 5 3 518 882)::
(nat_lit 522,fO "_law_doors" "_law_doors" (at_ 70) m7 521)::
(nat_lit 528,cO "_law_rows" "_law_rows" 885 362 1 3 523 898)::
(nat_lit 529,fO "_law_rows" "_law_rows" (at_ 71) m7 528)::
(nat_lit 535,cO "_law_goals" "_law_goals" 901 382 2 3 530 908)::
(nat_lit 536,fO "_law_goals" "_law_goals" (at_ 72) m7 535)::
(nat_lit 542,cO "_law_bottom" "_law_bottom" 911 390 1 3 537 918)::
(nat_lit 543,fO "_law_bottom" "_law_bottom" (at_ 73) m7 542)::
(nat_lit 547,dO "_law_turn" "_law_turn" 921 397 6 3 544 924)::
(nat_lit 548,fO "_law_turn" "_law_turn" (at_ 74) m7 547)::
(nat_lit 554,cO "_law_mean" "_law_mean" 927 414 2 3 549 936)::
(nat_lit 555,fO "_law_mean" "_law_mean" (at_ 75) m7 554)::
(nat_lit 559,dO "_law_held" "_law_held" 939 422 7 3 556 942)::
(nat_lit 560,fO "_law_held" "_law_held" (at_ 76) m7 559)::
(nat_lit 566,cO "law" "law" 945 443 1 3 561 955)::
(nat_lit 567,fO "law" "law" (at_ 77) m7 566)::[]
noncomputable abbrev H:Hook:=kHook K [2,3,23,24,37,49,68,87,106,125,133,134,140,141,154,155,161,162,168,169,170,176,177,183,184,190,191,195,196,200,201,205,206,212,213,219,220,233,234,240,241,252,253,259,260,266,267,273,274,280,281,292,293,317,318,328,329,335,336,342,343,347,348,352,353,359,360,371,372,376,377,383,384,390,391,395,396,402,403,409,410,414,415,419,420,424,425,431,432,438,439,445,446,450,451,455,456,462,463,469,470,474,475,481,482,488,489,495,496,502,503,509,510,516,517,521,522,528,529,535,536,542,543,547,548,554,555,559,560,566,567] (λ_=>by kernel_rfl)
abbrev Xt:Shared->Bool:=λs=>xlAt q [] s&&recOk (RowW.records row.toRowW) s
theorem YC{A B C:Type}{o:Option C}{f:C->A}{g:C->B}{a:A}{b:B}(h:o.map f=some a)(k:o.map g=some b):o.map (λs=>(f s,g s))=some (a,b):=by
  cases o with
  | none=>exact nomatch h
  | some c=>injection h with h;injection k with k;subst h;subst k;rfl
section
variable{A B C D E F G X:Type}{o:Option X}{f:X->A×B×C×D×E×F×G}{t:A×B×C×D×E×F×G}
def p1:A×B×C×D×E×F×G->A
  | (a,_,_,_,_,_,_)=>a
def p2:A×B×C×D×E×F×G->B×C
  | (_,b,c,_,_,_,_)=>(b,c)
def p3:A×B×C×D×E×F×G->D
  | (_,_,_,d,_,_,_)=>d
def p5:A×B×C×D×E×F×G->E
  | (_,_,_,_,e,_,_)=>e
def p6:A×B×C×D×E×F×G->F
  | (_,_,_,_,_,f,_)=>f
def p4:A×B×C×D×E×F×G->G
  | (_,_,_,_,_,_,g)=>g
theorem pr(h:o.map (λx=>p1 (f x))=some t.1)(g:o.map (λx=>p2 (f x))=some (t.2.1,t.2.2.1))(k:o.map (λx=>p3 (f x))=some t.2.2.2.1)(k1:o.map (λx=>p5 (f x))=some t.2.2.2.2.1)(k2:o.map (λx=>p6 (f x))=some t.2.2.2.2.2.1)(l:o.map (λx=>p4 (f x))=some t.2.2.2.2.2.2):o.map f=some t:=by
  cases o with
  | none=>exact nomatch h
  | some x=>
    replace h:p1 (f x)=t.1:=aao h;replace g:p2 (f x)=(t.2.1,t.2.2.1):=aao g;replace k:p3 (f x)=t.2.2.2.1:=aao k;replace k1:p5 (f x)=t.2.2.2.2.1:=aao k1;replace k2:p6 (f x)=t.2.2.2.2.2.1:=aao k2;replace l:p4 (f x)=t.2.2.2.2.2.2:=aao l;show some (f x)=some t;revert h g k k1 k2 l;generalize f x=u;obtain ⟨a,b,c,d,e,f',y⟩:=u;obtain ⟨a',b',c',d',e',f'',y'⟩:=t;intro h g k k1 k2 l;cases (h:a=a');cases (g:(b,c)=(b',c'));cases (k:d=d');cases (k1:e=e');cases (k2:f'=f'');cases (l:y=y');rfl
end
def UN{A B:Type}(o:Option A)(c:A->Bool)(T:A->Option B):Option (A×B):=o.bind λa=>match c a with
  | true=>(T a).map λb=>(a,b)
  | false=>none
def Vb {A B:Type} (o:Option A) (c:A->Bool) (T:A->Option B) (k:A->B->Bool):Option B:=o.bind λa=>match c a with
  | true=>(T a).bind λb=>match k a b with
    | true=>some b
    | false=>none
  | false=>none
theorem Y7 {A B C:Type} {o:Option A} {c:A->Bool} {T:A->Option B} {k:A->B->Bool} {g:B->C} {v:C} (h:(UN o c T).map (λx=>k x.1 x.2)=some true) (l:(UN o c T).map (λx=>g x.2)=some v):(Vb o c T k).map g=some v:=by
  unfold UN at h l;unfold Vb;cases o with
  | none=>exact nomatch h
  | some a=>
    dsimp only [Option.bind] at h l⊢;cases hc:c a with
    | false=>rw [hc] at h;exact nomatch h
    | true=>
      rw [hc] at h l;dsimp only at h l⊢;cases hT:T a with
      | none=>rw [hT] at h;exact nomatch h
      | some b=>
        rw [hT] at h l;injection h with h;injection l with l
        dsimp only [Option.bind];rw [show k a b=true from h];exact aaM some l
noncomputable abbrev oA(p:Program)(w:World)(N:Nat):Option Shared:=(Fast.tw10274390034422433532 Fast.tw14364793385576792824 (opening p) w N (Fast.tw1435165496053646825 (opening p)).1 (Fast.tw1435165496053646825 (opening p)).2).bind (fenceModules? p)
abbrev cA(s:Shared):Bool:=s.heap.isNs mainGlobals&&s.gens.size==0
noncomputable abbrev tA(p:Program)(w:World)(N:Nat)(s₀:Shared):Option Shared:=Fast.tw14082659384304107361 Fast.tw14364793385576792824 p w s₀.heap.objs.size (s₀.heap.nsMap mainGlobals "__annotations__") N s₀ (topStub p)
abbrev kA(p:Program)(s₀ s₁:Shared):Bool:=staticsOk (importedModules p.main.body) s₀.heap s₁.heap&&namesBound p s₁.heap&&gensDone s₁&&laidKept s₀.heap s₁.heap
theorem oe(p:Program)(w:World)(N:Nat):openEnds treeTable p w N=Vb (oA p w N) cA (tA p w N) (kA p):=by unfold openEnds fencedOpening topFrom Vb oA tA;rewrite [Fast.te14082659384304107361,Fast.te14364793385576792824,Fast.te10274390034422433532,Fast.te1435165496053646825];rfl
noncomputable abbrev go(w:World):=UN (oA row.prog w 7994) cA (tA row.prog w 7994)
abbrev gd:=openGood q []
noncomputable abbrev sn(x:Shared×Shared):=Fast.tw4187177175401517315 q [] (importedModules row.prog.main.body) Xt true x.2
theorem la(w:World):(go w).map (λx=>p1 (sn x))=some gd.1:=by kernel_rfl
theorem lb(w:World):(go w).map (λx=>p2 (sn x))=some (gd.2.1,gd.2.2.1):=by kernel_rfl
theorem lc(w:World):(go w).map (λx=>p3 (sn x))=some gd.2.2.2.1:=by kernel_rfl
theorem le(w:World):(go w).map (λx=>p5 (sn x))=some gd.2.2.2.2.1:=by kernel_rfl
theorem lg(w:World):(go w).map (λx=>p6 (sn x))=some gd.2.2.2.2.2.1:=by kernel_rfl
theorem ld(w:World):(go w).map (λx=>p4 (sn x))=some gd.2.2.2.2.2.2:=by kernel_rfl
theorem lk(w:World):(go w).map (λx=>kA row.prog x.1 x.2)=some true:=by kernel_rfl
theorem lo(w:World):(go w).map (λx=>H.obs x.2)=some (H.val w):=by kernel_rfl
theorem Sr(w:World):(openEnds treeTable row.prog w 7994).map (openSeen q [] (importedModules row.prog.main.body) Xt true)=some gd:=by rewrite [oe,Fast.te4187177175401517315];exact Y7 (lk w) (pr (la w) (lb w) (lc w) (le w) (lg w) (ld w))
theorem Rq(w:World):(openEnds treeTable row.prog w 7994).map H.obs=some (H.val w):=by rewrite [oe];exact Y7 (lk w) (lo w)
theorem left:LeftO row.prog q [] Xt H.obs H.val 7994:=λw=>YC (Sr w) (Rq w)
end Hd
local macro_rules|`(())=>`(by omega)
local macro_rules|`(@_)=>`(by decide)
open Lean in
def rpt:Nat → Term → MacroM (TSyntax `rcasesPat)
|0,_=>Macro.throwUnsupported
|n+1,t=>match t with
|`(⟨$a,*⟩)=>do
 let b←a.getElems.mapM (rpt n)
 let b←b.mapM λp=>`(Lean.Parser.Tactic.rcasesPatLo|$p:rcasesPat)
 `(rcasesPat|⟨$b,*⟩)
|`(_)=>`(rcasesPat|_)
|`($x:ident)=>`(rcasesPat|$x:ident)
|_=>Macro.throwUnsupported
open Lean in
local macro_rules|`(tactic|have ⟨$a,*⟩:=$e)=>do
 let p←rpt 99 (←`(⟨$a,*⟩))
 `(tactic|obtain $p:rcasesPat:=$e)
open Lean in
local macro_rules|`(λ$xs*=>$b)=>do
 let mut ys:=#[]
 let mut ts:=#[]
 if (←MonadRef.getRef)[0].isToken "fun" then Macro.throwUnsupported
 for x in xs do
  if x.1.isOfKind `Lean.Parser.Term.anonymousCtor then
   let p←rpt 99 ⟨x.1⟩
   let y←withFreshMacroScope `(h)
   ys:=ys.push y
   ts:=ts.push (←`(tactic|obtain $p:rcasesPat:=$y))
  else ys:=ys.push ⟨x.1⟩
 if ts.isEmpty then Macro.throwUnsupported
 `(λ$ys*=>by{$[$ts]*;exact $b})
set_option hygiene false in
local macro_rules|`($g &&& ($F,$a,$n))=>`(mc $g (($F).binds λ_ _ _ _ _ _=>$n) (mg_of X G $a) ($F).kp)
set_option hygiene false in
local macro_rules|`($g ||| ($F,$a,$i,$n))=>`(⟨$g,(($F).binds λ_ _ _ _ _ _=>$n),⟨kC,kD,kQ,kR⟩,⟨$a,$i,($F).kp⟩⟩)
set_option genSizeOf false
set_option bootstrap.genMatcherCode false
noncomputable def PySem.W.Fast.tw5609829610555957725:=PySem.Challenge.pw_chanceduel_k45_whole_whatever_the_hand_d
theorem PySem.W.Fast.te5609829610555957725:PySem.Challenge.pw_chanceduel_k45_whole_whatever_the_hand_d=PySem.W.Fast.tw5609829610555957725:=rfl
def gV:2<=PySem.sizeLine:=@_
abbrev fI:=PySem.W.Frag
namespace L2
open PySem PySem.Spec PyProof.Rows
variable{us:List Value}{a b dx C:Addr}{P prog:Program}{w:World}{h h' base:Heap}{δ:List (Addr×Obj)}{s:Shared}{g':Array GenState}{ch fp:List Addr}{i:Nat}{x:Str}{M:Model}{A:Around}{E Q:Value->Shared->Prop}{u:Value}{pos:Pos}{e c tg:Expr}{es:List Expr}{body:List Stmt}{f:Value->Value->Sem Value}{op:CmpOp}{mA mg:Str->Option Value}{kw:List (Str×Value)}{outer:List Env}{ps:List Str}
abbrev Key:=Sum Int Str
def vy:Key->Value->Bool
 | .inl k,v=>Value.isInt k v
 | .inr x,v=>Value.isStrOf x v
def VB(w:World):Key->Int
 | .inl k=>hashInt k
 | .inr x=>hashStr w x
def bt:∀{k:Key} {v:Value},vy k v=true->(∃i t,k=Sum.inl i/\v=Value.int i t)\/(∃x t,k=Sum.inr x/\v=Value.str x t)
 | .inl i,v,h=>by have⟨t,e⟩:=Value.isInt_shape (k:=i) (v:=v) h;exact .inl ⟨i,t,rfl,e⟩
 | .inr x,v,h=>by have⟨t,e⟩:=Value.isStrOf_shape (x:=x) (v:=v) h;exact .inr ⟨x,t,rfl,e⟩
def EA(i:Int)(t:Tok):vy (.inl i) (.int i t)=true:=by simp[vy,Value.isInt]
def Ff(x:Str)(t:Tok):vy (.inr x) (.str x t)=true:=by simp[vy,Value.isStrOf]
def PC(a b:Int):decide ((Sum.inl a:Key)=Sum.inl b)=(a==b):=by
 by_cases e:a=b
 ·subst e;simp
 ·have h:¬(Sum.inl a:Key)=Sum.inl b:=λq=>e (Sum.inl.inj q);rw[aar h];exact(beq_eq_false_iff_ne.mpr e).symm
def O1(a b:Str):decide ((Sum.inr a:Key)=Sum.inr b)=decide (a=b):=by
 by_cases e:a=b
 ·subst e;simp
 ·have h:¬(Sum.inr a:Key)=Sum.inr b:=λq=>e (Sum.inr.inj q);rw[aar h,aar e]
def O9(a:Int)(b:Str):decide ((Sum.inl a:Key)=Sum.inr b)=false:=aar nofun
def Of(a:Str)(b:Int):decide ((Sum.inr a:Key)=Sum.inl b)=false:=aar nofun
def bJ(prog:Program)(w:World):PySem.KeyKind prog w Key where
 is:=vy
 hash:=VB w
 inj:=λv a b ha hb=>by
  rcases bt ha with ⟨i,t,rfl,rfl⟩| ⟨x,t,rfl,rfl⟩
  ·rcases bt hb with ⟨j,u,rfl,e⟩| ⟨y,u,rfl,e⟩
   ·injection e with e1 _;rw[e1]
   ·exact nomatch e
  ·rcases bt hb with ⟨j,u,rfl,e⟩| ⟨y,u,rfl,e⟩
   ·exact nomatch e
   ·injection e with e1 _;rw[e1]
 byValue:=λk v h=>by rcases bt h with ⟨i,t,rfl,rfl⟩| ⟨x,t,rfl,rfl⟩ <;> rfl
 pyHash:=λhv h=>by
  rcases bt hv with ⟨i,t,rfl,rfl⟩| ⟨x,t,rfl,rfl⟩
  ·exact wpAny_pyHash_int h
  ·exact wpAny_pyHash_str h
 eqBool:=λhu hv h=>by
  rcases bt hu with ⟨i,t,rfl,rfl⟩| ⟨x,t,rfl,rfl⟩
  ·rcases bt hv with ⟨j,u,rfl,rfl⟩| ⟨y,u,rfl,rfl⟩
   ·rw[PC]at h;exact wpAny_eqBool_int h
   ·rw[O9]at h;exact SeqAt.EqAt.int_str i t y u _ _ _ _ h
  ·rcases bt hv with ⟨j,u,rfl,rfl⟩| ⟨y,u,rfl,rfl⟩
   ·rw[Of]at h;exact SeqAt.EqAt.str_int x t j u _ _ _ _ h
   ·rw[O1]at h;exact wpAny_eqBool_str h
 «strs»:=λk x t v h=>by
  rcases bt h with ⟨i,u,rfl,e⟩| ⟨y,u,rfl,e⟩
  ·exact nomatch e
  ·injection e with e1 _
   subst e1;cases v <;> rfl
def zp(prog:Program)(w:World)(i:Int)(t:Tok):(bJ prog w).is (.inl i) (.int i t)=true:=EA i t
def Ar(prog:Program)(w:World)(x:Str)(t:Tok):(bJ prog w).is (.inr x) (.str x t)=true:=Ff x t
inductive V where
 | aY| bl (b:Bool)| int (i:Int)| str (x:Str)| GA (b:Array UInt8)| UE (b:UInt64)| ref (a:Addr)| ty (n:String)
 deriving DecidableEq
variable{v:V}
def aB:V->Value->Prop
 | .aY,u=>u=Value.none
 | .bl b,u=>u=Value.bool b
 | .int i,u=>∃t,u=Value.int i t
 | .str x,u=>∃t,u=Value.str x t
 | .GA b,u=>∃t,u=Value.bytes b t
 | .UE b,u=>∃t,u=Value.float b t
 | .ref a,u=>u=Value.ref a
 | .ty n,u=>u=Value.type n
abbrev ay:List V->List Value->Prop:=Paired aB
def ay.length{xs:List V}(r:ay xs us):xs.length=us.length:=Paired.length r
def ay.get:∀{xs:List V} {us:List Value} {i:Nat} {x:V},ay xs us->xs[i]? =some x->∃u,us[i]? =some u/\aB x u
 | _,_,_,_,.nil,e=>by simp at e
 | _,_,0,_,.cons r _,e=>by simp at e;subst e;exact⟨_,rfl,r⟩
 | _,_,i+1,x,.cons _ t,e=>by have⟨u,h1,h2⟩:=ay.get (i:=i) (x:=x) t (by simpa using e);exact⟨u,by simpa using h1,h2⟩
def ay.set{x:V}{u:Value}(r:aB x u):∀{xs:List V} {us:List Value} (i:Nat),ay xs us->ay (xs.set i x) (us.set i u)
 | _,_,_,.nil=>.nil
 | _,_,0,.cons _ t=>.cons r t
 | _,_,i+1,.cons q t=>.cons q (ay.set r i t)
def ay.append:∀{xs ys:List V} {us ws:List Value},ay xs us->ay ys ws->ay (xs++ys) (us++ws)
 | _,_,_,_,.nil,s=>s
 | _,_,_,_,.cons r t,s=>.cons r (ay.append t s)
def ay.take:∀{xs:List V} {us:List Value} (n:Nat),ay xs us->ay (xs.take n) (us.take n)
 | _,_,0,_=>.nil
 | _,_,_+1,.nil=>.nil
 | _,_,n+1,.cons r t=>.cons r (ay.take n t)
def ay.drop:∀{xs:List V} {us:List Value} (n:Nat),ay xs us->ay (xs.drop n) (us.drop n)
 | _,_,0,r=>r
 | _,_,_+1,.nil=>.nil
 | _,_,n+1,.cons _ t=>ay.drop n t
def j2:Option V->Option Value->Prop
 | some v,some u=>aB v u
 | none,none=>True
 | _,_=>False
def KV{κ:Type}:List (κ×V)->List (κ×Value)->Prop:=Paired λ(p:κ×V) (q:κ×Value)=>p.1=q.1/\aB p.2 q.2
def kV:Key->V
 | .inl i=>.int i
 | .inr x=>.str x
inductive HO where
 | lst (xs:List V)
 | tup (xs:List V)
 | dK (Η:List (Key×V))| dT (Η:List (List Key×V))
 | set (S:Int->Bool) (n:Nat)
 | ins (C dx:Addr) (fs:List (Str×V))
 | own (x:Addr)
 | xd (fs:List (Str×V))
 | met (f x:Addr)
 | Wg (lo hi:Int)
 | C6 (o:Obj) (u:HO)
 | K7 (ps:Array Value)
 | ext (φ:Heap->Prop)
variable{o:HO}
abbrev Hp:=Addr->Option HO
def upd(H:Hp)(a:Addr)(o:HO):Hp:=λb=>if b=a then some o else H b
def ah{H:Hp}:upd H a o a=some o:=by unfold upd;rw[if_pos rfl]
def Ζ{H:Hp}(h:b≠a):upd H a o b=H b:=by unfold upd;rw[if_neg h]
def Td{H:Hp}{u:HO}(h:H a=some o)(h':H b=some u)(d:o≠u):a≠b:=by intro e;subst e;rw[h]at h';exact d (aao h')
def bU{H:Hp}(h:H a=some o)(h':H b=none):a≠b:=by intro e;subst e;rw[h]at h';cases h'
section
variable(P:Program)(w:World)
def da(H:Hp)(h:Heap)(a:Addr):HO->Prop
 | .lst xs=>xs.length<=sizeLine/\∃(its:List Value) (n:Nat),ay xs its/\h.get? a=some {cls:=.type "list",data:=.seq its.toArray n}
 | .tup xs=>xs.length<=sizeLine/\∃its:List Value,ay xs its/\IsTup h a its.toArray
 | .dK Η=>Η.length<=sizeLine/\(a==sysModules)=false/\∃vs,KV Η vs/\h.DictOf (bJ P w) a vs
 | .dT Η=>Η.length<=sizeLine/\(a==sysModules)=false/\∃xs:List (List Key×Addr×Value),
   Paired (λ(p:List Key×V) (q:List Key×Addr×Value)=>p.1=q.1/\H q.2.1=some (.tup (p.1.map kV))/\aB p.2 q.2.2) Η xs/\
   ∃o es ep,h.get? a=some o/\o.ExactDict/\o.data= .dict es ep/\es.toList=xs.map (entryOfKey (tupleKind (bJ P w)))/\(xs.map (·.1)).Nodup
 | .set S n=>h.SetOf (intKind P w) a S n
 | .ins C dx fs=>H dx=some (.own a)/\fs.length<=1000/\dx≠a/\h.get? a=some (PySem.W.instObj C dx)/\
   ∃mA,h.Ns1 dx mA/\(∀f,j2 (fs.lookup f) (mA f))/\PySem.Within mA (fs.map (·.1))
 | .own _=>∃o,h.get? a=some o
 | .xd fs=>∃mA,h.Ns1 a mA/\∀f,j2 (fs.lookup f) (mA f)
 | .Wg lo hi=>∃t u v,h.get? a=some {cls:=.type "range",data:=.fields #[.int lo t,.int hi u,.int 1 v]}
 | .C6 o u=>h.get? a=some o/\da H h a u
 | .K7 ps=>h.get? a=some {cls:=.none,data:=.fields ps}
 | .met f x=>h.get? a=some (PySem.W.methodObj (.ref f) (.ref x))
 | .ext φ=>φ h/\(∃o,h.get? a=some o)/\∀h1 h2:Heap,φ h1->(∀o,h1.get? a=some o->h2.get? a=some o)->φ h2
def kZ(H:Hp)(h:Heap):Prop:=∀a o,H a=some o->da P w H h a o
end
section
variable{H H':Hp}
def da.lt(x:da P w H h a o):a < h.objs.size:=by
 cases o with
 | lst xs=>have⟨_,_,_,_,e⟩:=x;exact aat e
 | tup xs=>have⟨_,_,_,p⟩:=x;exact p.lt
 | dK Η=>have⟨_,_,_,_,o,_,_,e,_⟩:=x;exact aat e
 | dT Η=>have⟨_,_,_,_,o,_,_,e,_⟩:=x;exact aat e
 | set S n=>have⟨o,_,_,_,e,_⟩:=x;exact aat e
 | ins C dx fs=>have⟨_,_,_,e,_⟩:=x;exact aat e
 | own y=>have⟨_,e⟩:=x;exact aat e
 | xd fs=>have⟨_,⟨_,_,_,e,_⟩,_⟩:=x;exact aat e
 | Wg lo hi=>have⟨_,_,_,e⟩:=x;exact aat e
 | C6 ob u=>have⟨e,_⟩:=x;exact aat e
 | K7 ps=>exact aat (show h.get? a=some _ from x)
 | met f y=>exact aat (show h.get? a=some _ from x)
 | ext φ=>have⟨_,⟨_,e⟩,_⟩:=x;exact aat e
def Paired.Pf{α β:Type}{F G:α->β->Prop}:∀{l₁:List α} {l₂:List β},Paired F l₁ l₂->(∀a b,F a b->G a b)->Paired G l₁ l₂
 | _,_,.nil,_=>.nil
 | _,_,.cons r t,f=>.cons (f _ _ r) (Paired.Pf t f)
def da.Cr(x:da P w H h a o)(k:∀b u,(b=a\/H b=some (.own a))->h.get? b=some u->h'.get? b=some u)
  (ho:∀b,H b=some (.own a)->H' b=some (.own a)) (ht:∀b xs,H b=some (.tup xs)->H' b=some (.tup xs)):da P w H' h' a o:=by
 induction o with
 | lst xs=>have⟨z,its,n,r,e⟩:=x;exact⟨z,its,n,r,k _ _ (.inl rfl) e⟩
 | tup xs=>have⟨z,its,r,ob,e,c⟩:=x;exact⟨z,its,r,ob,k _ _ (.inl rfl) e,c⟩
 | dK Η=>have⟨z,y,vs,r,ob,es,ep,e,c⟩:=x;exact⟨z,y,vs,r,ob,es,ep,k _ _ (.inl rfl) e,c⟩
 | dT Η=>
  have⟨z,y,xs,r,ob,es,ep,e,c⟩:=x;exact⟨z,y,xs,Paired.Pf r λp q z=>⟨z.1,ht _ _ z.2.1,z.2.2⟩,ob,es,ep,k _ _ (.inl rfl) e,c⟩
 | set S n=>have⟨ob,es,ep,t,e,c⟩:=x;exact⟨ob,es,ep,t,k _ _ (.inl rfl) e,c⟩
 | ins C dx fs=>
  have⟨d,z,ne,e,mA,⟨od,es,ep,e2,c⟩,r⟩:=x;exact⟨ho _ d,z,ne,k _ _ (.inl rfl) e,mA,⟨od,es,ep,k _ _ (.inr d) e2,c⟩,r⟩
 | own y=>have⟨ob,e⟩:=x;exact⟨ob,k _ _ (.inl rfl) e⟩
 | xd fs=>have⟨mA,⟨od,es,ep,e,c⟩,r⟩:=x;exact⟨mA,⟨od,es,ep,k _ _ (.inl rfl) e,c⟩,r⟩
 | Wg lo hi=>have⟨t,u,v,e⟩:=x;exact⟨t,u,v,k _ _ (.inl rfl) e⟩
 | C6 ob u ih=>have⟨e,q⟩:=x;exact⟨k _ _ (.inl rfl) e,ih q⟩
 | K7 ps=>
  have e:h.get? a=some {cls:=.none,data:=.fields ps}:=x;show h'.get? a=some {cls:=.none,data:=.fields ps};exact k a _ (.inl rfl) e
 | met f y=>
  have e:h.get? a=some (PySem.W.methodObj (.ref f) (.ref y)):=x;show h'.get? a=some (PySem.W.methodObj (.ref f) (.ref y));exact k a _ (.inl rfl) e
 | ext φ=>have⟨p,⟨o,e⟩,st⟩:=x;exact⟨st _ _ p λo q=>k _ _ (.inl rfl) q,⟨o,k _ _ (.inl rfl) e⟩,st⟩
def kZ.lt(x:kZ P w H h)(e:H a=some o):a < h.objs.size:=(x a o e).lt
def kZ.fresh(x:kZ P w H h)(e:h.objs.size<=a):H a=none:=by
 cases q:H a with
 | none=>rfl
 | some u=>exact aay (aaz (x.lt q) e) (abJ _)
def kZ.kept(x:kZ P w H h)(k:∀b u,h.get? b=some u->h'.get? b=some u):kZ P w H h':=λa o e=>
 (x a o e).Cr (λb u _ q=>k b u q) (λ_ q=>q) λ_ _ q=>q
def kZ.laid(x:kZ P w H h)(k:∀b u,h.get? b=some u->h'.get? b=some u)(hp:h.objs.size<=a)(new:da P w (upd H a o) h' a o):kZ P w (upd H a o) h':=λb u e=>by
 have hn:=x.fresh hp;by_cases hb:b=a
 ·subst hb;rw[ah]at e;cases e;exact new
 ·rw[Ζ hb]at e;exact(x b u e).Cr (λc v _ q=>k c v q) (λc q=>by rw[Ζ (bU q hn)];exact q) λc xs q=>by rw[Ζ (bU q hn)];exact q
end
def Rd(H:Hp)(a:Addr)(u:HO):Prop:=H a=some u\/∃o,H a=some (.C6 o u)
def Rd.ok{H:Hp}{u:HO}(r:Rd H a u)(x:kZ P w H h):da P w H h a u:=by
 rcases r with r| ⟨o,r⟩
 ·exact x a u r
 ·have⟨_,q⟩:=x a _ r;exact q
def Qz:Option HO->Prop
 | some (.lst _)=>True
 | some (.dK _)=>True
 | some (.dT _)=>True
 | some (.set _ _)=>True
 | some (.ins _ _ _)=>True
 | some (.ext _)=>True
 | _=>False
section
variable{H:Hp}{x e:Addr}{o':HO}
def kZ.write(ok:kZ P w H h)(mu:Qz (H x))(he:e=x\/H e=some (.own x))(k:∀b u,b≠e->h.get? b=some u->h'.get? b=some u)(QQ:∃u,h'.get? e=some u)
  (new:da P w (upd H x o') h' x o'):kZ P w (upd H x o') h':=λb u q=>by
 have R1:∀c y,H c=some (.own y)->c≠x:=λc y r z=>by subst z;rw[r]at mu;exact mu
 have Wu:∀c xs,H c=some (.tup xs)->c≠x:=λc xs r z=>by subst z;rw[r]at mu;exact mu
 by_cases hb:b=x
 ·subst hb;rw[ah]at q;cases q;exact new
 ·rw[Ζ hb]at q;by_cases Ob:b=e
  ·have q':H b=some (.own x):=by
    rcases he with z| z
    ·exact aay (Ob.trans z) hb
    ·rw[Ob];exact z
   rw[q]at q';cases q';have⟨v,hv⟩:=QQ;exact⟨v,by rw[Ob];exact hv⟩
  ·refine(ok b u q).Cr (λc v hc r=>k c v ?_ r) (λc r=>by rw[Ζ (R1 c b r)];exact r) λc xs r=>by rw[Ζ (Wu c xs r)];exact r
   rcases hc with rfl| hc
   ·exact Ob
   ·rintro rfl;rcases he with z| z
    ·exact R1 c b hc z
    ·rw[hc]at z;cases z;exact hb rfl
end
structure Un(fs ex:List Addr)(H H':Hp)(h h':Heap):Prop where
 keep:∀b o,h.get? b=some o->H b=none->b∉fs->b∉ex->h'.get? b=some o
 slot:∀b o,h.get? b=some o->H b=none->b∈fs->b∉ex->∃sl,h'.get? b=some {o with slots:=sl}
 free:∀b o,h.get? b=some o->H b=none->b∉ex->H' b=none
 there:∀b o,h.get? b=some o->b∉ex->∃o',h'.get? b=some o'
 pU:∀b xs,H b=some (.tup xs)->H' b=some (.tup xs)
 ou:∀b o u,H b=some (.C6 o u)->H' b=some (.C6 o u)
 pV:∀b ps,H b=some (.K7 ps)->∃more,H' b=some (.K7 (ps++more))
section
variable{fs Xb ex ex':List Addr}{H H1 H2:Hp}{h1 h2:Heap}{x e:Addr}
def Un.any(u:Un fs ex H H1 h h1){ob:Obj}(q:h.get? b=some ob)(n:H b=none)(hx:b∉ex):∃sl,h1.get? b=some {ob with slots:=sl}:=by
 by_cases hb:b∈fs
 ·exact u.slot b ob q n hb hx
 ·exact⟨ob.slots,u.keep b ob q n hb hx⟩
def Un.kept(k:∀b u,h.get? b=some u->h'.get? b=some u):Un fs ex H H h h':=
 ⟨λb ob q _ _ _=>k b ob q,λb ob q _ _ _=>⟨ob.slots,k b ob q⟩,λ_ _ _ n _=>n,λb ob q _=>⟨ob,k b ob q⟩,λ_ _ q=>q,λ_ _ _ q=>q,λ_ ps q=>⟨#[],by rw[q];simp⟩⟩
def Un.refl:Un fs ex H H h h:=Un.kept λ_ _ q=>q
def Un.laid(k:∀b u,h.get? b=some u->h'.get? b=some u)(hp:h.objs.size<=a)(hn:H a=none):Un fs ex H (upd H a o) h h' where
 keep:=λb u q _ _ _=>k b u q
 slot:=λb u q _ _ _=>⟨u.slots,k b u q⟩
 free:=λb u q n _=>by rw[Ζ (aaK (aaz (aat q) hp))];exact n
 there:=λb u q _=>⟨u,k b u q⟩
 pU:=λb xs q=>by rw[Ζ (bU q hn)];exact q
 ou:=λb u xs q=>by rw[Ζ (bU q hn)];exact q
 pV:=λb ps q=>⟨#[],by rw[Ζ (bU q hn),q];simp⟩
def Un.write(mu:Qz (H x))(he:e=x\/H e=some (.own x))(k:∀b u,b≠e->h.get? b=some u->h'.get? b=some u)(QQ:∃u,h'.get? e=some u):Un fs ex H (upd H x o) h h':=by
 have hx:∀b,H b=none->b≠x:=λb n z=>by subst z;rw[n]at mu;exact mu
 have hb:∀b,H b=none->b≠e:=λb n z=>by
  subst z;rcases he with r| r
  ·exact hx b n r
  ·rw[n]at r;cases r
 have hm:∀b u,H b=some u->¬Qz (some u)->b≠x:=λb u q nm z=>by subst z;rw[q]at mu;exact nm mu
 refine⟨λb u q n _ _=>k b u (hb b n) q,λb u q n _ _=>⟨u.slots,k b u (hb b n) q⟩,λb u q n _=>by rw[Ζ (hx b n)];exact n,λb u q _=>?_,
  λb xs q=>by rw[Ζ (hm b _ q λz=>z)];exact q,λb u xs q=>by rw[Ζ (hm b _ q λz=>z)];exact q,λb ps q=>⟨#[],by rw[Ζ (hm b _ q λz=>z),q];simp⟩⟩
 by_cases Ob:b=e
 ·subst Ob;exact QQ
 ·exact⟨u,k b u Ob q⟩
end
def Uh(h:Heap)(H:Hp):List Addr:=(List.range h.objs.size).filter λa=>(H a).isSome
def x9(h:Heap)(H:Hp):Heap:=PySem.W.hideAll h (Uh h H)
def Gq(h:Heap)(H:Hp):(x9 h H).objs.size=h.objs.size:=PySem.W.hideAll_size _ _
def IC{H:Hp}{o:Obj}(e:h.get? b=some o)(n:H b=none):(x9 h H).get? b=some o:=
 PySem.W.hideAll_get _ e λhm=>by have q:(H b).isSome=true:=(acp.mp hm).2;rw[n]at q;simp at q
def Mx{H:Hp}{o:Obj}(e:(x9 h H).get? b=some o):h.get? b=some o/\H b=none:=by
 have e':h.get? b=some o:=PySem.W.of_hideAll (Uh h H) e;refine⟨e',?_⟩;cases q:H b with
 | none=>rfl
 | some x=>
  have hm:b∈Uh h H:=List.mem_filter.mpr ⟨List.mem_range.mpr (Heap.lt_size e'),by simp[q]⟩;have z:(x9 h H).get? b=none:=PySem.W.hideAll_none (Uh h H) hm;rw[z]at e;cases e
structure Mod(K:fI)(mg:Str->Option Value)(base:Heap):Prop where
 T6:K.In base
 glob:base.Ns mainGlobals mg
 blt:∃mb,base.Ns builtinsNs mb/\∀x:Str,x≠"__name__"->mb x=bootBuiltins x
 nolimit:base.NoLimit
structure Cx where
 prog:Program
 w:World
 K:fI
 mg:Str->Option Value
 base:Heap
 A:Around
 N:List Str
 s₀:Shared
 H₀:Hp
 env:Env
 outer:List Env
 stack:List Env
 ex:List Addr
 fn:Str->Bool
 calm:Bool
 pn:List (Addr×Obj)
 xe:Value->Shared->Prop
variable{X:Cx}
def p7(l:List Env):List Addr:=l.filterMap (·.frame)
abbrev Cx.fs(X:Cx):List Addr:=p7 X.outer
def XA(sc:Scope)(x:Str):Prop:=sc.names.lookup x=some .local\/sc.names.lookup x=some .cell\/sc.names.lookup x=some .free
def Loc(sc:Scope)(x:Str):Prop:=sc.names.lookup x=some .local\/sc.names.lookup x=some .cell
def YD(env:Env)(h:Heap)(m:Str->Option Value)(x:Str)(u:Value):Prop:=
 (env.kindOf x=some .local/\m x=some u)\/((env.kindOf x=some .cell\/env.kindOf x=some .free)/\∃c,env.cells.lookup x=some c/\h.IsCell c (some u))
structure Cx.Ok(X:Cx):Prop where
 mod:Mod X.K X.mg X.base
 kind:X.env.scope.kind= .function
 glob:X.env.globals=mainGlobals
 blt:X.env.builtins=builtinsNs
 above:X.s₀.heap.objs.size<=X.env.locals
 inj:∀x y c,X.env.cells.lookup x=some c->X.env.cells.lookup y=some c->x=y
 has:∀x,(X.env.kindOf x=some .cell\/X.env.kindOf x=some .free)->∃c,X.env.cells.lookup x=some c
 X3:∀x c,X.fn x=true->X.env.cells.lookup x=some c->X.s₀.heap.objs.size<=c
 hd:X.calm=true->X.A.handled=none
 frames:X.A.frames=some X.stack
 YX:X.stack=X.outer\/(X.stack=X.env::X.outer/\X.env.frame=some X.env.locals)
 Y2:∀b∈X.ex,b≠X.env.locals/\∀x c,X.env.cells.lookup x=some c->c≠b
 bs:∀b o,X.base.get? b=some o->X.s₀.heap.get? b=some o/\X.H₀ b=none
 QH:X.base.objs.size<=X.s₀.heap.objs.size
 Pn:∀b o,X.base.get? b=some o->b∉X.ex
 O_:∀b∈X.ex,b∉X.fs
 ub:X.s₀.heap.FunFrames X.base X.outer
 Sx:∀b∈X.fs,X.H₀ b=none
structure Inv(X:Cx)(δ:List (Addr×Obj))(σ:List (Option V))(H:Hp)(s:Shared):Prop where
 ok:X.Ok
 os:s.os=X.s₀.os
 bare:AllBare s.gens
 base:Un X.fs X.ex X.H₀ H X.s₀.heap s.heap
 loc:∃m,s.heap.Ns X.env.locals m/\∀(i:Nat) (x:Str) (v:V),X.N[i]? =some x->σ[i]? =some (some v)->XA X.env.scope x->∃u,aB v u/\YD X.env s.heap m x u
 cell:∀x c,X.env.cells.lookup x=some c->∃v,s.heap.IsCell c v
 free:H X.env.locals=none
 pD:∀x c,X.env.cells.lookup x=some c->H c=none
 pin:∀p∈X.pn++δ,s.heap.get? p.1=some p.2/\H p.1=none/\p.1≠X.env.locals/\p.1∉X.fs/\∀v,p.2.data≠ .cell v
 aX:kZ X.prog X.w H s.heap
 len:σ.length=X.N.length
section
variable{σ:List (Option V)}{H H':Hp}
def Cx.Ok.Wl(ok:X.Ok){o:Obj}(e:X.base.get? b=some o):b∉X.fs:=λhb=>by have:=(ok.ub.mem hb).1;rw[e]at this;cases this
def Inv.bs(I:Inv X δ σ H s):∀b o,X.base.get? b=some o->s.heap.get? b=some o/\H b=none:=λb o e=>
 ⟨I.base.keep b o (I.ok.bs b o e).1 (I.ok.bs b o e).2 (I.ok.Wl e) (I.ok.Pn b o e),I.base.free b o (I.ok.bs b o e).1 (I.ok.bs b o e).2 (I.ok.Pn b o e)⟩
def Inv.bk(I:Inv X δ σ H s):∀b o,X.base.get? b=some o->s.heap.get? b=some o:=λb o e=>(I.bs b o e).1
def Inv.mod(I:Inv X δ σ H s):Mod X.K X.mg X.base:=I.ok.mod
def Inv.Dh(I:Inv X δ σ H s):X.K.In s.heap:=I.ok.mod.T6.keeps I.bk
def Inv.lt(I:Inv X δ σ H s):X.env.locals < s.heap.objs.size:=let ⟨_,hn,_⟩:=I.loc;hn.lt
def Inv.sz(I:Inv X δ σ H s):X.s₀.heap.objs.size<=s.heap.objs.size:=aaw I.ok.above (Nat.le_of_lt I.lt)
def Inv.We(I:Inv X δ σ H s)(h:s.heap.objs.size<=a):a∉X.fs:=λhb=>by have⟨_,o,ho,_⟩:=I.ok.ub.mem hb;exact aay (aaz (aat ho) (aaw I.sz h)) (abJ _)
def Inv.Ld(I:Inv X δ σ H s):∀x c,X.env.cells.lookup x=some c->c≠X.env.locals:=λx c e z=>by have⟨v,o,ho,hd⟩:=I.cell x c e;have⟨m,⟨o',es,ep,Fb,FX,_⟩,_⟩:=I.loc;rw[z,Fb]at ho;cases ho;rw[FX]at hd;cases hd
def Inv.ub(I:Inv X δ σ H s):s.heap.FunFrames X.base X.outer:=by
 have all:∀(l:List Env),(∀b∈p7 l,b∈X.fs)->X.s₀.heap.FunFrames X.base l->s.heap.FunFrames X.base l:=by
  intro l
  induction l with
  | nil=>intro _ _;trivial
  | cons env r ih=>
   intro hs hl;have⟨hk,⟨L,o,hf,hn,ho,hd⟩,hr⟩:=hl;have hL:L∈X.fs:=hs L (by unfold p7;rw[List.filterMap_cons,hf];exact List.mem_cons_self);have⟨sl,e⟩:=I.base.slot L o ho (I.ok.Sx L hL) hL λz=>I.ok.O_ L z hL;exact⟨hk,⟨L,_,hf,hn,e,hd⟩,ih (λb hb=>hs b (by unfold p7;rw[List.filterMap_cons,hf];exact List.mem_cons_of_mem _ hb)) hr⟩
 exact all X.outer (λ_ hb=>hb) I.ok.ub
def Inv.stack(I:Inv X δ σ H s):s.heap.FunFrames X.base X.stack:=by
 rcases I.ok.YX with e| ⟨e,hf⟩
 ·rw[e];exact I.ub
 ·rw[e];have⟨m,hn,_⟩:=I.loc;refine .cons (by rw[I.ok.kind];decide) hf hn ?_ I.ub;exact Heap.get?_none_of_le (aaw I.ok.QH I.ok.above)
def Inv.xK(I:Inv X δ σ H s):∀b∈p7 X.stack,b∈X.env.locals::X.fs:=λb hb=>by
 rcases I.ok.YX with e| ⟨e,hf⟩
 ·rw[e]at hb;exact aac _ hb
 ·rw[e]at hb;unfold p7 at hb;rw[List.filterMap_cons,hf]at hb;exact hb
def Inv.xX(I:Inv X δ σ H s):∀b∈p7 X.stack,H b=none:=λb hb=>by
 rcases aaD.mp (I.xK b hb) with e| hb
 ·rw[e];exact I.free
 ·have⟨_,o,ho,_⟩:=I.ok.ub.mem hb;exact I.base.free b o ho (I.ok.Sx b hb) λz=>I.ok.O_ b z hb
def Inv.step{t':Nat}{d':Drawn}(I:Inv X δ σ H s)
  (AB:∀b∈ch,(b∈X.ex\/X.s₀.heap.objs.size<=b)/\b≠X.env.locals/\(∀x c,X.env.cells.lookup x=some c->c≠b)/\∀p∈X.pn++δ,p.1≠b)
  (keep:∀b o,b≠X.env.locals->b∉X.fs->b∉ch->s.heap.get? b=some o->H b=none->h'.get? b=some o)
  (slot:∀b o,b≠X.env.locals->b∈X.fs->b∉ch->s.heap.get? b=some o->H b=none->∃sl,h'.get? b=some {o with slots:=sl}) (free:∀b o,b∉ch->s.heap.get? b=some o->H b=none->H' b=none)
  (there:∀b o,b∉ch->s.heap.get? b=some o->∃o',h'.get? b=some o')
  (pU:∀b xs,H b=some (.tup xs)->H' b=some (.tup xs)) (ou:∀b o u,H b=some (.C6 o u)->H' b=some (.C6 o u)) (pV:∀b ps,H b=some (.K7 ps)->∃more,H' b=some (.K7 (ps++more)))
  (ns:∀m,s.heap.Ns X.env.locals m->h'.Ns X.env.locals m) (aX:kZ X.prog X.w H' h') (hg:AllBare g'):
  Inv X δ σ H' {s with heap:=h',gens:=g',drawn:=d',toks:=t'}:=by
 have Y5:∀b o,X.s₀.heap.get? b=some o->b≠X.env.locals:=λb o e=>aaK (aaz (aat e) I.ok.above);have Us:∀b o,X.s₀.heap.get? b=some o->b∉X.ex->b∉ch:=λb o e hx hb=>by
  rcases(AB b hb).1 with z| z
  ·exact hx z
  ·exact aay (aaz (aat e) z) (abJ _)
 have cellK:∀x c,X.env.cells.lookup x=some c->∀v,s.heap.IsCell c v->h'.IsCell c v:=λx c e v ⟨o,ho,hd⟩=>by
  have SV:c∉ch:=λz=>(AB c z).2.2.1 x c e rfl;by_cases hc:c∈X.fs
  ·have⟨sl,q⟩:=slot c o (I.Ld x c e) hc SV ho (I.pD x c e);exact⟨_,q,hd⟩
  ·exact⟨o,keep c o (I.Ld x c e) hc SV ho (I.pD x c e),hd⟩
 refine⟨I.ok,I.os,hg,⟨λb o e n hb hx=>?_,λb o e n hb hx=>?_,λb o e n hx=>?_,λb o e hx=>?_,λb xs e=>pU b xs (I.base.pU b xs e),λb o xs e=>ou b o xs (I.base.ou b o xs e),λb ps e=>?_⟩,?_,λx c e=>?_,?_,λx c e=>?_,λp hp=>?_,aX,I.len⟩
 ·exact keep b o (Y5 b o e) hb (Us b o e hx) (I.base.keep b o e n hb hx) (I.base.free b o e n hx)
 ·have⟨sl,e1⟩:=I.base.slot b o e n hb hx;have⟨sl',e2⟩:=slot b _ (Y5 b o e) hb (Us b o e hx) e1 (I.base.free b o e n hx);exact⟨sl',e2⟩
 ·have⟨o',e1⟩:=I.base.there b o e hx;exact free b o' (Us b o e hx) e1 (I.base.free b o e n hx)
 ·have⟨o',e1⟩:=I.base.there b o e hx;exact there b o' (Us b o e hx) e1
 ·have⟨m1,e1⟩:=I.base.pV b ps e;have⟨m2,e2⟩:=pV b _ e1;exact⟨m1++m2,by rw[e2,Array.append_assoc]⟩
 ·have⟨m,hn,hl⟩:=I.loc;refine⟨m,ns m hn,λi x v e1 e2 e3=>?_⟩;have⟨u,r,l⟩:=hl i x v e1 e2 e3;refine⟨u,r,?_⟩;rcases l with l| ⟨k,c,e,z⟩
  ·exact .inl l
  ·exact .inr ⟨k,c,e,cellK x c e _ z⟩
 ·have⟨v,z⟩:=I.cell x c e;exact⟨v,cellK x c e v z⟩
 ·have⟨m,⟨o,_,_,ho,_⟩,_⟩:=I.loc;exact free _ o (λz=>(AB _ z).2.1 rfl) ho I.free
 ·have⟨v,o,ho,hd⟩:=I.cell x c e;exact free c o (λz=>(AB c z).2.2.1 x c e rfl) ho (I.pD x c e)
 ·have⟨e,n,ne,nf,d⟩:=I.pin p hp;have SV:p.1∉ch:=λz=>(AB p.1 z).2.2.2 p hp rfl;exact⟨keep p.1 p.2 ne nf SV e n,free p.1 p.2 SV e n,ne,nf,d⟩
def Inv.un{t':Nat}(I:Inv X δ σ H s)(u:Un X.fs [] H H' s.heap h')(aX:kZ X.prog X.w H' h'):Inv X δ σ H' {s with heap:=h',toks:=t'}:=by
 have⟨m,⟨o,es,ep,ho,r⟩,_⟩:=id I.loc;have⟨sl,hL⟩:=u.any ho I.free (by simp)
 exact I.step (g':=s.gens) (d':=s.drawn) (ch:=[]) (λ_ z=>nomatch z) (λb o _ hb _ e n=>u.keep b o e n hb (by simp)) (λb o _ hb _ e n=>u.slot b o e n hb (by simp)) (λb o _ e n=>u.free b o e n (by simp)) (λb o _ e=>u.there b o e (by simp)) u.pU u.ou u.pV (λm' hm=>by
  have⟨o',O7,W4,Fb,r'⟩:=hm;rw[ho]at Fb;cases Fb
  exact⟨_,O7,W4,hL,r'⟩) aX I.bare
def Inv.call{t':Nat}{d':Drawn}(I:Inv X δ σ H s)(u:Un (p7 X.stack) ch H H' s.heap h')(aX:kZ X.prog X.w H' h')(hg:AllBare g')
  (AB:∀b∈ch,(b∈X.ex\/X.s₀.heap.objs.size<=b)/\b≠X.env.locals/\(∀x c,X.env.cells.lookup x=some c->c≠b)/\∀p∈X.pn++δ,p.1≠b):
  Inv X δ σ H' {s with heap:=h',gens:=g',drawn:=d',toks:=t'}:=by
 have⟨m,⟨o,es,ep,ho,r⟩,_⟩:=id I.loc;have⟨sl,hL⟩:=u.any ho I.free λz=>(AB _ z).2.1 rfl
 exact I.step (ch:=ch) AB (λb o hL hb hc e n=>u.keep b o e n (λz=>(aaD.mp (I.xK b z)).elim hL hb) hc) (λb o _ _ hc e n=>u.any e n hc) (λb o hc e n=>u.free b o e n hc) (λb o hc e=>u.there b o e hc) u.pU u.ou u.pV (λm' hm=>by
  have⟨o',O7,W4,Fb,r'⟩:=hm;rw[ho]at Fb;cases Fb
  exact⟨_,O7,W4,hL,r'⟩) aX hg
def Inv.turned{t':Nat}{it:Addr}(I:Inv X δ σ H s)(k:∀b o,b≠it->s.heap.get? b=some o->h'.get? b=some o)(hn:H it=none)(hL:it≠X.env.locals)
  (h1:it∈X.ex\/X.s₀.heap.objs.size<=it) (h2:∀x c,X.env.cells.lookup x=some c->c≠it) (h3:∀p∈X.pn++δ,p.1≠it):Inv X δ σ H {s with heap:=h',toks:=t'}:=by
 have Z7:∀b u,H b=some u->b≠it:=λb u e z=>by rw[z,hn]at e;cases e
 refine I.step (g':=s.gens) (d':=s.drawn) (ch:=[it]) (λb hb=>?_) (λb o _ _ hc e _=>k b o (λz=>hc (by simp[z])) e) (λb o _ _ hc e _=>⟨o.slots,k b o (λz=>hc (by simp[z])) e⟩) (λ_ _ _ _ n=>n)
  (λb o hc e=>⟨o,k b o (λz=>hc (by simp[z])) e⟩) (λ_ _ e=>e) (λ_ _ _ e=>e) (λb ps e=>⟨#[],by rw[e];simp⟩) (λm hm=>?_) (λb u e=>?_) I.bare
 ·have e:b=it:=by simpa using hb
  subst e;exact⟨h1,hL,h2,h3⟩
 ·have⟨o,es,ep,ho,r⟩:=hm;exact⟨o,es,ep,k _ o (Ne.symm hL) ho,r⟩
 ·refine(I.aX b u e).Cr (λc v hc q=>k c v ?_ q) (λ_ q=>q) λ_ _ q=>q;rcases hc with z| z
  ·rw[z];exact Z7 b u e
  ·exact Z7 c _ z
def Inv.tok(I:Inv X δ σ H s)(t:Nat):Inv X δ σ H {s with toks:=t}:=I.un (h':=s.heap) (t':=t) Un.refl I.aX
def Inv.kept{t':Nat}(I:Inv X δ σ H s)(k:∀b u,s.heap.get? b=some u->h'.get? b=some u):Inv X δ σ H {s with heap:=h',toks:=t'}:=I.un (Un.kept k) (I.aX.kept k)
def Inv.laid{t':Nat}(I:Inv X δ σ H s)(k:∀b u,s.heap.get? b=some u->h'.get? b=some u)(hp:s.heap.objs.size<=a)(new:da X.prog X.w (upd H a o) h' a o):
  Inv X δ σ (upd H a o) {s with heap:=h',toks:=t'}:=I.un (Un.laid k hp (I.aX.fresh hp)) (I.aX.laid k hp new)
def Inv.write{x e:Addr}{t':Nat}(I:Inv X δ σ H s)(mu:Qz (H x))(he:e=x\/H e=some (.own x))(k:∀b u,b≠e->s.heap.get? b=some u->h'.get? b=some u)(QQ:∃u,h'.get? e=some u)
  (new:da X.prog X.w (upd H x o) h' x o):Inv X δ σ (upd H x o) {s with heap:=h',toks:=t'}:=I.un (Un.write mu he k QQ) (I.aX.write mu he k QQ new)
def Inv.C8{MS:List (Addr×Obj)}(I:Inv X δ σ H s)(h:∀p∈MS,s.heap.get? p.1=some p.2/\H p.1=none/\p.1≠X.env.locals/\p.1∉X.fs/\∀v,p.2.data≠ .cell v):Inv X MS σ H s:=
 ⟨I.ok,I.os,I.bare,I.base,I.loc,I.cell,I.free,I.pD,λp hp=>(aaR.mp hp).elim (λz=>I.pin p (List.mem_append_left _ z)) (h p),I.aX,I.len⟩
def Aq{N:List Str}(hN:N.Nodup){j:Nat}(a:N[i]? =some x)(b:N[j]? =some x):i=j:=by have⟨h1,e1⟩:=aaf.mp a;have⟨h2,e2⟩:=aaf.mp b;exact(List.getElem_inj hN).mp (e1.trans e2.symm)
def vv{Q:Unit->Shared->Prop}(I:Inv X δ σ H s)(hN:X.N.Nodup)(hi:X.N[i]? =some x)(hx:Loc X.env.scope x)(r:aB v u)
  (h:∀s',Inv X δ (σ.set i (some v)) H s'->(∃a,Heap.SameBut a s.heap s'.heap/\(a=X.env.locals\/X.env.cells.lookup x=some a))->Q Unit.unit s') (hf:X.fn x=true\/X.env.scope.names.lookup x=some .local:=by first| exact .inl rfl| exact .inr rfl| assumption):wpAny M A (storeName X.env x u) Q E s:=by
 have⟨m,hn,hl⟩:=id I.loc;have VE:(X.env.scope.kind== .class|| (X.env.scope.kind== .module&&X.env.locals != X.env.globals))=false:=by rw[I.ok.kind];rfl
 have Tr:i < σ.length:=by rw[I.len];exact(aaf.mp hi).1
 have Ld:=I.Ld;have tracked:∀{a:Addr} {h':Heap},(∃o,s.heap.get? a=some o/\H a=none)->Heap.SameBut a s.heap h'->kZ X.prog X.w H h':=λ{a h'} ha hs b ob e=>by
  have⟨_,_,Ng⟩:=ha;refine(I.aX b ob e).Cr (λc w' hc q=>(hs.2 c ?_).trans q) (λ_ q=>q) λ_ _ q=>q;rintro rfl;rcases hc with rfl| hc
  ·rw[Ng]at e;cases e
  ·rw[Ng]at hc;cases hc
 rcases hx with hk| hk
 ·refine wpAny_storeName_local hk hn (λh' NX hs=>?_) VE;have⟨oL,_,_,hoL,_⟩:=id hn;refine h _ ⟨I.ok,I.os,I.bare,⟨λb o e n hb hx=>?_,λb o e n hb hx=>?_,I.base.free,λb o e hx=>?_,I.base.pU,I.base.ou,I.base.pV⟩,⟨_,NX,λj y v' e1 e2 e3=>?_⟩,λy c e=>?_,I.free,I.pD,λp hp=>?_,tracked ⟨oL,hoL,I.free⟩ hs,by simpa using I.len⟩ ⟨_,hs,.inl rfl⟩
  ·exact(hs.2 b (aaK (aaz (aat e) I.ok.above))).trans (I.base.keep b o e n hb hx)
  ·have⟨sl,e1⟩:=I.base.slot b o e n hb hx;exact⟨sl,(hs.2 b (aaK (aaz (aat e) I.ok.above))).trans e1⟩
  ·have⟨o',e1⟩:=I.base.there b o e hx;exact⟨o',(hs.2 b (aaK (aaz (aat e) I.ok.above))).trans e1⟩
  ·by_cases hj:j=i
   ·subst hj;rw[hi]at e1;cases e1;rw[abb Tr]at e2;cases e2;exact⟨u,r,.inl ⟨hk,by simp⟩⟩
   ·rw[abq (Ne.symm hj)]at e2;have⟨u',r',q⟩:=hl j y v' e1 e2 e3;refine⟨u',r',?_⟩;rcases q with ⟨k,e⟩| ⟨k,c,e,z⟩
    ·refine .inl ⟨k,?_⟩;have:y≠x:=λe=>hj (Aq hN e1 (e▸hi));simp[this,e]
    ·exact .inr ⟨k,c,e,z.sameBut hs (Ld y c e)⟩
  ·have⟨w',z⟩:=I.cell y c e;exact⟨w',z.sameBut hs (Ld y c e)⟩
  ·have⟨e,n,ne,nf,d⟩:=I.pin p hp;exact⟨(hs.2 p.1 ne).trans e,n,ne,nf,d⟩
 ·have Vz:X.fn x=true:=by
   rcases hf with z| z
   ·exact z
   ·rw[z]at hk;cases hk
  have⟨c,hc⟩:=I.ok.has x (.inl hk);have⟨w',z⟩:=I.cell x c hc;refine wpAny_storeName_cell I.ok.kind hk hc z (λh' AH hs=>?_);have⟨oc,Zv,WQ⟩:=id z;refine h {s with heap:=h'} ⟨I.ok,I.os,I.bare,⟨λb o e n hb hx=>?_,λb o e n hb hx=>?_,I.base.free,λb o e hx=>?_,I.base.pU,I.base.ou,I.base.pV⟩,⟨m,hn.sameBut hs (Ne.symm (Ld x c hc)),λj y v' e1 e2 e3=>?_⟩,λy c' e=>?_,I.free,I.pD,λp hp=>?_,tracked ⟨oc,Zv,I.pD x c hc⟩ hs,by simpa using I.len⟩ ⟨c,hs,.inr hc⟩
  ·exact(hs.2 b (aaK (aaz (aat e) (I.ok.X3 x c Vz hc)))).trans (I.base.keep b o e n hb hx)
  ·have⟨sl,e1⟩:=I.base.slot b o e n hb hx;exact⟨sl,(hs.2 b (aaK (aaz (aat e) (I.ok.X3 x c Vz hc)))).trans e1⟩
  ·have⟨o',e1⟩:=I.base.there b o e hx;exact⟨o',(hs.2 b (aaK (aaz (aat e) (I.ok.X3 x c Vz hc)))).trans e1⟩
  ·by_cases hj:j=i
   ·subst hj;rw[hi]at e1;cases e1;rw[abb Tr]at e2;cases e2;exact⟨u,r,.inr ⟨.inl hk,c,hc,AH⟩⟩
   ·rw[abq (Ne.symm hj)]at e2;have⟨u',r',q⟩:=hl j y v' e1 e2 e3;refine⟨u',r',?_⟩;rcases q with q| ⟨k,c',e,z'⟩
    ·exact .inl q
    ·refine .inr ⟨k,c',e,z'.sameBut hs ?_⟩;rintro rfl;exact hj (Aq hN e1 (I.ok.inj _ _ _ e hc▸hi))
  ·by_cases Pc:c'=c
   ·subst Pc;exact⟨_,AH⟩
   ·have⟨w2,z2⟩:=I.cell y c' e;exact⟨w2,z2.sameBut hs Pc⟩
  ·have⟨e,n,ne,nf,d⟩:=I.pin p hp;refine⟨(hs.2 p.1 ?_).trans e,n,ne,nf,d⟩;intro q;rw[q,Zv]at e;have q':oc=p.2:=aao e;exact d w' (by rw[<-q'];exact WQ)
def nC{Q:Unit->Shared->Prop}(I:Inv X δ σ H s)(hN:X.N.Nodup)(hi:X.N[i]? =some x)(hx:Loc X.env.scope x)(r:aB v u)
  (h:∀s',Inv X δ (σ.set i (some v)) H s'->Q Unit.unit s') (hf:X.fn x=true\/X.env.scope.names.lookup x=some .local:=by first| exact .inl rfl| exact .inr rfl| assumption):wpAny M A (storeName X.env x u) Q E s:=
 vv I hN hi hx r (λs' I' _=>h s' I') hf
def Inv.Rz{s':Shared}(I:Inv X δ σ H s)(ho:s'.os=s.os)(u:Un (p7 X.stack) ch H H' s.heap s'.heap)(aX:kZ X.prog X.w H' s'.heap)(hg:AllBare s'.gens)
  (AB:∀b∈ch,(b∈X.ex\/X.s₀.heap.objs.size<=b)/\b≠X.env.locals/\(∀x c,X.env.cells.lookup x=some c->c≠b)/\∀p∈X.pn++δ,p.1≠b):Inv X δ σ H' s':=by
 have⟨h',g',d',t',o'⟩:=s';have e:o'=s.os:=ho;subst e;exact I.call (g':=g') (t':=t') (d':=d') u aX hg AB
end
abbrev XK:=Value->Option Addr->Hp->Prop
abbrev St:=List (Option V)
variable{σ:St}
abbrev VK:=V->Hp->Prop
abbrev TE:=St->Hp->VK->Prop
variable{ta te:TE}
abbrev TT:=St->Hp->(Bool->Hp->Prop)->Prop
abbrev TA:=St->Hp->(List V->Hp->Prop)->Prop
structure yw where
 nx:St->Hp->Prop
 rt:VK
 bk:St->Hp->Prop:=λ_ _=>False
 ct:St->Hp->Prop:=λ_ _=>False
abbrev TS:=yw->St->Hp->Prop
def EP(X:Cx)(δ:List (Addr×Obj))(σ:St)(Q:VK)(u:Value)(s':Shared):Prop:=∃v H',Inv X δ σ H' s'/\aB v u/\Q v H'
def TP(X:Cx)(δ:List (Addr×Obj))(σ:St)(Q:Bool->Hp->Prop)(b:Bool)(s':Shared):Prop:=∃H',Inv X δ σ H' s'/\Q b H'
def AP(X:Cx)(δ:List (Addr×Obj))(σ:St)(Q:List V->Hp->Prop)(us:List Value)(s':Shared):Prop:=∃vs H',Inv X δ σ H' s'/\ay vs us/\Q vs H'
def SP(X:Cx)(δ:List (Addr×Obj))(D:yw)(f:Flow)(s':Shared):Prop:=
 match f with
 | .next=>∃σ' H',Inv X δ σ' H' s'/\D.nx σ' H'
 | .brk=>∃σ' H',Inv X δ σ' H' s'/\D.bk σ' H'
 | .cont=>∃σ' H',Inv X δ σ' H' s'/\D.ct σ' H'
 | .ret u=>∃v σ' H',Inv X δ σ' H' s'/\aB v u/\D.rt v H'
def PE(X:Cx)(e:Expr)(t:TE):Prop:=
 ∀(δ:List (Addr×Obj)) (s:Shared) (σ:St) (H:Hp) (Q:VK),Inv X δ σ H s->t σ H Q->wpAny (model X.prog X.w) X.A (eval e X.env) (EP X δ σ Q) X.xe s
def PT(X:Cx)(e:Expr)(t:TT):Prop:=
 ∀(δ:List (Addr×Obj)) (s:Shared) (σ:St) (H:Hp) (Q:Bool->Hp->Prop),Inv X δ σ H s->t σ H Q->wpAny (model X.prog X.w) X.A (isTrue e X.env (eval e X.env)) (TP X δ σ Q) X.xe s
def PW(X:Cx)(e:Expr)(t:TT):Prop:=
 ∀(whole:Sem Value) (δ:List (Addr×Obj)) (s:Shared) (σ:St) (H:Hp) (Q:Bool->Hp->Prop),Inv X δ σ H s->t σ H Q->wpAny (model X.prog X.w) X.A (isTrue e X.env whole) (TP X δ σ Q) X.xe s
def PA(X:Cx)(es:List Expr)(t:TA):Prop:=
 ∀(pos:Pos) (δ:List (Addr×Obj)) (s:Shared) (σ:St) (H:Hp) (Q:List V->Hp->Prop),Inv X δ σ H s->t σ H Q->wpAny (model X.prog X.w) X.A (spliced (backTo pos (starEach es X.env))) (AP X δ σ Q) X.xe s
def PS(X:Cx)(st:Stmt)(t:TS):Prop:=
 ∀(δ:List (Addr×Obj)) (s:Shared) (σ:St) (H:Hp) (D:yw),Inv X δ σ H s->t D σ H->wpAny (model X.prog X.w) X.A (exec st X.env) (SP X δ D) X.xe s
def Gx(X:Cx)(st:List Stmt)(t:TS):Prop:=
 ∀(δ:List (Addr×Obj)) (s:Shared) (σ:St) (H:Hp) (D:yw),Inv X δ σ H s->t D σ H->wpAny (model X.prog X.w) X.A (execs st X.env) (SP X δ D) X.xe s
def bA{α:Type}{t:Sem α}{Q Q':α->Shared->Prop}(h:wpAny M A t Q E s)(hQ:∀a s,Q a s->Q' a s):wpAny M A t Q' E s:=ab8 h hQ λ_ _ x=>x
section
def X7(i:Nat):TE:=λσ H Q=>∃v,σ[i]? =some (some v)/\Q v H
def tC(v:V):TE:=λ_ H Q=>Q v H
def Qd(hN:X.N[i]? =some x)(hv:XA X.env.scope x)(hd:(x==("__debug__":Str))=false:=by decide)(Jf:(x==("__classdict__":Str))=false:=by decide):PE X (.Name x pos) (X7 i):=by
 intro δ s σ H Q I h;have⟨v,e,h⟩:=h;have⟨m,hn,hl⟩:=I.loc;have⟨u,r,l⟩:=hl i x v hN e hv;have fin:EP X δ σ Q u s:=⟨v,H,I,r,h⟩;rcases l with ⟨hk,hm⟩| ⟨hk,c,hc,NH⟩
 ·exact wpAny_Name (wpAny_loadName_local I.ok.kind hk hn hm fin) hd
 ·rcases hk with hk| hk
  ·exact wpAny_Name (wpAny_loadName_cell I.ok.kind hk hc NH fin) hd
  ·exact wpAny_Name (wpAny_loadName_free I.ok.kind hk hc NH fin Jf) hd
def OS{i j pos}:PE X (.Constant (.int i) j pos) (tC (.int i)):=λ_ _ _ H _ I h=>wpAny_Constant_int ⟨.int i,H,I.tok _,⟨_,rfl⟩,h⟩
def TY{b j pos}:PE X (.Constant (.bool b) j pos) (tC (.bl b)):=λ_ _ _ H _ I h=>Constant_bool ⟨.bl b,H,I,rfl,h⟩
def Qb{j pos}:PE X (.Constant .none j pos) (tC .aY):=λ_ _ _ H _ I h=>Constant_none ⟨.aY,H,I,rfl,h⟩
def P_{x j pos}:PE X (.Constant (.str x) j pos) (tC (.str x)):=λ_ _ _ H _ I h=>Calls.Constant_str ⟨.str x,H,I.tok _,⟨_,rfl⟩,h⟩
def Gl(X:Cx)(x:Str):Prop:=X.env.kindOf x=some .globalImplicit
def vU{H:Hp}(I:Inv X δ σ H s)(hg:Gl X x)(hm:X.mg x=some u)(h:Q u s)
  (hd:(x==("__debug__":Str))=false:=by decide):wpAny (model X.prog X.w) X.A (eval (.Name x pos) X.env) Q E s:=
 Calls.Name_function_global I.ok.kind hg (Calls.loadGlobal_global (by rw[I.ok.glob];exact I.mod.glob.keeps I.bk) hm h) hd
def pd{H:Hp}(I:Inv X δ σ H s)(hg:Gl X x)(hm:X.mg x=none)(hv:bootBuiltins x=some u)(h:Q u s)
  (hn:x≠"__name__":=by decide) (hd:(x==("__debug__":Str))=false:=by decide):wpAny (model X.prog X.w) X.A (eval (.Name x pos) X.env) Q E s:=by
 have⟨mb,h1,h2⟩:=I.mod.blt;exact Calls.Name_function_global I.ok.kind hg (Calls.loadGlobal_builtin (by rw[I.ok.glob];exact I.mod.glob.keeps I.bk) hm (by rw[I.ok.blt];exact h1.keeps I.bk) ((h2 x hn).trans hv) h) hd
def Dv(hg:Gl X x)(hm:X.mg x=some u)(r:aB v u)(hd:(x==("__debug__":Str))=false:=by decide):PE X (.Name x pos) (tC v):=
 λ_ _ _ H _ I h=>vU I hg hm ⟨v,H,I,r,h⟩ hd
variable{a b:Expr}{tb:TE}
def tB(t:TE):TT:=λσ H Q=>t σ H λx H1=>∃c,x= .bl c/\Q c H1
def PM{t:TE}(h:PE X e t)(he:∀whole,isTrue e X.env whole=(do let v<-whole;standAt e.pos;holding [v] (truthy v)):=by intro _;rfl):PT X e (tB t):=by intro δ s σ H Q I hw;refine isTrue_plain (bA (h δ s σ H _ I hw) λv s1 xz=>?_) (he _);have⟨x,H1,I1,r1,q1⟩:=xz;have⟨d,rfl,q⟩:=q1;cases r1;exact wpAny_truthy_bool ⟨H1,I1,q⟩
variable{tA SX:TT}{rest:List Expr}
def XM(t u:TT):TT:=λσ H Q=>t σ H λc H1=>if c=true then u σ H1 Q else Q false H1
def tOr(t u:TT):TT:=λσ H Q=>t σ H λc H1=>if c=true then Q true H1 else u σ H1 Q
def Yk(t:TT):TT:=λσ H Q=>t σ H λc H1=>Q (!c) H1
def pw_and1(ha:PT X a tA):PW X (.BoolOp .And [a] pos) tA:=by
 intro wh δ s σ H Q I h;refine isTrue_and (bA (ha δ s σ H Q I h) λc s1 e=>?_);cases c with
 | true=>exact isTrue_and_nil e
 | false=>exact e
def pw_or1(ha:PT X a tA):PW X (.BoolOp .Or [a] pos) tA:=by
 intro wh δ s σ H Q I h;refine isTrue_or (bA (ha δ s σ H Q I h) λc s1 e=>?_);cases c with
 | false=>exact isTrue_or_nil e
 | true=>exact e
def pw_and(ha:PT X a tA)(hb:PW X (.BoolOp .And (b::rest) pos) SX):PW X (.BoolOp .And (a::b::rest) pos) (XM tA SX):=by
 intro wh δ s σ H Q I h;refine isTrue_and (bA (ha δ s σ H _ I h) λc s1 xz=>?_);have⟨H1,I1,q1⟩:=xz;cases c with
 | true=>exact hb wh δ s1 σ H1 Q I1 q1
 | false=>exact⟨H1,I1,q1⟩
def pw_or(ha:PT X a tA)(hb:PW X (.BoolOp .Or (b::rest) pos) SX):PW X (.BoolOp .Or (a::b::rest) pos) (tOr tA SX):=by
 intro wh δ s σ H Q I h;refine isTrue_or (bA (ha δ s σ H _ I h) λc s1 xz=>?_);have⟨H1,I1,q1⟩:=xz;cases c with
 | true=>exact⟨H1,I1,q1⟩
 | false=>exact hb wh δ s1 σ H1 Q I1 q1
def Pt(ha:PT X a tA):PT X (.UnaryOp .Not a pos) (Yk tA):=by intro δ s σ H Q I h;exact isTrue_not (ha δ s σ H (λc H1=>Q (!c) H1) I h)
def R9(ta tb:TE):TE:=λσ H Q=>ta σ H λx H1=>∃c,x= .bl c/\if c=true then tb σ H1 Q else Q (.bl false) H1
def Xa(ta tb:TE):TE:=λσ H Q=>ta σ H λx H1=>∃c,x= .bl c/\if c=true then Q (.bl true) H1 else tb σ H1 Q
def PD{op}{t:TE}(h:PE X a t):PE X (.BoolOp op [a] pos) t:=λδ s σ H Q I hw=>BoolOp_one (h δ s σ H Q I hw)
def Ql(ha:PE X a ta)(hb:PE X (.BoolOp .And (b::rest) pos) tb):PE X (.BoolOp .And (a::b::rest) pos) (R9 ta tb):=by
 intro δ s σ H Q I h;refine BoolOp_and (bA (ha δ s σ H _ I h) λv s1 xz=>?_);have⟨x,H1,I1,r1,q1⟩:=xz;have⟨c,rfl,q1⟩:=q1;cases r1;refine wpAny_truthy_bool ?_;cases c with
 | true=>exact hb δ s1 σ H1 Q I1 q1
 | false=>exact⟨.bl false,H1,I1,rfl,q1⟩
def S5(ha:PE X a ta)(hb:PE X (.BoolOp .Or (b::rest) pos) tb):PE X (.BoolOp .Or (a::b::rest) pos) (Xa ta tb):=by
 intro δ s σ H Q I h;refine BoolOp_or (bA (ha δ s σ H _ I h) λv s1 xz=>?_);have⟨x,H1,I1,r1,q1⟩:=xz;have⟨c,rfl,q1⟩:=q1;cases r1;refine wpAny_truthy_bool ?_;cases c with
 | false=>exact hb δ s1 σ H1 Q I1 q1
 | true=>exact⟨.bl true,H1,I1,rfl,q1⟩
def tIf(t:TT)(ta tb:TE):TE:=λσ H Q=>t σ H λc H1=>if c=true then ta σ H1 Q else tb σ H1 Q
def IL(hc:PT X c tA)(ha:PE X a ta)(hb:PE X b tb):PE X (.IfExp c a b pos) (tIf tA ta tb):=by
 intro δ s σ H Q I h;refine wpAny_IfExp (bA (hc δ s σ H _ I h) λd s1 xz=>?_);have⟨H1,I1,q1⟩:=xz;cases d with
 | true=>exact ha δ s1 σ H1 Q I1 q1
 | false=>exact hb δ s1 σ H1 Q I1 q1
end
def gc(K:fI)(H:Hp)(a:Addr)(xs:List V):Prop:=
 Rd H a (.lst xs)\/
  ∃(o:Obj) (its:Array Value) (n:Nat),K.lookup a=some o/\o.cls= .type "list"/\o.dict=none/\o.data= .seq its n/\its.size<=sizeLine/\ay xs its.toList
def mL(K:fI)(H:Hp)(a:Addr)(xs:List V):Prop:=
 Rd H a (.tup xs)\/
  ∃(o:Obj) (its:Array Value) (n:Nat),K.lookup a=some o/\o.cls= .type "tuple"/\o.data= .seq its n/\its.size<=sizeLine/\ay xs its.toList
def Vr:Value->Option V
 | .none=>some .aY
 | .bool b=>some (.bl b)
 | .int i _=>some (.int i)
 | .str x _=>some (.str x)
 | .bytes b _=>some (.GA b)
 | .float b _=>some (.UE b)
 | .ref a=>some (.ref a)
 | .type n=>some (.ty n)
 | _=>none
def aB.abs{x:V}(r:aB x u):Vr u=some x:=by
 cases x with
 | aY=>cases r;rfl
 | bl _=>cases r;rfl
 | int _=>have⟨t,rfl⟩:=r;rfl
 | str _=>have⟨t,rfl⟩:=r;rfl
 | GA _=>have⟨t,rfl⟩:=r;rfl
 | UE _=>have⟨t,rfl⟩:=r;rfl
 | ref _=>cases r;rfl
 | ty _=>cases r;rfl
def aB.inj{x y:V}{u:Value}(r:aB x u)(q:aB y u):x=y:=aao (r.abs.symm.trans q.abs)
def ay.inj:∀{xs ys:List V} {us:List Value},ay xs us->ay ys us->xs=ys
 | _,_,_,.nil,.nil=>rfl
 | _,_,_,.cons r t,.cons r' t'=>by rw[r.inj r',ay.inj t t']
section
variable{H:Hp}{xs ys:List V}
def gc.of{K:fI}(h:H a=some (.lst xs)):gc K H a xs:=.inl (.inl h)
def mL.of{K:fI}(h:H a=some (.tup xs)):mL K H a xs:=.inl (.inl h)
def Inv.list(I:Inv X δ σ H s)(h:gc X.K H a xs):∃its:List Value,ay xs its/\PlainL s.heap a its.toArray/\xs.length<=sizeLine:=by
 rcases h with h| ⟨o,its,n,hk,hc,hd,hs,hz,r⟩
 ·have⟨z,its,n,r,e⟩:=h.ok I.aX;exact⟨its,r,⟨_,n,e,rfl,rfl,rfl⟩,z⟩
 ·refine⟨its.toList,r,⟨o,n,I.Dh a o hk,hc,hd,by simpa using hs⟩,?_⟩;have e:=r.length;simp only[Array.length_toList]at e;omega
def Inv.tuple(I:Inv X δ σ H s)(h:mL X.K H a xs):∃its:List Value,ay xs its/\IsTup s.heap a its.toArray/\xs.length<=sizeLine:=by
 rcases h with h| ⟨o,its,n,hk,hc,hs,hz,r⟩
 ·have⟨z,its,r,p⟩:=h.ok I.aX;exact⟨its,r,p,z⟩
 ·refine⟨its.toList,r,⟨o,I.Dh a o hk,hc,n,by simpa using hs⟩,?_⟩;have e:=r.length;simp only[Array.length_toList]at e;omega
def Inv.cb(I:Inv X δ σ H s)(h:gc X.K H a xs)(h':gc X.K H a ys):xs=ys:=by
 have⟨its,r,⟨o,n,e,_,_,d⟩,_⟩:=I.list h;have⟨its',r',⟨o',n',e',_,_,d'⟩,_⟩:=I.list h';rw[e]at e';cases e';rw[d]at d';injection d' with d1 _
 have:its=its':=by simpa using congrArg Array.toList d1
 subst this;exact r.inj r'
def Inv.kT(I:Inv X δ σ H s)(h:mL X.K H a xs)(h':mL X.K H a ys):xs=ys:=by
 have⟨its,r,⟨o,e,_,n,d⟩,_⟩:=I.tuple h;have⟨its',r',⟨o',e',_,n',d'⟩,_⟩:=I.tuple h';rw[e]at e';cases e';rw[d]at d';injection d' with d1 _
 have:its=its':=by simpa using congrArg Array.toList d1
 subst this;exact r.inj r'
end
section
variable{st:Stmt}{rest:List Stmt}{t u:TS}
def TF:TS:=λD σ H=>D.nx σ H
def WX(t u:TS):TS:=λD σ H=>t {D with nx:=u D} σ H
def Lz:Gx X [] TF:=λ_ _ σ H _ I h=>wpAny_execs_nil ⟨σ,H,I,h⟩
def HJ(h1:PS X st t)(h2:Gx X rest u):Gx X (st::rest) (WX t u):=by
 intro δ s σ H D I h;refine wpAny_execs_cons (bA (h1 δ s σ H {D with nx:=u D} I h) λf s1 q=>?_);cases f with
 | next=>
  have⟨σ',H',I',q⟩:=q;exact h2 δ s1 σ' H' D I' q
 | ret v=>exact q
 | brk=>exact q
 | cont=>exact q
def Lo(h1:PS X st t):Gx X [st] t:=by
 intro δ s σ H D I h;refine wpAny_execs_cons (bA (h1 δ s σ H D I h) λf s1 q=>?_);cases f with
 | next=>exact wpAny_execs_nil q
 | ret v=>exact q
 | brk=>exact q
 | cont=>exact q
def R8:TS:=λD σ H=>D.ct σ H
def yE:PS X (.Continue pos) R8:=λ_ _ σ H _ I h=>wpAny_Continue ⟨σ,H,I,h⟩
def Inv.quiet{H:Hp}(I:Inv X δ σ H s):interactive X.env=false:=by simp[interactive,I.ok.kind]
def Q_(te:TE):TS:=λD σ H=>te σ H λ_ H1=>D.nx σ H1
def LN(he:PE X e te)(hs:swapsWith e none pos.line X.env=pure false:=by rfl):PS X (.Expr e pos) (Q_ te):=by intro δ s σ H D I h;exact wpAny_Expr_any (bA (he δ s σ H _ I h) λv s1 ⟨x,H1,I1,r1,q1⟩=>⟨σ,H1,I1,q1⟩) I.quiet hs
def Wx(te:TE):TS:=λD σ H=>te σ H D.rt
def N6(he:PE X e te):PS X (.Return (some e) pos) (Wx te):=by intro δ s σ H D I h;exact wpAny_Return_some (bA (he δ s σ H _ I h) λv s1 ⟨x,H1,I1,r1,q1⟩=>⟨x,σ,H1,I1,r1,q1⟩)
def WY(c:TT)(t u:TS):TS:=λD σ H=>c σ H λb H1=>if b=true then t D σ H1 else u D σ H1
def QY{a b:List Stmt}{tc:TT}(hc:PT X c tc)(ha:Gx X a t)(hb:Gx X b u):PS X (.If c a b pos) (WY tc t u):=by
 intro δ s σ H D I h;refine wpAny_If (bA (hc δ s σ H _ I h) λd s1 xz=>?_);have⟨H1,I1,q1⟩:=xz;cases d with
 | true=>exact ha δ s1 σ H1 D I1 q1
 | false=>exact hb δ s1 σ H1 D I1 q1
end
abbrev TG:=V->St->Hp->(St->Hp->Prop)->Prop
abbrev Qc:=List V->St->Hp->(St->Hp->Prop)->Prop
def PG(X:Cx)(target:Expr)(t:TG):Prop:=
 ∀(δ:List (Addr×Obj)) (s:Shared) (σ:St) (H:Hp) (v:V) (u:Value) (Q:St->Hp->Prop),Inv X δ σ H s->aB v u->t v σ H Q->
  wpAny (model X.prog X.w) X.A (assign target X.env u) (λ_ s'=>∃σ' H',Inv X δ σ' H' s'/\Q σ' H') X.xe s
def Uk(X:Cx)(ts:List Expr)(t:Qc):Prop:=
 ∀(δ:List (Addr×Obj)) (s:Shared) (σ:St) (H:Hp) (vs:List V) (us:List Value) (Q:St->Hp->Prop),Inv X δ σ H s->ay vs us->t vs σ H Q->
  wpAny (model X.prog X.w) X.A (assignInOrder ((assignEach ts X.env).map (·.2)) us) (λ_ s'=>∃σ' H',Inv X δ σ' H' s'/\Q σ' H') X.xe s
abbrev Ju:=V->V->V->Hp->(Hp->Prop)->Prop
def OF(X:Cx)(t:Ju):Prop:=
 ∀(δ:List (Addr×Obj)) (s:Shared) (σ:St) (H:Hp) (o i v:V) (ov iv u:Value) (Q:Hp->Prop),Inv X δ σ H s->aB o ov->aB i iv->aB v u->t o i v H Q->
  wpAny (model X.prog X.w) X.A (setItem ov iv u) (λ_ s'=>∃H',Inv X δ σ H' s'/\Q H') X.xe s
abbrev Uw:=V->V->Hp->VK->Prop
def YW(X:Cx)(op:Operator)(t:Uw):Prop:=
 ∀(δ:List (Addr×Obj)) (s:Shared) (σ:St) (H:Hp) (x y:V) (v u:Value) (Q:VK),Inv X δ σ H s->aB x v->aB y u->t x y H Q->
  wpAny (model X.prog X.w) X.A (inplaceOp op v u) (EP X δ σ Q) X.xe s
section
def fm(i:Nat):TG:=λv σ H Q=>Q (σ.set i (some v)) H
def ae(hN:X.N.Nodup)(hi:X.N[i]? =some x)(hx:Loc X.env.scope x)(hf:X.fn x=true\/X.env.scope.names.lookup x=some .local:=by first| exact .inl rfl| exact .inr rfl| assumption):PG X (.Name x pos) (fm i):=by intro δ s σ H v u Q I r h;exact wpAny_assign_Name (nC I hN hi hx r (λs' I'=>⟨_,H,I',h⟩) hf)
def Fo:Qc:=λvs σ H Q=>vs=[]/\Q σ H
def iR(t:TG)(u:Qc):Qc:=λvs σ H Q=>∃v r,vs=v::r/\t v σ H λσ' H'=>u r σ' H' Q
def i7:Uk X [] Fo:=by intro δ s σ H vs us Q I r h;have⟨e,h⟩:=h;subst e;cases r;exact assignInOrder_nil ⟨σ,H,I,h⟩
def bf{t:TG}{u:Qc}(h1:PG X e t)(h2:Uk X es u)
  (hs:(assignEach (e::es) X.env).map (·.2)=assign e X.env::(assignEach es X.env).map (·.2):=by rfl):Uk X (e::es) (iR t u):=by
 intro δ s σ H vs us Q I r h;have⟨v,vr,e1,h⟩:=h;subst e1;cases r with
 | cons r rr=>
  rw[hs];refine assignInOrder_cons (bA (h1 δ s σ H _ _ _ I r h) λ_ s1 xz=>?_);have⟨σ1,H1,I1,q1⟩:=xz;exact h2 δ s1 σ1 H1 _ _ Q I1 rr q1
def E_(K:fI)(n:Nat)(t:Qc):TG:=λv σ H Q=>∃a xs,v= .ref a/\mL K H a xs/\xs.length=n/\t xs σ H Q
def lV{k:Nat}{t:Qc}{n:Nat}(hc:X.calm=true)(h:Uk X es t)
  (hn:(assignEach es X.env).length=n:=by rfl) (KZ:(assignEach es X.env).findIdx? (·.1)=none:=by rfl):PG X (.Tuple es k pos) (E_ X.K n t):=by
 intro δ s σ H v u Q I r hw;have⟨a,xs,e1,hq,hl,hw⟩:=hw;subst e1;cases r;have⟨its,rv,ht,hz⟩:=I.tuple hq;refine assign_Tuple_tuple (I.ok.hd hc) ht (by simp[hn,<-hl,rv.length]) KZ λh' hx=>?_;have I1:Inv X δ σ H {s with heap:=h'}:=I.kept (t':=s.toks) λb o e=>hx b o (aaK (aat e)) e;exact h δ _ σ H xs _ Q I1 (by simpa using rv) hw
def VJ(to ti:TE)(t:Ju):TG:=λv σ H Q=>to σ H λo H1=>ti σ H1 λi H2=>t o i v H2 λH3=>Q σ H3
def OQ{o i:Expr}{to ti:TE}{t:Ju}(ho:PE X o to)(hi:PE X i ti)(hs:OF X t)
  (ha:∀v,assign (.Subscript o i pos) X.env v=(do
   let ov<-holding [v] (eval o X.env)
   let iv<-holding [v,ov] (eval i X.env)
   standAt pos
   holding [v,ov,iv] (setItem ov iv v)
   release [v,ov,iv] []):=by intro _;rfl):PG X (.Subscript o i pos) (VJ to ti t):=by
 intro δ s σ H v u Q I r h;rw[ha];refine aaG (wpAny_holding (bA (ho δ s σ H _ I h) λov s1 xz=>?_));have⟨x,H1,I1,r1,q1⟩:=xz;refine aaG (wpAny_holding (bA (hi δ s1 σ H1 _ I1 q1) λiv s2 xz=>?_));have⟨y,H2,I2,r2,q2⟩:=xz;refine aaG (wpAny_standAt (aaG (wpAny_holding (bA (hs δ s2 σ H2 x y v ov iv u _ I2 r1 r2 r q2) λ_ s3 xz=>?_))));have⟨H3,I3,q3⟩:=xz;exact wpAny_release ⟨σ,H3,I3,q3⟩
def T9(te:TE)(g:TG):TS:=λD σ H=>te σ H λx H1=>g x σ H1 D.nx
def CG{g:TG}(he:PE X e te)(hg:PG X tg g)(hs:swapsWithSole [tg] e pos.line X.env=pure false:=by rfl)(hw:swappedStores [tg] e X.env=pure none:=by rfl)
  (h1:(assignEach [tg] X.env).map (·.2)=[assign tg X.env]:=by rfl):PS X (.Assign [tg] e pos) (T9 te g):=by
 intro δ s σ H D I h;refine wpAny_Assign_stores (bA (he δ s σ H _ I h) λv s1 xz=>?_) hs hw;have⟨x,H1,I1,r1,q1⟩:=xz;rw[h1];exact bA (hg δ s1 σ H1 x v _ I1 r1 q1) λ_ s2 q=>q
def Pr{pos':Pos}(hN:X.N.Nodup)(hi:X.N[i]? =some x)(hx:Loc X.env.scope x)(he:PE X e te)(hs:swapsWith e (some (.Name x pos')) pos.line X.env=pure false:=by rfl)(hf:X.fn x=true\/X.env.scope.names.lookup x=some .local:=by first| exact .inl rfl| exact .inr rfl| assumption):
  PS X (.Assign [.Name x pos'] e pos) (T9 te (fm i)):=by
 intro δ s σ H D I h;refine wpAny_Assign_Name (bA (he δ s σ H _ I h) λv s1 xz=>?_) hs;have⟨y,H1,I1,r1,q1⟩:=xz;exact nC I1 hN hi hx r1 (λs2 I2=>⟨_,H1,I2,q1⟩) hf
def Vv(i j:Nat)(ta:TA):TS:=λD σ H=>ta σ H λvs H1=>∃v w,vs=[v,w]/\D.nx ((σ.set i (some v)).set j (some w)) H1
def Qh{j:Nat}{y:Str}{a b:Expr}{ta:TA}{px py pt:Pos}{kt k2 OA}(hc:X.calm=true)(hN:X.N.Nodup)(hi:X.N[i]? =some x)(hj:X.N[j]? =some y)(Ww:i≠j)
  (hx:X.env.scope.names.lookup x=some .local) (hy:X.env.scope.names.lookup y=some .local) (ha:PA X [a,b] ta)
  (hw:swappedStores [.Tuple [.Name x px,.Name y py] kt pt] (.Tuple [a,b] k2 OA) X.env=pure (some [x,y]))
  (hs:swapsWithSole [.Tuple [.Name x px,.Name y py] kt pt] (.Tuple [a,b] k2 OA) pos.line X.env=pure false:=by rfl):
  PS X (.Assign [.Tuple [.Name x px,.Name y py] kt pt] (.Tuple [a,b] k2 OA) pos) (Vv i j ta):=by
 intro δ s σ H D I h;rw[exec_Assign_arm];refine aaG (wpAny_standAt ?_);rw[hs];refine aaG (abk ?_);rw[aau @_];refine aaG (Tuple_ (bA (ha _ δ s σ H _ I h) λus s1 xz=>?_));have⟨vs,H1,I1,r1,q1⟩:=xz;have⟨v,w,e1,q1⟩:=q1;subst e1;obtain⟨u1,u2,rfl,rv,EW⟩:∃u1 u2,us=[u1,u2]/\aB v u1/\aB w u2:=by
  cases r1 with
  | cons p q=>
   cases q with
   | cons p' q'=>
    cases q';exact⟨_,_,rfl,p,p'⟩
 refine wpAny_newObj_type ?_ gV;have I2:Inv X δ σ H1 {s1 with heap:=s1.heap.push {cls:=.type "tuple",data:=.seq [u1,u2].toArray}}:=I1.kept (t':=s1.toks) λb o e=>aam _ e;rw[hw];refine aaG (abk ?_);show wpAny (model X.prog X.w) X.A (do rule "assign.swapped-stores";let items<-unpackItems (.ref s1.heap.objs.size) 2 none;assignInOrder [λv=>bindName X.env y v,λv=>bindName X.env x v] items.reverse;pure Flow.next) _ _ _;refine aaG (wpAny_rule (aaG (unpackItems_tuple (items:= #[u1,u2]) (I.ok.hd hc) (IsTup.new s1.heap _) λh' Xo=>?_)));have I3:=I2.kept (h':=h') (t':=s1.toks) λb o e=>Xo b o (aaK (aat e)) e;show wpAny _ _ (assignInOrder [λv=>bindName X.env y v,λv=>bindName X.env x v] [u2,u1] >>= λ_=>pure Flow.next) _ _ _;refine aaG (assignInOrder_cons (wpAny_bindName (nC I3 hN hj (.inl hy) EW (λs2 I4=>?_) (.inr hy))));refine assignInOrder_cons (wpAny_bindName (nC I4 hN hi (.inl hx) rv (λs3 I5=>assignInOrder_nil (abk ?_)) (.inr hx)));rw[List.set_comm _ _ (Ne.symm Ww)]at I5;exact⟨_,H1,I5,q1⟩
def Th(to ti te:TE)(Lf:V->V->Hp->VK->Prop)(Ui:Uw)(KW:Ju):TS:=λD σ H=>to σ H λo H1=>ti σ H1 λi H2=>Lf o i H2 λx H3=>te σ H3 λy H4=>Ui x y H4 λz H5=>KW o i z H5 λH6=>D.nx σ H6
def Ru(X:Cx)(t:V->V->Hp->VK->Prop):Prop:=
 ∀(δ:List (Addr×Obj)) (s:Shared) (σ:St) (H:Hp) (o i:V) (ov iv:Value) (Q:VK),Inv X δ σ H s->aB o ov->aB i iv->t o i H Q->
  wpAny (model X.prog X.w) X.A (getItem ov iv) (EP X δ σ Q) X.xe s
def K_{o i:Expr}{to ti:TE}{Lf:V->V->Hp->VK->Prop}{Ui:Uw}{KW:Ju}{op:Operator}{mO:Pos}(ho:PE X o to)(hi:PE X i ti)(hg:Ru X Lf)(he:PE X e te)(hp:YW X op Ui)(hs:OF X KW)
  (ha:∀ov iv new,augStore i ov iv new=(do holding [new,ov,iv] (setItem ov iv new);release [new,ov,iv] [];pure .next):=by intros;rfl):PS X (.AugAssign (.Subscript o i mO) op e pos) (Th to ti te Lf Ui KW):=by
 intro δ s σ H D I h;refine wpAny_AugAssign_SubscriptAny (bA (ho δ s σ H _ I h) λov s1 xz=>?_) ha;have⟨x1,H1,I1,r1,q1⟩:=xz;refine bA (hi δ s1 σ H1 _ I1 q1) λiv s2 xz=>?_;have⟨x2,H2,I2,r2,q2⟩:=xz;refine bA (hg δ s2 σ H2 x1 x2 ov iv _ I2 r1 r2 q2) λold s3 xz=>?_;have⟨x3,H3,I3,r3,q3⟩:=xz;refine bA (he δ s3 σ H3 _ I3 q3) λv s4 xz=>?_;have⟨x4,H4,I4,r4,q4⟩:=xz;refine bA (hp δ s4 σ H4 x3 x4 old v _ I4 r3 r4 q4) λnew s5 xz=>?_;have⟨x5,H5,I5,r5,q5⟩:=xz;exact bA (hs δ s5 σ H5 x1 x2 x5 ov iv new _ I5 r1 r2 r5 q5) λ_ s6 ⟨H6,I6,q6⟩=>⟨σ,H6,I6,q6⟩
def ipI(f:Int->Int->Int):Uw:=λx y H Q=>∃i j,x= .int i/\y= .int j/\Q (.int (f i j)) H
def OK:YW X .Add (ipI λi j=>i+j):=by intro δ s σ H x y v u Q I r1 r2 h;have⟨i,j,e1,e2,q⟩:=h;subst e1;subst e2;have⟨t,rfl⟩:=r1;have⟨t',rfl⟩:=r2;exact iadd_int ⟨.int _,H,I.tok _,⟨_,rfl⟩,q⟩
end
section
def PB(c:TT)(tb:TS):TS:=λD σ H=>∃W:Nat->St->Hp->Prop,(∃m,W m σ H)/\∀m σ H,W m σ H->
 c σ H λb H1=>if b=true then∃N:St->Hp->Prop,(∀σ' H',N σ' H'->∃m',m' < m/\W m' σ' H')/\tb {D with nx:=N,ct:=N,bk:=D.nx} σ H1 else D.nx σ H1
def HC{tc:TT}{tb:TS}(hp:PassesOwn (model X.prog X.w) X.A X.env X.xe)(hc:PT X c tc)(hb:Gx X body tb):PS X (.While c body [] pos) (PB tc tb):=by
 intro δ s σ H D I h;have⟨W,⟨m0,w0⟩,turn⟩:=h;refine wpAny_While (codeAny_whileLoop (λn s'=>∃σ' H',Inv X δ σ' H' s'/\W n σ' H') ?_ m0 ⟨σ,H,I,w0⟩);rintro n s1 ⟨σ1,H1,I1,w1⟩;refine wpAny_passesOwn hp (bA (hc δ s1 σ1 H1 _ I1 (turn n σ1 H1 w1)) λb s2 xz=>?_);have⟨H2,I2,q2⟩:=xz;cases b with
 | true=>
  have⟨N,hN,q2⟩:=q2;rw[aaq rfl];refine wpAny_passesOwn hp (bA (hb δ s2 σ1 H2 _ I2 q2) λf s3 q3=>?_);cases f with
  | next=>
   have⟨σ3,H3,I3,n3⟩:=q3;have⟨m',hm,w3⟩:=hN σ3 H3 n3;exact⟨m',hm,σ3,H3,I3,w3⟩
  | cont=>
   have⟨σ3,H3,I3,n3⟩:=q3;have⟨m',hm,w3⟩:=hN σ3 H3 n3;exact⟨m',hm,σ3,H3,I3,w3⟩
  | brk=>exact q3
  | ret v=>exact q3
 | false=>
  rw[aau aaB];exact wpAny_execs_nil ⟨σ1,H2,I2,q2⟩
end
structure It where
 go:Nat->Hp->Prop
 Rb:Nat->Hp->V->Hp->Prop
 stop:Nat->Hp->Prop
def qy(X:Cx)(δ:List (Addr×Obj))(H:Hp)(b:Addr):Prop:=
 H b=none/\b≠X.env.locals/\b∉X.fs/\(b∈X.ex\/X.s₀.heap.objs.size<=b)/\(∀x c,X.env.cells.lookup x=some c->c≠b)/\∀p∈X.pn++δ,p.1≠b
def Inv.A2{H H':Hp}(I:Inv X δ σ H s)(hb:s.heap.objs.size<=b)(hn:H' b=none):qy X δ H' b:=by
 refine⟨hn,acz (aaz I.lt hb),I.We hb,.inr (aaw I.sz hb),λx c e z=>?_,λp hp z=>?_⟩
 ·have⟨v,q⟩:=I.cell x c e;exact aay (aaz q.lt (by rw[z];exact hb)) (abJ _)
 ·exact aay (aaz (aat (I.pin p hp).1) (by rw[z];exact hb)) (abJ _)
structure Turn(P:Program)(w:World)(K:fI)(tg:Expr)(J:It)(fp:List Addr)(it:Addr)(tn:Nat->Heap->Prop):Prop where
 mem:it∈fp
 obj:∀i h,tn i h->∀b∈fp,∃o,h.get? b=some o/\∀v,o.data≠ .cell v
 keep:∀i h h',tn i h->(∀b∈fp,∀o,h.get? b=some o->h'.get? b=some o)->tn i h'
 item:∀(X:Cx),X.prog=P->X.w=w->X.K=K->X.calm=true->∀(i:Nat) (δ:List (Addr×Obj)) (s:Shared) (σ:St) (H:Hp) (E:Value->Shared->Prop),Inv X δ σ H s->(∀b∈fp,qy X δ H b)->tn i s.heap->J.go i H->
  wpAny (model P w) X.A (pyNext (.ref it)) (λr s1=>∃u,r=some u/\
   wpAny (model P w) X.A (letOwnedTupleGo tg (.ref it) u) (λ_ s2=>∃x H',Inv X δ σ H' s2/\aB x u/\J.Rb i H x H'/\tn (i+1) s2.heap/\∀b∈fp,H' b=none) E s1) E s
 done:∀(X:Cx),X.prog=P->X.w=w->X.K=K->X.calm=true->∀(i:Nat) (δ:List (Addr×Obj)) (s:Shared) (σ:St) (H:Hp) (E:Value->Shared->Prop),Inv X δ σ H s->(∀b∈fp,qy X δ H b)->tn i s.heap->J.stop i H->
  wpAny (model P w) X.A (pyNext (.ref it)) (λr s1=>r=none/\Inv X δ σ H s1) E s
 self:∀(A:Around) (i:Nat) (s:Shared) (Q:Value->Shared->Prop) (E:Value->Shared->Prop),tn i s.heap->Q (.ref it) s->wpAny (model P w) A (pyIter (.ref it)) Q E s
abbrev TI:=St->Hp->(It->Hp->Prop)->Prop
def Kw(X:Cx)(δ:List (Addr×Obj))(σ:St)(tg:Expr)(R:It->Hp->Prop)(UR:Value)(s2:Shared):Prop:=
 ∃(it:Addr) (fp:List Addr) (tn:Nat->Heap->Prop) (J:It) (H':Hp),UR= .ref it/\Inv X δ σ H' s2/\Turn X.prog X.w X.K tg J fp it tn/\tn 0 s2.heap/\(∀b∈fp,qy X δ H' b)/\R J H'
def PI(X:Cx)(tg iter:Expr)(wi:TI):Prop:=
 ∀(δ:List (Addr×Obj)) (s:Shared) (σ:St) (H:Hp) (R:It->Hp->Prop),Inv X δ σ H s->wi σ H R->
  wpAny (model X.prog X.w) X.A (eval iter X.env) (λv s1=>wpAny (model X.prog X.w) X.A (pyIter v) (Kw X δ σ tg R) X.xe s1) X.xe s
def vm   {E : Value -> Shared -> Prop}   {it : Addr}  {o : Obj} {n : String} {vs : Array Value} {Q : Unit -> Shared -> Prop} (ho : s.heap.get? it = some o) (hc : o.cls = .type n) (hd : o.data = .fields vs)
    (hn : ["enumerate","zip","dict_itemiterator","dict_reverseitemiterator","odict_iterator","itertools.zip_longest","itertools.pairwise"].contains n = false) (hQ : Q Unit.unit s) : wpAny M A (letOwnedTupleGo tg (.ref it) u) Q E s :=by
  unfold letOwnedTupleGo
  cases tg <;> first
    | exact abk hQ
    | (cases u <;> first
        | exact abk hQ
        | (refine aaG (wpAny_load ho ?_)
           rw[hc,hd];show wpAny M A (if (["enumerate","zip","dict_itemiterator","dict_reverseitemiterator","odict_iterator","itertools.zip_longest","itertools.pairwise"].contains n && vs[0]? == some (rawInt _)) = true then _ else _) Q E s;rw[aau (by intro h;rw[hn,Bool.false_and]at h;cases h)]
           exact abk hQ))
def U6(K:fI)(a:Addr):It:=
 ⟨λi H=>∃xs x,gc K H a xs/\xs[i]? =some x,λi H x H'=>H'=H/\∀xs,gc K H a xs->xs[i]? =some x,λi H=>∃xs,gc K H a xs/\xs.length<=i⟩
def Yp(K:fI)(a:Addr):It:=
 ⟨λi H=>∃xs x,mL K H a xs/\xs[i]? =some x,λi H x H'=>H'=H/\∀xs,mL K H a xs->xs[i]? =some x,λi H=>∃xs,mL K H a xs/\xs.length<=i⟩
def QW(lo:Int)(n:Nat):It:=⟨λi _=>i < n,λi H x H'=>H'=H/\x= .int (lo+i),λi _=>n<=i⟩
def Fz{K:fI}(a it:Addr):Turn P w K tg (U6 K a) [it] it (λi h=>h.IsListIter it a i) where
 mem:=by simp
 obj:=λi h st b hb=>by
  have e:b=it:=by simpa using hb
  subst e;have⟨o,e,c,d⟩:=st;exact⟨o,e,λv z=>by rw[d]at z;cases z⟩
 keep:=λi h h' st k=>st.at λo e=>k it (by simp) o e
 item:=by intro X hP hw hK hc i δ s σ H E I hf st hg;subst hP hw hK;have⟨xs,x,hq,hx⟩:=hg;have⟨its,rv,p,hz⟩:=I.list hq;have⟨u,hu,ru⟩:=rv.get hx;have⟨f0,f1,f2,f3,f4,f5⟩:=hf it (by simp);refine wpAny_pyNext_list_item st p.isList (x:=u) (by simpa using hu) λh' xi sb=>?_;have I1:Inv X δ σ H {s with heap:=h'}:=I.turned (t':=s.toks) (λb o hb e=>(sb.2 b hb).trans e) f0 f1 f3 f4 f5;have⟨o,e,c,d⟩:=id xi;exact⟨u,rfl,vm (s:={s with heap:=h'}) e c d @_ ⟨x,H,I1,ru,⟨rfl,λys hy=>by rw[I.cb hy hq];exact hx⟩,xi,λb hb=>(hf b hb).1⟩⟩
 done:=by intro X hP hw hK hc i δ s σ H E I hf st hg;subst hP hw hK;have⟨xs,hq,hx⟩:=hg;have⟨its,rv,p,hz⟩:=I.list hq;have⟨f0,f1,f2,f3,f4,f5⟩:=hf it (by simp);have hl:=rv.length;exact wpAny_pyNext_list_end (I.ok.hd hc) st p.isList (by simp;omega) λh' eb=>⟨rfl,I.turned (t':=s.toks) (λb o hb e=>eb b o hb e) f0 f1 f3 f4 f5⟩
 self:=λ_ _ _ _ _ st h=>wpAny_pyIter_listiter st h
def B5{K:fI}(a it:Addr):Turn P w K tg (Yp K a) [it] it (λi h=>h.IsTupleIter it a i) where
 mem:=by simp
 obj:=λi h st b hb=>by
  have e:b=it:=by simpa using hb
  subst e;have⟨o,e,c,d⟩:=st;exact⟨o,e,λv z=>by rw[d]at z;cases z⟩
 keep:=λi h h' st k=>st.at λo e=>k it (by simp) o e
 item:=by intro X hP hw hK hc i δ s σ H E I hf st hg;subst hP hw hK;have⟨xs,x,hq,hx⟩:=hg;have⟨its,rv,p,hz⟩:=I.tuple hq;have⟨u,hu,ru⟩:=rv.get hx;have⟨f0,f1,f2,f3,f4,f5⟩:=hf it (by simp);refine wpAny_pyNext_tuple_item st (show s.heap.IsTuple a its.toArray from p) (x:=u) (by simpa using hu) λh' xi sb=>?_;have I1:Inv X δ σ H {s with heap:=h'}:=I.turned (t':=s.toks) (λb o hb e=>(sb.2 b hb).trans e) f0 f1 f3 f4 f5;have⟨o,e,c,d⟩:=id xi;exact⟨u,rfl,vm (s:={s with heap:=h'}) e c d @_ ⟨x,H,I1,ru,⟨rfl,λys hy=>by rw[I.kT hy hq];exact hx⟩,xi,λb hb=>(hf b hb).1⟩⟩
 done:=by intro X hP hw hK hc i δ s σ H E I hf st hg;subst hP hw hK;have⟨xs,hq,hx⟩:=hg;have⟨its,rv,p,hz⟩:=I.tuple hq;have⟨f0,f1,f2,f3,f4,f5⟩:=hf it (by simp);have hl:=rv.length;exact wpAny_pyNext_tuple_end (I.ok.hd hc) st (show s.heap.IsTuple a its.toArray from p) (by simp;omega) λh' eb=>⟨rfl,I.turned (t':=s.toks) (λb o hb e=>eb b o hb e) f0 f1 f3 f4 f5⟩
 self:=λ_ _ _ _ _ st h=>wpAny_pyIter_tupleiter st h
def AZ{K:fI}(it:Addr)(lo:Int)(n:Nat):Turn P w K tg (QW lo n) [it] it (λi h=>IsRangeIter h it (lo+(i:Nat) * 1) ((n:Int) - (i:Nat)) 1) where
 mem:=by simp
 obj:=λi h st b hb=>by
  have e:b=it:=by simpa using hb
  subst e
  exact⟨_,st,λv z=>by
   have z':Data.fields _=Data.cell v:=z
   cases z'⟩
 keep:=λi h h' st k=>k it (by simp) _ st
 item:=by intro X hP hw hK hc i δ s σ H E I hf st hg;subst hP hw hK;have⟨f0,f1,f2,f3,f4,f5⟩:=hf it (by simp);have W:=Walks.range (prog:=X.prog) (w:=X.w) (I.ok.hd hc) it lo 1 n;refine W.item i s _ _ hg st λv h' tk hv xi kk=>?_;have⟨t,rfl⟩:=hv;have I1:Inv X δ σ H {s with heap:=h',toks:=tk}:=I.turned (λb o hb e=>kk b o (by simpa using hb) e) f0 f1 f3 f4 f5;refine⟨_,rfl,vm (s:={s with heap:=h',toks:=tk}) (n:="range_iterator") xi rfl rfl @_ ⟨.int (lo+i),H,I1,⟨t,?_⟩,⟨rfl,rfl⟩,xi,λb hb=>(hf b hb).1⟩⟩;rw[Int.mul_one]
 done:=by intro X hP hw hK hc i δ s σ H E I hf st hg;subst hP hw hK;have⟨f0,f1,f2,f3,f4,f5⟩:=hf it (by simp);exact wpAny_pyNext_range_end (I.ok.hd hc) st (by have:n<=i:=hg;omega) λh' eb=>⟨rfl,I.turned (t':=s.toks) (λb o hb e=>eb b o hb e) f0 f1 f3 f4 f5⟩
 self:=λ_ _ _ _ _ st h=>wpAny_pyIter_rangeiter st h
section
def yZ{H:Hp}{R:It->Hp->Prop}{lo hi:Int}{t u v:Tok}{tk:Nat}(I:Inv X δ σ H s)(h1: -(2 ^ 62)<=lo)(h2:lo < 2 ^ 62)(h3: -(2 ^ 62)<=hi)(h4:hi < 2 ^ 62)
  (q:R (QW lo (hi - lo).toNat) H):wpAny (model X.prog X.w) X.A (pyIter (.ref s.heap.objs.size)) (Kw X δ σ tg R) E {s with heap:=s.heap.push {cls:=.type "range",data:=.fields #[.int lo t,.int hi u,.int 1 v]},toks:=tk}:=by
 refine wpAny_pyIter_range (IsRange.new ..) (small_one h1 h2 h3 h4) ?_;have I1:Inv X δ σ H {s with heap:=s.heap.push {cls:=.type "range",data:=.fields #[.int lo t,.int hi u,.int 1 v]},toks:=tk}:=I.kept λb o e=>aam _ e
 refine⟨(s.heap.push {cls:=.type "range",data:=.fields #[.int lo t,.int hi u,.int 1 v]}).objs.size,[(s.heap.push {cls:=.type "range",data:=.fields #[.int lo t,.int hi u,.int 1 v]}).objs.size],_,_,H,rfl,
  I1.kept (t':=tk) λb o e=>aam _ e,AZ _ lo (hi - lo).toNat,?_,λb hb=>?_,q⟩
 ·have e1:lo+((0:Nat):Int) * 1=lo:=by simp
  have e2:(((hi - lo).toNat:Nat):Int) - ((0:Nat):Int)=Builtin.Range.rangeSize lo hi 1:=by rw[rangeSize_one];split <;> omega
  show IsRangeIter _ _ (lo+((0:Nat):Int) * 1) ((((hi - lo).toNat:Nat):Int) - ((0:Nat):Int)) 1;rw[e1,e2];exact aaS _ rfl
 ·have e:b=(s.heap.push {cls:=.type "range",data:=.fields #[.int lo t,.int hi u,.int 1 v]}).objs.size:=by simpa using hb
  subst e;exact I1.A2 (aaj _) (I1.aX.fresh (aaj _))
def R5(ta:TA):TI:=λσ H R=>ta σ H λvs H1=>∃j:Int,vs=[.int j]/\ -(2 ^ 62)<=j/\j < 2 ^ 62/\R (QW 0 j.toNat) H1
def RZ(ta:TA):TI:=λσ H R=>ta σ H λvs H1=>∃i j:Int,vs=[.int i,.int j]/\(-(2 ^ 62)<=i/\i < 2 ^ 62/\ -(2 ^ 62)<=j/\j < 2 ^ 62)/\R (QW i (j - i).toNat) H1
def Fc{a:Expr}{ta:TA}{p:Pos}(hg:Gl X "range")(hm:X.mg "range"=none)(ha:PA X [a] ta)(hs:starEach [a] X.env=[(false,eval a X.env)]:=by rfl):PI X tg (.Call (.Name "range" p) [a] [] pos) (R5 ta):=by
 intro δ s σ H R I h;refine Call_ (pd I hg hm boot_range (PyProof.Rows.callWith_type1 (bA (ha pos δ s σ H _ I h) λus s1 xz=>?_) hs rfl));have⟨vs,H1,I1,r1,q1⟩:=xz;have⟨j,e,q1,q2,q⟩:=q1;subst e;cases r1 with
 | cons r rr=>
  cases rr;have⟨t,rfl⟩:=r;exact call_range_1 (yZ I1 () () q1 q2 (by simpa using q))
def EM{a b:Expr}{ta:TA}{p:Pos}(hg:Gl X "range")(hm:X.mg "range"=none)(ha:PA X [a,b] ta)(hs:starEach [a,b] X.env=[(false,eval a X.env),(false,eval b X.env)]:=by rfl)(O5:starEach [b] X.env=[(false,eval b X.env)]:=by rfl):
  PI X tg (.Call (.Name "range" p) [a,b] [] pos) (RZ ta):=by
 intro δ s σ H R I h;refine Call_ (pd I hg hm boot_range (PyProof.Rows.callWith_type1 (bA (ha pos δ s σ H _ I h) fun us s1 ⟨vs,H1,I1,r1,q1⟩=>?_) (by rw[hs,O5]) (by rw[O5];rfl)));have⟨i,j,e,⟨q1,q2,q3,q4⟩,q⟩:=q1;subst e;cases r1 with
 | cons r rr=>
  cases rr with
  | cons r' rr=>
   cases rr;have⟨t,rfl⟩:=r;have⟨t',rfl⟩:=r';exact call_range_2 (yZ I1 q1 q2 q3 q4 q)
def VZ(wi:TI)(g:TG)(tb:TS):TS:=λD σ H=>wi σ H λJ H1=>∃W:Nat->Nat->St->Hp->Prop,(∃m,W 0 m σ H1)/\∀i m σ H,W i m σ H->
 (J.stop i H/\D.nx σ H)\/(J.go i H/\∃N:St->Hp->Prop,(∀σ' H',N σ' H'->∃m',m' < m/\W (i+1) m' σ' H')/\∀x H',J.Rb i H x H'->g x σ H' λσ2 H2=>tb {D with nx:=N,ct:=N,bk:=D.nx} σ2 H2)
def ym(fp:List Addr)(h:Heap):List (Addr×Obj):=fp.filterMap λb=>(h.get? b).map λo=>(b,o)
def e9{o:Obj}(hb:b∈fp)(e:h.get? b=some o):(b,o)∈ym fp h:=acq.mpr ⟨b,hb,by rw[e];rfl⟩
def Fj{p:Addr×Obj}(hp:p∈ym fp h):p.1∈fp/\h.get? p.1=some p.2:=by
 have⟨b,hb,e⟩:=acq.mp hp;cases q:h.get? b with
 | none=>rw[q]at e;cases e
 | some o=>
  rw[q]at e;have e':(b,o)=p:=aao e;subst e';exact⟨hb,q⟩
def Inv.pinned{H:Hp}(I:Inv X δ σ H s)(hf:∀b∈fp,qy X δ H b)(ho:∀b∈fp,∃o,s.heap.get? b=some o/\∀v,o.data≠ .cell v):Inv X (δ++ym fp s.heap) σ H s:=
 I.C8 λp hp=>(aaR.mp hp).elim (λz=>I.pin p (aaA _ z)) λz=>by have⟨hb,e⟩:=Fj z;have⟨f0,f1,f2,_⟩:=hf p.1 hb;have⟨o,e',d⟩:=ho p.1 hb;rw[e]at e';cases e';exact⟨e,f0,f1,f2,d⟩
def Inv.jD{pl:List (Addr×Obj)}{H:Hp}(I:Inv X (δ++pl) σ H s):Inv X δ σ H s:=I.C8 λp hp=>I.pin p (aaA _ (List.mem_append_left _ hp))
def A3{iter:Expr}{wi:TI}{g:TG}{tb:TS}(hp:PassesOwn (model X.prog X.w) X.A X.env X.xe)(hc:X.calm=true)(hi:PI X tg iter wi)(hg:PG X tg g)(hb:Gx X body tb)
  (hs:∀x,foldedSetIterable iter X.env x=pure x:=by intro _;rfl):PS X (.For tg iter body [] pos) (VZ wi g tb):=by
 intro δ s σ H D I h;refine wpAny_For (bA (hi δ s σ H _ I h) λv s1 h1=>bA h1 λUR s2 h2=>?_) hs;have⟨it,fp,tn,J,H2,e,I2,T,st2,f2,W,⟨m0,w0⟩,turn⟩:=h2;subst e;have OE:∀{H':Hp},(∀b∈fp,H' b=none)->∀b∈fp,qy X δ H' b:=λhn b hb=>⟨hn b hb,(f2 b hb).2⟩;refine codeAny_forLoop_any (λn s'=>∃i σ' H',Inv X δ σ' H' s'/\tn i s'.heap/\(∀b∈fp,H' b=none)/\W i n σ' H') ?_ m0 ⟨0,σ,H2,I2,st2,λb hb=>(f2 b hb).1,w0⟩;rintro n s3 ⟨i,σ3,H3,I3,YQ,ZS,w3⟩;rcases turn i n σ3 H3 w3 with ⟨stop,qn⟩| ⟨go,N,hN,step⟩
 ·refine wpAny_passesOwn hp (bA (T.done X rfl rfl rfl hc i δ s3 σ3 H3 X.xe I3 (OE ZS) YQ stop) λr s4 xz=>?_);have⟨hr,I4⟩:=xz;subst hr;exact wpAny_execs_nil ⟨σ3,H3,I4,qn⟩
 ·refine wpAny_passesOwn hp (bA (T.item X rfl rfl rfl hc i δ s3 σ3 H3 X.xe I3 (OE ZS) YQ go) λr s4 xz=>?_);have⟨u,hr,h4⟩:=xz;subst hr;refine wpAny_passesOwn hp (bA h4 λ_ s5 xz=>?_);have⟨x,H5,I5,r5,y5,Xg,UH⟩:=xz;have I5':=I5.pinned (OE UH) (T.obj _ _ Xg);refine wpAny_passesOwn hp (bA (hg _ s5 σ3 H5 x u _ I5' r5 (step x H5 y5)) λ_ s6 xz=>?_);have⟨σ6,H6,I6,q6⟩:=xz;refine wpAny_passesOwn hp (bA (hb _ s6 σ6 H6 _ I6 q6) λf s7 q7=>?_);have again:∀{σ7:St} {H7:Hp},Inv X (δ++ym fp s5.heap) σ7 H7 s7->N σ7 H7->∃m,m < n/\∃i σ' H',Inv X δ σ' H' s7/\tn i s7.heap/\(∀b∈fp,H' b=none)/\W i m σ' H':=λ{σ7 H7} I7 n7=>by have⟨m',hm,w7⟩:=hN σ7 H7 n7;refine⟨m',hm,i+1,σ7,H7,I7.jD,T.keep _ _ _ Xg λb hb o e=>(I7.pin (b,o) (aaA _ (aaA _ (e9 hb e)))).1,λb hb=>?_,w7⟩;have⟨o,e,d⟩:=T.obj _ _ Xg b hb;exact(I7.pin (b,o) (aaA _ (aaA _ (e9 hb e)))).2.1
  cases f with
  | next=>have⟨σ7,H7,I7,n7⟩:=q7;exact again I7 n7
  | cont=>have⟨σ7,H7,I7,n7⟩:=q7;exact again I7 n7
  | brk=>have⟨σ7,H7,I7,q7⟩:=q7;exact⟨σ7,H7,I7.jD,q7⟩
  | ret v=>have⟨x7,σ7,H7,I7,r7,q7⟩:=q7;exact⟨x7,σ7,H7,I7.jD,r7,q7⟩
end
abbrev R2:=V->V->Hp->VK->Prop
def jQ(X:Cx)(f:Value->Value->Sem Value)(r:R2):Prop:=
 ∀(δ:List (Addr×Obj)) (s:Shared) (σ:St) (H:Hp) (x y:V) (v u:Value) (Q:VK),Inv X δ σ H s->aB x v->aB y u->r x y H Q->
  wpAny (model X.prog X.w) X.A (f v u) (EP X δ σ Q) X.xe s
def U7(X:Cx)(f:Value->Sem Value)(r:V->Hp->VK->Prop):Prop:=
 ∀(δ:List (Addr×Obj)) (s:Shared) (σ:St) (H:Hp) (x:V) (v:Value) (Q:VK),Inv X δ σ H s->aB x v->r x H Q->
  wpAny (model X.prog X.w) X.A (f v) (EP X δ σ Q) X.xe s
def dY(X:Cx)(f:Value)(r:List V->Hp->VK->Prop):Prop:=
 ∀(δ:List (Addr×Obj)) (s:Shared) (σ:St) (H:Hp) (xs:List V) (us:List Value) (Q:VK),Inv X δ σ H s->ay xs us->r xs H Q->
  wpAny (model X.prog X.w) X.A (call f us) (EP X δ σ Q) X.xe s
def S4(r:R2)(ta tb:TE):TE:=λσ H Q=>ta σ H λx H1=>tb σ H1 λy H2=>r x y H2 Q
def YN(r:V->Hp->VK->Prop)(ta:TE):TE:=λσ H Q=>ta σ H λx H1=>r x H1 Q
def rI(C:Int->Int->Prop)(g:Int->Int->V):R2:=λx y H Q=>∃i j,x= .int i/\y= .int j/\C i j/\Q (g i j) H
def Ey(g:Int->Int->V):R2:=λx y H Q=>∃i j,x= .int i/\y= .int j/\Q (g i j) H
def rU(g:Int->V):V->Hp->VK->Prop:=λx H Q=>∃i,x= .int i/\Q (g i) H
section
variable{a b:Expr}{tb tc:TE}
def Qk(ha:PE X a ta)(hb:PE X b tb){H:Hp}{R:V->V->Hp->Prop}(I:Inv X δ σ H s)
  (h:ta σ H λx H1=>tb σ H1 λy H2=>R x y H2)
  (hf:∀v u s2 x y H2,Inv X δ σ H2 s2->aB x v->aB y u->R x y H2->wpAny (model X.prog X.w) X.A (f v u) Q X.xe s2):
  wpAny (model X.prog X.w) X.A (eval a X.env) (λv s₁=>wpAny (model X.prog X.w) X.A (eval b X.env) (λu s₂=>wpAny (model X.prog X.w) X.A (f v u) Q X.xe s₂) X.xe s₁) X.xe s:=by
 refine bA (ha δ s σ H _ I h) λv s1 xz=>?_;have⟨x,H1,I1,r1,q1⟩:=xz;refine bA (hb δ s1 σ H1 _ I1 q1) λu s2 xz=>?_;have⟨y,H2,I2,r2,q2⟩:=xz;exact hf v u s2 x y H2 I2 r1 r2 q2
def RQ{op:Operator}{r:R2}(ho:jQ X (binaryOp op) r)(ha:PE X a ta)(hb:PE X b tb):PE X (.BinOp a op b pos) (S4 r ta tb):=by intro δ s σ H Q I h;exact wpAny_BinOp (Qk ha hb I h λv u s2 x y H2 I2 rx ry q=>ho δ s2 σ H2 x y v u Q I2 rx ry q)
def RM{op:UnaryOp}{r:V->Hp->VK->Prop}(ho:U7 X (unaryOp op) r)(ha:PE X a ta):PE X (.UnaryOp op a pos) (YN r ta):=by intro δ s σ H Q I h;exact UnaryOp_ (bA (ha δ s σ H _ I h) λv s1 ⟨x,H1,I1,r1,q1⟩=>ho δ s1 σ H1 x v Q I1 r1 q1)
def UP{C:Int->Int->Prop}{g:Int->Int->Int}
  (rule:∀(i j:Int) (t u:Tok) (s:Shared) (Q:Value->Shared->Prop) (E:Value->Shared->Prop),C i j->Q (.int (g i j) s.toks) {s with toks:=s.toks+1}->wpAny (model X.prog X.w) X.A (f (.int i t) (.int j u)) Q E s):
  jQ X f (rI C λi j=>.int (g i j)):=by
 intro δ s σ H x y v u Q I rx ry h;have⟨i,j,rfl,rfl,hc,q⟩:=h;have⟨t,rfl⟩:=rx;have⟨t',rfl⟩:=ry;exact rule i j t t' s _ _ hc ⟨.int (g i j),H,I.tok _,⟨_,rfl⟩,q⟩
def TX{g:Int->Int->Int}
  (rule:∀(i j:Int) (t u:Tok) (s:Shared) (Q:Value->Shared->Prop) (E:Value->Shared->Prop),Q (.int (g i j) s.toks) {s with toks:=s.toks+1}->wpAny (model X.prog X.w) X.A (f (.int i t) (.int j u)) Q E s):
  jQ X f (Ey λi j=>.int (g i j)):=by
 intro δ s σ H x y v u Q I rx ry h;have⟨i,j,rfl,rfl,q⟩:=h;have⟨t,rfl⟩:=rx;have⟨t',rfl⟩:=ry;exact rule i j t t' s _ _ ⟨.int (g i j),H,I.tok _,⟨_,rfl⟩,q⟩
def LX{g:Int->Int->Bool}
  (rule:∀(i j:Int) (t u:Tok) (s:Shared) (Q:Value->Shared->Prop) (E:Value->Shared->Prop),Q (.bool (g i j)) s->wpAny (model X.prog X.w) X.A (f (.int i t) (.int j u)) Q E s):
  jQ X f (Ey λi j=>.bl (g i j)):=by
 intro δ s σ H x y v u Q I rx ry h;have⟨i,j,rfl,rfl,q⟩:=h;have⟨t,rfl⟩:=rx;have⟨t',rfl⟩:=ry;exact rule i j t t' s _ _ ⟨.bl (g i j),H,I,rfl,q⟩
def yp(i j:Int):Prop:=0<=j/\j<=1000000/\i.natAbs < 2 ^ 64
def OV:jQ X (binaryOp .Add) (Ey λi j=>.int (i+j)):=TX λ_ _ _ _ _ _ _ q=>add_int q
def OM:jQ X (binaryOp .Sub) (Ey λi j=>.int (i - j)):=TX λ_ _ _ _ _ _ _ q=>sub_int q
def N4:jQ X (binaryOp .Mod) (rI (λ_ j=>0 < j) λi j=>.int (i % j)):=UP λi j _ _ _ _ _ hc q=>by have h1:(0:Int) < j:=hc;exact mod_int' () (by rw[abP i ()];exact q)
def Pm:jQ X (binaryOp .Pow) (rI yp λi j=>.int (i ^ j.toNat)):=UP λ_ _ _ _ _ _ _ hc q=>pow_int_small hc.1 hc.2.1 hc.2.2 q
def unI{f:Value->Sem Value}{g:Int->Int}
  (rule:∀(i:Int) (t:Tok) (s:Shared) (Q:Value->Shared->Prop) (E:Value->Shared->Prop),Q (.int (g i) s.toks) {s with toks:=s.toks+1}->wpAny (model X.prog X.w) X.A (f (.int i t)) Q E s):
  U7 X f (rU λi=>.int (g i)):=by
 intro δ s σ H x v Q I rx h;have⟨i,rfl,q⟩:=h;have⟨t,rfl⟩:=rx;exact rule i t s _ _ ⟨.int (g i),H,I.tok _,⟨_,rfl⟩,q⟩
def Oo:U7 X (unaryOp .USub) (rU λi=>.int (-i)):=unI λ_ _ _ _ _ q=>neg_int q
end
def RP:V->V->Bool
 | .aY,.aY=>true| .aY,.int _=>true| .int _,.aY=>true| .aY,.bl _=>true| .bl _,.aY=>true| .aY,.str _=>true| .str _,.aY=>true
 | .int _,.int _=>true| .bl _,.bl _=>true| .str _,.str _=>true| .GA _,.GA _=>true
 | .int _,.str _=>true| .str _,.int _=>true| .bl _,.str _=>true| .str _,.bl _=>true
 | _,_=>false
def Y8:R2:=λx y H Q=>RP x y=true/\Q (.bl (decide (x=y))) H
def Y6:R2:=λx y H Q=>RP x y=true/\Q (.bl (!decide (x=y))) H
def DB{i j:Int}:decide (V.int i=V.int j)=(i==j):=by rw[ab4];simp
def JD{i j:Bool}:decide (V.bl i=V.bl j)=(i==j):=by rw[ab4];simp
def C1{i j:Str}:decide (V.str i=V.str j)=(i==j):=by rw[ab4];simp
def Dz{i j:Array UInt8}:decide (V.GA i=V.GA j)=(i.toList==j.toList):=by rw[ab4];cases i;cases j;simp
section
variable{a b:Expr}{tb tc:TE}
def aI{H:Hp}{Q:VK}{k k':Bool}(I:Inv X δ σ H s)(q:Q (.bl k) H)(e:k=k'):EP X δ σ Q (.bool k') s:=by subst e;exact⟨.bl k,H,I,rfl,q⟩
def MV:jQ X (compareOp .Eq) Y8:=by
 intro δ s σ H x y v u Q I rx ry h;have⟨hs,q⟩:=h;cases x with
 | aY=>
  cases rx;cases y with
  | aY=>cases ry;exact PySem.EqNone.eq_none_none (aI I q (by simp))
  | bl j=>cases ry;exact PySem.EqNone.eq_none_bool (aI I q (by simp))
  | int j=>have⟨t',rfl⟩:=ry;exact PySem.EqNone.eq_none_int (aI I q (by simp))
  | str j=>have⟨t',rfl⟩:=ry;exact PySem.EqNone.eq_none_str (aI I q (by simp))
  | _=>exact aay (show false=true from hs) aaB
 | bl i=>
  cases rx;cases y with
  | aY=>cases ry;exact PySem.EqNone.eq_bool_none (aI I q (by simp))
  | bl j=>cases ry;exact eq_bool (aI I q JD)
  | str j=>have⟨t',rfl⟩:=ry;exact PySem.EqMixed.eq_bool_str (aI I q (by simp))
  | _=>exact aay (show false=true from hs) aaB
 | int i=>
  have⟨t,rfl⟩:=rx;cases y with
  | aY=>cases ry;exact PySem.EqNone.eq_int_none (aI I q (by simp))
  | int j=>have⟨t',rfl⟩:=ry;exact eq_int (aI I q DB)
  | str j=>have⟨t',rfl⟩:=ry;exact PySem.EqMixed.eq_int_str (aI I q (by simp))
  | _=>exact aay (show false=true from hs) aaB
 | str i=>
  have⟨t,rfl⟩:=rx;cases y with
  | aY=>cases ry;exact PySem.EqNone.eq_str_none (aI I q (by simp))
  | bl j=>cases ry;exact PySem.EqMixed.eq_str_bool (aI I q (by simp))
  | int j=>have⟨t',rfl⟩:=ry;exact PySem.EqMixed.eq_str_int (aI I q (by simp))
  | str j=>have⟨t',rfl⟩:=ry;exact eq_str (aI I q C1)
  | _=>exact aay (show false=true from hs) aaB
 | GA i=>
  have⟨t,rfl⟩:=rx;cases y with
  | GA j=>have⟨t',rfl⟩:=ry;exact PySem.W.eq_bytes (aI I q Dz)
  | _=>exact aay (show false=true from hs) aaB
 | _=>cases y <;> exact aay (show false=true from hs) aaB
def T1:jQ X (compareOp .NotEq) Y6:=by
 intro δ s σ H x y v u Q I rx ry h;have⟨hs,q⟩:=h;cases x with
 | aY=>
  cases rx;cases y with
  | aY=>cases ry;exact PySem.EqNone.ne_none_none (aI I q (by simp))
  | bl j=>cases ry;exact PySem.EqNone.ne_none_bool (aI I q (by simp))
  | int j=>have⟨t',rfl⟩:=ry;exact PySem.EqNone.ne_none_int (aI I q (by simp))
  | str j=>have⟨t',rfl⟩:=ry;exact PySem.EqNone.ne_none_str (aI I q (by simp))
  | _=>exact aay (show false=true from hs) aaB
 | bl i=>
  cases rx;cases y with
  | aY=>cases ry;exact PySem.EqNone.ne_bool_none (aI I q (by simp))
  | bl j=>cases ry;exact ne_bool (aI I q (aaM not JD))
  | str j=>have⟨t',rfl⟩:=ry;exact PySem.EqMixed.ne_bool_str (aI I q (by simp))
  | _=>exact aay (show false=true from hs) aaB
 | int i=>
  have⟨t,rfl⟩:=rx;cases y with
  | aY=>cases ry;exact PySem.EqNone.ne_int_none (aI I q (by simp))
  | int j=>have⟨t',rfl⟩:=ry;exact ne_int (aI I q (aaM not DB))
  | str j=>have⟨t',rfl⟩:=ry;exact PySem.EqMixed.ne_int_str (aI I q (by simp))
  | _=>exact aay (show false=true from hs) aaB
 | str i=>
  have⟨t,rfl⟩:=rx;cases y with
  | aY=>cases ry;exact PySem.EqNone.ne_str_none (aI I q (by simp))
  | bl j=>cases ry;exact PySem.EqMixed.ne_str_bool (aI I q (by simp))
  | int j=>have⟨t',rfl⟩:=ry;exact PySem.EqMixed.ne_str_int (aI I q (by simp))
  | str j=>have⟨t',rfl⟩:=ry;exact ne_str (aI I q (aaM not C1))
  | _=>exact aay (show false=true from hs) aaB
 | GA i=>
  have⟨t,rfl⟩:=rx;cases y with
  | GA j=>have⟨t',rfl⟩:=ry;exact PySem.W.ne_bytes (aI I q (aaM not Dz))
  | _=>exact aay (show false=true from hs) aaB
 | _=>cases y <;> exact aay (show false=true from hs) aaB
def Nd:jQ X (compareOp .Lt) (Ey λi j=>.bl (decide (i < j))):=LX λ_ _ _ _ _ _ _ q=>lt_int q
def NS:jQ X (compareOp .LtE) (Ey λi j=>.bl (decide (i<=j))):=LX λ_ _ _ _ _ _ _ q=>le_int q
def NC:jQ X (compareOp .Gt) (Ey λi j=>.bl (decide (j < i))):=LX λ_ _ _ _ _ _ _ q=>gt_int q
def NA:jQ X (compareOp .GtE) (Ey λi j=>.bl (decide (j<=i))):=LX λ_ _ _ _ _ _ _ q=>ge_int q
def N3:jQ X (compareOp .Is) (λx y H Q=>y= .aY/\Q (.bl (decide (x= .aY))) H):=by
 intro δ s σ H x y v u Q I rx ry h;have⟨rfl,q⟩:=h;cases ry;refine is_none_gen (aI I q ?_)
 cases x <;> first
  | (cases rx;rfl)
  | (have⟨t,rfl⟩:=rx;rfl)
def DC:jQ X (compareOp .IsNot) (λx y H Q=>y= .aY/\Q (.bl (!decide (x= .aY))) H):=by
 intro δ s σ H x y v u Q I rx ry h;have⟨rfl,q⟩:=h;cases ry;refine isnot_none_gen (aI I q ?_)
 cases x <;> first
  | (cases rx;rfl)
  | (have⟨t,rfl⟩:=rx;rfl)
def jQ.or{r r':R2}(h:jQ X f r)(h':jQ X f r'):jQ X f (λx y H Q=>r x y H Q\/r' x y H Q):=by
 intro δ s σ H x y v u Q I rx ry q;rcases q with q| q
 ·exact h δ s σ H x y v u Q I rx ry q
 ·exact h' δ s σ H x y v u Q I rx ry q
def eD(b:Expr)(h:op≠ .In:=by decide)(h2:op≠ .NotIn:=by decide):behindInMarks op b=false:=by
 have e1:(op==CmpOp.In)=false:=by cases op <;> first| rfl| exact aay rfl h
 have e2:(op==CmpOp.NotIn)=false:=by cases op <;> first| rfl| exact aay rfl h2
 cases b <;> simp[behindInMarks,e1,e2]
def Lg{r:R2}(ho:jQ X (compareOp op) r)(ha:PE X a ta)(hb:PE X b tb)(hm:behindInMarks op b=false):PE X (.Compare a [op] [b] pos) (S4 r ta tb):=by intro δ s σ H Q I h;exact wpAny_Compare1 (Qk ha hb I h λv u s2 x y H2 I2 rx ry q=>ho δ s2 σ H2 x y v u Q I2 rx ry q) hm
def TK(t:TE):TT:=λσ H Q=>t σ H λx H'=>∃k,x= .bl k/\Q k H'
def Mm{r:R2}(ho:jQ X (compareOp op) r)(ha:PE X a ta)(hb:PE X b tb)(hm:behindInMarks op b=false):PT X (.Compare a [op] [b] pos) (TK (S4 r ta tb)):=by
 intro δ s σ H Q I h
 refine wpAny_isTrue_Compare1 (bA (ha δ s σ H _ I h) fun v s1 ⟨x,H1,I1,r1,q1⟩=>bA (hb δ s1 σ H1 _ I1 q1) fun u s2 ⟨y,H2,I2,r2,q2⟩=>
  bA (ho δ s2 σ H2 x y v u _ I2 r1 r2 q2) fun c s3 ⟨z,H3,I3,r3,k,e,q3⟩=>?_) hm
 subst e;cases r3;exact wpAny_truthy_bool ⟨H3,I3,q3⟩
def n_:(sizeLine:Nat) < 2 ^ 63:=by rw[sizeLine_eq];decide
def AI:jQ X (binaryOp .Add) (λx y H Q=>∃i j,x= .str i/\y= .str j/\i.length+j.length<=sizeLine/\Q (.str (i++j)) H):=by intro δ s σ H x y v u Q I rx ry h;have⟨i,j,rfl,rfl,hz,q⟩:=h;have⟨t,rfl⟩:=rx;have⟨t',rfl⟩:=ry;exact add_str (λt' tk=>⟨.str (i++j),H,I.tok _,⟨_,rfl⟩,q⟩) hz
def kr{x:V}(r:ay [x] us):∃u,us=[u]/\aB x u:=by
 cases r with
 | cons r1 r2=>cases r2;exact⟨_,rfl,r1⟩
def Ud{x y:V}(r:ay [x,y] us):∃u w',us=[u,w']/\aB x u/\aB y w':=by
 cases r with
 | cons r1 r2=>
  cases r2 with
  | cons r3 r4=>cases r4;exact⟨_,_,rfl,r1,r3⟩
def JH:dY X (.builtin "abs") (λxs H Q=>∃i,xs=[.int i]/\Q (.int (if i < 0 then -i else i)) H):=by intro δ s σ H xs us Q I r h;have⟨i,rfl,q⟩:=h;have⟨u,rfl,t,rfl⟩:=kr r;exact call_abs_int λu tk=>⟨.int (if i < 0 then -i else i),H,I.tok _,⟨_,rfl⟩,q⟩
def ES(hc:X.calm=true):dY X (.builtin "min") (λxs H Q=>∃i j,xs=[.int i,.int j]/\Q (.int (if j < i then j else i)) H):=by
 intro δ s σ H xs us Q I r h;have⟨i,j,rfl,q⟩:=h;have⟨u,w',rfl,⟨t,rfl⟩,⟨t',rfl⟩⟩:=Ud r;refine min_two_ints (I.ok.hd hc) λh' tk k=>⟨_,H,I.kept k,?_,q⟩;by_cases hj:j < i
 ·rw[aaq hj,aaq hj];exact⟨_,rfl⟩
 ·rw[aau hj,aau hj];exact⟨_,rfl⟩
def FO:dY X (.type "int") (λxs H Q=>(∃i,xs=[.int i]/\Q (.int i) H)\/∃k,xs=[.bl k]/\Q (.int (if k then 1 else 0)) H):=by
 intro δ s σ H xs us Q I r h;rcases h with ⟨i,rfl,q⟩| ⟨k,rfl,q⟩
 ·have⟨u,rfl,t,rfl⟩:=kr r;exact call_int_int ⟨.int i,H,I,⟨_,rfl⟩,q⟩
 ·have⟨u,rfl,r1⟩:=kr r;cases r1;exact call_int_bool ⟨.int (if k then 1 else 0),H,I.tok _,⟨_,rfl⟩,q⟩
end
structure B7(h:Heap)(x dx C:Addr)(mA:Str->Option Value):Prop where
 obj:h.get? x=some (PySem.W.instObj C dx)
 ns:h.Ns1 dx mA
 ne:dx≠x
def EI(n:h.Ns1 dx mA):∃od,h.get? dx=some od/\∀name,PySem.W.lookIn name od=some (mA name):=by
 have⟨o,es,ep,ho,hd,hk,_,hm⟩:=n;refine⟨o,ho,λname=>?_⟩;have e:=hm name;unfold nsFind findBy at e;rw[<-Array.find?_toList]at e;unfold PySem.W.lookIn;rw[hd];dsimp only;split
 ·rename_i y q;rw[q]at e;exact aaM some e
 ·rename_i q;rw[q]at e;have a:es.toList.any (·.refKey)=false:=by rw[List.any_eq_false];intro y hy;have⟨z,t,XU⟩:=hk y (Array.mem_toList_iff.mp hy);simp[DictEntry.refKey,XU]
  have a':¬es.toList.any (·.refKey)=true:=by rw[a];exact aaB
  rw[aau a'];exact aaM some e
def B7.look{x:Addr}(I:B7 h x dx C mA):∃od,PySem.W.InstAt h x (PySem.W.instObj C dx) C (some od)/\∀name,PySem.W.lookIn name od=some (mA name):=
 let ⟨od,ho,hl⟩:=EI I.ns
 ⟨od,⟨I.obj,rfl,rfl,ho⟩,hl⟩
section
variable{K:fI}{x f:Addr}{name:Str}{v:Value}
def qv{expr:Bool}(X:K.In s.heap)(I:B7 s.heap x dx C mA)(hg:PySem.W.plainGet K C name=true)(hh:PySem.W.hasDictIn K C=true)
  (ha:PySem.W.findIn K (.ref C) name=some none) (hv:mA name=some v) (hv':PySem.W.handedIn v=true) (h:Q v {s with toks:=s.toks+1}):
  wpAny (model prog w) A (getAttr (.ref x) name expr) Q E s:=by
 have⟨od,J,hl⟩:=I.look;exact PySem.W.get_value X J (PySem.W.plainGet_of hg).1 (PySem.W.findObj_own hh ha rfl (by rw[hl,hv])) hv' h
def Hr{pl:Sem Bool}{Q:Value×List Value->Shared->Prop}(X:K.In s.heap)(I:B7 s.heap x dx C mA)(hg:PySem.W.plainGet K C name=true)
  (hf:PySem.W.findIn K (.ref C) name=some (some (.ref f))) (ht:PySem.W.isFn K (.ref f)=true) (hv:mA name=none) (h:Q (.ref f,[.ref x]) s):
  wpAny (model prog w) A (getMethod (.ref x) name pl) Q E s:=by
 have⟨od,J,hl⟩:=I.look;exact PySem.W.method_fn X J (PySem.W.plainGet_of hg).1 (PySem.W.plainGet_of hg).2 hf (ack.mp ht) (by show(PySem.W.lookIn name od).map (·.isSome)=some false;rw[hl,hv];rfl) h
def KI{ns:List Str}{Q:Unit->Shared->Prop}(X:K.In s.heap)(I:B7 s.heap x dx C mA)
  (hs:PySem.W.findIn K (.ref C) "__setattr__"=some (some (.builtin "object.__setattr__"))) (hp:PySem.W.plainOver K C=true) (ht:PySem.W.takerIn K C name=some none) (hh:PySem.W.hasDictIn K C=true)
  (hw:PySem.Within mA ns) (hsz:ns.length<=sizeLine)
  (h:∀h',B7 h' x dx C (λy=>if y=name then some v else mA y)->Heap.SameBut dx s.heap h'->Q Unit.unit {s with heap:=h',toks:=s.toks+2}):
  wpAny (model prog w) A (setAttr (.ref x) name v) Q E s:=by
 have⟨od,J,hl⟩:=I.look;refine PySem.W.set_plain X J hs (PySem.W.osa_open (s:={s with toks:=s.toks+1}) (r:=none) X J hp ht λb=>?_);have⟨cd,hc,FX⟩:=PySem.W.any_some hh;have hx:s.heap.get? x=some ⟨.ref C,some dx,.plain,#[]⟩:=I.obj;refine aaG (abk (aaG (aaG (wpAny_loadPart hx (aaG (PySem.W.Looks.here (s:={s with toks:=s.toks+1}) (PySem.W.looks_clsIn X hc) ?_))))));rw[FX];refine abk (a:=some dx) (aaG (abk (aaG ?_)));refine wpAny_nsSet1 (s:={s with toks:=s.toks+1}) I.ns λh' QO O5=>?_;have⟨oD,esD,epD,hoD,hdD,hcD⟩:=QO.count (PySem.Within.cons name v hw);refine aaG (wpAny_lookBehind hoD (by rw[hdD];exact pastItsLine_dict (aaw hcD (by rw[aaJ];omega))) ?_);exact abk (h _ ⟨(O5.2 _ (Ne.symm I.ne)).trans I.obj,QO,I.ne⟩ O5)
def IW{R:Result->Shared->Prop}{vs:List Value}(X:K.In s.heap)(hm:PySem.W.makesIn K C=true)
  (hi:PySem.W.findIn K (.ref C) "__init__"=some (some (.ref f))) (hf:PySem.W.typeIn K (.ref f)=some (.type "function"))
  (h:codeAny (model prog w) (A.under (.builtin "type.__call__" ⟨.ref C::vs,kw⟩)) (.call (.ref f) ⟨.ref (s.heap.objs.size+1)::vs,kw⟩) (PySem.W.InitBack (s.heap.objs.size+1) R)
   {s with heap:=(s.heap.push PySem.W.emptyDict).push (PySem.W.instObj C s.heap.objs.size)}):
  codeAny (model prog w) A (.call (.ref C) ⟨vs,kw⟩) R s:=by
 have⟨hh,g,d,t,os⟩:=s;exact PySem.W.make_core (PySem.W.makes_of X hm) (PySem.W.looks_findIn X hi) (λself=>PySem.W.bind_fn X self hf) (.inl rfl) h
end
def jx(f:Str)(v:V):List (Str×V)->List (Str×V)
 | []=>[(f,v)]
 | (g,x)::r=>if g=f then (g,v)::r else (g,x)::jx f v r
def pO(f g:Str)(v:V):∀fs:List (Str×V),(jx f v fs).lookup g=if g=f then some v else fs.lookup g
 | []=>by
  show List.lookup g [(f,v)]=_;by_cases h:g=f
  ·have hb:(g==f)=true:=ack.mpr h;simp only[List.lookup,hb,if_pos h]
  ·have hb:(g==f)=false:=beq_eq_false_iff_ne.mpr h;simp only[List.lookup,hb,if_neg h]
 | (k,x)::r=>by
  have ih:=pO f g v r;rw[show jx f v ((k,x)::r)=(if k=f then (k,v)::r else (k,x)::jx f v r) from rfl];by_cases hk:k=f
  ·rw[aaq hk];by_cases h:g=k
   ·have hb:(g==k)=true:=ack.mpr h;simp only[List.lookup,hb,if_pos (h.trans hk)]
   ·have hb:(g==k)=false:=beq_eq_false_iff_ne.mpr h;simp only[List.lookup,hb,if_neg (λe:g=f=>h (e.trans hk.symm))]
  ·rw[aau hk];by_cases h:g=k
   ·have hb:(g==k)=true:=ack.mpr h;simp only[List.lookup,hb,if_neg (λe:g=f=>hk (h.symm.trans e))]
   ·have hb:(g==k)=false:=beq_eq_false_iff_ne.mpr h;simp only[List.lookup,hb];exact ih
def oO(f:Str)(v:V):∀fs:List (Str×V),f∈(jx f v fs).map (·.1)/\∀g,g∈fs.map (·.1)->g∈(jx f v fs).map (·.1)
 | []=>⟨by simp[jx],λg h=>by simp at h⟩
 | (k,x)::r=>by
  have⟨i1,i2⟩:=oO f v r;rw[show jx f v ((k,x)::r)=(if k=f then (k,v)::r else (k,x)::jx f v r) from rfl];by_cases hk:k=f
  ·rw[aaq hk];subst hk;exact⟨by simp,λg h=>by simpa using h⟩
  ·rw[aau hk];refine⟨?_,λg h=>?_⟩
   ·rw[aaU];exact aac _ i1
   ·rw[aaU]at h⊢;rcases aaD.mp h with e| e
    ·exact aaD.mpr (.inl e)
    ·exact aac _ (i2 g e)
def pR(f:Str)(v:V):∀fs:List (Str×V),(jx f v fs).length<=fs.length+1
 | []=>by simp[jx]
 | (k,x)::r=>by
  have ih:=pR f v r;rw[show jx f v ((k,x)::r)=(if k=f then (k,v)::r else (k,x)::jx f v r) from rfl];by_cases hk:k=f
  ·rw[aaq hk,aaJ,aaJ];omega
  ·rw[aau hk,aaJ,aaJ];omega
def j2.some_of{o:Option Value}(r:j2 (some v) o):∃u,o=some u/\aB v u:=by
 cases o with
 | none=>exact(show False from r).elim
 | some u=>exact⟨u,rfl,r⟩
def j2.none_of{o:Option Value}(r:j2 none o):o=none:=by
 cases o with
 | none=>rfl
 | some u=>exact(show False from r).elim
def FK(r:aB v u):PySem.W.handedIn u=true:=by
 cases v with
 | aY=>cases(show u=Value.none from r);rfl
 | bl b=>cases(show u=Value.bool b from r);rfl
 | int i=>have⟨t,e⟩:=(show∃t,u=Value.int i t from r);cases e;rfl
 | str x=>have⟨t,e⟩:=(show∃t,u=Value.str x t from r);cases e;rfl
 | GA b=>have⟨t,e⟩:=(show∃t,u=Value.bytes b t from r);cases e;rfl
 | UE b=>have⟨t,e⟩:=(show∃t,u=Value.float b t from r);cases e;rfl
 | ref a=>cases(show u=Value.ref a from r);rfl
 | ty n=>cases(show u=Value.type n from r);rfl
section
variable{H H':Hp}{fs Xb:List (Str×V)}
def yt(aX:kZ P w H h)(e:H a=some (.ins C dx fs)):∃mA,B7 h a dx C mA/\(∀f,j2 (fs.lookup f) (mA f))/\PySem.Within mA (fs.map (·.1))/\fs.length<=1000/\H dx=some (.own a):=by have⟨d,z,ne,ob,mA,n,r,q⟩:=(show da P w H h a (.ins C dx fs) from aX a _ e);exact⟨mA,⟨ob,n,ne⟩,r,q,z,d⟩
end
structure Fy(K:fI)(C:Addr):Prop where
 pg:PySem.W.plainGet K C Str.empty=true
 hd:PySem.W.hasDictIn K C=true
 po:PySem.W.plainOver K C=true
 sa:PySem.W.findIn K (.ref C) "__setattr__"=some (some (.builtin "object.__setattr__"))
def Fy.get{K:fI}{C:Addr}(c:Fy K C)(f:Str):PySem.W.plainGet K C f=true:=c.pg
def hX(K:fI)(C:Addr)(f:Str):Prop:=PySem.W.findIn K (.ref C) f=some none
def hX.RA{K:fI}{f:Str}(n:hX K C f):PySem.W.takerIn K C f=some none:=by unfold PySem.W.takerIn;rw[show PySem.W.findIn K (.ref C) f=some none from n];rfl
structure MK(K:fI)(C:Addr)(m:Str)(f:Addr):Prop where
 at_:PySem.W.findIn K (.ref C) m=some (some (.ref f))
 fn:PySem.W.isFn K (.ref f)=true
 kp:PySem.W.keepIn K (.ref f)=true
section
variable{H:Hp}{fs:List (Str×V)}{f:Str}
def Ci{b:Bool}(I:Inv X δ σ H s)(e:H a=some (.ins C dx fs))(c:Fy X.K C)(n:hX X.K C f)(l:fs.lookup f=some v)
  (h:∀u s',Inv X δ σ H s'->aB v u->Q u s'):wpAny (model X.prog X.w) A (getAttr (.ref a) f b) Q E s:=by
 have⟨mA,O,r,_,_,_⟩:=yt I.aX e;have⟨u,hu,ru⟩:=j2.some_of (v:=v) (o:=mA f) (by rw[<-l];exact r f);exact qv I.Dh O (c.get f) c.hd n hu (FK ru) (h u _ (I.tok _) ru)
def sJ{m:Str}{g:Addr}{pl:Sem Bool}{Q:Value×List Value->Shared->Prop}(I:Inv X δ σ H s)(e:H a=some (.ins C dx fs))(c:Fy X.K C)(k:MK X.K C m g)(l:fs.lookup m=none)
  (h:Q (.ref g,[.ref a]) s):wpAny (model X.prog X.w) A (getMethod (.ref a) m pl) Q E s:=by
 have⟨mA,O,r,_,_,_⟩:=yt I.aX e;have hn:mA m=none:=j2.none_of (by rw[<-l];exact r m);exact Hr I.Dh O (c.get m) k.at_ k.fn hn h
def Ct{y:V}{Q:Unit->Shared->Prop}(I:Inv X δ σ H s)(e:H a=some (.ins C dx fs))(c:Fy X.K C)(n:hX X.K C f)(hl:fs.length < 1000)(ry:aB y u)
  (h:∀s',Inv X δ σ (upd H a (.ins C dx (jx f y fs))) s'->Q Unit.unit s'):wpAny (model X.prog X.w) A (setAttr (.ref a) f u) Q E s:=by
 have⟨mA,O,r,wi,_,ho⟩:=yt I.aX e;have hz:(fs.map (·.1)).length<=sizeLine:=by rw[aae,sizeLine_eq];omega
 refine KI I.Dh O c.sa c.po n.RA c.hd wi hz λh' O' sb=>h _ ?_;have hd:∃o,h'.get? dx=some o:=let ⟨o,_,_,e',_⟩:=O'.ns;⟨o,e'⟩
 refine I.write (x:=a) (e:=dx) (by rw[e];exact True.intro) (.inr ho) (λb q hb z=>(sb.2 b hb).trans z) hd ?_;refine⟨by rw[Ζ O.ne];exact ho,?_,O.ne,O'.obj,_,O'.ns,λg=>?_,λg hg=>?_⟩
 ·have:=pR f y fs;omega
 ·show j2 ((jx f y fs).lookup g) (if g=f then some u else mA g);rw[pO];by_cases q:g=f
  ·rw[aaq q,aaq q];exact ry
  ·rw[aau q,aau q];exact r g
 ·by_cases q:g=f
  ·rw[q];exact(oO f y fs).1
  ·refine(oO f y fs).2 g (wi g λz=>hg ?_);show(if g=f then some u else mA g)=none;rw[aau q];exact z
def Inv.made(I:Inv X δ σ H s):Inv X δ σ (upd (upd H s.heap.objs.size (.own (s.heap.objs.size+1))) (s.heap.objs.size+1) (.ins C s.heap.objs.size []))
  {s with heap:=(s.heap.push PySem.W.emptyDict).push (PySem.W.instObj C s.heap.objs.size)}:=by
 have e1:(s.heap.push PySem.W.emptyDict).get? s.heap.objs.size=some PySem.W.emptyDict:=aaS s.heap rfl;have e2:((s.heap.push PySem.W.emptyDict).push (PySem.W.instObj C s.heap.objs.size)).get? (s.heap.objs.size+1)=some (PySem.W.instObj C s.heap.objs.size):=by have:=aaS (s.heap.push PySem.W.emptyDict) (o:=PySem.W.instObj C s.heap.objs.size) rfl;rwa[Heap.size_push]at this
 have e3:(s.heap.push PySem.W.emptyDict).Ns s.heap.objs.size (λ_=>none):=⟨PySem.W.emptyDict,#[],_,e1,rfl,(λe he=>absurd he (by simp)),λ_=>rfl⟩;have I1:=I.laid (a:=s.heap.objs.size) (o:=.own (s.heap.objs.size+1)) (h':=s.heap.push PySem.W.emptyDict) (t':=s.toks) (λb u q=>aam _ q) (aaj _) ⟨_,e1⟩;refine I1.laid (a:=s.heap.objs.size+1) (o:=.ins C s.heap.objs.size []) (t':=s.toks) (λb u q=>aam _ q) (Nat.le_of_eq (Heap.size_push _ _)) ?_;have ne:s.heap.objs.size≠s.heap.objs.size+1:=aaK (abA _);refine⟨by rw[Ζ ne,ah],ab5 _,ne,e2,λ_=>none,(Heap.Ns1.of_empty e3).at λo q=>aam _ q,λ_=>True.intro,λy hy=>aay rfl hy⟩
def K3{env:Env}{f:Str}(hb:attributeBase e f env (eval e env)=eval e env)
  (h:wpAny (model prog w) A (eval e env) (λo s₁=>wpAny (model prog w) A (getAttr o f true) Q E s₁) E s):wpAny (model prog w) A (eval (.Attribute e f pos) env) Q E s:=
 Attribute_any_ h (by rw[arm_eval_Attribute,hb])
end
def XN(K:fI)(ta:TE)(f:Str):TE:=λσ H Q=>ta σ H λx H1=>∃a C dx fs v,x= .ref a/\H1 a=some (.ins C dx fs)/\Fy K C/\hX K C f/\fs.lookup f=some v/\Q v H1
def Vt(K:fI)(ta tv:TE)(f:Str):TS:=λD σ H=>tv σ H λy H1=>ta σ H1 λx H2=>∃a C dx fs,x= .ref a/\H2 a=some (.ins C dx fs)/\Fy K C/\hX K C f/\fs.length < 1000/\
 D.nx σ (upd H2 a (.ins C dx (jx f y fs)))
section
variable{o value:Expr}{f:Str}{pos' mO:Pos}{tv:TE}
def Om(he:PE X e ta)(hb:attributeBase e f X.env (eval e X.env)=eval e X.env):PE X (.Attribute e f pos) (XN X.K ta f):=by intro δ s σ H Q I h;refine K3 hb (bA (he δ s σ H _ I h) λu s1 xz=>?_);have⟨x,H1,I1,rx,a,C,dx,fs,v,ex,ea,c,n,l,q⟩:=xz;subst ex;obtain rfl:u=Value.ref a:=rx;exact Ci I1 ea c n l λu' s2 I2 ru=>⟨v,H1,I2,ru,q⟩
def Pb(ha:PE X o ta)(hv:PE X value tv)(hs:swapsWith value (some (.Attribute o f pos')) pos.line X.env=pure false):PS X (.Assign [.Attribute o f pos'] value pos) (Vt X.K ta tv f):=by intro δ s σ H D I h;refine plainObj_wpAny_Assign_Attribute (bA (hv δ s σ H _ I h) fun u s1 ⟨y,H1,I1,ry,q⟩=>bA (ha δ s1 σ H1 _ I1 q) λov s2 xz=>?_) hs;have⟨x,H2,I2,rx,a,C,dx,fs,ex,ea,c,n,l,q2⟩:=xz;subst ex;obtain rfl:ov=Value.ref a:=rx;exact Ct I2 ea c n l ry λs3 I3=>⟨σ,_,I3,q2⟩
end
structure cx(k:Nat)(A:Around):Prop where
 hd:A.handled=none
 dp:A.depth+3 * k+5 < recursionLimit
 un:A.units+16 * k+200 < cLine
def cx.mono{j k:Nat}(r:cx k A)(h:j<=k):cx j A:=⟨r.hd,by have:=r.dp;omega,by have:=r.un;omega⟩
def cx.deeper{k:Nat}(r:cx (k+1) A)(env:Env):cx k (A.deeper env):=
 ⟨r.hd,by have:=r.dp;show A.depth+1+3 * k+5 < _;omega,by have:=r.un;show A.units+3+16 * k+200 < _;omega⟩
def BI:(A.under (.builtin "type.__call__" ⟨.ref C::us,kw⟩)).depth=A.depth+1:=by
 first| rfl| simp[Around.under,Code.weight,Code.isCreation,Code.isGuard,Code.isCaller,Code.frames,Code.isFrame,guardIds]
def A1:(A.under (.builtin "type.__call__" ⟨.ref C::us,kw⟩)).units=A.units+1:=by
 first| rfl| simp[Around.under,Code.cUnits,Code.frames,Code.isFrame]
def cx.make{k:Nat}(r:cx (k+1) A)(C:Addr)(us:List Value)(kw:List (Str×Value)):cx k (A.under (.builtin "type.__call__" ⟨.ref C::us,kw⟩)):=
 ⟨r.hd,by have:=r.dp;rw[BI];omega,by have:=r.un;rw[A1];omega⟩
def cx.depth{k:Nat}(r:cx k A):A.depth < recursionLimit:=by have:=r.dp;omega
def cx.units{k:Nat}(r:cx k A):A.units+64 < cLine:=by have:=r.un;omega
def cx.BZ{k:Nat}(r:cx k A):A.units < cLine:=by have:=r.un;omega
def Rh:TA:=λ_ H Q=>Q [] H
def Tb(ta:TE)(tr:TA):TA:=λσ H Q=>ta σ H λx H1=>tr σ H1 λxs H2=>Q (x::xs) H2
section
variable{t:TA}
def NU:PA X [] Rh:=λ_ _ _ _ H Q I h=>Calls.spliced_nil ⟨[],H,I,.nil,h⟩
def KR(ha:PE X e te)(hr:PA X es t)(hs:starEach (e::es) X.env=(false,eval e X.env)::starEach es X.env:=by rfl):PA X (e::es) (Tb te t):=by intro pos δ s σ H Q I h;rw[hs];show wpAny _ _ (spliced ((false,eval e X.env)::backTo pos (starEach es X.env))) _ _ s;refine Calls.spliced_cons (bA (ha δ s σ H _ I h) λu s1 xz=>?_);have⟨x,H1,I1,r1,q1⟩:=xz;exact bA (hr pos δ s1 σ H1 _ I1 q1) λus s2 ⟨xs,H2,I2,r2,q2⟩=>⟨x::xs,H2,I2,.cons r1 r2,q2⟩
def VU(t:TA):TE:=λσ H Q=>t σ H λxs H1=>xs.length<=sizeLine/\∀p,H1 p=none->Q (.ref p) (upd H1 p (.tup xs))
def WC(t:TA):TE:=λσ H Q=>t σ H λxs H1=>xs.length<=sizeLine/\∀p,H1 p=none->Q (.ref p) (upd H1 p (.lst xs))
def Pj{x1}(h:PA X es t):PE X (.Tuple es x1 pos) (VU t):=by intro δ s σ H Q I hq;refine wpAny_Tuple_spliced (bA (h pos δ s σ H _ I hq) fun us s1 ⟨xs,H1,I1,r,z,q⟩=>⟨by rw[<-r.length];exact z,?_⟩);have hf:H1 s1.heap.objs.size=none:=I1.aX.fresh (aaj _);refine⟨.ref s1.heap.objs.size,upd H1 s1.heap.objs.size (.tup xs),I1.laid (t':=s1.toks) (λb u e=>aam _ e) (aaj _) ?_,rfl,q _ hf⟩;exact⟨z,us,r,⟨_,aaS _ rfl,rfl,_,rfl⟩⟩
def Je(h:PA X es t):PE X (.List es pos) (WC t):=by intro δ s σ H Q I hq;refine wpAny_List_spliced (bA (h pos δ s σ H _ I hq) fun us s1 ⟨xs,H1,I1,r,z,q⟩=>⟨by rw[<-r.length];exact z,?_⟩);have hf:H1 s1.heap.objs.size=none:=I1.aX.fresh (aaj _);refine⟨.ref s1.heap.objs.size,upd H1 s1.heap.objs.size (.lst xs),I1.laid (t':=s1.toks) (λb u e=>aam _ e) (aaj _) ?_,rfl,q _ hf⟩;exact⟨z,us,0,r,aaS _ rfl⟩
end
abbrev Sp:=List V->Hp->VK->XK->Prop
abbrev AA:=List Env->Hp->Shared->XK->Value->Shared->Prop
structure B1(P:Program)(w:World)(K:fI)(mg:Str->Option Value)(base:Heap)(A:Around)(outer:List Env)(s:Shared)(H:Hp):Prop where
 frames:A.frames=some outer
 mod:Mod K mg base
 bs:∀b o,base.get? b=some o->s.heap.get? b=some o/\H b=none
 QH:base.objs.size<=s.heap.objs.size
 ub:s.heap.FunFrames base outer
 Sx:∀b∈p7 outer,H b=none
 aX:kZ P w H s.heap
 bare:AllBare s.gens
def CE(outer:List Env)(P:Program)(w:World)(H:Hp)(s:Shared)(Q:VK)(u:Value)(s':Shared):Prop:=
 ∃v H',s'.os=s.os/\AllBare s'.gens/\Un (p7 outer) [] H H' s.heap s'.heap/\kZ P w H' s'.heap/\aB v u/\Q v H'
def CR(CX:AA)(outer:List Env)(P:Program)(w:World)(H:Hp)(s:Shared)(Q:VK)(E:XK)(r:Result)(s':Shared):Prop:=
 match r with
 | .ok (.ret u)=>CE outer P w H s Q u s'
 | .ok _=>False
 | .error e=>CX outer H s E e s'
structure aw(P:Program)(w:World)(K:fI)(mg:Str->Option Value)(base:Heap)(CX:AA)(k:Nat)(f:Addr)(fd:FuncData)(ps:List Str)(sp:Sp):Prop where
 len:∀vs H Q E,sp vs H Q E->vs.length=ps.length
 run:∀(A:Around) (outer:List Env) (s:Shared) (H:Hp) (args:Args) (us:List Value) (vs:List V) (Q:VK) (E:XK),cx k A->B1 P w K mg base A outer s H->BindsTo s fd args (ps.zip us)->ay vs us->sp vs H Q E->
  codeAny (model P w) A (.call (.ref f) args) (CR CX outer P w H s Q E) s
def B1.make{K:fI}{H:Hp}(e:B1 P w K mg base A outer s H)(C:Addr)(us:List Value)(kw:List (Str×Value)):
  B1 P w K mg base (A.under (.builtin "type.__call__" ⟨.ref C::us,kw⟩)) outer s H:=⟨by first| exact e.frames| (simpa [Around.under,Code.envs,Code.isFrame,pushEnvs] using e.frames),e.mod,e.bs,e.QH,e.ub,e.Sx,e.aX,e.bare⟩
section
variable{H:Hp}{s':Shared}
def Inv.Sb(I:Inv X δ σ H s):B1 X.prog X.w X.K X.mg X.base X.A X.stack s H:=
 ⟨I.ok.frames,I.ok.mod,I.bs,aaw I.ok.QH I.sz,I.stack,I.xX,I.aX,I.bare⟩
def Inv.after{Q:VK}(I:Inv X δ σ H s)(h:CE X.stack X.prog X.w H s Q u s'):EP X δ σ Q u s':=by have⟨v,H',os,bare,un,aX,r,q⟩:=h;have⟨hh,g,d,t,Vd⟩:=s';obtain rfl:Vd=s.os:=os;exact⟨v,H',I.call (h':=hh) (g':=g) (d':=d) (t':=t) (ch:=[]) un aX bare (λb z=>absurd z (by simp)),r,q⟩
end
def jr(K:fI)(fd:FuncData)(ps:List Str)(ds:List Value):Prop:=
 ∀(s:Shared) (us:List Value),K.In s.heap->(us++ds).length=ps.length->BindsTo s fd ⟨us,[]⟩ (ps.zip (us++ds))
def jr.all{K:fI}{fd:FuncData}(h:∀us:List Value,us.length=ps.length->bindArgs fd ⟨us,[]⟩=pure (ps.zip us)):jr K fd ps []:=λs us _ hl=>by rw[aaY]at hl⊢;exact .of_eq (h us hl)
section
variable{CX:AA}{k:Nat}{f:Addr}{fd:FuncData}{sp:Sp}{qa:List V}{ds:List Value}{E:XK}{m:Str}{p apos:Pos}{o:Expr}{t:TA}
structure Mk(K:fI)(C f:Addr):Prop where
 makes:PySem.W.makesIn K C=true
 init:PySem.W.findIn K (.ref C) "__init__"=some (some (.ref f))
 fn:PySem.W.isFn K (.ref f)=true
 kp:PySem.W.keepIn K (.ref C)=true
end
structure Γ(N P:List Str)(sc:Scope):Prop where
 kind:sc.kind= .function
 co:sc.isCoroutine=false
 gen:sc.isGenerator=false
 nd:N.Nodup
 pre:N.take P.length=P
 par:∀x∈P,sc.names.lookup x=some .local\/sc.names.lookup x=some .cell
 Ol:∀y∈sc.names,y.2≠ .free
def uU{kindOf:Str->Option NameKind}{x:Str}:∀{binds:List (Str×Value)} {m:Str->Option Value},(∀v,(x,v)∉binds)->bindL kindOf binds m x=m x
 | [],_,_=>rfl
 | (n,v)::r,m,h=>by
  unfold bindL;rw[uU λw hw=>h w (aac _ hw)];split
  ·have:x≠n:=by rintro rfl;exact h v aad
   simp[this]
  ·rfl
def uV{kindOf:Str->Option NameKind}{x:Str}:∀{binds:List (Str×Value)} {m:Str->Option Value},(∀v,(x,v)∉binds)->bindC kindOf binds m x=m x
 | [],_,_=>rfl
 | (n,v)::r,m,h=>by
  unfold bindC;rw[uV λw hw=>h w (aac _ hw)];split
  ·rfl
  ·have:x≠n:=by rintro rfl;exact h v aad
   simp[this]
def uw{kindOf:Str->Option NameKind}{x:Str}{v:Value}:∀{P:List Str} {vs:List Value} {i:Nat} {m:Str->Option Value},P.Nodup->P[i]? =some x->vs[i]? =some v->kindOf x=some .local->
  bindL kindOf (P.zip vs) m x=some v
 | [],_,_,_,_,h,_,_=>by simp at h
 | _::_,[],_,_,_,_,h,_=>by simp at h
 | p::P,w::vs,0,m,nd,h1,h2,hk=>by simp at h1 h2;subst h1;subst h2;show bindL kindOf ((p,w)::P.zip vs) m p=_;unfold bindL;rw[uU λv hv=>(abx.mp nd).1 (acr hv).1,aaq hk];simp
 | p::P,w::vs,i+1,m,nd,h1,h2,hk=>by show bindL kindOf ((p,w)::P.zip vs) m x=_;unfold bindL;exact uw (i:=i) (List.nodup_cons.mp nd).2 (by simpa using h1) (by simpa using h2) hk
def uM{kindOf:Str->Option NameKind}{x:Str}{v:Value}:∀{P:List Str} {vs:List Value} {i:Nat} {m:Str->Option Value},P.Nodup->P[i]? =some x->vs[i]? =some v->kindOf x≠some .local->
  bindC kindOf (P.zip vs) m x=some v
 | [],_,_,_,_,h,_,_=>by simp at h
 | _::_,[],_,_,_,_,h,_=>by simp at h
 | p::P,w::vs,0,m,nd,h1,h2,hk=>by simp at h1 h2;subst h1;subst h2;show bindC kindOf ((p,w)::P.zip vs) m p=_;unfold bindC;rw[uV λv hv=>(abx.mp nd).1 (acr hv).1,aau hk];simp
 | p::P,w::vs,i+1,m,nd,h1,h2,hk=>by show bindC kindOf ((p,w)::P.zip vs) m x=_;unfold bindC;exact uM (i:=i) (List.nodup_cons.mp nd).2 (by simpa using h1) (by simpa using h2) hk
def start(N:List Str)(vs:List V):St:=vs.map some++List.replicate (N.length - vs.length) none
def xE(CX:AA)(P:Program)(w:World)(K:fI)(mg:Str->Option Value)(base:Heap)(N:List Str)(qual:Str)(scope:Scope)(f:Addr)(cd:Value)(A:Around)(outer:List Env)(s:Shared)(H:Hp)(E:XK):Cx where
 prog:=P
 w:=w
 K:=K
 mg:=mg
 base:=base
 A:=A.deeper (envOfC qual scope s.heap.objs.size f cd)
 N:=N
 s₀:=s
 H₀:=H
 env:=envOfC qual scope s.heap.objs.size f cd
 outer:=outer
 stack:=envOfC qual scope s.heap.objs.size f cd::outer
 ex:=[]
 calm:=true
 fn:=λ_=>true
 pn:=[]
 xe:=λe s'=>wpAny (model P w) (A.deeper (envOfC qual scope s.heap.objs.size f cd)) (leaving (envOfC qual scope s.heap.objs.size f cd) e) (λ_ VS=>CX outer H s E e VS) (λe' VS=>CX outer H s E e' VS) s'
def zO{sc:Scope}{n:Nat}(h:sc.names.lookup x=some .cell):∃c,(cellsFrom n sc.names []).lookup x=some c:=by have q:=PySem.W.cellsFrom_some sc.names n [] (.inl h);exact abd.mp q
def Et{CX:AA}{K:fI}{N:List Str}{qual:Str}{scope:Scope}{f:Addr}{cd:Value}{s1:Shared}{H:Hp}{E:XK}{vs:List V}
  (S:Γ N ps scope) (hd:A.handled=none) (e0:B1 P w K mg base A outer s H) (hl:vs.length=ps.length) (r:ay vs us)
  (x:InCallC s s.heap.objs.size (bindL (envOfC qual scope s.heap.objs.size f cd).kindOf (ps.zip us) λ_=>none) (cellsFrom (s.heap.objs.size+1) scope.names []) (bindC (envOfC qual scope s.heap.objs.size f cd).kindOf (ps.zip us) λ_=>none) s1):
  Inv (xE CX P w K mg base N qual scope f cd A outer s H E) [] (start N vs) H s1:=by
 have fE:ps.length<=N.length:=by have:=aaM List.length S.pre;rw[ab1]at this;omega
 have⟨h1,tk,rfl,hk⟩:=x.done;have SR:∀b:Addr,b∉(xE CX P w K mg base N qual scope f cd A outer s H E).ex:=λb z=>absurd (show b∈([]:List Addr) from z) (by simp)
 refine⟨⟨e0.mod,S.kind,rfl,rfl,aaj _,λy z c h1 h2=>?_,λy hy=>?_,λy c _ h=>?_,λ_=>hd,Around.frames_deeper e0.frames,.inr ⟨rfl,rfl⟩,λb z=>aay z (SR b),e0.bs,e0.QH,λb _ _=>SR b,λb z=>aay z (SR b),e0.ub,e0.Sx⟩,
  rfl,e0.bare,Un.kept hk,⟨_,x.toInCall.ns,λi y v h1 h2 h3=>?_⟩,λy c h=>⟨_,x.cell y c h⟩,e0.aX.fresh (Nat.le_refl _),λy c h=>?_,λp hp=>absurd (show p∈([]:List (Addr×Obj)) from hp) (by simp),e0.aX.kept hk,?_⟩
 ·exact name_of_addr x.apart (PySem.mem_of_lookup h1) (PySem.mem_of_lookup h2)
 ·have hy:scope.names.lookup y=some .cell\/scope.names.lookup y=some .free:=hy;rcases hy with hy| hy
  ·exact zO hy
  ·exact aay rfl (S.Ol _ (PySem.mem_of_lookup hy))
 ·exact Nat.le_of_lt (x.above y c (PySem.mem_of_lookup h))
 ·have hi:i < vs.length:=by
   unfold start at h2;by_cases hi:i < vs.length
   ·exact hi
   ·rw[List.getElem?_append_right (by simpa using hi)]at h2;rw[abY]at h2;split at h2 <;> cases h2
  have ha:vs[i]? =some v:=by
   unfold start at h2;rw[List.getElem?_append_left (by simpa using hi),List.getElem?_map]at h2;cases e:vs[i]? with
   | none=>rw[e]at h2;cases h2
   | some a=>rw[e]at h2;cases h2;rfl
  have⟨u,hu,rv⟩:=r.get ha;have hp:ps[i]? =some y:=by rw[<-S.pre,acm ()];exact h1
  have Zs:ps.Nodup:=by rw[<-S.pre];exact S.nd.sublist (List.take_sublist _ _)
  refine⟨u,rv,?_⟩;rcases S.par y (aai hp) with k| k
  ·exact .inl ⟨k,uw Zs hp hu k⟩
  ·have⟨c,e⟩:=zO (n:=s.heap.objs.size+1) k;refine .inr ⟨.inl k,c,e,?_⟩;have q:=x.cell y c e;rw[uM Zs hp hu (by show scope.names.lookup y≠_;rw[k];decide)]at q;exact q
 ·exact e0.aX.fresh (Nat.le_of_lt (x.above y c (PySem.mem_of_lookup h)))
 ·unfold start;show _=N.length;rw[aah,aae,aa4];omega
def RC{CX:AA}{K:fI}{k:Nat}{f:Addr}{name qual:Str}{params:Arguments}{scope:Scope}{dV kV doc pm bz ct oc:Value}{an od:Option Addr}
  {Kl:Array (Option Value)} {N:List Str} {sp:Sp} (lk:K.lookup f=some ⟨oc,od,.func (PySem.W.fnOf name qual params body scope dV kV doc pm an bz ct),Kl⟩) (Jf:PySem.W.codeIn K bz qual=true) (S:Γ N ps scope)
  (len:∀vs H Q E,sp vs H Q E->vs.length=ps.length)
  (z_:∀(A:Around) (outer:List Env) (s:Shared) (H:Hp) (vs:List V) (Q:VK) (E:XK),cx k (A.deeper (envOfC qual scope s.heap.objs.size f bz))->sp vs H Q E->
   ∃t,Gx (xE CX P w K mg base N qual scope f bz A outer s H E) body t/\t {nx:=λ_ H'=>Q .aY H',rt:=Q} (start N vs) H):
  aw P w K mg base CX (k+1) f (PySem.W.fnOf name qual params body scope dV kV doc pm an bz ct) ps sp:=by
 refine⟨len,λA outer s H args us vs Q E hr e0 hb r Np=>?_⟩;have hl:=len _ _ _ _ Np;have KX:K.In s.heap:=e0.mod.T6.keeps λb o e=>(e0.bs b o e).1;have lim:s.heap.NoLimit:=e0.mod.nolimit.keeps λb o e=>(e0.bs b o e).1;have SN:∀y∈ps.zip us,scope.names.lookup y.1=some .local\/(scope.names.lookup y.1=some .cell/\((cellsFrom (s.heap.objs.size+1) scope.names []).lookup y.1).isSome=true):=λ⟨n,v⟩ hy=>by
  rcases S.par n (acr hy).1 with q| q
  ·exact .inl q
  ·exact .inr ⟨q,PySem.W.cellsFrom_some _ _ _ (.inl q)⟩
 refine codeAny_call_function hr.depth (KX _ _ lk) rfl S.co S.gen rfl (PySem.W.codeRec_of KX Jf) (hb _ _ _ _ ?_);refine wpAny_newFunctionEnv_cells S.kind SN λenv he s1 x=>?_;subst he;refine⟨lim.keeps x.toInCall.keep,codeAny_func ?_⟩;have⟨t,ht,hq⟩:=z_ A outer s H vs Q E (hr.deeper _) Np;have I:Inv (xE CX P w K mg base N qual scope f bz A outer s H E) [] (start N vs) H s1:=Et S hr.hd e0 hl r x;refine ab8 (ht [] s1 (start N vs) H _ I hq) (λfl s' hs=>?_) λe s' hs=>hs
 have fin:∀{σ':St} {H':Hp} {v:V} {u:Value},Inv (xE CX P w K mg base N qual scope f bz A outer s H E) [] σ' H' s'->aB v u->Q v H'->CE outer P w H s Q u s':=
  λ{σ' H' v u} J rv q=>⟨v,H',J.os,J.bare,J.base,J.aX,rv,q⟩
 cases fl with
 | ret u=>
  have⟨v,σ',H',J,rv,q⟩:=hs;exact fin J rv q
 | next=>
  have⟨σ',H',J,q⟩:=hs;exact fin (v:=V.aY) (u:=Value.none) J rfl q
 | brk=>
  have⟨_,_,_,q⟩:=hs;exact False.elim q
 | cont=>
  have⟨_,_,_,q⟩:=hs;exact False.elim q
section
variable{p:Pos}{t:TA}{id T:String}{r:List V->Hp->VK->Prop}
def WR(r:List V->Hp->VK->Prop)(t:TA):TE:=λσ H Q=>t σ H λvs H1=>r vs H1 Q
def HV(hc:dY X (.builtin id) r)(hg:Gl X x)(hm:X.mg x=none)(hv:bootBuiltins x=some (.builtin id))(ha:PA X (e::es) t)(hn:x≠"__name__":=by decide)(Cj:(x==("__debug__":Str))=false:=by decide)
  (he:starEach (e::es) X.env=(false,eval e X.env)::starEach es X.env:=by rfl) (fE:(backTo pos (starEach es X.env)).any (·.1)=false:=by rfl):PE X (.Call (.Name x p) (e::es) [] pos) (WR r t):=by
 intro δ s σ H Q I h;refine wpAny_Call_Name_kw (pd I hg hm hv ?_ hn Cj);exact PyProof.Rows.callWith_builtin1 (bA (ha pos δ s σ H _ I h) λus s1 ⟨vs,H1,I1,r1,q1⟩=>hc δ s1 σ H1 vs us Q I1 r1 q1) he fE
def FF(hc:dY X (.type T) r)(hg:Gl X x)(hm:X.mg x=none)(hv:bootBuiltins x=some (.type T))(ha:PA X (e::es) t)(hn:x≠"__name__":=by decide)(Cj:(x==("__debug__":Str))=false:=by decide)
  (he:starEach (e::es) X.env=(false,eval e X.env)::starEach es X.env:=by rfl) (fE:(backTo pos (starEach es X.env)).any (·.1)=false:=by rfl):PE X (.Call (.Name x p) (e::es) [] pos) (WR r t):=by
 intro δ s σ H Q I h;refine wpAny_Call_Name_kw (pd I hg hm hv ?_ hn Cj);exact PyProof.Rows.callWith_type1 (bA (ha pos δ s σ H _ I h) λus s1 ⟨vs,H1,I1,r1,q1⟩=>hc δ s1 σ H1 vs us Q I1 r1 q1) he fE
end
end L2
namespace HT
open PySem PyProof.Rows
section
variable{prog:Program}{w:World}{A:Around}{E:Value->Shared->Prop}{s:Shared}
def KN{t b:Addr}{vs ws:List Value}{Q:Value->Shared->Prop}(ht:IsTup s.heap t vs.toArray)(hb:IsTup s.heap b ws.toArray)(hv:vs≠[])
  (h1:ws=[]->Q (.ref t) s) (h2:ws≠[]->Q (.ref s.heap.objs.size) {s with heap:=s.heap.push {cls:=.type "tuple",data:=.seq (vs++ws).toArray}})
  (hsz:vs.length+ws.length<=sizeLine):wpAny (model prog w) A (binaryOp .Add (.ref t) (.ref b)) Q E s:=by
 have⟨⟨cls,dd,data,sl⟩,ho,hc,n,hd⟩:=id ht;have⟨⟨abe,Vc,data2,UA⟩,Ug,Zc,n2,hd2⟩:=id hb;simp only at hc hd Zc hd2;subst hc hd Zc hd2;have e:vs.toArray++ws.toArray=(vs++ws).toArray:=by simp
 by_cases hw:ws=[]
 ·exact concat_meets ⟨_,ho,rfl⟩ ⟨_,Ug,rfl⟩ noFill_tuple_add seq_tuple_add PySem.F.slot_tuple_add PySem.F.entry_tuple_add (PySem.F.args_tuple_add_2 _ _)
   (tuple_addW1 t b vs.toArray ws.toArray n n2 dd Vc sl UA (by simpa using hv) (by simp[hw])) ⟨ho,Ug,h1 hw⟩
 ·refine concat_meets ⟨_,ho,rfl⟩ ⟨_,Ug,rfl⟩ noFill_tuple_add seq_tuple_add PySem.F.slot_tuple_add PySem.F.entry_tuple_add (PySem.F.args_tuple_add_2 _ _)
   (tuple_addW2 t b vs.toArray ws.toArray n n2 dd Vc sl UA (by simpa using hv) (by simpa using hw) (by rw[List.size_toArray,List.size_toArray];exact hsz)) ⟨ho,Ug,?_⟩
  rw[e];exact h2 hw
def yN(n d:Nat):Option Int->Nat
 | none=>d
 | some v=>if v < 0 then (v+(n:Int)).toNat else min v.toNat n
def yG(n d:Nat):yN n d none=d:=rfl
def qr(n d k:Nat):yN n d (some (k:Int))=min k n:=by show(if (k:Int) < 0 then ((k:Int)+(n:Int)).toNat else min (k:Int).toNat n)=min k n;rw[aau (),aaW]
end
end HT
namespace L2
open PySem PySem.Spec PyProof.Rows
variable{X:Cx}{n:Nat}{δ:List (Addr×Obj)}{s:Shared}{its:List Value}
abbrev TO:=St->Hp->(Option Int->Hp->Prop)->Prop
def PO(X:Cx)(e:Option Expr)(t:TO):Prop:=
 ∀(δ:List (Addr×Obj)) (s:Shared) (σ:St) (H:Hp) (Q:Option Int->Hp->Prop),Inv X δ σ H s->t σ H Q->
  wpAny (model X.prog X.w) X.A (evalPart e X.env) (λu s'=>∃o H',Inv X δ σ H' s'/\IsPart u o/\Q o H') X.xe s
def LS:TO:=λ_ H Q=>Q none H
def SJ(t:TE):TO:=λσ H Q=>t σ H λx H1=>∃i,x= .int i/\Q (some i) H1
section
variable{e:Expr}{te:TE}{lo hi:Option Expr}{tl th:TO}{pos p2:Pos}
def Dk:PO X none LS:=by intro δ s σ H Q I h;rw[evalPart_none];exact abk ⟨none,H,I,.none,h⟩
def qe(h:PE X e te):PO X (some e) (SJ te):=by intro δ s σ H Q I hw;rw[evalPart_some];refine bA (h δ s σ H _ I hw) λu s1 xz=>?_;have⟨x,H1,I1,r1,q1⟩:=xz;have⟨i,rfl,q⟩:=q1;have⟨t,rfl⟩:=r1;exact⟨some i,H1,I1,.int i t,q⟩
def ZR(X:Cx)(r:V->Option Int->Option Int->Hp->VK->Prop):Prop:=
 ∀(δ:List (Addr×Obj)) (s:Shared) (σ:St) (H:Hp) (x:V) (v vl vu:Value) (lo hi:Option Int) (sl:Addr) (Q:VK),Inv X δ σ H s->aB x v->s.heap.IsSliceOf sl vl vu .none->IsPart vl lo->IsPart vu hi->r x lo hi H Q->
  ∃T id,typeLookup (.type T) "__getitem__"=pure (some (.builtin id))/\s.TypeIs v T/\wpAny (model X.prog X.w) X.A (getItem v (.ref sl)) (EP X δ σ Q) X.xe s
def tSl(r:V->Option Int->Option Int->Hp->VK->Prop)(te:TE)(tl th:TO):TE:=λσ H Q=>te σ H λx H1=>tl σ H1 λl H2=>th σ H2 λu H3=>r x l u H3 Q
def sY{r:V->Option Int->Option Int->Hp->VK->Prop}(hr:ZR X r)(he:PE X e te)(hl:PO X lo tl)(hu:PO X hi th):PE X (.Subscript e (.Slice lo hi none p2) pos) (tSl r te tl th):=by intro δ s σ H Q I h;refine Subscript_ (bA (he δ s σ H _ I h) λv s1 xz=>?_);have⟨x,H1,I1,r1,q1⟩:=xz;refine wpAny_Slice (bA (hl δ s1 σ H1 _ I1 q1) fun vl s2 ⟨l,H2,I2,pl,q2⟩=>bA (hu δ s2 σ H2 _ I2 q2) λvu s3 xz=>?_);have⟨u,H3,I3,pu,q3⟩:=xz;rw[evalPart_none];refine abk ?_;have I4:Inv X δ σ H3 {s3 with heap:=s3.heap.push {cls:=.type "slice",data:=.fields #[vl,vu,.none]}}:=I3.kept (t':=s3.toks) λb ob q=>aam _ q;have⟨T,id,hT,ht,hg⟩:=hr δ {s3 with heap:=s3.heap.push {cls:=.type "slice",data:=.fields #[vl,vu,.none]}} σ H3 x v vl vu l u s3.heap.objs.size Q I4 r1 (Heap.IsSliceOf.new ..) pl pu q3;show wpAny (model X.prog X.w) X.A (subscriptTail e (.Slice lo hi none p2) v (.ref s3.heap.objs.size)) (EP X δ σ Q) X.xe {s3 with heap:=s3.heap.push {cls:=.type "slice",data:=.fields #[vl,vu,.none]}};exact tail_any (ops:=[.ref s3.heap.objs.size,v]) ht hT hg (by with_unfolding_all rfl)
def tP(xs:List V)(lo hi:Option Int):List V:=(xs.drop (HT.yN xs.length 0 lo)).take (HT.yN xs.length xs.length hi - HT.yN xs.length 0 lo)
def zV(xs:List V)(lo hi:Option Int):(tP xs lo hi).length<=xs.length:=by unfold tP;rw[ab1,abH];omega
def Nu(K:fI):R2:=λx y H Q=>∃a b xs ys,x= .ref a/\y= .ref b/\mL K H a xs/\mL K H b ys/\xs≠[]/\xs.length+ys.length<=sizeLine/\
 (ys=[]->Q (.ref a) H)/\(ys≠[]->∀p,H p=none->Q (.ref p) (upd H p (.tup (xs++ys))))
def ay.wb{xs:List V}{us:List Value}(r:ay xs us):us=[]↔xs=[]:=by
 cases r with
 | nil=>simp
 | cons _ _=>simp
def K0:jQ X (binaryOp .Add) (Nu X.K):=by intro δ s σ H x y v u Q I rx ry h;have⟨a,b,xs,ys,rfl,rfl,ha,hb,hx,hz,q1,q2⟩:=h;cases rx;cases ry;have⟨its,r1,p1,_⟩:=I.tuple ha;have⟨Jc,r2,p2,_⟩:=I.tuple hb;refine HT.KN p1 p2 (λz=>hx (r1.wb.mp z)) (λz=>⟨.ref a,H,I,rfl,q1 (r2.wb.mp z)⟩) (λz=>?_) (by rw[<-r1.length,<-r2.length];exact hz);refine⟨.ref s.heap.objs.size,_,I.laid (t':=s.toks) (o:=.tup (xs++ys)) (λb ob q=>aam _ q) (aaj _) ?_,rfl,q2 (λw=>z (r2.wb.mpr w)) _ (I.aX.fresh (aaj _))⟩;exact⟨by rw[aah];exact hz,_,r1.append r2,IsTup.new _ _⟩
end
def GC(n:Nat)(i:Int):Option Nat:=if 0<=i then (if i < n then some i.toNat else none) else if -(n:Int)<=i then some (i+n).toNat else none
def iH{α:Type}(xs:List α)(i:Int):Option α:=(GC xs.length i).bind λj=>xs[j]?
def Ek{i:Int}{j:Nat}(h:GC n i=some j):seqIndex? i n=some j/\j < n/\ -(n:Int)<=i/\i < n:=by
 unfold GC at h;by_cases h0:0<=i
 ·rw[aaq h0]at h;by_cases h1:i < n
  ·rw[aaq h1]at h;have e:i.toNat=j:=aao h;exact⟨by rw[seqIndex_of h0 h1,e],(),(),h1⟩
  ·rw[aau h1]at h;cases h
 ·rw[aau h0]at h;by_cases h1: -(n:Int)<=i
  ·rw[aaq h1]at h;have e:(i+n).toNat=j:=aao h;exact⟨by rw[seqIndex_neg () h1,e],(),h1,()⟩
  ·rw[aau h1]at h;cases h
def xc{α:Type}{xs:List α}{i:Int}{v:α}(h:iH xs i=some v):∃j,seqIndex? i xs.length=some j/\xs[j]? =some v/\j < xs.length/\ -(xs.length:Int)<=i/\i < xs.length:=by
 unfold iH at h;cases e:GC xs.length i with
 | none=>rw[e]at h;cases h
 | some j=>
  rw[e]at h;have⟨h1,h2,h3,h4⟩:=Ek e;exact⟨j,h1,h,h2,h3,h4⟩
def Υ{α:Type}{xs:List α}{j:Nat}{v:α}(h:xs[j]? =some v):iH xs (j:Int)=some v:=by
 have hj:j < xs.length:=(aaf.mp h).1;have e:GC xs.length (j:Int)=some j:=by unfold GC;rw[if_pos (),if_pos ()];simp
 unfold iH;rw[e];exact h
def xm(b:Expr):Prop:=∀o i,subscripted b false o i=operate [o,i] (getItem o i)
def Kz(X:Cx)(r:R2):Prop:=
 ∀(value slice:Expr) (δ:List (Addr×Obj)) (s:Shared) (σ:St) (H:Hp) (x y:V) (v u:Value) (Q:VK),Inv X δ σ H s->aB x v->aB y u->r x y H Q->
  subscripted slice false v u=operate [v,u] (getItem v u)->wpAny (model X.prog X.w) X.A (subscriptTail value slice v u) (EP X δ σ Q) X.xe s
def Z3(X:Cx)(id:String)(r:V->List V->Hp->VK->Prop):Prop:=
 ∀(δ:List (Addr×Obj)) (s:Shared) (σ:St) (H:Hp) (x:V) (xs:List V) (v:Value) (us:List Value) (Q:VK),Inv X δ σ H s->aB x v->ay xs us->r x xs H Q->
  wpAny (model X.prog X.w) X.A (call (.builtin id) (v::us)) (EP X δ σ Q) X.xe s
section
variable{a b:Expr}{ta tb:TE}{pos:Pos}
def Kz.or{r r':R2}(h:Kz X r)(h':Kz X r'):Kz X (λx y H Q=>r x y H Q\/r' x y H Q):=by
 intro value slice δ s σ H x y v u Q I rx ry q hs;rcases q with q| q
 ·exact h value slice δ s σ H x y v u Q I rx ry q hs
 ·exact h' value slice δ s σ H x y v u Q I rx ry q hs
def RG{r:R2}(hr:Kz X r)(ha:PE X a ta)(hb:PE X b tb)(hs:xm b):PE X (.Subscript a b pos) (S4 r ta tb):=by intro δ s σ H Q I h;exact Subscript_ (Qk ha hb I h λv u s2 x y H2 I2 rx ry q=>hr a b δ s2 σ H2 x y v u Q I2 rx ry q (hs _ _))
def RB(K:fI):R2:=λx y H Q=>∃p xs i v,x= .ref p/\y= .int i/\gc K H p xs/\iH xs i=some v/\Q v H
def Ua(K:fI):R2:=λx y H Q=>∃p xs i v,x= .ref p/\y= .int i/\mL K H p xs/\iH xs i=some v/\Q v H
def S9:R2:=λx y H Q=>∃z i c,x= .str z/\y= .int i/\z.length<=sizeLine/\iH z.cps.toList i=some c/\Q (.str ⟨#[c]⟩) H
def LK:Kz X (RB X.K):=by
 intro value slice δ s σ H x y v u Q I rx ry h hs;have⟨p,xs,i,z,rfl,rfl,hq,he,q⟩:=h;cases rx;have⟨t,rfl⟩:=ry;have⟨its,r,pl,hz⟩:=I.list hq;have⟨j,h1,h2,h3,h4,h5⟩:=xc he;have⟨w,ew,EW⟩:=r.get h2;have hl:=r.length;have hn:=n_;have fin:EP X δ σ Q w s:=⟨z,H,I,EW,q⟩;by_cases h0:0<=i
 ·have hj:i.toNat=j:=by rw[seqIndex_of h0 h5]at h1;exact aao h1
  exact item_listR pl.isList h0 () (by rw[hj];simpa using ew) fin hs
 ·have hj:(i+(its.toArray.size:Int)).toNat=j:=by rw[seqIndex_neg () h4]at h1;rw[aa0,<-hl];exact aao h1
  exact subscriptTail_builtinR (x:=w) pl.isList.typeIs slot_list_getitem.lookup
   (wpAny_getItem_list_neg (Q:=λr s'=>r=w/\EP X δ σ Q r s') pl.isList () (by rw[List.size_toArray] <;> omega) () (by rw[hj];simpa using ew) ⟨rfl,fin⟩) hs
def P1:Kz X (Ua X.K):=by
 intro value slice δ s σ H x y v u Q I rx ry h hs;have⟨p,xs,i,z,rfl,rfl,hq,he,q⟩:=h;cases rx;have⟨t,rfl⟩:=ry;have⟨its,r,pl,hz⟩:=I.tuple hq;have⟨j,h1,h2,h3,h4,h5⟩:=xc he;have⟨w,ew,EW⟩:=r.get h2;have hl:=r.length;have hn:=n_;have fin:EP X δ σ Q w s:=⟨z,H,I,EW,q⟩
 exact subscriptTail_builtinR (x:=w) pl.typeIs slot_tuple_getitem.lookup
  (getItem_tuple (j:=j) (Q:=λr s'=>r=w/\EP X δ σ Q r s') pl () () (by rw[List.size_toArray,<-hl];exact h1) (by simpa using ew) ⟨rfl,fin⟩) hs
def P5:Kz X S9:=by
 intro value slice δ s σ H x y v u Q I rx ry h hs;have⟨z,i,c,rfl,rfl,hz,he,q⟩:=h;have⟨t,rfl⟩:=rx;have⟨t',rfl⟩:=ry;have⟨j,h1,h2,h3,h4,h5⟩:=xc he;have hl:z.cps.toList.length=z.length:=by simp[Str.length]
 rw[hl]at h1 h4 h5;have hn:=n_
 exact tail_any (typeIs_str s z t) slot_str_getitem.lookup (getItem_str (c:=c) (by
  have e1:decide (i < -(2 ^ 63:Int))=false:=aar ();have e2:decide (i ≥ 2 ^ 63)=false:=aar ()
  rw[e1,e2,Bool.or_false]) (by rw[h1];simpa using h2) ⟨.str ⟨#[c]⟩,H,I.tok _,⟨_,rfl⟩,q⟩) hs
def YY(K:fI):R2:=λx y H Q=>RB K x y H Q\/Ua K x y H Q\/S9 x y H Q
def Po:Kz X (YY X.K):=LK.or (P1.or P5)
def Be(its:List Value)(n j:Nat)(u:Value):Obj.mapSeq (·.setIfInBounds j u) {cls:=.type "list",data:=.seq its.toArray n}={cls:=.type "list",data:=.seq (its.set j u).toArray n}:=by simp[Obj.mapSeq]
def Inv.lst{δ:List (Addr×Obj)}{σ:St}{H:Hp}{s:Shared}{p:Addr}{xs:List V}(I:Inv X δ σ H s)(h:H p=some (.lst xs)):
  ∃(its:List Value) (n:Nat),ay xs its/\s.heap.get? p=some {cls:=.type "list",data:=.seq its.toArray n}/\xs.length<=sizeLine:=by
 have⟨z,its,n,r,e⟩:=I.aX p _ h;exact⟨its,n,r,e,z⟩
def Inv.OC{σ:St}{H:Hp}{p:Addr}{xs ys:List V}{its':List Value}{n':Nat}{f:Obj->Obj}(I:Inv X δ σ H s)(h:H p=some (.lst xs))
  (ho:s.heap.get? p=some {cls:=.type "list",data:=.seq its.toArray n}) (hf:f {cls:=.type "list",data:=.seq its.toArray n}={cls:=.type "list",data:=.seq its'.toArray n'}) (r:ay ys its') (hz:ys.length<=sizeLine) (t:Nat):
  Inv X δ σ (upd H p (.lst ys)) {s with heap:=s.heap.update p f,toks:=t}:=by
 have e:(s.heap.update p f).get? p=some {cls:=.type "list",data:=.seq its'.toArray n'}:=by rw[Heap.get?_update_self f ho (by rw[hf] <;> rfl),hf]
 refine I.write (x:=p) (e:=p) (by rw[h];trivial) (.inl rfl) (λb u hb q=>(Heap.get?_update_other _ _ (Ne.symm hb)).trans q) ⟨_,e⟩ ?_;exact⟨hz,its',n',r,e⟩
def NG:V->V->V->Hp->(Hp->Prop)->Prop:=λo i v H Q=>∃p xs k j,o= .ref p/\i= .int k/\H p=some (.lst xs)/\GC xs.length k=some j/\Q (upd H p (.lst (xs.set j v)))
def Ay:OF X NG:=by
 intro δ s σ H o i v ov iv u Q I ro ri rv h;have⟨p,xs,k,j,rfl,rfl,hp,hj,q⟩:=h;cases ro;have⟨t,rfl⟩:=ri;have⟨its,n,r,ho,hz⟩:=I.lst hp;have⟨h1,h2,h3,h4⟩:=Ek hj;have hl:=r.length;have hn:=n_
 have I':Inv X δ σ (upd H p (.lst (xs.set j v))) {s with heap:=s.heap.update p (Obj.mapSeq (·.setIfInBounds j u))}:=
  I.OC hp ho (Be its n j u) (r.set rv j) (by rw[aa6];exact hz) s.toks
 by_cases h0:0<=k
 ·have hk:k.toNat=j:=by rw[seqIndex_of h0 h4]at h1;exact aao h1
  exact PySem.W.ki_setAt ho h0 () (by rw[aa0,<-hl];exact h4) (by rw[hk];exact⟨_,I',q⟩)
 ·have hk:(k+(its.toArray.size:Int)).toNat=j:=by rw[seqIndex_neg () h3]at h1;rw[aa0,<-hl];exact aao h1
  exact PySem.W.ki_setBack ho () (by rw[aa0,<-hl];exact h3) () (by rw[hk];exact⟨_,I',q⟩)
def yn(lo hi:Option Int)(n:Nat):(sliceBounds lo hi none n).1=((HT.yN n 0 lo:Nat):Int)/\(sliceBounds lo hi none n).2.1=((HT.yN n n hi:Nat):Int)/\(sliceBounds lo hi none n).2.2=1:=by
 refine⟨?_,?_,rfl⟩
 ·cases lo with
  | none=>simp[sliceBounds,HT.yN]
  | some i=>
   simp only[sliceBounds,HT.yN,Option.getD_none,show(1:Int) > 0 by decide,if_true];by_cases h:i < 0
   ·simp only[h,if_true] <;> omega
   ·simp only[h,if_false] <;> omega
 ·cases hi with
  | none=>simp[sliceBounds,HT.yN]
  | some i=>
   simp only[sliceBounds,HT.yN,Option.getD_none,show(1:Int) > 0 by decide,if_true];by_cases h:i < 0
   ·simp only[h,if_true] <;> omega
   ·simp only[h,if_false] <;> omega
def tV(its:List Value)(lo hi:Option Int):slicePick its.toArray lo hi none=((its.drop (HT.yN its.length 0 lo)).take (HT.yN its.length its.length hi - HT.yN its.length 0 lo)).toArray:=by have⟨h1,h2,h3⟩:=yn lo hi its.toArray.size;unfold slicePick;rw[h1,h2,h3];simp only[sliceRange_one,pick_run,List.size_toArray] <;> rfl
def W8(K:fI):V->Option Int->Option Int->Hp->VK->Prop:=λx lo hi H Q=>∃a xs,x= .ref a/\gc K H a xs/\∀p,H p=none->Q (.ref p) (upd H p (.lst (tP xs lo hi)))
def vY:ZR X (W8 X.K):=by intro δ s σ H x v vl vu lo hi sl Q I rx hs pl pu h;have⟨a,xs,rfl,hx,q⟩:=h;cases rx;have⟨its,r,ht,hz⟩:=I.list hx;have hlen:=r.length;refine⟨"list",_,slot_list_getitem.lookup,ht.isList.typeIs,?_⟩;refine wpAny_getItem_list_slice ht.isList hs pl pu .none (by simp) ?_ (by rw[List.size_toArray] <;> omega);rw[tV,<-hlen];refine⟨.ref s.heap.objs.size,_,I.laid (t':=s.toks) (o:=.lst (tP xs lo hi)) (λb ob q=>aam _ q) (aaj _) ?_,rfl,q _ (I.aX.fresh (aaj _))⟩;exact⟨aaw (zV xs lo hi) hz,_,0,(r.drop (HT.yN xs.length 0 lo)).take (HT.yN xs.length xs.length hi - HT.yN xs.length 0 lo),aaS _ rfl⟩
def eK:V->Bool
 | .aY=>true
 | .bl _=>true
 | .int _=>true
 | .str _=>true
 | _=>false
def vL:V->V->Bool
 | .aY,.aY=>true
 | .bl a,.bl b=>a==b
 | .bl a,.int b=>(if a then 1 else 0)==b
 | .int a,.bl b=>a==(if b then 1 else 0)
 | .int a,.int b=>a==b
 | .str a,.str b=>a==b
 | _,_=>false
def x6{A:Around}{y x:V}{u v:Value}(ry:aB y u)(rx:aB x v)(fy:eK y=true)(fx:eK x=true):SeqAt.EqAt A s u v (vL y x):=by
 cases y with
 | aY=>
  cases ry;cases x with
  | aY=>cases rx;exact SeqAt.EqAt.same _
  | bl b=>cases rx;exact SeqAt.EqAt.none_bool b
  | int b=>have⟨t,rfl⟩:=rx;exact SeqAt.EqAt.none_int b t
  | str b=>have⟨t,rfl⟩:=rx;exact SeqAt.EqAt.none_str b t
  | _=>exact aay (show false=true from fx) aaB
 | bl a=>
  cases ry;cases x with
  | aY=>cases rx;exact SeqAt.EqAt.bool_none a
  | bl b=>cases rx;exact SeqAt.EqAt.bool_bool a b
  | int b=>have⟨t,rfl⟩:=rx;exact SeqAt.EqAt.bool_int a b t
  | str b=>have⟨t,rfl⟩:=rx;exact SeqAt.EqAt.bool_str a b t
  | _=>exact aay (show false=true from fx) aaB
 | int a=>
  have⟨t',rfl⟩:=ry;cases x with
  | aY=>cases rx;exact SeqAt.EqAt.int_none a t'
  | bl b=>cases rx;exact SeqAt.EqAt.int_bool a t' b
  | int b=>have⟨t,rfl⟩:=rx;exact SeqAt.EqAt.int_int a t' b t
  | str b=>have⟨t,rfl⟩:=rx;exact SeqAt.EqAt.int_str a t' b t
  | _=>exact aay (show false=true from fx) aaB
 | str a=>
  have⟨t',rfl⟩:=ry;cases x with
  | aY=>cases rx;exact SeqAt.EqAt.str_none a t'
  | bl b=>cases rx;exact SeqAt.EqAt.str_bool a t' b
  | int b=>have⟨t,rfl⟩:=rx;exact SeqAt.EqAt.str_int a t' b t
  | str b=>have⟨t,rfl⟩:=rx;exact SeqAt.EqAt.str_str a t' b t
  | _=>exact aay (show false=true from fx) aaB
 | _=>exact aay (show false=true from fy) aaB
def LP(x:V)(u:Value):Bool:=match u with
 | .none=>vL .aY x
 | .bool b=>vL (.bl b) x
 | .int i _=>vL (.int i) x
 | .str z _=>vL (.str z) x
 | _=>false
def Hw{x y:V}{u:Value}(r:aB y u)(f:eK y=true):LP x u=vL y x:=by
 cases y with
 | aY=>cases r;rfl
 | bl b=>cases r;rfl
 | int i=>have⟨t,rfl⟩:=r;rfl
 | str z=>have⟨t,rfl⟩:=r;rfl
 | _=>exact aay (show false=true from f) aaB
def vE{x:V}:∀{xs:List V} {us:List Value},ay xs us->xs.all eK=true->us.any (LP x)=xs.any λy=>vL y x
 | _,_,.nil,_=>rfl
 | y::xs,u::us,.cons r t,f=>by rw[abS,aaC]at f;rw[abK,abK,Hw r f.1,vE t f.2]
def rQ{A:Around}{s:Shared}{x:V}{v:Value}(rx:aB x v)(fx:eK x=true):∀{xs:List V} {us:List Value},ay xs us->xs.all eK=true->∀u∈us,SeqAt.EqAt A s u v (LP x u)
 | _,_,.nil,_=>λu hu=>by cases hu
 | y::xs,u::us,.cons r t,f=>λu' hu=>by
  rw[abS,aaC]at f;rcases aaD.mp hu with rfl| hu
  ·rw[Hw r f.1];exact x6 r rx f.1 fx
  ·exact rQ rx fx t f.2 u' hu
def QS(x:V)(xs:List V):Bool:=xs.any λy=>vL y x
def ZO(K:fI)(neg:Bool):R2:=λx y H Q=>∃p xs,y= .ref p/\(gc K H p xs\/mL K H p xs)/\eK x=true/\xs.all eK=true/\Q (.bl (if neg then !QS x xs else QS x xs)) H
def Fp:jQ X (compareOp .In) (ZO X.K false):=by
 intro δ s σ H x y v u Q I rx ry h;have⟨p,xs,rfl,hq,fx,fs,q⟩:=h;cases ry;rcases hq with hq| hq
 ·have⟨its,r,pl,hz⟩:=I.list hq;refine SeqAt.in_listAt (LP x) pl.isList (λw hw=>rQ rx fx r fs w (by simpa using hw)) ⟨.bl _,H,I,rfl,?_⟩;rw[show its.toArray.any (LP x)=its.any (LP x) by simp,vE r fs];exact q
 ·have⟨its,r,pl,hz⟩:=I.tuple hq;refine SeqAt.in_tupleAt (LP x) pl (λw hw=>rQ rx fx r fs w (by simpa using hw)) ⟨.bl _,H,I,rfl,?_⟩;rw[show its.toArray.any (LP x)=its.any (LP x) by simp,vE r fs];exact q
def xH:dY X (.builtin "len") (λxs H Q=>∃p ys,xs=[.ref p]/\(gc X.K H p ys\/mL X.K H p ys)/\Q (.int ys.length) H):=by
 intro δ s σ H xs us Q I r h;have⟨p,ys,rfl,hq,q⟩:=h;have⟨u,rfl,rx⟩:=kr r;cases rx;have hn:=n_;rcases hq with hq| hq
 ·have⟨its,r',pl,hz⟩:=I.list hq;have hlen:=r'.length;exact Calls.call_len_list pl.isList (by simp only[List.size_toArray] <;> omega) ⟨.int ys.length,H,I.tok _,⟨s.toks+1,by rw[List.size_toArray,hlen]⟩,q⟩
 ·have⟨its,r',pl,hz⟩:=I.tuple hq;have hlen:=r'.length;exact len_tuple pl (by simp only[List.size_toArray] <;> omega) ⟨.int ys.length,H,I.tok _,⟨s.toks+1,by rw[List.size_toArray,hlen]⟩,q⟩
def vX:dY X (.builtin "len") (λxs H Q=>∃z,xs=[.str z]/\z.length<=sizeLine/\Q (.int z.length) H):=by intro δ s σ H xs us Q I r h;have⟨z,rfl,hz,q⟩:=h;have⟨u,rfl,t,rfl⟩:=kr r;have hn:=n_;exact len_str () ⟨.int z.length,H,I.tok _,⟨_,rfl⟩,q⟩
def dY.or{f:Value}{r r':List V->Hp->VK->Prop}(h:dY X f r)(h':dY X f r'):dY X f (λxs H Q=>r xs H Q\/r' xs H Q):=by
 intro δ s σ H xs us Q I rs q;rcases q with q| q
 ·exact h δ s σ H xs us Q I rs q
 ·exact h' δ s σ H xs us Q I rs q
def wN:dY X (.type "list") (λxs H Q=>∃p ys,xs=[.ref p]/\(gc X.K H p ys\/mL X.K H p ys)/\∀l,H l=none->Q (.ref l) (upd H l (.lst ys))):=by
 intro δ s σ H xs us Q I r h;have⟨p,ys,rfl,hq,q⟩:=h;have⟨u,rfl,rx⟩:=kr r;cases rx
 have fin:∀(its:List Value),ay ys its->ys.length<=sizeLine->∀(h':Heap) (c':Nat),(∀b o',s.heap.get? b=some o'->h'.get? b=some o')->
   h'.get? s.heap.objs.size=some {cls:=.type "list",dict:=none,data:=.seq its.toArray c',slots:= #[]}->EP X δ σ Q (.ref s.heap.objs.size) {s with heap:=h'}:=λits r' hz h' c' kp e=>
  ⟨.ref s.heap.objs.size,_,I.laid (t':=s.toks) kp (aaj _) (show da X.prog X.w _ h' _ (.lst ys) from⟨hz,its,c',r',e⟩),rfl,q _ (I.aX.fresh (aaj _))⟩
 rcases hq with hq| hq
 ·have⟨its,r',pl,hz⟩:=I.list hq;have hlen:=r'.length;have⟨o,ho,hc,n,hd⟩:=pl.isList;exact call_list_seq p (.inl rfl) ho hc hd (λh' c' kp e=>fin its r' hz h' c' kp e) (by simp only[List.size_toArray] <;> omega)
 ·have⟨its,r',pl,hz⟩:=I.tuple hq;have hlen:=r'.length;have⟨o,ho,hc,n,hd⟩:=pl;exact call_list_seq p (.inr rfl) ho hc hd (λh' c' kp e=>fin its r' hz h' c' kp e) (by simp only[List.size_toArray] <;> omega)
def Zt(K:fI)(T:String)(x:V)(H:Hp):Prop:=match x with
 | .str _=>T="str"
 | .int _=>T="int"
 | .ref p=>(T="list"/\∃xs,gc K H p xs)\/(T="tuple"/\∃o,K.lookup p=some o/\o.cls= .type "tuple"/\o.dict=none)\/
   (T="dict"/\((∃Η,H p=some (.dK Η))\/∃Η,H p=some (.dT Η)))\/(T="set"/\∃S n,H p=some (.set S n))
 | _=>False
def Ot{σ:St}{H:Hp}{T:String}{x:V}{v:Value}(I:Inv X δ σ H s)(r:aB x v)(ty:Zt X.K T x H):
  s.TypeIs v T/\∀a,v= .ref a->∃ob,s.heap.get? a=some ob/\ob.dict=none:=by
 cases x with
 | str z=>
  have⟨t,rfl⟩:=r;cases(show T="str" from ty);exact⟨typeIs_str s z t,λ_ e=>nomatch e⟩
 | int i=>
  have⟨t,rfl⟩:=r;cases(show T="int" from ty);exact⟨typeIs_int s i t,λ_ e=>nomatch e⟩
 | ref p=>
  cases r;rcases ty with ⟨rfl,xs,hq⟩| ⟨rfl,o,hk,hc,hd⟩| ⟨rfl,hk⟩| ⟨rfl,S,n,hk⟩
  ·have⟨its,_,pl,_⟩:=I.list hq;refine⟨pl.isList.typeIs,λa e=>?_⟩;cases e;have⟨o,n,e,c,hd,_⟩:=pl;exact⟨o,e,hd⟩
  ·refine⟨⟨o,I.Dh p o hk,hc⟩,λa e=>?_⟩;cases e;exact⟨o,I.Dh _ o hk,hd⟩
  ·have z:∃o,s.heap.get? p=some o/\o.ExactDict:=by
    rcases hk with ⟨Η,hk⟩| ⟨Η,hk⟩
    ·have⟨_,_,_,_,o,_,_,e,ex,_⟩:=I.aX p _ hk;exact⟨o,e,ex⟩
    ·have⟨_,_,_,_,o,_,_,e,ex,_⟩:=I.aX p _ hk;exact⟨o,e,ex⟩
   have⟨o,e,ex⟩:=z;refine⟨⟨o,e,ex.1⟩,λa e2=>?_⟩;cases e2;exact⟨o,e,ex.2.1⟩
  ·have⟨o,_,_,_,e,ex,_⟩:=I.aX p _ hk;refine⟨⟨o,e,ex.1⟩,λa e2=>?_⟩;cases e2;exact⟨o,e,ex.2.1⟩
 | _=>exact False.elim ty
def tBM(K:fI)(T:String)(r:V->List V->Hp->VK->Prop)(to:TE)(t:TA):TE:=λσ H Q=>to σ H λx H1=>Zt K T x H1/\t σ H1 λxs H2=>r x xs H2 Q
variable{o e:Expr}{es:List Expr}{to:TE}{t:TA}{name:Str}{apos bY:Pos}{T id:String}{r:V->List V->Hp->VK->Prop}
def Nz(pa:PlainAttrs T)(slot:Slot T name id)(hty:typeOf (.builtin id)=pure (.type "method_descriptor"))(hm:Z3 X id r)(ho:PE X o to)(ha:PA X (e::es) t)
  (zb:attributeBase o name X.env (eval o X.env)=eval o X.env:=by rfl)
  (Jx:((backTo bY (starEach (e::es) X.env)).all (λx=> !x.1)&&(backToKw bY (keywordEach [] X.env)).all (λx=>x.1.isSome)
   &&decide ((e::es).length+([]:List Keyword).length+(if ([]:List Keyword).isEmpty then 0 else 1) < 30))=true:=by rfl)
  (yQ:(apos.endLine==bY.line)=true:=by rfl) (hs:starEach (e::es) X.env=(false,eval e X.env)::starEach es X.env:=by rfl) (sd:(backTo bY (starEach es X.env)).any (·.1)=false:=by rfl):
  PE X (.Call (.Attribute o name apos) (e::es) [] bY) (tBM X.K T r to t):=by
 intro δ s σ H Q I h;refine wpAny_Call_method_late zb Jx yQ rfl (bA (ho δ s σ H _ I h) λv s1 xz=>?_);have⟨x,H1,I1,r1,ty,q1⟩:=xz;have⟨h1,h2⟩:=Ot I1 r1 ty;refine⟨T,id,pa,slot,hty,h1,h2,?_⟩;have hA:=ha bY δ s1 σ H1 _ I1 q1;rw[hs]at hA⊢;refine Calls.callWith_builtin (by show(false|| (backTo bY (starEach es X.env)).any (·.1))=false;rw[sd] <;> rfl) (Calls.evalArgs_plain ?_);exact bA hA λus s2 ⟨vs,H2,I2,r2,q2⟩=>hm δ s2 σ H2 x vs v us Q I2 r1 r2 q2
end
def ZP(X:Cx)(id:String)(r:V->List V->Hp->VK->Prop):Prop:=
 ∀(δ:List (Addr×Obj)) (s:Shared) (σ:St) (H:Hp) (x:V) (xs:List V) (v:Value) (us:List Value) (Q:VK),Inv X δ σ H s->aB x v->ay xs us->r x xs H Q->
  wpAny (model X.prog X.w) X.A (call (.builtin id) (v::us)) (EP X δ σ Q) X.xe s
def ay.one:∀{x:V} {us:List Value},ay [x] us->∃u,us=[u]/\aB x u
 | _,_,.cons r .nil=>⟨_,rfl,r⟩
def ay.rep{xs:List V}{us:List Value}(h:ay xs us):∀k:Nat,ay (List.replicate k xs).flatten (List.replicate k us).flatten
 | 0=>.nil
 | k+1=>by rw[abo,abo,abD,abD];exact ay.append h (ay.rep h k)
def vz(its:List Value):∀(k:Nat) (acc:List Value),
  List.foldl (λx1 x2=>x1++x2) acc.toArray (List.replicate k its.toArray)=(acc++(List.replicate k its).flatten).toArray
 | 0,acc=>by simp
 | k+1,acc=>by
  have e:acc.toArray++its.toArray=(acc++its).toArray:=by simp
  have e2:(acc++its)++(List.replicate k its).flatten=acc++(List.replicate (k+1) its).flatten:=by rw[abo,abD,aaI]
  rw[<-e2,<-vz its k (acc++its),<-e,abo,abM]
section
variable{σ:St}{H:Hp}{l b:Addr}{xs ys zs:List V}
def Inv.Vq{its':List Value}{f:Array Value->Array Value}{t':Nat}(I:Inv X δ σ H s)(hH:H l=some (.lst xs))
  (e:s.heap.get? l=some {cls:=.type "list",data:=.seq its.toArray n}) (hf:f its.toArray=its'.toArray) (hv:ay ys its') (hz:ys.length<=sizeLine):
  Inv X δ σ (upd H l (.lst ys)) {s with heap:=s.heap.update l (Obj.mapSeq f),toks:=t'}:=by
 have q:=PySem.IsL.update e f;rw[hf]at q;refine I.write (x:=l) (e:=l) (by rw[hH];exact trivial) (.inl rfl) (λb' u hb hu=>(Heap.get?_update_other s.heap (Obj.mapSeq f) (Ne.symm hb)).trans hu) ⟨_,q⟩ ?_;exact⟨hz,its',_,hv,q⟩
def Inv.PY{t':Nat}(I:Inv X δ σ H s)(hv:ay ys its)(hz:ys.length<=sizeLine):
  Inv X δ σ (upd H s.heap.objs.size (.lst ys)) {s with heap:=s.heap.push {cls:=.type "list",data:=.seq its.toArray},toks:=t'}:=
 I.laid (λ_ _ q=>aam _ q) (aaj _) ⟨hz,its,0,hv,aaS _ rfl⟩
def Inv.fresh(I:Inv X δ σ H s):H s.heap.objs.size=none:=I.aX.fresh (aaj _)
def Inv.LL(I:Inv X δ σ H s)(hH:H l=some (.lst xs)):xs.length<=sizeLine/\∃(its:List Value) (n:Nat),ay xs its/\xs.length=its.length/\s.heap.get? l=some {cls:=.type "list",data:=.seq its.toArray n}:=by have⟨z,its,n,r,e⟩:=I.aX l _ hH;exact⟨z,its,n,r,r.length,e⟩
def Ka(h:n<=sizeLine):Builtin.List.listTooLong n=false:=by unfold Builtin.List.listTooLong;exact aar ()
end
section
def Df:V->List V->Hp->VK->Prop:=λx vs H Q=>∃l xs y,x= .ref l/\vs=[y]/\H l=some (.lst xs)/\xs.length < sizeLine/\Q .aY (upd H l (.lst (xs++[y])))
def uN:ZP X "list.append" Df:=by intro δ s σ H x vs v us Q I rx rv h;have⟨l,xs,y,rfl,rfl,hH,hz,q⟩:=h;cases rx;have⟨u,rfl,ru⟩:=rv.one;have⟨z,its,n,r,hl,e⟩:=I.LL hH;refine call_meets F.slot_list_append ⟨_,e,rfl⟩ F.entry_list_append (F.args_list_append_2 _ _) (PySem.list_append l its.toArray n u (by rw[aa0];omega)) ⟨e,?_⟩;refine⟨.aY,_,I.Vq (its':=its++[u]) hH e (by simp) (r.append (.cons ru .nil)) ?_,rfl,q⟩;rw[aah,List.length_singleton];omega
def Pu:R2:=λx y H Q=>∃l b xs zs,x= .ref l/\y= .ref b/\H l=some (.lst xs)/\H b=some (.lst zs)/\xs.length+zs.length<=sizeLine/\∀p,H p=none->Q (.ref p) (upd H p (.lst (xs++zs)))
def Jl:jQ X (binaryOp .Add) Pu:=by
 intro δ s σ H x y v u Q I rx ry h;have⟨l,b,xs,zs,rfl,rfl,hH,hB,hz,q⟩:=h;cases rx;cases ry;have⟨z,its,n,r,hl,e⟩:=I.LL hH;have⟨z2,Jc,n2,r2,Ir,e2⟩:=I.LL hB;refine PySem.P.add_list e e2 ?_ (by rw[aa0,aa0];omega);have ea:its.toArray++Jc.toArray=(its++Jc).toArray:=by simp
 rw[ea];exact⟨.ref _,_,I.PY (t':=s.toks) (r.append r2) (by rw[aah];omega),rfl,q _ I.fresh⟩
def PU:R2:=λx y H Q=>∃l k xs,x= .ref l/\y= .int k/\H l=some (.lst xs)/\ -(2 ^ 63)<=k/\k < 2 ^ 63/\xs.length * k.toNat<=sizeLine/\
 ∀p,H p=none->Q (.ref p) (upd H p (.lst (List.replicate k.toNat xs).flatten))
def ML{α:Type}(xs:List α)(k:Nat):(List.replicate k xs).flatten.length=k * xs.length:=by
 induction k with
 | zero=>simp
 | succ k ih=>rw[abo,abD,aah,ih,Nat.succ_mul,Nat.add_comm]
def Kn:jQ X (binaryOp .Mult) PU:=by
 intro δ s σ H x y v u Q I rx ry h;have⟨l,k,xs,rfl,rfl,hH,h1,h2,hz,q⟩:=h;cases rx;have⟨t,rfl⟩:=ry;have⟨z,its,n,r,hl,e⟩:=I.LL hH;have hlen:its.toArray.size * k.toNat<=sizeLine:=by rw[aa0,<-hl];exact hz
 have W3:¬its.toArray.size * k.toNat > (2 ^ 63 - 1) / 8:=by
  have:(sizeLine:Nat)<=(2 ^ 63 - 1) / 8:=@_
  omega
 have Ly:¬(!Builtin.List.listFitsIndex k)=true:=by rw[fitsIndex_both h1 h2];exact aaB
 have T5:¬Builtin.List.listTooLong (its.toArray.size * k.toNat)=true:=by rw[Ka hlen];exact aaB
 have BF:List.foldl (λx1 x2=>x1++x2) #[] (List.replicate (if its.toArray.isEmpty=true then 0 else k.toNat) its.toArray)=(List.replicate k.toNat its).flatten.toArray:=by
  have f0:∀m:Nat,List.foldl (λx1 x2=>x1++x2) #[] (List.replicate m its.toArray)=(List.replicate m its).flatten.toArray:=λm=>by have:=vz its m [];rw[aaH]at this;exact this
  rw[f0];cases its with
  | nil=>simp
  | cons a r'=>rw[if_neg (by simp)]
 refine wpAny_binaryOp_repeat_ref (T:="list") (U:="int") @_ ⟨_,e,rfl⟩ (λs'=>typeIs_int s' k t) noFill_list_mul F.fills_int_mul F.slot_int_rmul repeat_list F.slot_int_index.lookup
  (call_meets F.slot_int_rmul (typeIs_int s k t) F.entry_int_rmul (F.args_int_rmul_2 _ _) (int___rmul___int_list k t l its.toArray n)
   ⟨e,rfl,⟨_,e,rfl⟩,call_meets F.slot_list_mul ⟨_,e,rfl⟩ F.entry_list_mul (F.args_list_mul_2 _ _) (AutoListH.list___mul___list_int_3 l its.toArray n k t Ly W3 T5) ⟨e,?_⟩⟩)
 rw[BF];exact⟨.ref _,_,I.PY (t':=s.toks) (r.rep k.toNat) (by rw[ML,Nat.mul_comm];exact hz),rfl,q _ I.fresh⟩
end
end L2
namespace Att
open PySem PySem.W PySem.Calls PyProof.Rows
def pX{P:Params}{h:Heap}:∀(ns:List Int) (vs:List Value),WellAll P h vs (ns.map WData.int)->IntsAre vs ns:=by
 intro ns
 induction ns with
 | nil=>
  intro vs w;rw[List.map_nil]at w;cases w;exact .nil
 | cons n ns ih=>
  intro vs w;rw[aaU]at w;cases w with
  | cons a b=>
   cases a;exact .cons _ _ (ih _ b)
def Fe{l:OpenLaw}{n:Nat}(hn:l.most=some n){P:Params}{h:Heap}{args:List WData}{vals:List Value}
  (Md:l.row.toRowW.claim.pre args=true) (Yq:WellAll P h vals args):
  ∃a vs ns,vals=[Value.ref a]/\args=[WData.list (ns.map WData.int)]/\h.get? a=some {cls:=.type "list",data:=.seq vs.toArray}/\IntsAre vs ns/\ns.length<=n:=by
 have hsh:WShape.hasAll [] args [.list .int]=true:=(pre_splitW Md).1;have hc:l.pre.holds [] {args:=args}=true:=(pre_splitW Md).2;have⟨d,r,rfl,h1,h2⟩:=hasAllW_cons hsh;obtain rfl:=hasAllW_nil h2;have⟨xs,rfl,h3⟩:=hasW_list h1;have⟨ns,rfl⟩:=items_int h3;have hlen:ns.length<=n:=by
  unfold OpenLaw.pre at hc;have h4:(WTm.not (.lt (.lit (.int (n:Int))) (.len (.arg 0)))).holds [] {args:=[.list (ns.map .int)]}=true:=by have h4:=(holds_andW hc).1;rw[hn]at h4;exact h4
  have h5:=condW_of h4 (w_not (w_lt w_lit (w_len_list (w_arg rfl))));rw[aae]at h5;refine Nat.le_of_not_lt λq=>?_;have q':(n:Int) < ((ns.length:Nat):Int):=()
  first
   | (rw[aaE q']at h5;exact aay h5 @_)
   | (simp at h5;omega)
 cases Yq with
 | cons w1 w2=>
  cases w2;cases w1 with
  | list ho Gn=>exact⟨_,_,ns,rfl,rfl,ho,pX ns _ Gn,hlen⟩
def EZ(l:OpenLaw)(args:List WData):l.row.toRowW.claim.post args (.bool true) args=true:=
 postW_of (r:=l.row.toRowW) (X:=(true==true))
  (show WShape.has [] (.bool true) .bool=true by first| rfl| decide| simp[WShape.has,WShape.arms,WShape.armsAll])
  (show(WTm.eq .res (.lit (.bool true))).value [] {args:=args,res:=some (.bool true),after:=args}=some (.bool (true==true)) from w_eq_bool (w_res rfl) w_lit) rfl
def zT{l:OpenLaw}{n:Nat}{q:Program}{loose:List Str}{XP:(Str->Option Value)->Heap->Prop}{YP:World->Heap->Prop}{d:DefRec}
  (hn:l.most=some n) (TQ:d.params.defaults=[])
  (call:∀(w:World) (s₀ s₁:Shared) (mg mb:Str->Option Value) (fa:Addr) (o:Obj) (pm cd doc:Value) (a:Addr) (vs:List Value) (ns:List Int),
   Ground q loose [] XP w s₀ mg mb s₁.heap->YP w s₁.heap->
   s₁.heap.get? fa=some o->o.data= .func (docDef d.name d.params d.body d.scope pm cd doc)->s₁.heap.CodeRec cd d.name->mg d.name=some (.ref fa)->
   s₁.heap.get? a=some {cls:=.type "list",data:=.seq vs.toArray}->IntsAre vs ns->ns.length<=n->s₁.gens= #[]->
   codeAny (model l.prog w) callerA (.call (.ref fa) ⟨[.ref a],[]⟩) (λr s'=>r= .ok (.ret (.bool true))/\OldK s₁.heap s'.heap/\s'.os=s₁.os/\AllBare s'.gens) s₁):
  WalkO q loose XP YP l.row.toRowW d [] (λf vs=>PySem.call f vs):=by
 intro w s₀ s₁ mg mb G Y fa o pm cd doc dV kV ho hd Jf hD Ls hg args vals as Md aaT hrd Yq hlo;obtain rfl:dV= .none:=Dflts.none hD TQ;obtain rfl:kV= .none:=Dflts.noKw hD;have⟨a,vs,ns,rfl,rfl,Ox,hints,hlen⟩:=Fe hn Md Yq;refine enter_call (codeAny_mono (call w s₀ s₁ mg mb fa o pm cd doc a vs ns G Y ho (fd_plain hd) Jf Ls Ox hints hlen hg) λr s' hq=>?_);have⟨rfl,h2,h3,h4⟩:=hq;exact⟨.inl ⟨.bool true,.bool true,[],rfl,λ_=>rfl,.bool true,EZ l _,λ_=>⟨List.Pairwise.nil,λ_ hm=>(nomatch hm)⟩⟩,h2,h3,h4⟩
end Att
namespace L2
open PySem PySem.Spec PyProof.Rows
def uW:∀{vs:List Value} {ns:List Int},IntsAre vs ns->ay (ns.map V.int) vs
 | _,_,.nil=>.nil
 | _,_,.cons n t h=>.cons ⟨t,rfl⟩ (uW h)
def OJ(H:Hp):Prop:=∀b,H b=none\/∃o xs,H b=some (.C6 o (.lst xs))
def Kb{P:Program}{w:World}{K:fI}{mg mb:Str->Option Value}{CX:AA}{k:Nat}{fa a:Addr}{fd:FuncData}{x:Str}{sp:Sp}{s₁:Shared}{vs:List Value}{ns:List Int}
  (KX:K.In s₁.heap) (Zy:s₁.heap.Ns mainGlobals mg) (hb:s₁.heap.Ns builtinsNs mb) (hbb:∀x:Str,x≠"__name__"->mb x=bootBuiltins x) (VN:s₁.heap.NoLimit) (hg:s₁.gens= #[])
  (ha:s₁.heap.get? a=some {cls:=.type "list",data:=.seq vs.toArray}) (hi:IntsAre vs ns) (hl:ns.length<=sizeLine) (hr:cx k callerA)
  (F:∀base:Heap,K.In base->base.Ns mainGlobals mg->aw P w K mg base CX k fa fd [x] sp) (QU:∀(s:Shared) (u:Value),BindsTo s fd ⟨[u],[]⟩ [(x,u)])
  (Np:∀H:Hp,OJ H->gc K H a (ns.map V.int)->sp [.ref a] H (λv _=>v= .bl true) λ_ _ _=>False)
  (Vk:∀H e s',CX [] H s₁ (λ_ _ _=>False) e s'->False):
  codeAny (model P w) callerA (.call (.ref fa) ⟨[.ref a],[]⟩) (λr s'=>r= .ok (.ret (.bool true))/\OldK s₁.heap s'.heap/\s'.os=s₁.os/\AllBare s'.gens) s₁:=by
 have rv:=uW hi;have Yd:=hi.length
 have core:∀H:Hp,OJ H->gc K H a (ns.map V.int)->kZ P w H s₁.heap->(∀b,H b≠none->b=a)->(H a≠none->K.lookup a=none)->
   codeAny (model P w) callerA (.call (.ref fa) ⟨[.ref a],[]⟩) (λr s'=>r= .ok (.ret (.bool true))/\OldK s₁.heap s'.heap/\s'.os=s₁.os/\AllBare s'.gens) s₁:=by
  intro H hO hS aX hA hK;have D7:∀{b:Addr} {o:Obj},s₁.heap.get? b=some o->H b=none->(x9 s₁.heap H).get? b=some o:=λe n=>IC e n;have SR:∀{b:Addr} {o:Obj} {es:Array DictEntry} {ep:Nat},s₁.heap.get? b=some o->o.data= .dict es ep->H b=none:=λ{b o es ep} e d=>by
   cases q:H b with
   | none=>rfl
   | some u=>
    have e':b=a:=hA b (by rw[q];simp);subst e';rw[ha]at e;cases e;have d':Data.seq vs.toArray _=Data.dict es ep:=d;cases d'
  have Ux:∀{b:Addr} {m:Str->Option Value},s₁.heap.Ns b m->(x9 s₁.heap H).Ns b m:=λ{b m} ⟨o,es,ep,e,d,r⟩=>⟨o,es,ep,D7 e (SR e d),d,r⟩
  have Zj:K.In (x9 s₁.heap H):=λb o e=>D7 (KX b o e) (by
   cases q:H b with
   | none=>rfl
   | some u=>
    have e':b=a:=hA b (by rw[q];simp);subst e'
    rw[hK (by rw[q];simp)]at e;cases e)
  have hM:Mod K mg (x9 s₁.heap H):=⟨Zj,Ux Zy,⟨mb,Ux hb,hbb⟩,let ⟨mc,h1,h2⟩:=VN;⟨mc,Ux h1,h2⟩⟩;have e0:B1 P w K mg (x9 s₁.heap H) callerA [] s₁ H:=⟨rfl,hM,λb o e=>Mx e,Nat.le_of_eq (Gq _ _),trivial,λb hb=>absurd (show b∈([]:List Addr) from hb) (by simp),aX,.of_eq hg⟩;refine codeAny_mono ((F _ Zj (Ux Zy)).run callerA [] s₁ H ⟨[.ref a],[]⟩ [.ref a] [.ref a] _ _ hr e0 (QU s₁ (.ref a)) (.cons rfl .nil) (Np H hO hS)) λr s' h=>?_;cases r with
  | error e=>exact(Vk H e s' h).elim
  | ok fl=>
   cases fl with
   | next=>exact False.elim h
   | brk=>exact False.elim h
   | cont=>exact False.elim h
   | ret u=>
    have⟨v,H',os,bare,un,WO,r',q⟩:=h;have q':v= .bl true:=q;subst q';obtain rfl:u=Value.bool true:=r';refine⟨rfl,OldK.of_keep λb o e=>?_,os,bare⟩;cases q:H b with
    | none=>exact un.keep b o e q (by intro z;exact absurd (show b∈([]:List Addr) from z) (by simp)) (by simp)
    | some u=>
     rcases hO b with z| ⟨ob,xs,z⟩
     ·rw[q]at z;cases z
     ·have z2:=un.ou b ob _ z;have⟨e1,_⟩:=aX b _ z;have⟨e2,_⟩:=WO b _ z2;rw[e]at e1;cases e1;exact e2
 cases hk:K.lookup a with
 | some o=>
  have e:=KX a o hk;rw[ha]at e;cases e;refine core (λ_=>none) (λ_=>.inl rfl) (.inr ⟨_,vs.toArray,_,hk,rfl,rfl,rfl,by rw[List.size_toArray,Yd];exact hl,by simpa using rv⟩) (λb u z=>by have z':(none:Option HO)=some u:=z;cases z') (λb z=>absurd rfl z) λz=>absurd rfl z
 | none=>
  refine core (λb=>if b=a then some (.C6 {cls:=.type "list",data:=.seq vs.toArray} (.lst (ns.map V.int))) else none) (λb=>?_) (.inl (.inr ⟨{cls:=.type "list",data:=.seq vs.toArray},aaq rfl⟩)) (λb u z=>?_) (λb z=>?_) λ_=>hk
  ·by_cases hb:b=a
   ·exact .inr ⟨_,_,aaq hb⟩
   ·exact .inl (aau hb)
  ·by_cases hb:b=a
   ·have z':=(aaq hb).symm.trans z;cases z';subst hb;exact⟨ha,by rw[aae];exact hl,vs,_,rv,ha⟩
   ·have z':=(aau hb).symm.trans z;cases z'
  ·by_cases hb:b=a
   ·exact hb
   ·exact aay (aau hb) z
def xT{l:PySem.W.OpenLaw}{n k:Nat}{q:Program}{loose:List Str}{XP:(Str->Option Value)->Heap->Prop}{YP:World->Heap->Prop}{d:DefRec}{K:Params->fI}{CX:World->AA}{sp:World->Sp}{x:Str}
  (hn:l.most=some n) (QO:n<=sizeLine) (TQ:d.params.defaults=[]) (hr:cx k callerA)
  (hY:∀(w:World) (h:Heap),YP w h->(K w.params).In h)
  (F:∀(w:World) (mg:Str->Option Value) (fa:Addr) (h:Heap),(K w.params).In h->h.Ns mainGlobals mg->mg d.name=some (.ref fa)->
   ∃fd:FuncData,(∀(s:Shared) (u:Value),BindsTo s fd ⟨[u],[]⟩ [(x,u)])/\
    ∀base:Heap,(K w.params).In base->base.Ns mainGlobals mg->aw l.prog w (K w.params) mg base (CX w) k fa fd [x] (sp w))
  (Np:∀(w:World) (H:Hp) (a:Addr) (ns:List Int),ns.length<=n->OJ H->gc (K w.params) H a (ns.map V.int)->sp w [.ref a] H (λv _=>v= .bl true) λ_ _ _=>False)
  (Vk:∀(w:World) (H:Hp) (s:Shared) (e:Value) (s':Shared),CX w [] H s (λ_ _ _=>False) e s'->False):
  PySem.W.WalkO q loose XP YP l.row.toRowW d [] (λf vs=>PySem.call f vs):=by
 refine Att.zT hn TQ λw s₀ s₁ mg mb fa o pm cd doc a vs ns G Y ho hd Jf Ls Ox hints hlen hg=>?_;have KX:=hY w _ Y;have⟨fd,hb,hF⟩:=F w mg fa _ KX G.T.g Ls;exact Kb KX G.T.g G.T.b G.T.builtins G.T.nolimit hg Ox hints (aaw hlen QO) hr hF hb (λH hO hS=>Np w H a ns hlen hO hS) λH e s'=>Vk w H s₁ e s'
end L2
/- THE Wa Me (shape;LID,My.* are S3):
  My.Adr:a structure of MI addresses VI W6 Rc names (classes,Fq);My.Txt K t:a structure (Prop) of MI equations p9 K;
  My.BM:{K} {implicit addresses ..} (e1:nsIn K mainGlobals "law"=some (some (.ref f))) (e2:K.lookup f=some ⟨oc,od,.func (fnOf "law" "law" params body scope dV kV doc pm an bz ct),sl⟩) (e3:codeIn K bz "law"=true) .. :∃t,My.Txt K t
set_option maxRecDepth 100000 in
set_option maxHeartbeats 0 in
def PySem.Challenge.cw_LID_holds : PySem.Challenge.rw_LID.Holds := by
 w_on;o_law;k_head;(case hw=>w_witness2)
 k_fill
 refine L2.xT (l:=PySem.Challenge.rw_LID) (n:=63) (k:=40) (x:="script") (CX:=fun w=>..) (sp:=fun _=>My.OI) rfl @_ rfl ⟨rfl,@_,@_⟩ (fun w h Y=>PySem.W.kIn_of Y) ?F ?S ?C
 case F=>
  intro w mg fa h KX G Ls;have T:∃t,My.Txt (L2.V2 KX) t:=by
   dsimp only[L2.V2]
   refine' My.BM ?e1 ?e2 ?e3 ..
   (case e1=>PySem.W.k_is)
   (case e2=>PySem.W.k_is)
   ..
  have⟨t,T⟩:=T;have e0:=Ls.symm.trans (PySem.W.mg_of KX G T.law);cases e0;exact⟨_,λs u=>.of_eq rfl,λbase kb nb=>My.A6 T kb nb⟩
 case S=>exactλw H a ns hl hO hS=>..
 case C=>exact ..
(MI tactic k_is has no namespace:write k_is) -/
namespace L2
open PySem PySem.Spec PyProof.Rows
variable{P:Program}{w:World}{mg:Str->Option Value}{base:Heap}{qual:Str}{f x:Addr}{fd:FuncData}{ps N xs ys:List Str}{A:Around}{s:Shared}{env:Env}{outer:List Env}{X:Cx}{δ:List (Addr×Obj)}{scope:Scope}{Θ:List Nat}
def kU(s:Stmt):Arguments:=match s with
 | .FunctionDef _ a _ _ _ _ _ _ _ _=>a
 | _=>{posonlyargs:=[],args:=[],vararg:=none,kwonlyargs:=[],kw_defaults:=[],kwarg:=none,defaults:=[]}
def hV(s:Stmt):List Stmt:=match s with
 | .FunctionDef _ _ b _ _ _ _ _ _ _=>b
 | _=>[]
def χ(s:Stmt):Scope:=match s with
 | .FunctionDef _ _ _ _ _ _ sc _ _ _=>sc
 | _=>{kind:=.function,names:=[],isGenerator:=false,isCoroutine:=false}
abbrev UL:AA:=λ_ _ _ _ _ _=>False
abbrev E0:XK:=λ_ _ _=>False
structure dE(K:fI)(x qual:Str)(st:Stmt)(f:Addr)(fd:FuncData):Prop where
 ex:∃(oc:Value) (od:Option Addr) (kV doc pm:Value) (an:Option Addr) (bz ct:Value) (Kl:Array (Option Value)),
  fd=PySem.W.fnOf x qual (kU st) (hV st) (χ st) .none kV doc pm an bz ct/\K.lookup f=some ⟨oc,od,.func fd,Kl⟩/\PySem.W.codeIn K bz qual=true
 kp:PySem.W.keepIn K (.ref f)=true
section
variable{K:fI}
def dE.binds{x:Str}{st:Stmt}(F:dE K x qual st f fd)
  (h:∀(kV doc pm:Value) (an:Option Addr) (bz ct:Value) (us:List Value),us.length=ps.length->bindArgs (PySem.W.fnOf x qual (kU st) (hV st) (χ st) .none kV doc pm an bz ct) ⟨us,[]⟩=pure (ps.zip us)):jr K fd ps []:=by
 have⟨oc,od,kV,doc,pm,an,bz,ct,Kl,rfl,lk,Jf⟩:=F.ex;exact .all (h kV doc pm an bz ct)
def J9{x:Str}{st:Stmt}{oc:Value}{od an:Option Addr}{Kl:Array (Option Value)}{kV doc pm bz ct:Value}(l:K.lookup f=some ⟨oc,od,.func (PySem.W.fnOf x qual (kU st) (hV st) (χ st) .none kV doc pm an bz ct),Kl⟩)
  (c:PySem.W.codeIn K bz qual=true) (k:PySem.W.keepIn K (.ref f)=true):dE K x qual st f (PySem.W.fnOf x qual (kU st) (hV st) (χ st) .none kV doc pm an bz ct):=⟨⟨oc,od,kV,doc,pm,an,bz,ct,Kl,rfl,l,c⟩,k⟩
end
def GI{k:Nat}(hr:cx k A):A.units+1 < cLine:=abf (Nat.add_le_add_left (by decide:1<=64) _) hr.units
def BB{A B:Prop}(h:B):if false=true then A else B:=by rw[aau aaB];exact h
def B3{A B:Prop}(h:A):if true=true then A else B:=by rw[aaq rfl];exact h
def dU(H H':Hp):Prop:=∀b o,H b=some o->H' b=some o
def dU.refl(H:Hp):dU H H:=λ_ _ h=>h
def dU.trans{H H1 H2:Hp}(a:dU H H1)(b:dU H1 H2):dU H H2:=λc o h=>b c o (a c o h)
def dU.free{H H':Hp}(e:dU H H'){l:Addr}(h:H' l=Option.none):H l=Option.none:=by
 cases q:H l with
 | none=>rfl
 | some o=>
  rw[e l o q]at h;cases h
def dU.seq{K:fI}{H H':Hp}{a:Addr}{xs:List V}(e:dU H H')(h:gc K H a xs):gc K H' a xs:=by
 rcases h with (h| ⟨o,h⟩)| h
 ·exact .inl (.inl (e _ _ h))
 ·exact .inl (.inr ⟨o,e _ _ h⟩)
 ·exact .inr h
section
def Mr(B:Heap)(l:List Env)(x:Addr)(o:Obj)(fl:Value)(h:Heap):Prop:=
 B.StaysIn h/\B.get? x=none/\h.FunFrames B l/\∃(vs:Array Value) (T:Addr) (oT:Obj) (ts:Array Value),h.get? x=some {o with data:=.fields vs}/\vs[2]? =some .none/\vs[1]? =some (.ref T)/\
  B.get? T=none/\T≠x/\h.get? T=some oT/\oT.data= .fields ts/\ts[3]? =some fl
section
variable{M:Model}{E:Value->Shared->Prop}{B:Heap}{l:List Env}{L:Addr}{o:Obj}{vs:Array Value}{Q:Unit->Shared->Prop}
def sC{h h':Heap}{T:Addr}{oT:Obj}{ts:Array Value}(hT:h.get? T=some oT)(hd:oT.data= .fields ts)(k:∀b,b≠T->h'.get? b=h.get? b):h.UpToSlots h':=λb ob e hn=>
 ⟨ob.slots,(k b λz=>by rw[z,hT]at e;cases e;exact hn _ hd).trans e⟩
def uP{h h':Heap}(hl:h.FunFrames B l)(u:h.UpToSlots h'):h'.FunFrames B l:=hl.of_keeps λb ob e hn=>by have⟨sl,q⟩:=u b ob e hn;exact⟨_,q,rfl⟩
def G6{head:Value}{UQ:Bool}(Yn:A.frames=some (env::outer))(hf:env.frame=some L)(hB:B.StaysIn s.heap)(hn:B.get? x=none)(hl:s.heap.FunFrames B (env::outer))(hx:s.heap.get? x=some {o with data:=.fields vs})(h1:1 < vs.size)(h2:vs[2]? =some .none)
  (h:∀h',Mr B (env::outer) x o (rawInt L) h'->s.heap.UpToSlots h'->Q Unit.unit {s with heap:=h'}):
  wpAny M A (do let a<-frameOf env;let pl<-entryPlaceOf L UQ;let n<-EntryCells.newEntry head a .none (rawInt L) .none pl;setField (.ref x) 1 n) Q E s:=by
 refine aaG (wpAny_frameOf_fun Yn hl hf λg1 S1=>aaG (wpAny_entryPlaceOf λpl fE=>?_));have nx:x∉(env::outer).filterMap (·.frame):=λz=>by have⟨_,ob,e,d⟩:=hl.mem z;rw[hx]at e;cases e;exact d _ rfl
 have Za:g1.get? x=some {o with data:=.fields vs}:=(S1.2.1 x nx).trans hx;unfold EntryCells.newEntry newFields;refine aaG (wpAny_newObj_type ?_ (fE.sizeOk5 _ _ _ _ _));have Y_:=aam (h:=g1) {cls:=.type "traceback",dict:=none,data:=.fields ([head,.ref L,.none,rawInt L,.none]++(if pl.isEmpty then List.replicate 6 Value.none else pl)).toArray} Za;refine wpAny_setField Y_ rfl h1 (h _ ?_ ?_)
 ·have up1:∀b ob,b≠x->g1.get? b=some ob->((g1.push {cls:=.type "traceback",dict:=none,data:=.fields ([head,.ref L,.none,rawInt L,.none]++(if pl.isEmpty then List.replicate 6 Value.none else pl)).toArray}).update x (Obj.mapFields (·.setIfInBounds 1 (Value.ref g1.objs.size)))).get? b=some ob:=λb ob nb e=>
   (Heap.get?_update_other _ _ (Ne.symm nb)).trans (aam _ e)
  have neT:g1.objs.size≠x:=acz (aat Za)
  refine⟨λb ob e=>up1 b ob (λz=>by rw[z,hn]at e;cases e) ((S1.2.1 b λz=>by rw[(hl.mem z).1]at e;cases e).trans (hB b ob e)),hn,hl.of_keeps λb ob e d=>?_,vs.setIfInBounds 1 (.ref g1.objs.size),g1.objs.size,_,_,Heap.get?_update_self _ Y_ rfl,by rw[Array.getElem?_setIfInBounds_ne @_];exact h2,by simp[h1],?_,neT,
   (Heap.get?_update_other _ _ (Ne.symm neT)).trans (aaS g1 rfl),rfl,?_⟩
  ·have⟨sl,q⟩:=S1.2.2 b ob e;exact⟨_,up1 b _ (λz=>by rw[z,hx]at e;cases e;exact d _ rfl) q,rfl⟩
  ·cases q:B.get? g1.objs.size with
   | none=>rfl
   | some ob=>
    have:=aat (hB _ _ q);rw[<-S1.1]at this;exact aay this (abJ _)
  ·first
    | (simp;done)
    | (rcases fE with rfl| ⟨_,_,_,_,_,_,_,rfl⟩ <;> simp)
 ·intro b ob e d;have⟨sl,q⟩:=S1.2.2 b ob e;refine⟨sl,?_⟩;rw[Heap.get?_update_other _ _ (λz:x=b=>by rw[<-z,hx]at e;cases e;exact d _ rfl)];exact aam _ q
def R3(Yn:A.frames=some (env::outer))(hf:env.frame=some L)(R:Mr B (env::outer) x o .none s.heap)
  (h:∀h',Mr B (env::outer) x o (rawInt L) h'->s.heap.UpToSlots h'->Q Unit.unit {s with heap:=h'}):wpAny M A (noteFrame (.ref x) env) Q E s:=by
 have⟨hB,hn,hl,vs,T,oT,ts,hx,h2,h1,nT,UC,hT,dT,h3⟩:=R;unfold noteFrame;simp only[hf];refine aaG (wpAny_field hx rfl h1 ?_);rw[if_pos (show(Value.ref T != Value.none)=true by simp)];refine aaG (wpAny_field hT dT h3 ?_);rw[if_neg (show¬((Value.none==rawInt L)=true) by simp[rawInt])];refine aaG (wpAny_setField hT dT (acb.mp h3).1 ?_);have GY:∀b,b≠T->(s.heap.update T (Obj.mapFields (·.setIfInBounds 3 Value.none))).get? b=s.heap.get? b:=λb nb=>Heap.get?_update_other _ _ (Ne.symm nb);have u:=sC hT dT GY;exact G6 Yn hf (λb ob e=>(GY b λz=>by rw[z,nT]at e;cases e).trans (hB b ob e)) hn (uP hl u) ((GY x (Ne.symm UC)).trans hx) (acb.mp h1).1 h2 λh' F' u'=>h h' F' (u.trans u')
def Lk{fl:Value}(R:Mr B l x o fl s.heap)(h:∀h',Mr B l x o .none h'->s.heap.UpToSlots h'->Q Unit.unit {s with heap:=h'}):wpAny M A (setFlight (.ref x) none) Q E s:=by have⟨hB,hn,hl,vs,T,oT,ts,hx,h2,h1,nT,UC,hT,dT,h3⟩:=R;unfold setFlight;refine aaG (wpAny_field hx rfl h1 ?_);rw[if_pos (show(Value.ref T != Value.none)=true by simp)];have z3:=(acb.mp h3).1;have GY:∀b,b≠T->(s.heap.update T (Obj.mapFields (·.setIfInBounds 3 ((none:Option Addr).elim Value.none λf=>rawInt f)))).get? b=s.heap.get? b:=λb nb=>Heap.get?_update_other _ _ (Ne.symm nb);have u:=sC hT dT GY;refine wpAny_setField hT dT z3 (h _ ⟨λb ob e=>(GY b λz=>by rw[z,nT]at e;cases e).trans (hB b ob e),hn,uP hl u,vs,T,_,_,(GY x (Ne.symm UC)).trans hx,h2,h1,nT,UC,Heap.get?_update_self _ hT (Obj.isFreed_of_fields (Obj.data_mapFields dT _)),Obj.data_mapFields dT _,by simp[z3]⟩ u)
def Px{fl:Value}{h:Heap}(R:Mr B (env::outer) x o fl h):Mr B outer x o fl h:=by have⟨hB,hn,⟨_,_,hl⟩,r⟩:=R;exact⟨hB,hn,hl,r⟩
end
structure UB(P:Program)(w:World)(l:List Env)(H H':Hp)(h h' B:Heap)(x:Addr)(o:Obj):Prop where
 un:Un (p7 l) [] H H' h h'
 ok:kZ P w H' B
 Q2:Mr B l x o .none h'
 U5:∀b u,h.get? b=some u->H b=none->b∉p7 l->B.get? b=some u
 Ry:∀b u,h.get? b=some u->b∉p7 l->∃u',B.get? b=some u'
variable{l:List Env}{H H':Hp}{h h' U_ B:Heap}{o:Obj}
end
def cP(P:Program)(w:World):AA:=λouter H s E e s'=>
 ∃x o H' B,e= .ref x/\s'.os=s.os/\AllBare s'.gens/\UB P w outer H H' s.heap s'.heap B x o/\E o.cls o.dict H'
section
variable{σ:St}{H H':Hp}{U_ B:Heap}{ox:Obj}
def UB.leave(I:Inv X δ σ H s)(hex:X.ex=[])(KZ:∀b∈p7 X.outer,b∈p7 X.stack)(ok:kZ X.prog X.w H' B)(f:Mr B X.outer x ox .none U_)(nx0:X.s₀.heap.get? x=none)
  (U5:∀b o,b≠x->s.heap.get? b=some o->H b=none->b∉p7 X.stack->B.get? b=some o)
  (Ry:∀b o,b≠x->s.heap.get? b=some o->b∉p7 X.stack->∃o',B.get? b=some o')
  (sl:∀b o,s.heap.get? b=some o->b∈p7 X.stack->∃sl,U_.get? b=some {o with slots:=sl})
  (free:∀b o,s.heap.get? b=some o->H b=none->H' b=none)
  (pU:∀b xs,H b=some (.tup xs)->H' b=some (.tup xs)) (ou:∀b o u,H b=some (.C6 o u)->H' b=some (.C6 o u))
  (pV:∀b ps,H b=some (.K7 ps)->∃more,H' b=some (.K7 (ps++more))):UB X.prog X.w X.outer X.H₀ H' X.s₀.heap U_ B x ox:=by
 have nX:∀b o,X.s₀.heap.get? b=some o->b≠x:=λb o e z=>by rw[z,nx0]at e;cases e
 have ki:∀b:Addr,b∉X.ex:=λb z=>by rw[hex]at z;cases z
 have nS:∀b o,X.s₀.heap.get? b=some o->b∉p7 X.outer->b∉p7 X.stack:=λb o e hb z=>
  (aaD.mp (I.xK b z)).elim (λq=>aaK (aaz (aat e) I.ok.above) q) hb
 refine⟨⟨λb o e n hb _=>?_,λb o e n hb _=>?_,λb o e n _=>?_,λb o e _=>?_,λb xs e=>pU b xs (I.base.pU b xs e),λb o u e=>ou b o u (I.base.ou b o u e),λb ps e=>?_⟩,ok,f,λb o e n hb=>?_,λb o e hb=>?_⟩
 ·exact f.1 b o (U5 b o (nX b o e) (I.base.keep b o e n hb (ki b)) (I.base.free b o e n (ki b)) (nS b o e hb))
 ·have⟨s1,e1⟩:=I.base.slot b o e n hb (ki b);have⟨s2,e2⟩:=sl b _ e1 (KZ b hb);exact⟨s2,e2⟩
 ·have⟨o',e1⟩:=I.base.there b o e (ki b);exact free b o' e1 (I.base.free b o e n (ki b))
 ·have⟨o',e1⟩:=I.base.there b o e (ki b);by_cases hb:b∈p7 X.stack
  ·have⟨s2,e2⟩:=sl b _ e1 hb;exact⟨_,e2⟩
  ·have⟨o2,q⟩:=Ry b o' (nX b o e) e1 hb;exact⟨o2,f.1 _ _ q⟩
 ·have⟨m1,e1⟩:=I.base.pV b ps e;have⟨m2,e2⟩:=pV b _ e1;exact⟨m1++m2,by rw[e2,Array.append_assoc]⟩
 ·exact U5 b o (nX b o e) (I.base.keep b o e n hb (ki b)) (I.base.free b o e n (ki b)) (nS b o e hb)
 ·have⟨o',e1⟩:=I.base.there b o e (ki b);exact Ry b o' (nX b o e) e1 (nS b o e hb)
end
def dN(CX:AA)(X:Cx)(R:St->XK):Prop:=∀(δ:List (Addr×Obj)) (σ:St) (H:Hp) (s:Shared) (e:Value) (s':Shared),Inv X δ σ H s->CX X.stack H s (R σ) e s'->X.xe e s'
section
variable{K:fI}{cd:Value}{s₀:Shared}{H₀:Hp}{E:XK}
def Mj:∀b∈p7 outer,b∈p7 (env::outer):=λb hb=>by have⟨en,he,hf⟩:=acq.mp hb;exact acq.mpr ⟨en,aac _ he,hf⟩
def ξ:dN (cP P w) (xE (cP P w) P w K mg base N qual scope f cd A outer s₀ H₀ E) (λ_=>E):=by
 intro δ σ H s e s' I hx;have⟨x,o,H',B,rfl,os,bare,F,hE⟩:=hx;show wpAny _ _ (do noteFrame (.ref x) _;setFlight (.ref x) none) _ _ s';refine aaG (R3 (B:=B) I.ok.frames rfl F.Q2 λh4 f4 u4=>Lk f4 λh5 f5 u5=>?_);refine⟨x,o,H',B,rfl,os.trans I.os,bare,UB.leave I rfl Mj F.ok (Px f5) ?_ (λb o _=>F.U5 b o) (λb o _=>F.Ry b o) (λb o q hb=>?_) (λb o q n=>F.un.free b o q n (by simp)) F.un.pU F.un.ou F.un.pV,hE⟩
 ·show s₀.heap.get? x=none;cases q:s₀.heap.get? x with
  | none=>rfl
  | some u=>
   have⟨u',e1⟩:=I.base.there x u q nofun;by_cases hb:x∈p7 (xE (cP P w) P w K mg base N qual scope f cd A outer s₀ H₀ E).stack
   ·have⟨vs,_,_,_,hxx,_⟩:=F.Q2.2.2.2;have⟨_,o',Fb,hd⟩:=F.Q2.2.2.1.mem hb;rw[hxx]at Fb;cases Fb;exact aay rfl (hd _)
   ·have⟨u2,e2⟩:=F.Ry x u' e1 hb;rw[F.Q2.2.1]at e2;cases e2
 ·have⟨sl,e1⟩:=F.un.slot b o q (I.xX b hb) hb (by simp);have⟨_,o',Fb,hd⟩:=F.Q2.2.2.1.mem hb;rw[e1]at Fb;cases Fb;have⟨UA,e2⟩:=(u4.trans u5) b _ e1 hd;exact⟨UA,e2⟩
end
def P9(sp:Sp)(qa:List V)(R:St->XK)(t:TA):TE:=λσ H Q=>t σ H λvs H1=>sp (vs++qa) H1 Q (R σ)
section
variable{CX:AA}{k:Nat}{sp:Sp}{qa:List V}{ds:List Value}{R:St->XK}{x:Str}{p pos:Pos}{e:Expr}{es:List Expr}{t:TA}
def yh{σ:St}{H:Hp}{Q:VK}{us:List Value}{vs:List V}(F:aw X.prog X.w X.K X.mg X.base CX k f fd ps sp)(hr:cx k X.A)(hb:jr X.K fd ps ds)(hd:ay qa ds)(hx:dN CX X R)
  (I:Inv X δ σ H s) (r:ay vs us) (h:sp (vs++qa) H Q (R σ)):wpAny (model X.prog X.w) X.A (call (.ref f) us) (EP X δ σ Q) X.xe s:=by
 have r2:ay (vs++qa) (us++ds):=r.append hd;have hl:(us++ds).length=ps.length:=by rw[<-r2.length];exact F.len _ _ _ _ h
 refine wpAny_call (codeAny_mono (F.run X.A X.stack s H ⟨us,[]⟩ (us++ds) (vs++qa) Q (R σ) hr I.Sb (hb s us I.Dh hl) r2 h) λr s' hq=>?_);cases r with
 | error e=>exact hx δ σ H s e s' I hq
 | ok fl=>
  cases fl with
  | ret u=>exact I.after hq
  | next=>exact False.elim hq
  | brk=>exact False.elim hq
  | cont=>exact False.elim hq
def IF(F:aw X.prog X.w X.K X.mg X.base CX k f fd ps sp)(hr:cx k X.A)(hg:Gl X x)(hm:X.mg x=some (.ref f))(hk:PySem.W.keepIn X.K (.ref f)=true)(hb:jr X.K fd ps ds)(hd:ay qa ds)(hx:dN CX X R)
  (ha:PA X (e::es) t) (Cj:(x==("__debug__":Str))=false:=by decide) (he:starEach (e::es) X.env=(false,eval e X.env)::starEach es X.env:=by rfl) (fE:(backTo pos (starEach es X.env)).any (·.1)=false:=by rfl):
  PE X (.Call (.Name x p) (e::es) [] pos) (P9 sp qa R t):=by
 intro δ s σ H Q I h;refine wpAny_Call_Name_kw (vU I hg hm ?_ Cj);refine PySem.W.callWith_K (h₀:=X.base) I.ok.mod.T6 hk (bA (ha pos δ s σ H _ I h) fun us s1 ⟨vs,H1,I1,r,q⟩=>⟨I1.Dh,?_⟩) he fE;exact yh F hr hb hd hx I1 r q
end
def lY(env:Env):List (Str×NameKind)->List (Str×Addr)->List (Str×Addr)
 | [],acc=>acc
 | p::r,acc=>lY env r (if p.2== .free then (p.1,(env.cells.lookup p.1).getD 0)::acc else acc)
def rq(h:∀p∈scope.names,p.2= .free->(env.cells.lookup p.1).isSome=true):closureFor scope env=pure (lY env scope.names []):=by
 have key:∀(l:List (Str×NameKind)) (acc:List (Str×Addr)),(∀p∈l,p.2= .free->(env.cells.lookup p.1).isSome=true)->
   (forIn l acc (λ(p:Str×NameKind) (r:List (Str×Addr))=>(if p.2== .free then (do let c<-cellOf env p.1;pure (ForInStep.yield ((p.1,c)::r))) else pure (ForInStep.yield r):Sem (ForInStep (List (Str×Addr))))))=(pure (lY env l acc):Sem (List (Str×Addr))):=by
  intro l
  induction l with
  | nil=>intro acc _;rfl
  | cons p r ih=>
   intro acc hp;rw[List.forIn_cons];have YS:=λa=>ih a λq hq=>hp q (aac _ hq);have⟨n,k⟩:=p;by_cases hk:k= .free
   ·subst hk;have hs:=hp (n,.free) aad rfl;cases hl:env.cells.lookup n with
    | none=>rw[show env.cells.lookup (n,NameKind.free).1=none from hl]at hs;cases hs
    | some c=>
     have e1:lY env ((n,.free)::r) acc=lY env r ((n,c)::acc):=by show lY env r (if (NameKind.free==NameKind.free)=true then (n,(env.cells.lookup n).getD 0)::acc else acc)=_;rw[aaq @_,hl];rfl
     have e2:cellOf env n=pure c:=by unfold cellOf;rw[hl]
     rw[e1];have e3:(NameKind.free==NameKind.free)=true:=@_
     simp only[e3,if_true,e2,pure_bind];exact YS _
   ·have hb:(k==NameKind.free)=false:=by simpa using hk
    have e1:lY env ((n,k)::r) acc=lY env r acc:=by show lY env r (if (k==NameKind.free)=true then (n,(env.cells.lookup n).getD 0)::acc else acc)=_;rw[hb,aau @_]
    rw[e1];simp only[hb,Bool.false_eq_true,if_false,pure_bind];exact YS _
 have:=key scope.names [] h;unfold closureFor
 first
  | exact this
  | (simp only[bind_pure];exact this)
  | (rw[bind_pure];exact this)
def uz{env:Env}{y:Str}{c:Addr}:∀(l:List (Str×NameKind)) (acc:List (Str×Addr)),(∀p∈l,p.2= .free->(env.cells.lookup p.1).isSome=true)->
  (acc.lookup y=some c->env.cells.lookup y=some c)->(lY env l acc).lookup y=some c->env.cells.lookup y=some c
 | [],acc,_,ha,h=>ha h
 | (n,k)::r,acc,hp,ha,h=>by
  refine uz r _ (λq hq=>hp q (aac _ hq)) (λe=>?_) h;split at e
  ·rename_i hk;rw[abR]at e;cases q:(y==n) with
   | true=>
    rw[q]at e;have e':(env.cells.lookup n).getD 0=c:=aao e;have hn:y=n:=by simpa using q
    subst hn;have hs:=hp (y,k) List.mem_cons_self (by simpa using hk);cases z:env.cells.lookup y with
    | none=>rw[show env.cells.lookup (y,k).1=none from z]at hs;cases hs
    | some d=>rw[z]at e';rw[<-e'];rfl
   | false=>rw[q]at e;exact ha e
  ·exact ha e
def si{env:Env}{y:Str}:∀(l:List (Str×NameKind)) (acc:List (Str×Addr)),((y,NameKind.free)∈l\/(acc.lookup y).isSome=true)->((lY env l acc).lookup y).isSome=true
 | [],acc,h=>by
  rcases h with h| h
  ·cases h
  ·exact h
 | (n,k)::r,acc,h=>by
  refine si r _ ?_;by_cases hy:y=n
  ·subst hy;by_cases hk:k= .free
   ·subst hk;right;show(List.lookup y (if (NameKind.free==NameKind.free)=true then (y,(env.cells.lookup y).getD 0)::acc else acc)).isSome=true;rw[aaq @_,abR,beq_self_eq_true];rfl
   ·rcases h with h| h
    ·rcases aaD.mp h with z| z
     ·exact aay (Prod.mk.inj z).2.symm hk
     ·exact .inl z
    ·right;rw[if_neg (by simpa using hk)];exact h
  ·rcases h with h| h
   ·rcases aaD.mp h with z| z
    ·exact aay (Prod.mk.inj z).1 hy
    ·exact .inl z
   ·right;split
    ·rw[List.lookup_cons,show(y==n)=false by simpa using hy];exact h
    ·exact h
def Cx.comp(X:Cx)(Nc:List Str)(scope:Scope)(C:Addr)(s:Shared)(H:Hp)(fp:List Addr):Cx:={X with
 N:=Nc
 s₀:=s
 H₀:=H
 env:=compEnvC scope (lY X.env scope.names []) C X.env
 outer:=X.stack
 ex:=fp
 fn:=λ_=>false
 pn:=[]
 xe:=λ_ _=>False}
def Γ.of{P:List Str}{sc:Scope}(h:(sc.kind,sc.isCoroutine,sc.isGenerator)=(.function,false,false))(h2:N.Nodup/\N.take P.length=P/\(∀x∈P,sc.names.lookup x=some .local\/sc.names.lookup x=some .cell)/\(∀y∈sc.names,y.2≠ .free):=by decide+kernel):Γ N P sc:=by have⟨a,b,c,d⟩:=h2;exact⟨aaM (·.1) h,aaM (·.2.1) h,aaM (·.2.2) h,a,b,c,d⟩
structure ag(X:Cx)(scope:Scope)(xs ys:List Str)(Θ:List Nat):Prop where
 kind:scope.kind= .function
 Jw:∀p∈scope.names,p.2≠ .cell
 names:∀p∈scope.names,p.2= .local->scope.names.lookup p.1=some .local
 own:∀x∈xs,scope.names.lookup x=some .local
 free:∀p∈scope.names,p.2= .free->X.env.scope.names.lookup p.1=some .cell
 nd:(xs++ys).Nodup
 cap:∀q∈ys.zip Θ,X.N[q.2]? =some q.1/\X.env.scope.names.lookup q.1=some .cell/\scope.names.lookup q.1=some .free
 len:ys.length=Θ.length
def ag.of{sc:Scope}(_:Γ N ps sc)(hN:X.N=N)(hs:X.env.scope=sc)(k:scope.kind= .function)(h:(∀p∈scope.names,p.2≠ .cell)/\(∀p∈scope.names,p.2= .local->scope.names.lookup p.1=some .local)/\(∀x∈xs,scope.names.lookup x=some .local)/\(∀p∈scope.names,p.2= .free->sc.names.lookup p.1=some .cell)/\(xs++ys).Nodup/\(∀q∈ys.zip Θ,N[q.2]? =some q.1/\sc.names.lookup q.1=some .cell/\scope.names.lookup q.1=some .free)/\ys.length=Θ.length:=by decide+kernel):ag X scope xs ys Θ:=by subst hN hs;have⟨a,b,c,d,e,f,g⟩:=h;exact⟨k,a,b,c,d,e,f,g⟩
def Ia{env:Env}{y:Str}:∀{l:List (Str×NameKind)},(∀p∈l,p.2≠ .cell)->
  ((l.map λ(n,k)=>if (k==NameKind.free&&env.scope.kind== .function&&env.kindOf n==some .cell) then (n,NameKind.cell) else (n,k)).lookup y=some .cell\/
   (l.map λ(n,k)=>if (k==NameKind.free&&env.scope.kind== .function&&env.kindOf n==some .cell) then (n,NameKind.cell) else (n,k)).lookup y=some .free)->(y,NameKind.free)∈l
 | [],_,h=>by rcases h with h| h <;> cases h
 | (n,k)::r,hc,h=>by
  have ih:=@Ia env y r (λp hp=>hc p (aac _ hp));rw[aaU]at h;by_cases q:(k==NameKind.free&&env.scope.kind== .function&&env.kindOf n==some .cell)=true
  ·have hk:k= .free:=by rw[aaC,aaC]at q;simpa using q.1.1
   subst hk;by_cases hy:y=n
   ·subst hy;exact aad
   ·refine aac _ (ih ?_);have hb:(y==n)=false:=by simpa using hy
    simp only[q,if_true,List.lookup_cons,hb]at h;exact h
  ·by_cases hy:y=n
   ·subst hy;have hb:(y==y)=true:=by simp
    simp only[q,Bool.false_eq_true,if_false,List.lookup_cons,hb]at h;rcases h with h| h
    ·exact aay (aao h) (hc (y,k) aad)
    ·rw[<-aao h];exact aad
   ·refine aac _ (ih ?_);have hb:(y==n)=false:=by simpa using hy
    simp only[q,Bool.false_eq_true,if_false,List.lookup_cons,hb]at h;exact h
def zh{env:Env}{y:Str}(hk:env.scope.kind= .function)(hy:env.kindOf y=some .cell):∀{l:List (Str×NameKind)},l.lookup y=some .free->
  (l.map λ(n,k)=>if (k==NameKind.free&&env.scope.kind== .function&&env.kindOf n==some .cell) then (n,NameKind.cell) else (n,k)).lookup y=some .cell
 | [],h=>by cases h
 | (n,k)::r,h=>by
  have ih:=@zh env y hk hy r;rw[aaU];rw[abR]at h;by_cases e:y=n
  ·subst e;have hb:(y==y)=true:=by simp
   rw[hb]at h;have:k= .free:=aao h;subst this;have q:(NameKind.free==NameKind.free&&env.scope.kind== .function&&env.kindOf y==some .cell)=true:=by rw[hk,hy];rfl
   simp only[q,if_true,List.lookup_cons,hb]
  ·have hb:(y==n)=false:=by simpa using e
   rw[hb]at h;by_cases q:(k==NameKind.free&&env.scope.kind== .function&&env.kindOf n==some .cell)=true
   ·simp only[q,if_true,List.lookup_cons,hb];exact ih h
   ·simp only[q,Bool.false_eq_true,if_false,List.lookup_cons,hb];exact ih h
def ag.has(S:ag X scope xs ys Θ)(ok:X.Ok):∀p∈scope.names,p.2= .free->(X.env.cells.lookup p.1).isSome=true:=λp hp hf=>by have⟨c,e⟩:=ok.has p.1 (.inl (S.free p hp hf));rw[e];rfl
def Jt{α β:Type}:∀{xs:List α} {ys:List β} {j:Nat} {x:α} {y:β},xs[j]? =some x->ys[j]? =some y->(x,y)∈xs.zip ys
 | x::xs,y::ys,0,_,_,h1,h2=>by cases h1;cases h2;exact aad
 | x::xs,y::ys,j+1,_,_,h1,h2=>aac _ (Jt (xs:=xs) (ys:=ys) (j:=j) h1 h2)
 | [],_,_,_,_,h1,_=>by simp at h1
 | _::_,[],_,_,_,_,h2=>by simp at h2
def ow(Θ:List Nat)(σ:St):St:=Θ.map λi=>(σ[i]?).join
def vA(n:Nat)(gg:TG):Prop:=∀v (os cs:St) H (Q:St->Hp->Prop),os.length=n->gg v (os++cs) H Q->gg v (os++cs) H λσ' H'=>(∃Vd:St,Vd.length=n/\σ'=Vd++cs)/\Q σ' H'
def Cq(J:It)(n:Nat)(gg:TG)(tc:TT)(te:TE)(cs:St)(Q:VK)(H1:Hp)(D:Addr):Prop:=
 ∃W:Nat->Nat->List V->Hp->Prop,(∃m,W 0 m [] (upd H1 D (.lst [])))/\∀i m ys H2,W i m ys H2->H2 D=some (.lst ys)/\
  ((J.stop i H2/\Q (.ref D) H2)\/(J.go i H2/\∀x H3,J.Rb i H2 x H3->∀os:St,os.length=n->gg x (os++cs) H3 λσ' H3'=>tc σ' H3' λb H4=>match b with
   | true=>te σ' H4 λy H5=>H5 D=some (.lst ys)/\ys.length < sizeLine/\∃m',m' < m/\W (i+1) m' (ys++[y]) (upd H5 D (.lst (ys++[y])))
   | false=>∃m',m' < m/\W (i+1) m' ys H4))
def Jo(wi:TI)(n:Nat)(gg:TG)(tc:TT)(te:TE)(Θ:List Nat):TE:=λσ H Q=>wi σ H λJ H1=>∀D,H1 D=none->Cq J n gg tc te (ow Θ σ) Q H1 D
def V9(cs:List Expr)(env:Env):Sem Bool:=match cs with
 | []=>pure true
 | c::_=>isTrue c env (eval c env)
def Va(X:Cx)(cs:List Expr)(t:TT):Prop:=
 (cs=[]\/∃c,cs=[c])/\∀(δ:List (Addr×Obj)) (s:Shared) (σ:St) (H:Hp) (Q:Bool->Hp->Prop),Inv X δ σ H s->t σ H Q->wpAny (model X.prog X.w) X.A (V9 cs X.env) (TP X δ σ Q) X.xe s
def uv{elt target iter:Expr}{cs:List Expr}{scope:Scope}{pos:Pos}{it acc:Value}{env:Env}(h:cs=[]\/∃c,cs=[c]):
  compTurn (.ListComp elt [⟨target,iter,cs,0⟩] scope pos) 0 it acc env=(standAt iter.pos >>= λ_=>pyNext it >>= λr=>match r with
   | none=>pure (.done .next)
   | some v=>letOwnedTupleGo target it v >>= λ_=>assign target env v >>= λ_=>V9 cs env >>= λok=>
    (if ok=true then (eval elt env >>= λx=>call (.builtin "list.append") [acc,x] >>= λ_=>pure Unit.unit) >>= λ_=>again (.compLoop (.ListComp elt [⟨target,iter,cs,0⟩] scope pos) 0 it acc env)
     else again (.compLoop (.ListComp elt [⟨target,iter,cs,0⟩] scope pos) 0 it acc env))):=by
 rcases h with rfl| ⟨c,rfl⟩ <;> (unfold compTurn V9;dsimp only[List.getElem?_cons_zero,List.getElem?_cons_succ,List.getElem?_nil];simp only[List.forIn_cons,List.forIn_nil,bind_assoc,pure_bind,if_true];rfl)
section
variable{elt iter tg:Expr}{cs:List Expr}{pos:Pos}{wi:TI}{gg:TG}{tc:TT}{te:TE}
def uD(S:ag X scope xs ys Θ)(hc:X.calm=true)(hg:∀C s H fp,PG (Cx.comp X (xs++ys) scope C s H fp) tg gg)(hk:vA xs.length gg)(ht:∀C s H fp,Va (Cx.comp X (xs++ys) scope C s H fp) cs tc)(he:∀C s H fp,PE (Cx.comp X (xs++ys) scope C s H fp) elt te)
   {σ:St} {H2:Hp} {s2:Shared} {it:Addr} {fp:List Addr} {tn:Nat->Heap->Prop} {J:It} {Q:V->Hp->Prop} {PQ:Value->Addr->Result->Shared->Prop} (I:Inv X δ σ H2 s2) (T:Turn X.prog X.w X.K tg J fp it tn) (t0:tn 0 s2.heap) (f2:∀b∈fp,qy X δ H2 b)
  (h:∀D,H2 D=none->Cq J xs.length gg tc te (ow Θ σ) Q H2 D)
  (hPQ:∀D C s' H',Inv X δ σ H' s'->Q (.ref D) H'->(∃m,s'.heap.Ns C m)->H' C=none->X.s₀.heap.objs.size<=C->C≠X.env.locals->(∀z c,X.env.cells.lookup z=some c->c≠C)->(∀p∈X.pn++δ,p.1≠C)->PQ (.ref D) C (.ok .next) s'):
  wpAny (model X.prog X.w) X.A (newList []) (λacc s3=>wpAny (model X.prog X.w) X.A (newFunctionEnv scope X.env.globals (lY X.env scope.names []) [] X.env.qual none .none (some X.env)) (λQT s4=>
   codeAny (model X.prog X.w) X.A (.compStart (.ListComp elt [⟨tg,iter,cs,0⟩] scope pos) 0 (.ref it) acc {QT with scope:=relabel scope X.env}) (PQ acc QT.locals) s4) X.xe s3) X.xe s2:=by
 have hD:H2 s2.heap.objs.size=none:=I.fresh;have⟨W,⟨m0,w0⟩,step⟩:=h _ hD;refine wpAny_newObj_type ?_;have I3:Inv X δ σ (upd H2 s2.heap.objs.size (.lst [])) {s2 with heap:=s2.heap.push {cls:=.type "list",data:=.seq ([]:List Value).toArray}}:=Inv.PY (t':=s2.toks) I (ys:=[]) (its:=[]) .nil (ab5 _);generalize Vl:upd H2 s2.heap.objs.size (.lst [])=H3 at I3 w0;generalize hs3:({s2 with heap:=s2.heap.push {cls:=.type "list",data:=.seq ([]:List Value).toArray}}:Shared)=s3 at I3;have XH:∀b∈fp,H3 b=none:=λb hb=>by have⟨o,e,_⟩:=T.obj _ _ t0 b hb;rw[<-Vl,Ζ (aaK (aat e))];exact(f2 b hb).1
 have t3:tn 0 s3.heap:=T.keep _ _ _ t0 λb hb o e=>by rw[<-hs3];exact aam _ e
 refine wpAny_newFunctionEnv S.Jw (λy hy=>nomatch hy) (λh4 ns4 sb4=>?_) S.kind;have hC:H3 s3.heap.objs.size=none:=I3.fresh
 have kp:∀b o,s3.heap.get? b=some o->h4.get? b=some o:=λb o e=>
  (sb4.2 b (aaK (aat e))).trans (aam _ e)
 generalize WG:({s3 with heap:=h4,toks:=s3.toks+([]:List (Str×Value)).length}:Shared)=s4;have e4:s4.heap=h4:=by rw[<-WG]
 have Ld:∀z c,X.env.cells.lookup z=some c->c≠s3.heap.objs.size:=λz c e q=>by have⟨v,w⟩:=I3.cell z c e;exact abJ _ (q▸w.lt)
 have uS:∀z c,(lY X.env scope.names []).lookup z=some c->X.env.cells.lookup z=some c:=λz c e=>uz scope.names [] (S.has I.ok) nofun e;have Z8:s3.heap.objs.size≠X.env.locals:=acz I3.lt;have ok:(Cx.comp X (xs++ys) scope s3.heap.objs.size s3 H3 fp).Ok:=by
  refine⟨I3.ok.mod,S.kind,I3.ok.glob,I3.ok.blt,aaj _,λz z' c e1 e2=>I3.ok.inj z z' c (uS z c e1) (uS z' c e2),λz hz=>?_,λz c hz=>(by cases hz),I3.ok.hd,I3.ok.frames,.inl rfl,λb hb=>⟨?_,λz c e=>?_⟩,I3.bs,?_,λb o e hb=>?_,λb hb hf=>?_,I3.stack,I3.xX⟩
  ·have:=si (env:=X.env) scope.names [] (.inl (Ia S.Jw hz));exact abd.mp this
  ·have⟨o,e,_⟩:=T.obj _ _ t3 b hb;exact aaK (aat e)
  ·exact(f2 b hb).2.2.2.2.1 z c (uS z c e)
  ·exact aaw I3.ok.QH I3.sz
  ·have⟨_,_,_,hy,_⟩:=f2 b hb;have e0:=(I3.ok.bs b o e).1;rcases hy with hy| hy
   ·exact I3.ok.Pn b o e hy
   ·exact aay (aaz (aat e0) hy) (abJ _)
  ·have⟨_,hl,WK,_⟩:=f2 b hb;exact(aaD.mp (I3.xK b hf)).elim hl WK
 have hlen:((List.replicate xs.length (none:Option V))++ow Θ σ).length=(xs++ys).length:=by rw[aah,aah,aa4,S.len];unfold ow;rw[aae]
 have I4:Inv X δ σ H3 s4:=by rw[<-WG];exact I3.kept kp
 have Ic:Inv (Cx.comp X (xs++ys) scope s3.heap.objs.size s3 H3 fp) [] ((List.replicate xs.length (none:Option V))++ow Θ σ) H3 s4:=by
  refine⟨ok,by rw[<-WG];rfl,I4.bare,Un.kept (by rw[e4];exact kp),⟨_,by rw[e4];exact ns4,λi z v e1 e2 e3=>?_⟩,λz c e=>I4.cell z c (uS z c e),hC,λz c e=>I4.pD z c (uS z c e),(λp hp=>nomatch hp),I4.aX,hlen⟩;have e1:(xs++ys)[i]? =some z:=e1;by_cases hi:i < xs.length
  ·rw[aas (by rw[aa4];exact hi),abY,aaq hi]at e2;cases e2
  ·obtain⟨j,rfl⟩:∃j,i=xs.length+j:=⟨i - xs.length,()⟩;have e1:ys[j]? =some z:=by rw[aax (),aby]at e1;exact e1
   have e2:(ow Θ σ)[j]? =some (some v):=by rw[aax (by rw[aa4];omega),aa4,aby]at e2;exact e2
   unfold ow at e2;rw[aak]at e2;cases hi:Θ[j]? with
   | none=>rw[hi]at e2;cases e2
   | some i=>
    rw[hi]at e2;have e2:(σ[i]?).join=some v:=aao e2;have e2:σ[i]? =some (some v):=by
     cases q:σ[i]? with
     | none=>rw[q]at e2;cases e2
     | some o=>rw[q]at e2;exact aaM some e2
    have⟨c1,c2,c3⟩:=S.cap (z,i) (Jt e1 hi);have c4:=zh (env:=X.env) I.ok.kind c2 c3;have c3:(z,NameKind.free)∈scope.names:=PySem.mem_of_lookup c3;have⟨m,hn,hl⟩:=I4.loc;have⟨u,r,lk⟩:=hl i z v c1 e2 (.inr (.inl c2));refine⟨u,r,.inr ⟨.inl c4,?_⟩⟩;rcases lk with ⟨k,_⟩| ⟨_,c,AH,z'⟩
    ·exact aay ((show X.env.scope.names.lookup z=some .local from k).symm.trans c2) @_
    ·have⟨d,hd⟩:=abd.mp (si (env:=X.env) scope.names [] (.inl c3));have:=uS z d hd;rw[AH]at this;cases this;exact⟨c,hd,z'⟩
 have loop:codeAny (model X.prog X.w) X.A (.compLoop (.ListComp elt [⟨tg,iter,cs,0⟩] scope pos) 0 (.ref it) (.ref s2.heap.objs.size) (compEnvC scope (lY X.env scope.names []) s3.heap.objs.size X.env)) (PQ (.ref s2.heap.objs.size) s3.heap.objs.size) s4:=by
  have Xu:∀{H':Hp},(∀b∈fp,H' b=none)->∀b∈fp,qy (Cx.comp X (xs++ys) scope s3.heap.objs.size s3 H3 fp) [] H' b:=λhn b hb=>
   ⟨hn b hb,(ok.Y2 b hb).1,ok.O_ b hb,.inl hb,(ok.Y2 b hb).2,(λp hp=>nomatch hp)⟩
  refine codeAny_loop rfl (λn s'=>∃(i:Nat) (zs:List V) (os:St) (H':Hp),os.length=xs.length/\Inv (Cx.comp X (xs++ys) scope s3.heap.objs.size s3 H3 fp) [] (os++ow Θ σ) H' s'/\tn i s'.heap/\(∀b∈fp,H' b=none)/\W i n zs H') (λn s5 z=>?_) m0 ⟨0,[],List.replicate xs.length none,H3,by rw[aa4],Ic,T.keep _ _ _ t3 (λb hb o e=>by rw[e4];exact kp b o e),XH,w0⟩;have⟨i,zs,os,H5,l5,I5,t5,UH,w5⟩:=z;show wpAny _ _ ((compTurn _ 0 (.ref it) _ _).onRaise _) _ _ s5;refine wpAny_noted ?_;rw[uv (ht s3.heap.objs.size s3 H3 fp).1];refine aaG (wpAny_standAt (aaG ?_));obtain⟨EY,stop| go⟩:=step i n zs H5 w5
  ·have⟨stop,q⟩:=stop;refine bA (T.done (Cx.comp X (xs++ys) scope s3.heap.objs.size s3 H3 fp) rfl rfl rfl hc i [] s5 _ H5 _ I5 (Xu UH) t5 stop) λr s6 xz=>?_;have⟨hr,I6⟩:=xz;subst hr;refine abk (hPQ _ _ s6 H5 ?_ q ?_ I6.free ?_ Z8 Ld λp hp z=>?_)
   ·refine I3.Rz I6.os I6.base I6.aX I6.bare λb hb=>?_;have⟨_,g1,_,g3,g4,g5⟩:=f2 b hb;exact⟨g3,g1,g4,g5⟩
   ·have⟨m,hn,_⟩:=I6.loc;exact⟨m,hn⟩
   ·exact I3.sz
   ·exact aaK (aat (I3.pin p hp).1) z
  ·have⟨go,turn⟩:=go;refine bA (T.item (Cx.comp X (xs++ys) scope s3.heap.objs.size s3 H3 fp) rfl rfl rfl hc i [] s5 _ H5 _ I5 (Xu UH) t5 go) λr s6 xz=>?_;have⟨u,hr,h6⟩:=xz;subst hr;refine aaG (bA h6 λ_ s7 xz=>?_);have⟨y,H7,I7,r7,y7,t7,fr7⟩:=xz;have I7':=I7.pinned (Xu fr7) (T.obj _ _ t7);refine aaG (ab8 (hg _ _ _ _ _ s7 _ H7 y u _ I7' r7 (hk y os _ H7 _ l5 (turn y _ y7 os l5))) (λ_ s8 z8=>?_) λ_ _ f=>f.elim);have⟨σ8,H8,I8,⟨YI,l8,e8⟩,q8⟩:=z8;subst e8;refine aaG (ab8 ((ht _ _ _ _).2 _ s8 _ _ _ I8 q8) (λb s9 z9=>?_) λ_ _ f=>f.elim);have⟨H9,I9,q9⟩:=z9;cases b with
   | false=>
    have⟨m9,hm9,w9⟩:=q9;refine abk ⟨rfl,m9,hm9,i+1,zs,YI,_,l8,I9.jD,T.keep _ _ _ t7 λb hb o e=>(I9.pin (b,o) (aaA _ (aaA _ (e9 hb e)))).1,λb hb=>?_,w9⟩;have⟨o,e,_⟩:=T.obj _ _ t7 b hb;exact(I9.pin (b,o) (aaA _ (aaA _ (e9 hb e)))).2.1
   | true=>
    refine aaG (aaG (ab8 (he _ _ _ _ _ s9 _ _ _ I9 q9) (λu10 s10 z10=>?_) λ_ _ f=>f.elim));have⟨v10,Zn,I10,r10,XQ,l10,m10,V1,w10⟩:=z10;refine aaG (ab8 (uN (X:=Cx.comp X (xs++ys) scope s3.heap.objs.size s3 H3 fp) _ s10 _ Zn (.ref s2.heap.objs.size) [v10] _ [u10] (λ_ H'=>H'=upd Zn s2.heap.objs.size (.lst (zs++[v10]))) I10 rfl (.cons r10 .nil) ⟨_,zs,v10,rfl,rfl,XQ,l10,rfl⟩) (λ_ Ut z11=>?_) λ_ _ f=>f.elim);have⟨_,H11,YA,_,e11⟩:=z11;subst e11;refine abk (abk ⟨rfl,m10,V1,i+1,zs++[v10],YI,_,l8,YA.jD,T.keep _ _ _ t7 λb hb o e=>(YA.pin (b,o) (aaA _ (aaA _ (e9 hb e)))).1,λb hb=>?_,w10⟩);have⟨o,e,_⟩:=T.obj _ _ t7 b hb;exact(YA.pin (b,o) (aaA _ (aaA _ (e9 hb e)))).2.1
 exact codeAny_compStart_list loop (T.self X.A 0 _ _ _ (T.keep _ _ _ t3 (λb hb o e=>by rw[e4];exact kp b o e)) loop)
def Il(S:ag X scope xs ys Θ)(hc:X.calm=true)(hi:PI X tg iter wi)(hg:∀C s H fp,PG (Cx.comp X (xs++ys) scope C s H fp) tg gg)(hk:vA xs.length gg)(ht:∀C s H fp,Va (Cx.comp X (xs++ys) scope C s H fp) cs tc)(he:∀C s H fp,PE (Cx.comp X (xs++ys) scope C s H fp) elt te)(hs:∀x,foldedSetIterable iter X.env x=pure x:=by intro _;rfl):
  PE X (.ListComp elt [⟨tg,iter,cs,0⟩] scope pos) (Jo wi xs.length gg tc te Θ):=by
 intro δ s σ H Q I h;rw[eval_ListComp];refine wpAny_comprehension_free (use:=none) rfl hs (rq (S.has I.ok)) S.kind S.names (bA (hi δ s σ H _ I h) λv s1 h1=>bA h1 λUR s2 h2=>?_);have⟨it,fp,tn,J,H2,rfl,I2,T,t0,f2,q⟩:=h2;refine uD S hc hg hk ht he (Q:=Q) I2 T t0 f2 q λD C s' H' I' q' n' hC hz hL Pc hp=>?_;have⟨m,n'⟩:=n';exact⟨m,n',λh' sb=>⟨.ref D,H',I'.turned (it:=C) (t':=s'.toks) (λb o hb e=>(sb.2 b hb).trans e) hC hL (.inr hz) Pc hp,rfl,q'⟩⟩
def yC{i:Nat}{y:Str}{py gM:Pos}(hN:X.N.Nodup)(BU:X.N[i]? =some y)(hy:Loc X.env.scope y)(S:ag X scope xs ys Θ)(hc:X.calm=true)(hi:PI X tg iter wi)(hg:∀C s H fp,PG (Cx.comp X (xs++ys) scope C s H fp) tg gg)(hk:vA xs.length gg)(ht:∀C s H fp,Va (Cx.comp X (xs++ys) scope C s H fp) cs tc)(he:∀C s H fp,PE (Cx.comp X (xs++ys) scope C s H fp) elt te)
  (BR:swapsWith (.ListComp elt [⟨tg,iter,cs,0⟩] scope pos) (some (.Name y py)) gM.line X.env=pure true) (hs:∀x,foldedSetIterable iter X.env x=pure x)
  (hf:X.fn y=true\/X.env.scope.names.lookup y=some .local):
  PS X (.Assign [.Name y py] (.ListComp elt [⟨tg,iter,cs,0⟩] scope pos) gM) (λD σ H=>Jo wi xs.length gg tc te Θ σ H λv H1=>D.nx (σ.set i (some v)) H1):=by
 intro δ s σ H D I h;rw[exec_Assign_Name_used _ _ _ _ BR];refine aaG (wpAny_standAt (aaG ?_));show wpAny _ _ (do let _<-comprehension (.ListComp elt [⟨tg,iter,cs,0⟩] scope pos) scope X.env _ (newList []) false (eval iter X.env) (some (assign (.Name y py) X.env))) _ _ s;refine aaG (ab8 (wpAny_comprehension_free (use:=some (assign (.Name y py) X.env)) (Q:=λ_ s'=>SP X δ D .next s') rfl hs (rq (S.has I.ok)) S.kind S.names (bA (hi δ s σ H _ I h) λv s1 h1=>bA h1 λUR s2 h2=>?_)) (λ_ s' hq=>abk (abk hq)) λ_ _ e=>e);have⟨it,fp,tn,J,H2,rfl,I2,T,t0,f2,q⟩:=h2;refine uD S hc hg hk ht he (Q:=λv H1=>D.nx (σ.set i (some v)) H1) I2 T t0 f2 q λDl C s' H' I' q' n' hC hz hL Pc hp=>?_;have⟨m,n'⟩:=n';show wpAny _ _ (assign (.Name y py) X.env (.ref Dl)) _ _ s';refine wpAny_assign_Name (vv I' hN BU hy (v:=.ref Dl) rfl (λs3 I3 Vw=>?_) hf);have⟨a,Vw,ha⟩:=Vw;have hCa:C≠a:=by
  rcases ha with rfl| ha
  ·exact hL
  ·exact(Pc _ _ ha).symm
 exact⟨m,n'.sameBut Vw hCa,λh' sb=>⟨_,H',I3.turned (it:=C) (t':=s3.toks) (λb o hb e=>(sb.2 b hb).trans e) hC hL (.inr hz) Pc hp,q'⟩⟩
end
section
variable{K:fI}
def dE.okX{x:Str}{st:Stmt}{k:Nat}{sp:Sp}(F:dE K x qual st f fd)(S:Γ N ps (χ st))(len:∀vs H Q E,sp vs H Q E->vs.length=ps.length)
  (z_:∀(bz:Value) (A:Around) (outer:List Env) (s:Shared) (H:Hp) (vs:List V) (Q:VK) (E:XK),cx k (A.deeper (envOfC qual (χ st) s.heap.objs.size f bz))->sp vs H Q E->
   ∃t,Gx (xE (cP P w) P w K mg base N qual (χ st) f bz A outer s H E) (hV st) t/\t {nx:=λ_ H'=>Q .aY H',rt:=Q} (start N vs) H):aw P w K mg base (cP P w) (k+1) f fd ps sp:=by
 have⟨oc,od,kV,doc,pm,an,bz,ct,Kl,rfl,lk,Jf⟩:=F.ex;exact RC lk Jf S len λA outer s H vs Q E hr Np=>z_ bz A outer s H vs Q E hr Np
end
def fk:dN (cP P w) X (λ_=>E0):=by intro δ σ H s e s' _ hx;have⟨_,_,_,_,_,_,_,_,hE⟩:=hx;exact hE.elim
def log2_lt{n:Nat}{k:Nat}(h:n < 2 ^ k)(hk:0 < k):n.log2 < k:=by
 by_cases h0:n=0
 ·rw[h0,show Nat.log2 0=0 from rfl];exact hk
 ·exact(Nat.log2_lt h0).mpr h
def fj(i:Int):Prop:=i.natAbs < 2 ^ 8000
def Ge{i j:Int}(hi:fj i)(hj:fj j):IntMulOk i j:=by
 have b:∀{i:Int},fj i->Builtin.Int.intBits i<=8000:=λ{i} h=>by
  unfold Builtin.Int.intBits;split
  ·exact ab5 _
  ·have:=log2_lt (k:=8000) h @_;omega
 have b1:=b hi;have b2:=b hj;have h3:Builtin.Int.intTooBig (Builtin.Int.intBits i+Builtin.Int.intBits j)=false:=by
  unfold Builtin.Int.intTooBig;refine aar ?_;have:(bitsLine:Int)=134217728:=@_
  omega
 unfold IntMulOk;rw[h3,Bool.and_false];exact aaB
section
def K5:jQ X (binaryOp .Mult) (rI (λi j=>fj i/\fj j) λi j=>.int (i * j)):=UP λ_ _ _ _ _ _ _ hc q=>mul_int q (Ge hc.1 hc.2)
def zE:jQ X (binaryOp .FloorDiv) (rI (λ_ j=>j≠0/\fj j) λi j=>.int (i.fdiv j)):=UP λ_ _ _ _ _ _ _ hc q=>
 floordiv_int hc.1 q (.inl (PyProof.noPylong_of_log2 (aaz (log2_lt (k:=8000) hc.2 @_) @_)))
end
def nH:List V->List V->Bool
 | [],[]=>true
 | x::xs,y::ys=>vL x y&&nH xs ys
 | _,_=>false
def mz:∀(xs ys:List V) (e:Nat->Bool),(∀j x y,xs[j]? =some x->ys[j]? =some y->e j=vL x y)->((List.range (min xs.length ys.length)).all e&&xs.length==ys.length)=nH xs ys
 | [],[],e,_=>rfl
 | [],_::_,e,_=>by simp[nH]
 | _::_,[],e,_=>by simp[nH]
 | x::xs,y::ys,e,h=>by
  have ih:=mz xs ys (λj=>e (j+1)) λj x y h1 h2=>h (j+1) x y h1 h2;have h0:e 0=vL x y:=h 0 x y rfl rfl;show _=(vL x y&&nH xs ys);rw[<-ih,<-h0];have e1:min (x::xs).length (y::ys).length=min xs.length ys.length+1:=by simp only[List.length_cons];omega
  rw[e1,abC,abS,List.all_map];have e2:((x::xs).length==(y::ys).length)=(xs.length==ys.length):=by simp only[List.length_cons];rw[Bool.eq_iff_iff];simp
  rw[e2,Bool.and_assoc];rfl
def TC(K:fI):R2:=λx y H Q=>∃a b xs ys,x= .ref a/\y= .ref b/\mL K H a xs/\mL K H b ys/\xs.all eK=true/\ys.all eK=true/\Q (.bl (nH xs ys)) H
def T3(K:fI):R2:=λx y H Q=>∃a b xs ys,x= .ref a/\y= .ref b/\mL K H a xs/\mL K H b ys/\xs.all eK=true/\ys.all eK=true/\Q (.bl (!nH xs ys)) H
def nq:∀{xs:List V} {j:Nat} {x:V},xs.all eK=true->xs[j]? =some x->eK x=true
 | _::_,0,_,h,e=>by rw[abS,aaC]at h;cases e;exact h.1
 | _::_,j+1,_,h,e=>by rw[abS,aaC]at h;exact nq h.2 e
section
def Oj(hu:X.A.units < cLine):jQ X (compareOp .NotEq) (T3 X.K):=by
 intro δ s σ H x y v u Q I rx ry h;have⟨a,b,xs,ys,rfl,rfl,h1,h2,f1,f2,q⟩:=h;cases rx;cases ry;have⟨i1,v1,t1,_⟩:=I.tuple h1;have⟨i2,v2,t2,_⟩:=I.tuple h2;have l1:=v1.length;have l2:=v2.length;refine SeqAt.RcNeAt.tuples (e:=λj=>match xs[j]?,ys[j]? with| some x,some y=>vL x y| _,_=>true) (show s.heap.IsTuple a i1.toArray from t1) (show s.heap.IsTuple b i2.toArray from t2) hu (λj h1 h2=>?_) _ _ _ _ ?_
 ·have b1:j < i1.length:=by simpa using h1
  have b2:j < i2.length:=by simpa using h2
  have e1:xs[j]? =some (xs[j]'()):=aaa _;have e2:ys[j]? =some (ys[j]'()):=aaa _;have⟨u1,g1,r1⟩:=v1.get e1;have⟨u2,g2,r2⟩:=v2.get e2;rw[aaa b1]at g1;rw[aaa b2]at g2;have w1:i1.toArray[j]=u1:=by simpa using Option.some.inj g1
  have w2:i2.toArray[j]=u2:=by simpa using Option.some.inj g2
  rw[w1,w2];simp only[e1,e2];exact x6 r1 r2 (nq f1 e1) (nq f2 e2)
 ·rw[List.size_toArray,List.size_toArray,<-l1,<-l2,mz xs ys _ (λj x y h1 h2=>by simp only[h1,h2])];exact⟨.bl (!nH xs ys),H,I,rfl,q⟩
def Ke(hu:X.A.units < cLine):jQ X (compareOp .Eq) (TC X.K):=by
 intro δ s σ H x y v u Q I rx ry h;have⟨a,b,xs,ys,rfl,rfl,h1,h2,f1,f2,q⟩:=h;cases rx;cases ry;have⟨i1,v1,t1,_⟩:=I.tuple h1;have⟨i2,v2,t2,_⟩:=I.tuple h2;have l1:=v1.length;have l2:=v2.length;refine SeqAt.eq_tupleAt (e:=λj=>match xs[j]?,ys[j]? with| some x,some y=>vL x y| _,_=>true) (show s.heap.IsTuple a i1.toArray from t1) (show s.heap.IsTuple b i2.toArray from t2) hu (λj h1 h2=>?_) ?_
 ·have b1:j < i1.length:=by simpa using h1
  have b2:j < i2.length:=by simpa using h2
  have e1:xs[j]? =some (xs[j]'()):=aaa _;have e2:ys[j]? =some (ys[j]'()):=aaa _;have⟨u1,g1,r1⟩:=v1.get e1;have⟨u2,g2,r2⟩:=v2.get e2;rw[aaa b1]at g1;rw[aaa b2]at g2;have w1:i1.toArray[j]=u1:=by simpa using Option.some.inj g1
  have w2:i2.toArray[j]=u2:=by simpa using Option.some.inj g2
  rw[w1,w2];simp only[e1,e2];exact x6 r1 r2 (nq f1 e1) (nq f2 e2)
 ·rw[List.size_toArray,List.size_toArray,<-l1,<-l2,mz xs ys _ (λj x y h1 h2=>by simp only[h1,h2])];exact⟨.bl (nH xs ys),H,I,rfl,q⟩
end
def Gr(bs:List Bool):(List.range bs.length).any (λi=>bs.getD i false)=bs.any id:=by
 induction bs with
 | nil=>rfl
 | cons b bs ih=>
  rw[aaJ,abC,abK,List.any_map,abK,<-ih];rfl
def wD:∀{bs:List Bool} {us:List Value},ay (bs.map V.bl) us->us=bs.map Value.bool
 | [],_,r=>by cases r;rfl
 | b::bs,_,r=>by
  cases r with
  | cons h t=>
   cases h;rw[wD t];rfl
def As{prog:Program}{bs:List Bool}:TruthOf prog w A (λi v=>(bs.map Value.bool).toArray[i]? =some v) (λi=>bs.getD i false):=by
 intro i v s Q E h q;have h':(bs.map Value.bool)[i]? =some v:=by simpa using h
 rw[aak]at h';cases e:bs[i]? with
 | none=>rw[e]at h';cases h'
 | some b=>
  rw[e]at h';cases h';have q':Q b s:=by
   have eb:bs.getD i false=b:=by rw[aab,e];rfl
   exact eb▸q
  exact wpAny_truthy_bool q'
def SE(K:fI):List V->Hp->VK->Prop:=λxs H Q=>∃(p:Addr) (bs:List Bool),xs=[.ref p]/\gc K H p (bs.map V.bl)/\Q (.bl (bs.any id)) H
section
def Ha (hc : X.calm = true) : dY X (.builtin "any") (SE X.K) :=by
  intro δ s σ H xs us Q I r h;obtain⟨p,bs,rfl,hq,q⟩ :=h;obtain⟨u,rfl,r1⟩ :=kr r;cases r1;obtain⟨its,rv,pl,hz⟩ :=I.list hq;have OT :=wD rv;subst OT;refine call_any_walk (wpAny_pyIter_list pl.isList ?_);have lp : p < s.heap.objs.size :=by obtain⟨o,e,_⟩ :=pl.isList;exact aat e
  refine⟨s.heap.objs.size,_,_,_,_,_,λi =>bs.getD i false,rfl,Walks.list (show X.A.in1.handled = none from I.ok.hd hc) s.heap.objs.size p (aaK lp) (bs.map Value.bool).toArray,⟨⟨_,aaS _ rfl,rfl,rfl⟩,pl.isList.at λo e =>aam _ e⟩,As,λh' tk hk =>?_⟩;refine⟨.bl (bs.any id),H,I.kept λb o e =>hk b o (λz =>by have : b = s.heap.objs.size :=(by simpa using z);exact Nat.lt_irrefl _ (this ▸ Heap.lt_size e)) (Heap.get?_push_of_some _ e),?_,q⟩;rw[aa0,aae,Gr];rfl
end
end L2
namespace PySem
open Sem (wp)
end PySem
namespace PySem.W
open PySem PySem.Builtin PySem.Builtin.ObjectAttr
end PySem.W
namespace PySem
open Sem (wp)
end PySem
namespace L2
open PySem PySem.Spec PyProof.Rows
def xO(a C:Addr)(od:Option Addr):HO:=.ext λh=>∃ob vs,h.get? a=some ob/\ob.cls= .ref C/\ob.dict=od/\ob.data= .fields vs
inductive Dt where
 | aY
 | bl (b:Bool)
 | int (i:Int)
 | str (x:Str)
 | tup (xs:List Dt)
 | lst (xs:List Dt)
 | obj (C:Addr) (ns:List Str) (xs:List Dt)
 | loc (k:Nat)
 | ref (a:Addr)
 | ty (n:String)
 | hW (ns:List Int)
 | kt (xs:List Dt)
 | exc (C:Addr) (ns:List Str) (xs:List Dt)
 | TM (x C:Addr) (od:Option Addr) (ns:List Str) (xs:List Dt)
inductive MO where
 | lst (xs:List Dt)
 | ins (C:Addr) (ns:List Str) (xs:List Dt)
 | jm (ks:List Key) (xs:List Dt)
 | raw (u:Addr->HO)
abbrev Ms:=List MO
abbrev En:=List (Option Dt)
mutual
def Den(K:fI)(G:Hp)(L:List Addr):Dt->V->Prop
 | .aY,v=>v= .aY
 | .bl b,v=>v= .bl b
 | .int i,v=>v= .int i
 | .str x,v=>v= .str x
 | .tup ds,v=>∃a vs,v= .ref a/\G a=some (.tup vs)/\Τ K G L ds vs
 | .lst ds,v=>∃a vs,v= .ref a/\G a=some (.lst vs)/\Τ K G L ds vs
 | .obj C ns ds,v=>∃a dx vs,v= .ref a/\G a=some (.ins C dx (ns.zip vs))/\ns.length=ds.length/\Τ K G L ds vs
 | .loc k,v=>∃a,v= .ref a/\L[k]? =some a
 | .ref a,v=>v= .ref a
 | .ty n,v=>v= .ty n
 | .hW ns,v=>∃a,v= .ref a/\gc K G a (ns.map V.int)
 | .kt ds,v=>∃a vs,v= .ref a/\mL K G a vs/\Τ K G L ds vs
 | .exc C ns ds,v=>∃a od vs,v= .ref a/\G a=some (xO a C od)/\((ns=[]/\od=none)\/∃dx,od=some dx/\G dx=some (.xd (ns.zip vs)))/\ns.length=ds.length/\Τ K G L ds vs
 | .TM x _ od ns ds,v=>∃vs,v= .ref x/\((ns=[]/\od=none)\/∃dx,od=some dx/\G dx=some (.xd (ns.zip vs)))/\ns.length=ds.length/\Τ K G L ds vs
def Τ(K:fI)(G:Hp)(L:List Addr):List Dt->List V->Prop
 | [],vs=>vs=[]
 | d::ds,vs=>∃v r,vs=v::r/\Den K G L d v/\Τ K G L ds r
end
def Pre(L L':List Addr):Prop:=∃t,L'=L++t
def Pre.refl(L:List Addr):Pre L L:=⟨[],by simp⟩
def Pre.trans{a b c:List Addr}(h:Pre a b)(h':Pre b c):Pre a c:=by have⟨t,rfl⟩:=h;have⟨u,rfl⟩:=h';exact⟨t++u,by simp⟩
def Pre.get{a b:List Addr}(h:Pre a b){k:Nat}{x:Addr}(e:a[k]? =some x):b[k]? =some x:=by have⟨t,rfl⟩:=h;have hk:k < a.length:=(aaf.mp e).1;rw[aas hk];exact e
def dU.rd{H H':Hp}{a:Addr}{u:HO}(e:dU H H')(h:Rd H a u):Rd H' a u:=by
 rcases h with h| ⟨o,h⟩
 ·exact .inl (e _ _ h)
 ·exact .inr ⟨o,e _ _ h⟩
def dU.Rt{K:fI}{H H':Hp}{a:Addr}{xs:List V}(e:dU H H')(h:mL K H a xs):mL K H' a xs:=by
 rcases h with h| h
 ·exact .inl (e.rd h)
 ·exact .inr h
section
variable{K:fI}{G G':Hp}{L L':List Addr}
mutual
def Den.mono(g:dU G G')(l:Pre L L'):∀(d:Dt) (v:V),Den K G L d v->Den K G' L' d v
 | .aY,_,h=>h
 | .bl _,_,h=>h
 | .int _,_,h=>h
 | .str _,_,h=>h
 | .tup ds,_,⟨a,vs,e,h1,h2⟩=>⟨a,vs,e,g _ _ h1,Τ.mono g l ds vs h2⟩
 | .lst ds,_,⟨a,vs,e,h1,h2⟩=>⟨a,vs,e,g _ _ h1,Τ.mono g l ds vs h2⟩
 | .obj C ns ds,_,⟨a,dx,vs,e,h1,hn,h2⟩=>⟨a,dx,vs,e,g _ _ h1,hn,Τ.mono g l ds vs h2⟩
 | .loc k,_,⟨a,e,h1⟩=>⟨a,e,l.get h1⟩
 | .ref _,_,h=>h
 | .ty _,_,h=>h
 | .hW _,_,⟨a,e,h1⟩=>⟨a,e,g.seq h1⟩
 | .kt ds,_,⟨a,vs,e,h1,h2⟩=>⟨a,vs,e,g.Rt h1,Τ.mono g l ds vs h2⟩
 | .exc _ _ ds,_,⟨a,od,vs,e,h1,h2,h3,h4⟩=>⟨a,od,vs,e,g _ _ h1,h2.imp (λz=>z) (λ⟨dx,z1,z2⟩=>⟨dx,z1,g _ _ z2⟩),h3,Τ.mono g l ds vs h4⟩
 | .TM _ _ _ _ ds,_,⟨vs,e,h2,h3,h4⟩=>⟨vs,e,h2.imp (λz=>z) (λ⟨dx,z1,z2⟩=>⟨dx,z1,g _ _ z2⟩),h3,Τ.mono g l ds vs h4⟩
def Τ.mono(g:dU G G')(l:Pre L L'):∀(ds:List Dt) (vs:List V),Τ K G L ds vs->Τ K G' L' ds vs
 | [],_,h=>h
 | d::ds,_,⟨v,r,e,h1,h2⟩=>⟨v,r,e,Den.mono g l d v h1,Τ.mono g l ds r h2⟩
end
def Τ.pair:∀{ds:List Dt} {vs:List V},Τ K G L ds vs->Paired (Den K G L) ds vs
 | [],_,h=>by have h:_=_:=h;subst h;exact .nil
 | d::ds,_,⟨v,r,e,h1,h2⟩=>by subst e;exact .cons h1 (Τ.pair h2)
def Τ.of:∀{ds:List Dt} {vs:List V},Paired (Den K G L) ds vs->Τ K G L ds vs
 | _,_,.nil=>rfl
 | _,_,.cons h t=>⟨_,_,rfl,h,Τ.of t⟩
end
section
variable{α β:Type}{F:α->β->Prop}
def D_:∀{xs:List α} {us:List β} {i:Nat} {x:α},Paired F xs us->xs[i]? =some x->∃u,us[i]? =some u/\F x u
 | _,_,_,_,.nil,e=>by simp at e
 | _,_,0,_,.cons r _,e=>by simp at e;subst e;exact⟨_,rfl,r⟩
 | _,_,i+1,x,.cons _ t,e=>by have⟨u,h1,h2⟩:=D_ (i:=i) (x:=x) t (by simpa using e);exact⟨u,by simpa using h1,h2⟩
def xJ{x:α}{u:β}(r:F x u):∀{xs:List α} {us:List β} (i:Nat),Paired F xs us->Paired F (xs.set i x) (us.set i u)
 | _,_,_,.nil=>.nil
 | _,_,0,.cons _ t=>.cons r t
 | _,_,i+1,.cons q t=>.cons q (xJ r i t)
def xM:∀{xs ys:List α} {us ws:List β},Paired F xs us->Paired F ys ws->Paired F (xs++ys) (us++ws)
 | _,_,_,_,.nil,s=>s
 | _,_,_,_,.cons r t,s=>.cons r (xM t s)
def sW:∀{xs:List α} {us:List β} (n:Nat),Paired F xs us->Paired F (xs.take n) (us.take n)
 | _,_,0,_=>.nil
 | _,_,_+1,.nil=>.nil
 | _,_,n+1,.cons r t=>.cons r (sW n t)
def rY:∀{xs:List α} {us:List β} (n:Nat),Paired F xs us->Paired F (xs.drop n) (us.drop n)
 | _,_,0,r=>r
 | _,_,_+1,.nil=>.nil
 | _,_,n+1,.cons _ t=>rY n t
def vJ{xs:List α}{us:List β}(h:Paired F xs us):∀k:Nat,Paired F (List.replicate k xs).flatten (List.replicate k us).flatten
 | 0=>.nil
 | k+1=>by rw[abo,abo,abD,abD];exact xM h (vJ h k)
end
section
variable{K:fI}{G:Hp}{L:List Addr}
def Τ.length{ds:List Dt}{vs:List V}(h:Τ K G L ds vs):ds.length=vs.length:=Paired.length h.pair
def Τ.get{ds:List Dt}{vs:List V}{i:Nat}{d:Dt}(h:Τ K G L ds vs)(e:ds[i]? =some d):∃v,vs[i]? =some v/\Den K G L d v:=D_ h.pair e
def Τ.app{ds es:List Dt}{vs us:List V}(h:Τ K G L ds vs)(h':Τ K G L es us):Τ K G L (ds++es) (vs++us):=.of (xM h.pair h'.pair)
def iL:∀{ns:List Int},Τ K G L (ns.map Dt.int) (ns.map V.int)
 | []=>rfl
 | n::ns=>⟨_,_,rfl,rfl,iL⟩
def aW{d:Dt}{vs:List V}(h:Τ K G L [d] vs):∃v,vs=[v]/\Den K G L d v:=by have⟨v,r,rfl,h1,h2⟩:=h;have h2:r=[]:=h2;subst h2;exact⟨v,rfl,h1⟩
def gF{d e:Dt}{vs:List V}(h:Τ K G L [d,e] vs):∃v u,vs=[v,u]/\Den K G L d v/\Den K G L e u:=by have⟨v,r,rfl,h1,h2⟩:=h;have⟨u,rfl,h3⟩:=aW h2;exact⟨v,u,rfl,h1,h3⟩
end
def GG(K:fI)(G:Hp)(L:List Addr)(H:Hp)(a:Addr):MO->Prop
 | .lst ds=>∃vs,H a=some (.lst vs)/\Τ K G L ds vs
 | .ins C ns ds=>∃dx vs,H a=some (.ins C dx (ns.zip vs))/\ns.length=ds.length/\Τ K G L ds vs
 | .jm ks ds=>∃vs,H a=some (.dK (ks.zip vs))/\ks.length=ds.length/\Τ K G L ds vs
 | .raw u=>H a=some (u a)
structure Rl(K:fI)(G:Hp)(L:List Addr)(M:Ms)(H:Hp):Prop where
 sub:dU G H
 len:L.length=M.length
 nd:L.Nodup
 fZ:∀(k:Nat) (a:Addr) (m:MO),L[k]? =some a->M[k]? =some m->G a=none/\GG K G L H a m
structure Ex(G:Hp)(L:List Addr)(H:Hp)(G':Hp)(L':List Addr)(H':Hp):Prop where
 g:dU G G'
 l:Pre L L'
 fr:∀b,G b=none->H b≠none->G' b=none
 out:∀b o,H b=some o->b∉L->H' b=some o
 new:∀b∈L',b∈L\/H b=none
 CV:∀b,H b≠none->H' b≠none
def Ex.refl(G:Hp)(L:List Addr)(H:Hp):Ex G L H G L H:=⟨.refl _,.refl _,λ_ h _=>h,λ_ _ h _=>h,λ_ h=>.inl h,λ_ h=>h⟩
def Ex.trans{G:Hp}{L:List Addr}{H G1:Hp}{L1:List Addr}{H1 G2:Hp}{L2:List Addr}{H2:Hp}(a:Ex G L H G1 L1 H1)(b:Ex G1 L1 H1 G2 L2 H2):Ex G L H G2 L2 H2 where
 g:=a.g.trans b.g
 l:=a.l.trans b.l
 fr:=λx h1 h2=>b.fr x (a.fr x h1 h2) (a.CV x h2)
 out:=λx o h1 h2=>b.out x o (a.out x o h1 h2) λz=>(a.new x z).elim h2 λq=>by rw[h1]at q;cases q
 new:=λx h=>by
  rcases b.new x h with z| z
  ·exact a.new x z
  ·right;cases q:H x with
   | none=>rfl
   | some o=>exact absurd z (a.CV x (by rw[q];simp))
 CV:=λx h=>b.CV x (a.CV x h)
def GG.there{K:fI}{G:Hp}{L:List Addr}{H:Hp}{a:Addr}{m:MO}(h:GG K G L H a m):H a≠none:=by
 cases m with
 | lst ds=>have⟨vs,e,_⟩:=h;rw[e];simp
 | ins C ns ds=>have⟨dx,vs,e,_⟩:=h;rw[e];simp
 | jm ks ds=>have⟨vs,e,_⟩:=h;rw[e];simp
 | raw u=>have h:H a=some (u a):=h;rw[h];simp
def GG.mono{K:fI}{G G':Hp}{L L':List Addr}{H H':Hp}{a:Addr}{m:MO}(g:dU G G')(l:Pre L L')(e:H' a=H a)(h:GG K G L H a m):GG K G' L' H' a m:=by
 cases m with
 | lst ds=>have⟨vs,e1,h⟩:=h;exact⟨vs,e.trans e1,Τ.mono g l _ _ h⟩
 | ins C ns ds=>have⟨dx,vs,e1,h0,h⟩:=h;exact⟨dx,vs,e.trans e1,h0,Τ.mono g l _ _ h⟩
 | jm ks ds=>have⟨vs,e1,h0,h⟩:=h;exact⟨vs,e.trans e1,h0,Τ.mono g l _ _ h⟩
 | raw u=>exact e.trans h
section
variable{K:fI}{G:Hp}{L:List Addr}{M:Ms}{H:Hp}{p:Addr}{o:HO}
def Rl.vT(r:Rl K G L M H){a:Addr}(h:a∈L):∃(k:Nat) (m:MO),L[k]? =some a/\M[k]? =some m/\G a=none/\GG K G L H a m:=by
 have⟨k,hk,e⟩:=aba h;have e1:L[k]? =some a:=by rw[aaa hk,e]
 have e2:M[k]? =some (M[k]'(by rw[<-r.len];exact hk)):=aaa _;exact⟨k,_,e1,e2,r.fZ k a _ e1 e2⟩
def Rl.Pa(r:Rl K G L M H)(hp:H p=none):p∉L:=λz=>by have⟨k,m,_,_,_,h⟩:=r.vT z;exact h.there hp
def Rl.KO(r:Rl K G L M H)(hp:H p=none):Rl K (upd G p o) L M (upd H p o) where
 sub:=λb u e=>by
  by_cases hb:b=p
  ·subst hb;rw[ah]at e⊢;exact e
  ·rw[Ζ hb]at e⊢;exact r.sub b u e
 len:=r.len
 nd:=r.nd
 fZ:=λk a m h1 h2=>by have⟨q1,q2⟩:=r.fZ k a m h1 h2;have hb:a≠p:=λz=>q2.there (by rw[z];exact hp);exact⟨by rw[Ζ hb];exact q1,q2.mono (λb u e=>by rw[Ζ (λz=>by rw[z,r.sub.free hp]at e;cases e)];exact e) (.refl _) (Ζ hb)⟩
def Rl.QR(r:Rl K G L M H)(hp:H p=none):Ex G L H (upd G p o) L (upd H p o) where
 g:=λb u e=>by rw[Ζ (λz=>by rw[z,r.sub.free hp]at e;cases e)];exact e
 l:=.refl _
 fr:=λb h1 h2=>by rw[Ζ (λz=>h2 (by rw[z];exact hp))];exact h1
 out:=λb u h1 _=>by rw[Ζ (λz=>by rw[z,hp]at h1;cases h1)];exact h1
 new:=λb h=>.inl h
 CV:=λb h=>by rw[Ζ (λz=>h (by rw[z];exact hp))];exact h
def Rl.KD{m:MO}(r:Rl K G L M H)(hp:H p=none)(hm:GG K G (L++[p]) (upd H p o) p m):Rl K G (L++[p]) (M++[m]) (upd H p o) where
 sub:=λb u e=>by rw[Ζ (λz=>by rw[z,r.sub.free hp]at e;cases e)];exact r.sub b u e
 len:=by rw[aah,aah,r.len];rfl
 nd:=List.nodup_append.mpr ⟨r.nd,by simp,λa ha b hb=>by
  have e:b=p:=by simpa using hb
  rw[e];exactλz=>r.Pa hp (z▸ha)⟩
 fZ:=λk a m' h1 h2=>by
  by_cases hk:k < L.length
  ·rw[aas hk]at h1;rw[aas (by rw[<-r.len];exact hk)]at h2;have⟨q1,q2⟩:=r.fZ k a m' h1 h2;exact⟨q1,q2.mono (.refl _) ⟨[p],rfl⟩ (Ζ λz=>q2.there (by rw[z];exact hp))⟩
  ·have e:k=L.length:=by have:=(aaf.mp h1).1;rw[aah]at this;simp at this;omega
   rw[e,aax (aaj _)]at h1;rw[e,r.len,aax (aaj _)]at h2;simp at h1 h2;subst h1 h2;exact⟨r.sub.free hp,hm⟩
def Rl.Uo(r:Rl K G L M H)(hp:H p=none):Ex G L H G (L++[p]) (upd H p o) where
 g:=.refl _
 l:=⟨[p],rfl⟩
 fr:=λb h1 _=>h1
 out:=λb u h1 _=>by rw[Ζ (λz=>by rw[z,hp]at h1;cases h1)];exact h1
 new:=λb h=>by
  rcases aaR.mp h with z| z
  ·exact .inl z
  ·have e:b=p:=by simpa using z
   right;rw[e];exact hp
 CV:=λb h=>by rw[Ζ (λz=>h (by rw[z];exact hp))];exact h
def Rl.setM{k:Nat}{a:Addr}{m:MO}(r:Rl K G L M H)(hk:L[k]? =some a)(hm:GG K G L (upd H a o) a m):Rl K G L (M.set k m) (upd H a o) where
 sub:=λb u e=>by have⟨k',m',e1,e2,q1,_⟩:=r.vT (aai hk);rw[Ζ (λz=>by rw[z,q1]at e;cases e)];exact r.sub b u e
 len:=by rw[aa6];exact r.len
 nd:=r.nd
 fZ:=λk' a' m' h1 h2=>by
  by_cases e:k'=k
  ·subst e;rw[hk]at h1;cases h1;have hl:k' < M.length:=by rw[<-r.len];exact(aaf.mp hk).1
   rw[abb hl]at h2;cases h2;have⟨_,_,_,_,q1,_⟩:=r.vT (aai hk);exact⟨q1,hm⟩
  ·rw[abq (λz=>e z.symm)]at h2;have⟨q1,q2⟩:=r.fZ k' a' m' h1 h2;have ne:a'≠a:=λz=>by subst z;exact e ((List.getElem?_inj (aaf.mp h1).1 r.nd).mp (h1.trans hk.symm))
   exact⟨q1,q2.mono (.refl _) (.refl _) (Ζ ne)⟩
def Rl.Es{k:Nat}{a:Addr}(r:Rl K G L M H)(hk:L[k]? =some a):Ex G L H G L (upd H a o) where
 g:=.refl _
 l:=.refl _
 fr:=λb h1 _=>h1
 out:=λb u h1 h2=>by rw[Ζ (λz=>h2 (by rw[z];exact aai hk))];exact h1
 new:=λb h=>.inl h
 CV:=λb h=>by
  by_cases e:b=a
  ·rw[e,ah];simp
  ·rw[Ζ e];exact h
end
structure ly(K:fI)(G:Hp)(L:List Addr)(ρ:En)(σ:St):Prop where
 len:ρ.length=σ.length
 fZ:∀(i:Nat) (d:Dt),ρ[i]? =some (some d)->∃v,σ[i]? =some (some v)/\Den K G L d v
section
variable{K:fI}{G G':Hp}{L L':List Addr}{H H':Hp}{ρ:En}{σ:St}
def ly.mono(h:ly K G L ρ σ)(e:Ex G L H G' L' H'):ly K G' L' ρ σ:=⟨h.len,λi d q=>let ⟨v,a,b⟩:=h.fZ i d q;⟨v,a,Den.mono e.g e.l d v b⟩⟩
def ly.set(h:ly K G L ρ σ)(i:Nat){d:Dt}{v:V}(q:Den K G L d v):ly K G L (ρ.set i (some d)) (σ.set i (some v)):=by
 refine⟨by rw[aa6,aa6];exact h.len,λj d' e=>?_⟩;by_cases hj:i=j
 ·subst hj;have hl:i < ρ.length:=by have:=(aaf.mp e).1;rwa[aa6]at this
  rw[abb hl]at e;cases e;exact⟨v,abb (by rw[<-h.len];exact hl),q⟩
 ·rw[abq hj]at e;have⟨u,a,b⟩:=h.fZ j d' e;exact⟨u,by rw[abq hj];exact a,b⟩
end
abbrev DQ:=Dt->Ms->Prop
abbrev DX:=En->Addr->List (Str×Dt)->Ms->Prop
def Te(K:fI)(G:Hp)(L:List Addr)(H:Hp)(fs:List (Str×Dt))(od:Option Addr):Prop:=
 (fs=[]/\od=none)\/fs≠[]/\∃dx vs,od=some dx/\G dx=some (.xd ((fs.map (·.1)).zip vs))/\Τ K G L (fs.map (·.2)) vs
def ud(K:fI)(G:Hp)(L:List Addr)(H:Hp)(R:St->XK)(x:DX):Prop:=
 ∀σ ρ C fs M' G' L' H' od,x ρ C fs M'->Ex G L H G' L' H'->Rl K G' L' M' H'->ly K G' L' ρ σ->Te K G' L' H' fs od->R σ (.ref C) od H'
def ud.on{K:fI}{G:Hp}{L:List Addr}{H G1:Hp}{L1:List Addr}{H1:Hp}{R:St->XK}{x:DX}(h:ud K G L H R x)(e:Ex G L H G1 L1 H1):ud K G1 L1 H1 R x:=
 λσ ρ C fs M' G' L' H' od q e' r n y=>h σ ρ C fs M' G' L' H' od q (e.trans e') r n y
def ki:DX:=λ_ _ _ _=>False
def IA{K:fI}{G:Hp}{L:List Addr}{H:Hp}{R:St->XK}:ud K G L H R ki:=λ_ _ _ _ _ _ _ _ _ q=>q.elim
abbrev DE:=En->Ms->DQ->DX->Prop
abbrev DT:=En->Ms->(Bool->Ms->Prop)->DX->Prop
abbrev DA:=En->Ms->(List Dt->Ms->Prop)->DX->Prop
structure lh where
 nx:En->Ms->Prop
 rt:DQ
 bk:En->Ms->Prop:=λ_ _=>False
 ct:En->Ms->Prop:=λ_ _=>False
 x:DX:=ki
abbrev DS:=lh->En->Ms->Prop
inductive Fin(K:fI)(G0:Hp)(L0:List Addr)(H0:Hp)(q:DQ)(v:V)(H:Hp):Prop
 | mk (d:Dt) (G:Hp) (L:List Addr) (M:Ms) (e:Ex G0 L0 H0 G L H) (r:Rl K G L M H) (n:Den K G L d v) (h:q d M)
inductive uo(K:fI)(G0:Hp)(L0:List Addr)(H0:Hp)(q:Bool->Ms->Prop)(b:Bool)(H:Hp):Prop
 | mk (G:Hp) (L:List Addr) (M:Ms) (e:Ex G0 L0 H0 G L H) (r:Rl K G L M H) (h:q b M)
inductive MM(K:fI)(G0:Hp)(L0:List Addr)(H0:Hp)(q:List Dt->Ms->Prop)(vs:List V)(H:Hp):Prop
 | mk (ds:List Dt) (G:Hp) (L:List Addr) (M:Ms) (e:Ex G0 L0 H0 G L H) (r:Rl K G L M H) (n:Τ K G L ds vs) (h:q ds M)
inductive eR(K:fI)(G0:Hp)(L0:List Addr)(H0:Hp)(q:En->Ms->Prop)(σ:St)(H:Hp):Prop
 | mk (ρ:En) (G:Hp) (L:List Addr) (M:Ms) (e:Ex G0 L0 H0 G L H) (r:Rl K G L M H) (n:ly K G L ρ σ) (h:q ρ M)
def tW(K:fI)(G0:Hp)(L0:List Addr)(H0:Hp)(Dn:lh):yw:=⟨eR K G0 L0 H0 Dn.nx,Fin K G0 L0 H0 Dn.rt,eR K G0 L0 H0 Dn.bk,eR K G0 L0 H0 Dn.ct⟩
inductive Ax(K:fI)(R:St->XK)(t:DE)(σ:St)(H:Hp)(Q:VK):Prop
 | mk (G:Hp) (L:List Addr) (ρ:En) (M:Ms) (q:DQ) (x:DX) (r:Rl K G L M H) (n:ly K G L ρ σ) (h:t ρ M q x) (hx:ud K G L H R x) (hQ:∀v H1,Fin K G L H q v H1->Q v H1)
inductive E8(K:fI)(R:St->XK)(t:DT)(σ:St)(H:Hp)(Q:Bool->Hp->Prop):Prop
 | mk (G:Hp) (L:List Addr) (ρ:En) (M:Ms) (q:Bool->Ms->Prop) (x:DX) (r:Rl K G L M H) (n:ly K G L ρ σ) (h:t ρ M q x) (hx:ud K G L H R x) (hQ:∀b H1,uo K G L H q b H1->Q b H1)
inductive Q3(K:fI)(R:St->XK)(t:DA)(σ:St)(H:Hp)(Q:List V->Hp->Prop):Prop
 | mk (G:Hp) (L:List Addr) (ρ:En) (M:Ms) (q:List Dt->Ms->Prop) (x:DX) (r:Rl K G L M H) (n:ly K G L ρ σ) (h:t ρ M q x) (hx:ud K G L H R x) (hQ:∀vs H1,MM K G L H q vs H1->Q vs H1)
structure Qo(A B:yw):Prop where
 nx:∀σ H,A.nx σ H->B.nx σ H
 rt:∀v H,A.rt v H->B.rt v H
 bk:∀σ H,A.bk σ H->B.bk σ H
 ct:∀σ H,A.ct σ H->B.ct σ H
inductive Sq(K:fI)(R:St->XK)(t:DS)(De:yw)(σ:St)(H:Hp):Prop
 | mk (G:Hp) (L:List Addr) (ρ:En) (M:Ms) (Dn:lh) (r:Rl K G L M H) (n:ly K G L ρ σ) (h:t Dn ρ M) (hx:ud K G L H R Dn.x) (hQ:Qo (tW K G L H Dn) De)
def JE(X:Cx)(R:St->XK)(e:Expr)(t:DE):Prop:=PE X e (Ax X.K R t)
def JT(X:Cx)(R:St->XK)(e:Expr)(t:DT):Prop:=PT X e (E8 X.K R t)
def JW(X:Cx)(R:St->XK)(e:Expr)(t:DT):Prop:=PW X e (E8 X.K R t)
def JA(X:Cx)(R:St->XK)(es:List Expr)(t:DA):Prop:=PA X es (Q3 X.K R t)
def JS(X:Cx)(R:St->XK)(st:Stmt)(t:DS):Prop:=PS X st (Sq X.K R t)
def CW(X:Cx)(R:St->XK)(st:List Stmt)(t:DS):Prop:=Gx X st (Sq X.K R t)
section
variable{K:fI}{G0:Hp}{L0:List Addr}{H0 G1:Hp}{L1:List Addr}{H1:Hp}
def Fin.back{q:DQ}(e:Ex G0 L0 H0 G1 L1 H1){v:V}{H:Hp}(h:Fin K G1 L1 H1 q v H):Fin K G0 L0 H0 q v H:=let ⟨d,G,L,M,a,b,c,f⟩:=h;⟨d,G,L,M,e.trans a,b,c,f⟩
def eR.back{q:En->Ms->Prop}(e:Ex G0 L0 H0 G1 L1 H1){v:St}{H:Hp}(h:eR K G1 L1 H1 q v H):eR K G0 L0 H0 q v H:=let ⟨d,G,L,M,a,b,c,f⟩:=h;⟨d,G,L,M,e.trans a,b,c,f⟩
def uo.back{q:Bool->Ms->Prop}(e:Ex G0 L0 H0 G1 L1 H1){v:Bool}{H:Hp}(h:uo K G1 L1 H1 q v H):uo K G0 L0 H0 q v H:=let ⟨G,L,M,a,b,f⟩:=h;⟨G,L,M,e.trans a,b,f⟩
def tW.back{Dn:lh}(e:Ex G0 L0 H0 G1 L1 H1):Qo (tW K G1 L1 H1 Dn) (tW K G0 L0 H0 Dn):=⟨λ_ _ h=>eR.back e h,λ_ _ h=>Fin.back e h,λ_ _ h=>eR.back e h,λ_ _ h=>eR.back e h⟩
def SP.imp{X:Cx}{δ:List (Addr×Obj)}{A B:yw}(e:Qo A B){f:Flow}{s:Shared}(h:SP X δ A f s):SP X δ B f s:=by
 cases f with
 | next=>have⟨a,b,I,q⟩:=h;exact⟨a,b,I,e.nx _ _ q⟩
 | brk=>have⟨a,b,I,q⟩:=h;exact⟨a,b,I,e.bk _ _ q⟩
 | cont=>have⟨a,b,I,q⟩:=h;exact⟨a,b,I,e.ct _ _ q⟩
 | ret u=>have⟨v,a,b,I,r,q⟩:=h;exact⟨v,a,b,I,r,e.rt _ _ q⟩
end
section
variable{X:Cx}{R:St->XK}{e:Expr}
def JE.of{te:TE}{t:DE}(h:PE X e te)(hw:∀σ H G L ρ M q x,Rl X.K G L M H->ly X.K G L ρ σ->t ρ M q x->ud X.K G L H R x->te σ H (Fin X.K G L H q)):JE X R e t:=by intro δ s σ H Q I ⟨G,L,ρ,M,q,x,r,n,ht,hx,hQ⟩;refine bA (h δ s σ H _ I (hw σ H G L ρ M q x r n ht hx)) λu s1 ⟨v,H1,I1,rv,f⟩=>⟨v,H1,I1,rv,hQ v H1 f⟩
def JT.of{te:TT}{t:DT}(h:PT X e te)(hw:∀σ H G L ρ M q x,Rl X.K G L M H->ly X.K G L ρ σ->t ρ M q x->ud X.K G L H R x->te σ H (uo X.K G L H q)):JT X R e t:=by intro δ s σ H Q I ⟨G,L,ρ,M,q,x,r,n,ht,hx,hQ⟩;refine bA (h δ s σ H _ I (hw σ H G L ρ M q x r n ht hx)) λu s1 ⟨H1,I1,f⟩=>⟨H1,I1,hQ u H1 f⟩
def JW.of{te:TT}{t:DT}(h:PW X e te)(hw:∀σ H G L ρ M q x,Rl X.K G L M H->ly X.K G L ρ σ->t ρ M q x->ud X.K G L H R x->te σ H (uo X.K G L H q)):JW X R e t:=by intro wh δ s σ H Q I ⟨G,L,ρ,M,q,x,r,n,ht,hx,hQ⟩;refine bA (h wh δ s σ H _ I (hw σ H G L ρ M q x r n ht hx)) λu s1 ⟨H1,I1,f⟩=>⟨H1,I1,hQ u H1 f⟩
def JA.of{es:List Expr}{te:TA}{t:DA}(h:PA X es te)(hw:∀σ H G L ρ M q x,Rl X.K G L M H->ly X.K G L ρ σ->t ρ M q x->ud X.K G L H R x->te σ H (MM X.K G L H q)):JA X R es t:=by intro pos δ s σ H Q I ⟨G,L,ρ,M,q,x,r,n,ht,hx,hQ⟩;refine bA (h pos δ s σ H _ I (hw σ H G L ρ M q x r n ht hx)) λu s1 ⟨v,H1,I1,rv,f⟩=>⟨v,H1,I1,rv,hQ v H1 f⟩
def JS.of{st:Stmt}{te:TS}{t:DS}(h:PS X st te)(hw:∀σ H G L ρ M Dn,Rl X.K G L M H->ly X.K G L ρ σ->t Dn ρ M->ud X.K G L H R Dn.x->te (tW X.K G L H Dn) σ H):JS X R st t:=by intro δ s σ H De I ⟨G,L,ρ,M,Dn,r,n,ht,hx,hQ⟩;exact bA (h δ s σ H _ I (hw σ H G L ρ M Dn r n ht hx)) λu s1 f=>SP.imp hQ f
def CW.of{st:List Stmt}{te:TS}{t:DS}(h:Gx X st te)(hw:∀σ H G L ρ M Dn,Rl X.K G L M H->ly X.K G L ρ σ->t Dn ρ M->ud X.K G L H R Dn.x->te (tW X.K G L H Dn) σ H):CW X R st t:=by intro δ s σ H De I ⟨G,L,ρ,M,Dn,r,n,ht,hx,hQ⟩;exact bA (h δ s σ H _ I (hw σ H G L ρ M Dn r n ht hx)) λu s1 f=>SP.imp hQ f
end
def xR(i:Nat):DE:=λρ M q _=>match ρ[i]? with
 | some (some d)=>q d M
 | _=>False
def dC(d:Dt):DE:=λ_ M q _=>q d M
def jO(f:Dt->Dt->Ms->DQ->Prop)(a b:DE):DE:=λρ M q x=>a ρ M (λd1 M1=>b ρ M1 (λd2 M2=>f d1 d2 M2 q) x) x
def Uu(f:Dt->Ms->DQ->Prop)(a:DE):DE:=λρ M q x=>a ρ M (λd1 M1=>f d1 M1 q) x
def Oe:DA:=λ_ M q _=>q [] M
def GU(a:DE)(r:DA):DA:=λρ M q x=>a ρ M (λd M1=>r ρ M1 (λds M2=>q (d::ds) M2) x) x
def D4(f:List Dt->Ms->DQ->Prop)(a:DA):DE:=λρ M q x=>a ρ M (λds M1=>f ds M1 q) x
def pS(K:fI)(r:R2)(f:Dt->Dt->Ms->DQ->Prop):Prop:=
 ∀G0 L0 H0 G L M H v1 v2 d1 d2 q,Ex G0 L0 H0 G L H->Rl K G L M H->Den K G L d1 v1->Den K G L d2 v2->f d1 d2 M q->r v1 v2 H (Fin K G0 L0 H0 q)
def XZ(K:fI)(r:V->Hp->VK->Prop)(f:Dt->Ms->DQ->Prop):Prop:=
 ∀G0 L0 H0 G L M H v1 d1 q,Ex G0 L0 H0 G L H->Rl K G L M H->Den K G L d1 v1->f d1 M q->r v1 H (Fin K G0 L0 H0 q)
def Gi(K:fI)(r:List V->Hp->VK->Prop)(f:List Dt->Ms->DQ->Prop):Prop:=
 ∀G0 L0 H0 G L M H vs ds q,Ex G0 L0 H0 G L H->Rl K G L M H->Τ K G L ds vs->f ds M q->r vs H (Fin K G0 L0 H0 q)
section
variable{K:fI}{R:St->XK}{ta tb:DE}{tc:DA}{σ:St}{H G:Hp}{L:List Addr}{ρ:En}{M:Ms}{q:DQ}{x:DX}
def Ba{r:R2}{f:Dt->Dt->Ms->DQ->Prop}(od:pS K r f)(rl:Rl K G L M H)(n:ly K G L ρ σ)(h:jO f ta tb ρ M q x)(hx:ud K G L H R x):S4 r (Ax K R ta) (Ax K R tb) σ H (Fin K G L H q):=by refine⟨G,L,ρ,M,_,x,rl,n,h,hx,λv H1 xz=>?_⟩;have⟨d1,G1,L1,M1,e1,r1,n1,h1⟩:=xz;refine⟨G1,L1,ρ,M1,_,x,r1,n.mono e1,h1,hx.on e1,λv2 H2 xz=>?_⟩;have⟨d2,G2,L2,M2,e2,r2,n2,h2⟩:=xz;exact od G L H G2 L2 M2 H2 v v2 d1 d2 q (e1.trans e2) r2 (Den.mono e2.g e2.l _ _ n1) n2 h2
def Se{r:V->Hp->VK->Prop}{f:Dt->Ms->DQ->Prop}(od:XZ K r f)(rl:Rl K G L M H)(n:ly K G L ρ σ)(h:Uu f ta ρ M q x)(hx:ud K G L H R x):YN r (Ax K R ta) σ H (Fin K G L H q):=by refine⟨G,L,ρ,M,_,x,rl,n,h,hx,λv H1 xz=>?_⟩;have⟨d1,G1,L1,M1,e1,r1,n1,h1⟩:=xz;exact od G L H G1 L1 M1 H1 v d1 q e1 r1 n1 h1
def M7{r:List V->Hp->VK->Prop}{f:List Dt->Ms->DQ->Prop}(od:Gi K r f)(rl:Rl K G L M H)(n:ly K G L ρ σ)(h:D4 f tc ρ M q x)(hx:ud K G L H R x):WR r (Q3 K R tc) σ H (Fin K G L H q):=by refine⟨G,L,ρ,M,_,x,rl,n,h,hx,λv H1 xz=>?_⟩;have⟨d1,G1,L1,M1,e1,r1,n1,h1⟩:=xz;exact od G L H G1 L1 M1 H1 v d1 q e1 r1 n1 h1
end
section
variable{X:Cx}{R:St->XK}{a b c:Expr}{ta tb:DE}{pos:Pos}
def jv(i:Nat){x:Str}{pos:Pos}(hN:X.N[i]? =some x:=by rfl)(hv:XA X.env.scope x:=by first| exact Or.inl rfl| exact Or.inr (Or.inl rfl)| exact Or.inr (Or.inr rfl))(hd:(x==("__debug__":Str))=false:=by decide)
  (Jf:(x==("__classdict__":Str))=false:=by decide):JE X R (.Name x pos) (xR i):=.of (Qd hN hv hd Jf) λσ H G L ρ M q x r n h hx=>by
 unfold xR at h;split at h
 ·rename_i d e;have⟨v,e1,h1⟩:=n.fZ i d e;exact⟨v,e1,d,G,L,M,.refl _ _ _,r,h1,h⟩
 ·exact h.elim
def QP{d:Dt}{v:V}{e:Expr}(h:PE X e (tC v))(hd:∀G L,Den X.K G L d v):JE X R e (dC d):=.of h λσ H G L ρ M q x r n h hx=>⟨d,G,L,M,.refl _ _ _,r,hd G L,h⟩
def ο{i j pos}:JE X R (.Constant (.int i) j pos) (dC (.int i)):=QP OS λ_ _=>rfl
def L6{b j pos}:JE X R (.Constant (.bool b) j pos) (dC (.bl b)):=QP TY λ_ _=>rfl
def yi{j pos}:JE X R (.Constant .none j pos) (dC .aY):=QP Qb λ_ _=>rfl
def eY{x j pos}:JE X R (.Constant (.str x) j pos) (dC (.str x)):=QP P_ λ_ _=>rfl
def vO{op:Operator}{r:R2}{f:Dt->Dt->Ms->DQ->Prop}(ho:jQ X (binaryOp op) r)(od:pS X.K r f)(ja:JE X R a ta)(jb:JE X R b tb):JE X R (.BinOp a op b pos) (jO f ta tb):=
 .of (RQ ho ja jb) λσ H G L ρ M q x r n h hx=>Ba od r n h hx
def X5{op:UnaryOp}{r:V->Hp->VK->Prop}{f:Dt->Ms->DQ->Prop}(ho:U7 X (unaryOp op) r)(od:XZ X.K r f)(ja:JE X R a ta):JE X R (.UnaryOp op a pos) (Uu f ta):=
 .of (RM ho ja) λσ H G L ρ M q x r n h hx=>Se od r n h hx
def vd{op:CmpOp}{r:R2}{f:Dt->Dt->Ms->DQ->Prop}(ho:jQ X (compareOp op) r)(od:pS X.K r f)(ja:JE X R a ta)(jb:JE X R b tb)(hm:behindInMarks op b=false):JE X R (.Compare a [op] [b] pos) (jO f ta tb):=
 .of (Lg ho ja jb hm) λσ H G L ρ M q x r n h hx=>Ba od r n h hx
def R4{r:R2}{f:Dt->Dt->Ms->DQ->Prop}(hr:Kz X r)(od:pS X.K r f)(ja:JE X R a ta)(jb:JE X R b tb)(hs:xm b):JE X R (.Subscript a b pos) (jO f ta tb):=
 .of (RG hr ja jb hs) λσ H G L ρ M q x r n h hx=>Ba od r n h hx
def bX{env:Env}{es:List Expr}{c j p}:starEach (.Constant c j p::es) env=(false,eval (.Constant c j p) env)::starEach es env:=rfl
def Nv{env:Env}{es:List Expr}{c p}:starEach (.Name c p::es) env=(false,eval (.Name c p) env)::starEach es env:=rfl
def cz{env:Env}{es:List Expr}{a o b p}:starEach (.BinOp a o b p::es) env=(false,eval (.BinOp a o b p) env)::starEach es env:=rfl
def bC{env:Env}{es:List Expr}{a b c p}:starEach (.Call a b c p::es) env=(false,eval (.Call a b c p) env)::starEach es env:=rfl
def b8{env:Env}{es:List Expr}{a b p}:starEach (.Subscript a b p::es) env=(false,eval (.Subscript a b p) env)::starEach es env:=rfl
def lq{env:Env}{es:List Expr}{a b p}:starEach (.Tuple a b p::es) env=(false,eval (.Tuple a b p) env)::starEach es env:=rfl
def NM{env:Env}{es:List Expr}{a o b p}:starEach (.Compare a o b p::es) env=(false,eval (.Compare a o b p) env)::starEach es env:=rfl
def η:JA X R [] Oe:=.of NU λσ H G L ρ M q x r n h hx=>⟨[],G,L,M,.refl _ _ _,r,rfl,h⟩
def ι{e:Expr}{es:List Expr}{te:DE}{t:DA}(ha:JE X R e te)(hr:JA X R es t)(hs:starEach (e::es) X.env=(false,eval e X.env)::starEach es X.env:=by first| exact bX| exact Nv| exact cz| exact bC| exact b8| exact lq| exact NM| exact ZQ| rfl):JA X R (e::es) (GU te t):=
 .of (KR ha hr hs) λσ H G L ρ M q x rl n h hx=>by refine⟨G,L,ρ,M,_,x,rl,n,h,hx,λv H1 xz=>?_⟩;have⟨d1,G1,L1,M1,e1,r1,n1,h1⟩:=xz;refine⟨G1,L1,ρ,M1,_,x,r1,n.mono e1,h1,hx.on e1,λv2 H2 xz=>?_⟩;have⟨d2,G2,L2,M2,e2,r2,n2,h2⟩:=xz;exact⟨d1::d2,G2,L2,M2,e1.trans e2,r2,⟨_,_,rfl,Den.mono e2.g e2.l _ _ n1,n2⟩,h2⟩
def Ν{c:Str}{p:Pos}{es:List Expr}{te:DE}{t:DA}(ha:JE X R (.Name c p) te)(hr:JA X R es t):JA X R (.Name c p::es) (GU te t):=ι ha hr Nv
def Tg(t:DA):DE:=λρ M q x=>t ρ M (λds M1=>ds.length<=sizeLine/\q (.tup ds) M1) x
def Rg(t:DA):DE:=λρ M q x=>t ρ M (λds M1=>ds.length<=sizeLine/\q (.lst ds) M1) x
def RH(t:DA):DE:=λρ M q x=>t ρ M (λds M1=>ds.length<=sizeLine/\q (.loc M1.length) (M1++[.lst ds])) x
def kF{K:fI}{G0:Hp}{L0:List Addr}{H0 G:Hp}{L:List Addr}{M:Ms}{H:Hp}{p:Addr}{o:HO}{d:Dt}{q:DQ}(e:Ex G0 L0 H0 G L H)(r:Rl K G L M H)(hp:H p=none)(hd:Den K (upd G p o) L d (.ref p))(h:q d M):Fin K G0 L0 H0 q (.ref p) (upd H p o):=
 ⟨d,upd G p o,L,M,e.trans (r.QR hp),r.KO hp,hd,h⟩
def qc{K:fI}{G:Hp}{L:List Addr}{M:Ms}{H:Hp}{p:Addr}{ds:List Dt}{vs:List V}(r:Rl K G L M H)(hp:H p=none)(h:Τ K G L ds vs):Den K (upd G p (.tup vs)) L (.tup ds) (.ref p):=
 ⟨p,vs,rfl,ah,Τ.mono (r.QR hp).g (.refl _) _ _ h⟩
def qd{K:fI}{G:Hp}{L:List Addr}{M:Ms}{H:Hp}{p:Addr}{ds:List Dt}{vs:List V}(r:Rl K G L M H)(hp:H p=none)(h:Τ K G L ds vs):Den K (upd G p (.lst vs)) L (.lst ds) (.ref p):=
 ⟨p,vs,rfl,ah,Τ.mono (r.QR hp).g (.refl _) _ _ h⟩
def kG{K:fI}{G0:Hp}{L0:List Addr}{H0 G:Hp}{L:List Addr}{M:Ms}{H:Hp}{p:Addr}{q:DQ}{ds:List Dt}{vs:List V}(e:Ex G0 L0 H0 G L H)(r:Rl K G L M H)(hp:H p=none)(hd:Τ K G L ds vs)(h:q (.loc M.length) (M++[.lst ds])):Fin K G0 L0 H0 q (.ref p) (upd H p (.lst vs)):=
 ⟨.loc M.length,G,L++[p],M++[.lst ds],e.trans (r.Uo hp),r.KD (m:=.lst ds) hp ⟨vs,ah,Τ.mono (.refl _) ⟨[p],rfl⟩ _ _ hd⟩,⟨p,rfl,by rw[<-r.len,List.getElem?_append_right (Nat.le_refl _)];simp⟩,h⟩
variable{es:List Expr}{t:DA}
def cY{x1}(h:JA X R es t):JE X R (.Tuple es x1 pos) (Tg t):=.of (Pj h) λσ H G L ρ M q x rl n h hx=>by refine⟨G,L,ρ,M,_,x,rl,n,h,hx,fun v H1 ⟨d1,G1,L1,M1,e1,r1,n1,h1⟩=>⟨by rw[<-n1.length];exact h1.1,λp hp=>?_⟩⟩;exact kF e1 r1 hp (qc r1 hp n1) h1.2
def nc(h:JA X R es t):JE X R (.List es pos) (Rg t):=.of (Je h) λσ H G L ρ M q x rl n h hx=>by refine⟨G,L,ρ,M,_,x,rl,n,h,hx,fun v H1 ⟨d1,G1,L1,M1,e1,r1,n1,h1⟩=>⟨by rw[<-n1.length];exact h1.1,λp hp=>?_⟩⟩;exact kF e1 r1 hp (qd r1 hp n1) h1.2
def oY(h:JA X R es t):JE X R (.List es pos) (RH t):=.of (Je h) λσ H G L ρ M q x rl n h hx=>by refine⟨G,L,ρ,M,_,x,rl,n,h,hx,fun v H1 ⟨d1,G1,L1,M1,e1,r1,n1,h1⟩=>⟨by rw[<-n1.length];exact h1.1,λp hp=>?_⟩⟩;exact kG e1 r1 hp n1 h1.2
def mQ(t:DE):DT:=λρ M q x=>t ρ M (λd M1=>match d with
 | .bl b=>q b M1
 | _=>False) x
def RS(t u:DT):DT:=λρ M q x=>t ρ M (λc M1=>(c=true->u ρ M1 q x)/\(c=false->q false M1)) x
def Zo(t u:DT):DT:=λρ M q x=>t ρ M (λc M1=>(c=true->q true M1)/\(c=false->u ρ M1 q x)) x
def Q1(t:DT):DT:=λρ M q x=>t ρ M (λc M1=>q (!c) M1) x
def Ou{K:fI}{t:DE}{σ:St}{H G:Hp}{L:List Addr}{ρ:En}{M:Ms}{q:Bool->Ms->Prop}{x:DX}(rl:Rl K G L M H)(n:ly K G L ρ σ)(h:mQ t ρ M q x)(hx:ud K G L H R x):tB (Ax K R t) σ H (uo K G L H q):=by
 refine⟨G,L,ρ,M,_,x,rl,n,h,hx,λv H1 xz=>?_⟩;have⟨d1,G1,L1,M1,e1,r1,n1,h1⟩:=xz
 (try dsimp only at h1)
 split at h1
 ·rename_i b;exact⟨b,n1,G1,L1,M1,e1,r1,h1⟩
 ·exact h1.elim
def gG{e:Expr}{t:DE}(h:JE X R e t)(he:∀whole,isTrue e X.env whole=(do let v<-whole;standAt e.pos;holding [v] (truthy v)):=by intro _;rfl):JT X R e (mQ t):=
 .of (PM h he) λσ H G L ρ M q x rl n h hx=>Ou rl n h hx
def ip{op:CmpOp}{r:R2}{f:Dt->Dt->Ms->DQ->Prop}(ho:jQ X (compareOp op) r)(od:pS X.K r f)(ja:JE X R a ta)(jb:JE X R b tb)(hm:behindInMarks op b=false):JT X R (.Compare a [op] [b] pos) (mQ (jO f ta tb)):=
 .of (Mm ho ja jb hm) λσ H G L ρ M q x rl n h hx=>by
  have h:jO f ta tb ρ M (λd M1=>match d with| .bl b=>q b M1| _=>False) x:=h;refine⟨G,L,ρ,M,_,x,rl,n,h,hx,λv H1 xz=>?_⟩;have⟨d1,G1,L1,M1,e1,r1,n1,h1⟩:=xz;refine⟨G1,L1,ρ,M1,_,x,r1,n.mono e1,h1,hx.on e1,λv2 H2 xz=>?_⟩;have⟨d2,G2,L2,M2,e2,r2,n2,h2⟩:=xz;have:=od G L H G2 L2 M2 H2 v v2 d1 d2 _ (e1.trans e2) r2 (Den.mono e2.g e2.l _ _ n1) n2 h2;have e:(λx H'=>∃k,x=V.bl k/\uo X.K G L H q k H')=Fin X.K G L H (λd M1=>match d with| .bl b=>q b M1| _=>False):=by
   funext y H'
   apply propext;constructor
   ·rintro⟨k,rfl,G3,L3,M3,e3,r3,h3⟩;exact⟨.bl k,G3,L3,M3,e3,r3,rfl,h3⟩
   ·rintro⟨d,G3,L3,M3,e3,r3,n3,h3⟩;split at h3
    ·rename_i k;exact⟨k,n3,G3,L3,M3,e3,r3,h3⟩
    ·exact h3.elim
  rw[e];exact this
def JW.jt{e:Expr}{t:DT}(h:JW X R e t):JT X R e t:=h _
variable{t1 t2:DT}{rest:List Expr}
def qp(ha:JT X R a t1):JW X R (.BoolOp .And [a] pos) t1:=pw_and1 ha
def oJ(ha:JT X R a t1):JW X R (.BoolOp .Or [a] pos) t1:=pw_or1 ha
def yg(ha:JT X R a t1)(hb:JW X R (.BoolOp .And (b::rest) pos) t2):JW X R (.BoolOp .And (a::b::rest) pos) (RS t1 t2):=.of (pw_and ha hb) λσ H G L ρ M q x rl n h hx=>by
 refine⟨G,L,ρ,M,_,x,rl,n,h,hx,λc H1 xz=>?_⟩;have⟨G1,L1,M1,e1,r1,h1⟩:=xz;cases c with
 | true=>exact B3 ⟨G1,L1,ρ,M1,_,x,r1,n.mono e1,h1.1 rfl,hx.on e1,λb H2 f=>uo.back e1 f⟩
 | false=>exact BB ⟨G1,L1,M1,e1,r1,h1.2 rfl⟩
def tj(ha:JT X R a t1)(hb:JW X R (.BoolOp .Or (b::rest) pos) t2):JW X R (.BoolOp .Or (a::b::rest) pos) (Zo t1 t2):=.of (pw_or ha hb) λσ H G L ρ M q x rl n h hx=>by
 refine⟨G,L,ρ,M,_,x,rl,n,h,hx,λc H1 xz=>?_⟩;have⟨G1,L1,M1,e1,r1,h1⟩:=xz;cases c with
 | true=>exact B3 ⟨G1,L1,M1,e1,r1,h1.1 rfl⟩
 | false=>exact BB ⟨G1,L1,ρ,M1,_,x,r1,n.mono e1,h1.2 rfl,hx.on e1,λb H2 f=>uo.back e1 f⟩
def BJ(ha:JT X R a t1):JT X R (.UnaryOp .Not a pos) (Q1 t1):=.of (Pt ha) λσ H G L ρ M q x rl n h hx=>
 ⟨G,L,ρ,M,_,x,rl,n,h,hx,λ_ _ ⟨G,L,M,e,r,h⟩=>⟨G,L,M,e,r,h⟩⟩
def QV(t u:DE):DE:=λρ M q x=>t ρ M (λd M1=>match d with
 | .bl c=>(c=true->u ρ M1 q x)/\(c=false->q (.bl false) M1)
 | _=>False) x
def Z6(t u:DE):DE:=λρ M q x=>t ρ M (λd M1=>match d with
 | .bl c=>(c=true->q (.bl true) M1)/\(c=false->u ρ M1 q x)
 | _=>False) x
def Zk(t:DT)(u v:DE):DE:=λρ M q x=>t ρ M (λc M1=>(c=true->u ρ M1 q x)/\(c=false->v ρ M1 q x)) x
def jZ{op}{t:DE}(h:JE X R a t):JE X R (.BoolOp op [a] pos) t:=PD h
def jH(ha:JE X R a ta)(hb:JE X R (.BoolOp .And (b::rest) pos) tb):JE X R (.BoolOp .And (a::b::rest) pos) (QV ta tb):=.of (Ql ha hb) λσ H G L ρ M q x rl n h hx=>by
 refine⟨G,L,ρ,M,_,x,rl,n,h,hx,λv H1 xz=>?_⟩;have⟨d1,G1,L1,M1,e1,r1,n1,h1⟩:=xz
 (try dsimp only at h1)
 split at h1
 ·rename_i c;refine⟨c,n1,?_⟩;cases c with
  | true=>exact B3 ⟨G1,L1,ρ,M1,_,x,r1,n.mono e1,h1.1 rfl,hx.on e1,λb H2 f=>Fin.back e1 f⟩
  | false=>exact BB ⟨.bl false,G1,L1,M1,e1,r1,rfl,h1.2 rfl⟩
 ·exact h1.elim
def Kq(ha:JE X R a ta)(hb:JE X R (.BoolOp .Or (b::rest) pos) tb):JE X R (.BoolOp .Or (a::b::rest) pos) (Z6 ta tb):=.of (S5 ha hb) λσ H G L ρ M q x rl n h hx=>by
 refine⟨G,L,ρ,M,_,x,rl,n,h,hx,λv H1 xz=>?_⟩;have⟨d1,G1,L1,M1,e1,r1,n1,h1⟩:=xz
 (try dsimp only at h1)
 split at h1
 ·rename_i c;refine⟨c,n1,?_⟩;cases c with
  | true=>exact B3 ⟨.bl true,G1,L1,M1,e1,r1,rfl,h1.1 rfl⟩
  | false=>exact BB ⟨G1,L1,ρ,M1,_,x,r1,n.mono e1,h1.2 rfl,hx.on e1,λb H2 f=>Fin.back e1 f⟩
 ·exact h1.elim
def Jb{c:Expr}(hc:JT X R c t1)(ha:JE X R a ta)(hb:JE X R b tb):JE X R (.IfExp c a b pos) (Zk t1 ta tb):=.of (IL hc ha hb) λσ H G L ρ M q x rl n h hx=>by
 refine⟨G,L,ρ,M,_,x,rl,n,h,hx,λc H1 xz=>?_⟩;have⟨G1,L1,M1,e1,r1,h1⟩:=xz;cases c with
 | true=>exact B3 ⟨G1,L1,ρ,M1,_,x,r1,n.mono e1,h1.1 rfl,hx.on e1,λb H2 f=>Fin.back e1 f⟩
 | false=>exact BB ⟨G1,L1,ρ,M1,_,x,r1,n.mono e1,h1.2 rfl,hx.on e1,λb H2 f=>Fin.back e1 f⟩
end
def NN:DS:=λDn ρ M=>Dn.nx ρ M
def Qf(t u:DS):DS:=λDn ρ M=>t {Dn with nx:=u Dn} ρ M
def YU(c:DT)(t u:DS):DS:=λDn ρ M=>c ρ M (λb M1=>(b=true->t Dn ρ M1)/\(b=false->u Dn ρ M1)) Dn.x
def SQ(t:DE):DS:=λDn ρ M=>t ρ M Dn.rt Dn.x
def tJ(i:Nat)(t:DE):DS:=λDn ρ M=>t ρ M (λd M1=>Dn.nx (ρ.set i (some d)) M1) Dn.x
def Ag(t:DE):DS:=λDn ρ M=>t ρ M (λ_ M1=>Dn.nx ρ M1) Dn.x
def WH(t:DS):DS:=λDn ρ M=>∃J:En->Ms->Prop,t {Dn with nx:=J} ρ M/\∀ρ' M',J ρ' M'->Dn.nx ρ' M'
section
variable{X:Cx}{R:St->XK}{st:Stmt}{rest:List Stmt}{t u:DS}{e:Expr}{te:DE}{pos:Pos}
def Μ:CW X R [] NN:=.of Lz λσ H G L ρ M Dn rl n h hx=>⟨ρ,G,L,M,.refl _ _ _,rl,n,h⟩
def θ(h1:JS X R st t):CW X R [st] t:=Lo h1
def ζ(h1:JS X R st t)(h2:CW X R rest u):CW X R (st::rest) (Qf t u):=.of (HJ h1 h2) λσ H G L ρ M Dn rl n h hx=>by refine⟨G,L,ρ,M,_,rl,n,h,hx,⟨λσ1 H1 xz=>?_,λ_ _ f=>f,λ_ _ f=>f,λ_ _ f=>f⟩⟩;have⟨ρ1,G1,L1,M1,e1,r1,n1,h1⟩:=xz;exact⟨G1,L1,ρ1,M1,Dn,r1,n1,h1,hx.on e1,tW.back e1⟩
def Au:JS X R (.Continue pos) (λDn ρ M=>Dn.ct ρ M):=.of yE λσ H G L ρ M Dn rl n h hx=>⟨ρ,G,L,M,.refl _ _ _,rl,n,h⟩
def Δ(he:JE X R e te):JS X R (.Return (some e) pos) (SQ te):=.of (N6 he) λσ H G L ρ M Dn rl n h hx=>⟨G,L,ρ,M,_,_,rl,n,h,hx,λ_ _ f=>f⟩
def fg(he:JE X R e te)(hs:swapsWith e none pos.line X.env=pure false:=by rfl):JS X R (.Expr e pos) (Ag te):=.of (LN he hs) λσ H G L ρ M Dn rl n h hx=>by refine⟨G,L,ρ,M,_,_,rl,n,h,hx,λv H1 ⟨d1,G1,L1,M1,e1,r1,n1,h1⟩=>⟨ρ,G1,L1,M1,e1,r1,n.mono e1,h1⟩⟩
def aH{c:Expr}{a b:List Stmt}{tc:DT}(hc:JT X R c tc)(ha:CW X R a t)(hb:CW X R b u):JS X R (.If c a b pos) (YU tc t u):=.of (QY hc ha hb) λσ H G L ρ M Dn rl n h hx=>by
 refine⟨G,L,ρ,M,_,_,rl,n,h,hx,λc H1 xz=>?_⟩;have⟨G1,L1,M1,e1,r1,h1⟩:=xz;cases c with
 | true=>exact B3 ⟨G1,L1,ρ,M1,Dn,r1,n.mono e1,h1.1 rfl,hx.on e1,tW.back e1⟩
 | false=>exact BB ⟨G1,L1,ρ,M1,Dn,r1,n.mono e1,h1.2 rfl,hx.on e1,tW.back e1⟩
def ψ(i:Nat){x:Str}{pos':Pos}(hN:X.N.Nodup)(he:JE X R e te)(hi:X.N[i]? =some x:=by rfl)(hx:Loc X.env.scope x:=by first| exact .inl rfl| exact .inr rfl)(hs:swapsWith e (some (.Name x pos')) pos.line X.env=pure false:=by rfl)(hf:X.fn x=true\/X.env.scope.names.lookup x=some .local:=by first| exact .inl rfl| exact .inr rfl| assumption):
  JS X R (.Assign [.Name x pos'] e pos) (tJ i te):=.of (Pr hN hi hx he hs hf) λσ H G L ρ M Dn rl n h hx=>by
 refine⟨G,L,ρ,M,_,_,rl,n,h,hx,λv H1 ⟨d1,G1,L1,M1,e1,r1,n1,h1⟩=>⟨_,G1,L1,M1,e1,r1,(n.mono e1).set i n1,h1⟩⟩
def ko(h:JS X R st t):JS X R st (WH t):=.of h λσ H G L ρ M Dn rl n h hx=>by have⟨J,h1,h2⟩:=h;refine⟨G,L,ρ,M,_,rl,n,h1,hx,⟨λσ1 H1 ⟨ρ1,G1,L1,M1,e1,r1,n1,h1⟩=>⟨ρ1,G1,L1,M1,e1,r1,n1,h2 _ _ h1⟩,λ_ _ f=>f,λ_ _ f=>f,λ_ _ f=>f⟩⟩
end
abbrev ZZ:=Addr->List (Str×Dt)->Ms->Prop
abbrev DF:=List Dt->Ms->DQ->ZZ->Prop
inductive dw(K:fI)(T:DF)(vs:List V)(H:Hp)(Q:VK)(E:XK):Prop
 | mk (G:Hp) (L:List Addr) (ds:List Dt) (M:Ms) (q:DQ) (x:ZZ) (r:Rl K G L M H) (n:Τ K G L ds vs) (h:T ds M q x) (hQ:∀v H1,Fin K G L H q v H1->Q v H1) (hE:∀C fs M1 G1 L1 H1 od,x C fs M1->Ex G L H G1 L1 H1->Rl K G1 L1 M1 H1->Te K G1 L1 H1 fs od->E (.ref C) od H1)
def oq(N:List Str)(ds:List Dt):En:=ds.map some++List.replicate (N.length - ds.length) none
def GL{K:fI}{G:Hp}{L:List Addr}{N:List Str}{ds:List Dt}{vs:List V}(h:Τ K G L ds vs):ly K G L (oq N ds) (start N vs):=by
 have hl:=h.length;refine⟨by unfold oq start;simp[hl],λi d e=>?_⟩;unfold oq at e;unfold start;by_cases hi:i < ds.length
 ·rw[List.getElem?_append_left (by simpa using hi),List.getElem?_map]at e;rw[List.getElem?_append_left (by simpa [<-hl] using hi),List.getElem?_map];cases q:ds[i]? with
  | none=>rw[q]at e;cases e
  | some d'=>
   rw[q]at e;cases e;have⟨v,e1,h1⟩:=h.get q;exact⟨v,by rw[e1];rfl,h1⟩
 ·rw[List.getElem?_append_right (by simpa using Nat.le_of_not_lt hi),List.getElem?_replicate]at e;split at e <;> cases e
section
variable{P:Program}{w:World}{K:fI}{mg:Str->Option Value}{base:Heap}
def dE.eF{x qual:Str}{st:Stmt}{f:Addr}{fd:FuncData}{N ps:List Str}{k:Nat}{T:DF}(F:dE K x qual st f fd)(S:Γ N ps (χ st))(len:∀ds M q x,T ds M q x->ds.length=ps.length)
  (z_:∀(bz:Value) (A:Around) (outer:List Env) (s:Shared) (H:Hp) (E:XK),cx k (A.deeper (envOfC qual (χ st) s.heap.objs.size f bz))->
   ∃t,CW (xE (cP P w) P w K mg base N qual (χ st) f bz A outer s H E) (λ_=>E) (hV st) t/\∀ds M q x,T ds M q x->t {nx:=λ_ M'=>q .aY M',rt:=q,x:=λ_=>x} (oq N ds) M):
  aw P w K mg base (cP P w) (k+1) f fd ps (dw K T):=by
 refine F.okX S (λvs H Q E h=>?_) (λbz A outer s H vs Q E hr h=>?_)
 ·have⟨G,L,ds,M,q,x,rl,n,hT,_⟩:=h;rw[<-n.length];exact len _ _ _ _ hT
 ·have⟨t,j,ht⟩:=z_ bz A outer s H E hr;have⟨G,L,ds,M,q,x,rl,n,hT,hQ,hE⟩:=h;refine⟨_,j,G,L,oq N ds,M,_,rl,GL n,ht ds M q x hT,λσ ρ C fs M' G' L' H' od hx e r _ y=>hE C fs M' G' L' H' od hx e r y,⟨λσ' H' ⟨ρ',G',L',M',e,r,_,h⟩=>hQ _ _ ⟨.aY,G',L',M',e,r,rfl,h⟩,λv H' f=>hQ v H' f,λ_ _ ⟨_,_,_,_,_,_,_,h⟩=>h.elim,λ_ _ ⟨_,_,_,_,_,_,_,h⟩=>h.elim⟩⟩
structure aE(P:Program)(w:World)(K:fI)(mg:Str->Option Value)(base:Heap)(k:Nat)(x:Str)(ps:List Str)(T:DF)(f:Addr)(fd:FuncData):Prop where
 ok:aw P w K mg base (cP P w) k f fd ps (dw K T)
 b:jr K fd ps []
 m:mg x=some (.ref f)
 kp:PySem.W.keepIn K (.ref f)=true
end
def NJ(T:DF)(t:DA):DE:=λρ M q x=>t ρ M (λds M1=>T ds M1 q (λC fs M'=>x ρ C fs M')) x
section
variable{X:Cx}{R:St->XK}{T:DF}{k k':Nat}{f:Addr}{fd:FuncData}{ps:List Str}{x:Str}{p pos:Pos}{e:Expr}{es:List Expr}{t:DA}
def ao(C:aE X.prog X.w X.K X.mg X.base k x ps T f fd)(hr:cx k' X.A)(hx:dN (cP X.prog X.w) X R)(ha:JA X R (e::es) t)(hk:k<=k':=by decide)(hg:Gl X x:=by rfl)(Cj:(x==("__debug__":Str))=false:=by decide)
  (he:starEach (e::es) X.env=(false,eval e X.env)::starEach es X.env:=by rfl) (fE:(backTo pos (starEach es X.env)).any (·.1)=false:=by rfl):JE X R (.Call (.Name x p) (e::es) [] pos) (NJ T t):=
 .of (IF C.ok (hr.mono hk) hg C.m C.kp C.b .nil hx ha Cj he fE) λσ H G L ρ M q x rl n h hx=>by refine⟨G,L,ρ,M,_,x,rl,n,h,hx,λvs H1 xz=>?_⟩;have⟨ds,G1,L1,M1,e1,r1,n1,h1⟩:=xz;show dw X.K T (vs++[]) H1 _ _;rw[aaY];exact⟨G1,L1,ds,M1,q,_,r1,n1,h1,λv H' f=>Fin.back e1 f,λC fs M' G' L' H' od hq e' r' y=>hx σ ρ C fs M' G' L' H' od hq (e1.trans e') r' (n.mono (e1.trans e')) y⟩
end
structure Yl(K:fI)(J:It)(xs:List Dt)(G0:Hp)(L0:List Addr):Prop where
 go:∀(i:Nat) G L M H (d:Dt),dU G0 G->Pre L0 L->Rl K G L M H->xs[i]? =some d->J.go i H/\∀v H',J.Rb i H v H'->∃G',Ex G L H G' L H'/\Rl K G' L M H'/\Den K G' L d v
 stop:∀(i:Nat) G L M H,dU G0 G->Pre L0 L->Rl K G L M H->xs.length<=i->J.stop i H
inductive TU(K:fI)(G0:Hp)(L0:List Addr)(H0:Hp)(q:List Dt->Ms->Prop)(J:It)(H:Hp):Prop
 | mk (xs:List Dt) (G:Hp) (L:List Addr) (M:Ms) (e:Ex G0 L0 H0 G L H) (r:Rl K G L M H) (y:Yl K J xs G L) (h:q xs M)
inductive XC(K:fI)(R:St->XK)(t:DA)(σ:St)(H:Hp)(Q:It->Hp->Prop):Prop
 | mk (G:Hp) (L:List Addr) (ρ:En) (M:Ms) (q:List Dt->Ms->Prop) (x:DX) (r:Rl K G L M H) (n:ly K G L ρ σ) (h:t ρ M q x) (hx:ud K G L H R x) (hQ:∀J H1,TU K G L H q J H1->Q J H1)
def JI(X:Cx)(R:St->XK)(tg iter:Expr)(t:DA):Prop:=PI X tg iter (XC X.K R t)
def Kw.imp{X:Cx}{δ:List (Addr×Obj)}{σ:St}{tg:Expr}{R R':It->Hp->Prop}(hR:∀J H,R J H->R' J H){v:Value}{s:Shared}(h:Kw X δ σ tg R v s):Kw X δ σ tg R' v s:=by have⟨it,fp,tn,J,H',a,b,c,d,e,f⟩:=h;exact⟨it,fp,tn,J,H',a,b,c,d,e,hR J H' f⟩
def Ds{K:fI}{G:Hp}{L:List Addr}{a:Addr}{ds:List Dt}{vs:List V}(h:∀G':Hp,dU G G'->gc K G' a vs)(n:Τ K G L ds vs):Yl K (U6 K a) ds G L where
 go:=λi G1 L1 M1 H1 d g l r e=>by
  have⟨v,e1,n1⟩:=n.get e;have hs:=h H1 (g.trans r.sub)
  exact⟨⟨vs,v,hs,e1⟩,fun v' H' ⟨eH,y⟩=>by
   subst eH;have e2:=y vs hs;rw[e1]at e2;cases e2
   exact⟨G1,.refl _ _ _,r,Den.mono g l _ _ n1⟩⟩
 stop:=λi G1 L1 M1 H1 g l r e=>⟨vs,h H1 (g.trans r.sub),by rw[<-n.length];exact e⟩
def GJ{K:fI}{G:Hp}{L:List Addr}{a:Addr}{ds:List Dt}{vs:List V}(h:∀G':Hp,dU G G'->mL K G' a vs)(n:Τ K G L ds vs):Yl K (Yp K a) ds G L where
 go:=λi G1 L1 M1 H1 d g l r e=>by
  have⟨v,e1,n1⟩:=n.get e;have hs:=h H1 (g.trans r.sub)
  exact⟨⟨vs,v,hs,e1⟩,fun v' H' ⟨eH,y⟩=>by
   subst eH;have e2:=y vs hs;rw[e1]at e2;cases e2
   exact⟨G1,.refl _ _ _,r,Den.mono g l _ _ n1⟩⟩
 stop:=λi G1 L1 M1 H1 g l r e=>⟨vs,h H1 (g.trans r.sub),by rw[<-n.length];exact e⟩
def cw(lo:Int)(n:Nat):List Dt:=(List.range n).map λk:Nat=>Dt.int (lo+(k:Int))
def He{K:fI}{G:Hp}{L:List Addr}{lo:Int}{n:Nat}:Yl K (QW lo n) (cw lo n) G L where
 go :=λi G1 L1 M1 H1 d g l r e=>by
  unfold cw at e;rw[aak]at e;have hi:i < n:=by
   cases q:(List.range n)[i]? with
   | none=>rw[q]at e;cases e
   | some j=>
    have:=(aaf.mp q).1;rwa[aa8]at this
  rw[aaO hi]at e;cases e;exact⟨hi,λv' H' ⟨eH,y⟩=>by subst eH y;exact⟨G1,.refl _ _ _,r,rfl⟩⟩
 stop:=λi G1 L1 M1 H1 g l r e=>by show n<=i;unfold cw at e;simpa using e
section
variable{X:Cx}{R:St->XK}{tg iter:Expr}
def JI.of{wi:TI}{t:DA}(h:PI X tg iter wi)(hw:∀σ H G L ρ M q x,Rl X.K G L M H->ly X.K G L ρ σ->t ρ M q x->ud X.K G L H R x->wi σ H (TU X.K G L H q)):JI X R tg iter t:=by intro δ s σ H Q I ⟨G,L,ρ,M,q,x,r,n,ht,hx,hQ⟩;exact bA (h δ s σ H _ I (hw σ H G L ρ M q x r n ht hx)) λu s1 f=>bA f λu2 s2 f2=>Kw.imp hQ f2
def Tn(t:DA):DA:=λρ M q x=>t ρ M (λds M1=>match ds with
 | [.int j]=>(-(2 ^ 62)<=j/\j < 2 ^ 62)/\q (cw 0 j.toNat) M1
 | _=>False) x
def bO{a:Expr}{t:DA}{p pos:Pos}(hm:X.mg "range"=none)(ha:JA X R [a] t)(hg:Gl X "range":=by rfl)(hs:starEach [a] X.env=[(false,eval a X.env)]:=by rfl):JI X R tg (.Call (.Name "range" p) [a] [] pos) (Tn t):=
 .of (Fc hg hm ha hs) λσ H G L ρ M q x rl n h hx=>by
  refine⟨G,L,ρ,M,_,x,rl,n,h,hx,λvs H1 xz=>?_⟩;have⟨ds,G1,L1,M1,e1,r1,n1,h1⟩:=xz
  (try dsimp only at h1)
  split at h1
  ·rename_i j;have⟨v,rfl,n2⟩:=aW n1;have n2:v= .int j:=n2;subst n2;exact⟨j,rfl,h1.1.1,h1.1.2,_,G1,L1,M1,e1,r1,He,h1.2⟩
  ·exact h1.elim
def AV(t:DA):DA:=λρ M q x=>t ρ M (λds M1=>match ds with
 | [.int i,.int j]=>(-(2 ^ 62)<=i/\i < 2 ^ 62/\ -(2 ^ 62)<=j/\j < 2 ^ 62)/\q (cw i (j - i).toNat) M1
 | _=>False) x
def EE{a b:Expr}{t:DA}{p pos:Pos}(hm:X.mg "range"=none)(ha:JA X R [a,b] t)(hg:Gl X "range":=by rfl)(hs:starEach [a,b] X.env=[(false,eval a X.env),(false,eval b X.env)]:=by rfl)(O5:starEach [b] X.env=[(false,eval b X.env)]:=by rfl):
  JI X R tg (.Call (.Name "range" p) [a,b] [] pos) (AV t):=
 .of (EM hg hm ha hs O5) λσ H G L ρ M q x rl n h hx=>by
  refine⟨G,L,ρ,M,_,x,rl,n,h,hx,λvs H1 xz=>?_⟩;have⟨ds,G1,L1,M1,e1,r1,n1,h1⟩:=xz
  (try dsimp only at h1)
  split at h1
  ·rename_i i j;have⟨v,u,rfl,n3,n2⟩:=gF n1;have n3:v= .int i:=n3;have n2:u= .int j:=n2;subst n3 n2;exact⟨i,j,rfl,h1.1,_,G1,L1,M1,e1,r1,He,h1.2⟩
  ·exact h1.elim
end
def GD(K:fI)(gg:TG)(g:Dt->En->(En->Prop)->Prop):Prop:=
 ∀G L M H d v ρ σ (k:En->Prop) (Q:St->Hp->Prop),Rl K G L M H->Den K G L d v->ly K G L ρ σ->g d ρ k->(∀ρ' σ',ly K G L ρ' σ'->k ρ'->Q σ' H)->gg v σ H Q
def gN(i:Nat):Dt->En->(En->Prop)->Prop:=λd ρ k=>k (ρ.set i (some d))
def aA{K:fI}{i:Nat}:GD K (fm i) (gN i):=λG L M H d v ρ σ k Q rl n en h hQ=>hQ _ _ (en.set i n) h
def g2(i j:Nat):Dt->En->(En->Prop)->Prop:=λd ρ k=>match d with
 | .tup [a,b]=>k ((ρ.set i (some a)).set j (some b))
 | _=>False
def mJ{K:fI}{i j:Nat}:GD K (E_ K 2 (iR (fm i) (iR (fm j) Fo))) (g2 i j):=λG L M H d v ρ σ k Q rl n en h hQ=>by
 unfold g2 at h;split at h
 ·rename_i a b;have⟨p,vs,rfl,e,n⟩:=n;have⟨v1,v2,rfl,n1,n2⟩:=gF n;exact⟨p,_,rfl,.inl (.inl (rl.sub _ _ e)),rfl,v1,_,rfl,v2,_,rfl,rfl,hQ _ _ ((en.set i n1).set j n2) h⟩
 ·exact h.elim
def yk(g:Dt->En->(En->Prop)->Prop)(tb:DS)(Dn:lh):List Dt->En->Ms->Prop
 | [],ρ,M=>Dn.nx ρ M
 | x::xs,ρ,M=>g x ρ λρ'=>tb {Dn with nx:=yk g tb Dn xs,ct:=yk g tb Dn xs,bk:=Dn.nx} ρ' M
def Ub(ti:DA)(g:Dt->En->(En->Prop)->Prop)(tb:DS):DS:=λDn ρ M=>ti ρ M (λxs M1=>yk g tb Dn xs ρ M1) Dn.x
section
variable{X:Cx}{R:St->XK}{tg iter:Expr}{body:List Stmt}{ti:DA}{gg:TG}{g:Dt->En->(En->Prop)->Prop}{tb:DS}{pos:Pos}
def kg(hi:JI X R tg iter ti)(hg:PG X tg gg)(gd:GD X.K gg g)(hb:CW X R body tb)(hp:PassesOwn (model X.prog X.w) X.A X.env X.xe:=by first| exact PassesOwn.never| exact PassesOwn.leaving)(hc:X.calm=true:=by rfl)(hs:∀x,foldedSetIterable iter X.env x=pure x:=by intro _;rfl):
  JS X R (.For tg iter body [] pos) (Ub ti g tb):=.of (A3 hp hc hi hg hb hs) λσ H G L ρ M Dn rl n h hx=>by
 refine⟨G,L,ρ,M,_,_,rl,n,h,hx,λJ H1 xz=>?_⟩;have⟨xs,G1,L1,M1,e1,r1,y,h1⟩:=xz;refine⟨λi m σ' H'=>m+i=xs.length/\eR X.K G1 L1 H1 (λρ' M'=>yk g tb Dn (xs.drop i) ρ' M') σ' H',⟨xs.length,rfl,ρ,G1,L1,M1,.refl _ _ _,r1,n.mono e1,by rw[acx];exact h1⟩,?_⟩;rintro i m σ' H' ⟨hm,ρ',G',L',M',e',r',n',h'⟩;by_cases hi:i < xs.length
 ·right;have hd:xs[i]? =some xs[i]:=aaa hi;have⟨go,yl⟩:=y.go i G' L' M' H' _ e'.g e'.l r' hd;rw[abr hi]at h';refine⟨go,eR X.K G1 L1 H1 (λρ' M'=>yk g tb Dn (xs.drop (i+1)) ρ' M'),λσ2 H2 f=>⟨m - 1,(),(),f⟩,λv H2 hy=>?_⟩;have⟨G2,e2,r2,n2⟩:=yl v H2 hy;refine gd G2 L' M' H2 _ v ρ' σ' _ _ r2 n2 (n'.mono e2) h' λρ3 σ3 n3 h3=>?_;refine⟨G2,L',ρ3,M',_,r2,n3,h3,hx.on (e1.trans (e'.trans e2)),⟨λ_ _ f=>eR.back (e'.trans e2) f,λ_ _ f=>Fin.back (e1.trans (e'.trans e2)) f,λ_ _ f=>eR.back (e1.trans (e'.trans e2)) f,λ_ _ f=>eR.back (e'.trans e2) f⟩⟩
 ·left;refine⟨y.stop i G' L' M' H' e'.g e'.l r' (),ρ',G',L',M',e1.trans e',r',n',?_⟩;rw[ab2 ()]at h';exact h'
end
abbrev DK:=En->Ms->(List Dt->(Ms->Prop)->Ms->Prop)->DX->Prop
structure Pq(K:fI)(J:It)(xs:List Dt)(ok:Ms->Prop)(G0:Hp)(L0:List Addr):Prop where
 go:∀(i:Nat) G L M H (d:Dt),dU G0 G->Pre L0 L->Rl K G L M H->ok M->xs[i]? =some d->J.go i H/\∀v H',J.Rb i H v H'->∃G',Ex G L H G' L H'/\Rl K G' L M H'/\Den K G' L d v
 stop:∀(i:Nat) G L M H,dU G0 G->Pre L0 L->Rl K G L M H->ok M->xs.length<=i->J.stop i H
inductive Vs(K:fI)(G0:Hp)(L0:List Addr)(H0:Hp)(q:List Dt->(Ms->Prop)->Ms->Prop)(J:It)(H:Hp):Prop
 | mk (xs:List Dt) (ok:Ms->Prop) (G:Hp) (L:List Addr) (M:Ms) (e:Ex G0 L0 H0 G L H) (r:Rl K G L M H) (y:Pq K J xs ok G L) (h:q xs ok M)
inductive X0(K:fI)(R:St->XK)(t:DK)(σ:St)(H:Hp)(Q:It->Hp->Prop):Prop
 | mk (G:Hp) (L:List Addr) (ρ:En) (M:Ms) (q:List Dt->(Ms->Prop)->Ms->Prop) (x:DX) (r:Rl K G L M H) (n:ly K G L ρ σ) (h:t ρ M q x) (hx:ud K G L H R x) (hQ:∀J H1,Vs K G L H q J H1->Q J H1)
def JK(X:Cx)(R:St->XK)(tg iter:Expr)(t:DK):Prop:=PI X tg iter (X0 X.K R t)
def W9(t:DA):DK:=λρ M q x=>t ρ M (λxs M1=>q xs (λ_=>True) M1) x
def uZ{X:Cx}{R:St->XK}{tg iter:Expr}{t:DA}(h:JI X R tg iter t):JK X R tg iter (W9 t):=by intro δ s σ H Q I ⟨G,L,ρ,M,q,x,r,n,ht,hx,hQ⟩;refine h δ s σ H Q I ⟨G,L,ρ,M,_,x,r,n,ht,hx,λJ H1 ⟨xs,G1,L1,M1,e1,r1,y,hq⟩=>hQ J H1 ⟨xs,_,G1,L1,M1,e1,r1,⟨λi G L M H d g l r _ e=>y.go i G L M H d g l r e,λi G L M H g l r _ e=>y.stop i G L M H g l r e⟩,hq⟩⟩
def mX(Θ:List Nat)(ρ:En):En:=Θ.map λi=>(ρ[i]?).join
def g7(g:Dt->En->(En->Prop)->Prop)(tc:DT)(te:DE)(ρ0:En)(ok:Ms->Prop):List Dt->List Dt->Ms->(List Dt->Ms->Prop)->Prop
 | [],acc,M,k=>ok M/\k acc M
 | x::xs,acc,M,k=>ok M/\g x ρ0 λρ'=>tc ρ' M (λb M1=>match b with
  | true=>te ρ' M1 (λd M2=>g7 g tc te ρ0 ok xs (acc++[d]) M2 k) ki
  | false=>g7 g tc te ρ0 ok xs acc M1 k) ki
def xr(n:Nat)(ti:DK)(g:Dt->En->(En->Prop)->Prop)(tc:DT)(te:DE)(Θ:List Nat):DE:=λρ M q x=>ti ρ M (λxs ok M1=>xs.length<=sizeLine/\g7 g tc te (List.replicate n none++mX Θ ρ) ok xs [] M1 (λys M2=>q (.lst ys) M2)) x
def KS(n:Nat)(ti:DK)(g:Dt->En->(En->Prop)->Prop)(tc:DT)(te:DE)(Θ:List Nat):DE:=λρ M q x=>ti ρ M (λxs ok M1=>xs.length<=sizeLine/\g7 g tc te (List.replicate n none++mX Θ ρ) ok xs [] M1 (λys M2=>q (.loc M2.length) (M2++[.lst ys]))) x
def Lw{K:fI}{G:Hp}{L:List Addr}{ρ:En}{σ os:St}{n:Nat}(h:ly K G L ρ σ)(Θ:List Nat)(hl:os.length=n):ly K G L (List.replicate n none++mX Θ ρ) (os++ow Θ σ):=by
 have lc:(mX Θ ρ).length=(ow Θ σ).length:=by unfold mX ow;simp
 refine⟨by rw[aah,aah,aa4,hl,lc],λi d' e=>?_⟩;by_cases hi:i < n
 ·rw[aas (by rw[aa4];exact hi),abY,aaq hi]at e;cases e
 ·rw[aax (by rw[aa4];omega),aa4]at e;rw[aax (),hl];unfold mX at e;unfold ow;rw[aak]at e⊢;cases q:Θ[i - n]? with
  | none=>rw[q]at e;cases e
  | some j=>
   rw[q]at e;have e:(ρ[j]?).join=some d':=aao e;have e:ρ[j]? =some (some d'):=by
    cases z:ρ[j]? with
    | none=>rw[z]at e;cases e
    | some o=>rw[z]at e;exact aaM some e
   have⟨v,hv,dn⟩:=h.fZ j d' e;exact⟨v,by show some ((σ[j]?).join)=_;rw[hv];rfl,dn⟩
def yY{K:fI}{J:It}{gg:TG}{g:Dt->En->(En->Prop)->Prop}{tc:DT}{te:DE}{Θ:List Nat}{nn:Nat}{ρ:En}{σ:St}{G1:Hp}{L1:List Addr}{M1:Ms}{H1:Hp}{xs:List Dt}{ok:Ms->Prop}{Dl:Addr}{Q:VK}{k:List Dt->Ms->Prop}(gd:GD K gg g)(r1:Rl K G1 L1 M1 H1)(n:ly K G1 L1 ρ σ)(y:Pq K J xs ok G1 L1)(hD:H1 Dl=none)(hz:xs.length<=sizeLine)
  (h:g7 g tc te (List.replicate nn none++mX Θ ρ) ok xs [] M1 k)
  (fin:∀G2 L2 M2 H2 ds vs,Ex G1 L1 H1 G2 L2 H2->Rl K G2 L2 M2 H2->G2 Dl=none->Dl∉L2->H2 Dl=some (.lst vs)->Τ K G2 L2 ds vs->k ds M2->Q (.ref Dl) H2):
  Cq J nn gg (E8 K (λ_=>E0) tc) (Ax K (λ_=>E0) te) (ow Θ σ) Q H1 Dl:=by
 refine⟨λi m ys H2=>m+i=xs.length/\H2 Dl=some (.lst ys)/\∃acc G2 L2 M2,Ex G1 L1 H1 G2 L2 H2/\Rl K G2 L2 M2 H2/\G2 Dl=none/\Dl∉L2/\Τ K G2 L2 acc ys/\acc.length<=i/\g7 g tc te (List.replicate nn none++mX Θ ρ) ok (xs.drop i) acc M2 k,⟨xs.length,rfl,ah,[],G1,L1,M1,?_⟩,?_⟩
 ·have gn:G1 Dl=none:=r1.sub.free hD;refine⟨⟨.refl _,.refl _,λ_ h _=>h,λb u h1 _=>by rw[Ζ (λz=>by rw[z,hD]at h1;cases h1)];exact h1,λ_ h=>.inl h,λb h=>by rw[Ζ (λz=>h (by rw[z];exact hD))];exact h⟩,⟨λb u e=>by rw[Ζ (λz=>by rw[z,gn]at e;cases e)];exact r1.sub b u e,r1.len,r1.nd,λi a m h1 h2=>?_⟩,gn,r1.Pa hD,rfl,aaj _,by rw[acx];exact h⟩;have⟨q1,q2⟩:=r1.fZ i a m h1 h2;exact⟨q1,q2.mono (.refl _) (.refl _) (Ζ λz=>q2.there (by rw[z];exact hD))⟩
 ·rintro i m ys H2 ⟨hm,EY,acc,G2,L2,M2,e2,r2,g2,l2,n2,la,h2⟩;refine⟨EY,?_⟩;have ne1:∀{b:Addr} {u:HO},H1 b=some u->b≠Dl:=λe z=>by rw[z,hD]at e;cases e
  by_cases hi:i < xs.length
  ·right;have hd:xs[i]? =some xs[i]:=aaa hi;rw[abr hi]at h2;have⟨aX,h2⟩:=h2;have⟨go,yl⟩:=y.go i G2 L2 M2 H2 _ e2.g e2.l r2 aX hd;refine⟨go,λv H3 hy os hos=>?_⟩;have⟨G3,e3,r3,n3⟩:=yl v H3 hy;have h3:H3 Dl=some (.lst ys):=e3.out _ _ EY l2;have g3:G3 Dl=none:=e3.fr _ g2 (by rw[EY];simp);refine gd G3 L2 M2 H3 _ v _ _ _ _ r3 n3 (Lw ((n.mono e2).mono e3) Θ hos) h2 λρ' σ' n' h'=>?_;refine⟨G3,L2,ρ',M2,_,ki,r3,n',h',IA,λb H4 xz=>?_⟩;have⟨G4,L4,M4,e4,r4,h4⟩:=xz;have Ve:H4 Dl=some (.lst ys):=e4.out _ _ h3 l2;have g4:G4 Dl=none:=e4.fr _ g3 (by rw[h3];simp);have l4:Dl∉L4:=λz=>(e4.new _ z).elim l2 λq=>by rw[h3]at q;cases q
   have Pw:=e3.trans e4;cases b with
   | false=>
    exact⟨m - 1,(),(),Ve,acc,G4,L4,M4,e2.trans Pw,r4,g4,l4,Τ.mono Pw.g Pw.l _ _ n2,(),h4⟩
   | true=>
    refine⟨G4,L4,ρ',M4,_,ki,r4,n'.mono e4,h4,IA,λv5 H5 xz=>?_⟩;have⟨d5,G5,L5,M5,e5,r5,n5,h5⟩:=xz;have h5':H5 Dl=some (.lst ys):=e5.out _ _ Ve l4;have g5:G5 Dl=none:=e5.fr _ g4 (by rw[Ve];simp);have l5:Dl∉L5:=λz=>(e5.new _ z).elim l4 λq=>by rw[Ve]at q;cases q
    have Xf:=Pw.trans e5;have ZA:ys.length=acc.length:=by rw[<-n2.length]
    refine⟨h5',(),m - 1,(),(),ah,acc++[d5],G5,L5,M5,?_,?_,g5,l5,(Τ.mono Xf.g Xf.l _ _ n2).app ⟨_,_,rfl,n5,rfl⟩,by rw[aah];show acc.length+1<=i+1;omega,h5⟩
    ·have QC:=e2.trans Xf
     exact⟨QC.g,QC.l,QC.fr,λb u h1 h2=>by rw[Ζ (ne1 h1)];exact QC.out b u h1 h2,QC.new,λb h=>by
      by_cases hb:b=Dl
      ·rw[hb,ah];simp
      ·rw[Ζ hb];exact QC.CV b h⟩
    ·refine⟨λb u e=>by rw[Ζ (λz=>by rw[z,g5]at e;cases e)];exact r5.sub b u e,r5.len,r5.nd,λi a m h1 h2=>?_⟩;have⟨q1,q2⟩:=r5.fZ i a m h1 h2;exact⟨q1,q2.mono (.refl _) (.refl _) (Ζ λz=>l5 (by rw[<-z];exact aai h1))⟩
  ·left;rw[ab2 ()]at h2;exact⟨y.stop i G2 L2 M2 H2 e2.g e2.l r2 h2.1 (),fin G2 L2 M2 H2 acc ys e2 r2 g2 l2 EY n2 h2.2⟩
section
variable{K:fI}{G1:Hp}{L1:List Addr}{H1 G:Hp}{L:List Addr}{M:Ms}{H:Hp}{p:Addr}{ds:List Dt}{vs:List V}{q:DQ}
def MF(e:Ex G1 L1 H1 G L H)(r:Rl K G L M H)(Na:H1 p=none)(hg:G p=none)(hl:p∉L)(h:H p=some (.lst vs))(n:Τ K G L ds vs)(k:q (.lst ds) M):Fin K G1 L1 H1 q (.ref p) H:=by
 have g1:dU G (upd G p (.lst vs)):=λb u e=>by rw[Ζ (λz=>by rw[z,hg]at e;cases e)];exact e
 refine⟨.lst ds,upd G p (.lst vs),L,M,⟨e.g.trans g1,e.l,λb h1 h2=>?_,e.out,e.new,e.CV⟩,⟨λb u e=>?_,r.len,r.nd,λk a m h1 h2=>?_⟩,⟨p,vs,rfl,ah,Τ.mono g1 (.refl _) _ _ n⟩,k⟩
 ·rw[Ζ (λz=>h2 (by rw[z];exact Na))];exact e.fr b h1 h2
 ·by_cases hb:b=p
  ·rw[hb,ah]at e;rw[hb];cases e;exact h
  ·rw[Ζ hb]at e;exact r.sub b u e
 ·have⟨q1,q2⟩:=r.fZ k a m h1 h2;have hb:a≠p:=λz=>hl (by rw[<-z];exact aai h1);exact⟨by rw[Ζ hb];exact q1,q2.mono g1 (.refl _) rfl⟩
def La(e:Ex G1 L1 H1 G L H)(r:Rl K G L M H)(Na:H1 p=none)(hg:G p=none)(hl:p∉L)(h:H p=some (.lst vs))(n:Τ K G L ds vs)(k:q (.loc M.length) (M++[.lst ds])):Fin K G1 L1 H1 q (.ref p) H:=by
 refine⟨.loc M.length,G,L++[p],M++[.lst ds],⟨e.g,e.l.trans ⟨[p],rfl⟩,e.fr,e.out,λb hb=>?_,e.CV⟩,⟨r.sub,by rw[List.length_append,List.length_append,r.len];rfl,List.nodup_append.mpr ⟨r.nd,by simp,λa ha b hb=>?_⟩,λk a m h1 h2=>?_⟩,⟨p,rfl,by rw[<-r.len,List.getElem?_append_right (Nat.le_refl _)];simp⟩,k⟩
 ·rcases aaR.mp hb with z| z
  ·exact e.new b z
  ·have e:b=p:=by simpa using z
   right;rw[e];exact Na
 ·have e:b=p:=by simpa using hb
  rw[e];exactλz=>hl (z▸ha)
 ·by_cases hk:k < L.length
  ·rw[aas hk]at h1;rw[aas (by rw[<-r.len];exact hk)]at h2;have⟨q1,q2⟩:=r.fZ k a m h1 h2;exact⟨q1,q2.mono (.refl _) ⟨[p],rfl⟩ rfl⟩
  ·have e:k=L.length:=by have:=(aaf.mp h1).1;rw[aah]at this;simp at this;omega
   rw[e,aax (aaj _)]at h1;rw[e,r.len,aax (aaj _)]at h2;simp at h1 h2;subst h1 h2;exact⟨hg,vs,h,Τ.mono (.refl _) ⟨[p],rfl⟩ _ _ n⟩
def Ue(b:Bool)(q:DQ)(ys:List Dt)(M:Ms):Prop:=match b with
 | false=>q (.lst ys) M
 | true=>q (.loc M.length) (M++[.lst ys])
def Dy{b:Bool}(e:Ex G1 L1 H1 G L H)(r:Rl K G L M H)(Na:H1 p=none)(hg:G p=none)(hl:p∉L)(h:H p=some (.lst vs))(n:Τ K G L ds vs)(k:Ue b q ds M):Fin K G1 L1 H1 q (.ref p) H:=by
 cases b
 ·exact MF e r Na hg hl h n k
 ·exact La e r Na hg hl h n k
end
def c_{n i:Nat}(h:i < n):vA n (fm i):=λv os cs H Q hl hq=>⟨⟨os.set i (some v),by rw[aa6];exact hl,abU _ _ ()⟩,hq⟩
def nP{K:fI}{n i j:Nat}(h:i < n)(h':j < n):vA n (E_ K 2 (iR (fm i) (iR (fm j) Fo))):=
 fun v os cs H Q hl ⟨a,xs,e,s,l,v1,r,e1,v2,r2,e2,e3,q⟩=>⟨a,xs,e,s,l,v1,r,e1,v2,r2,e2,e3,⟨(os.set i (some v1)).set j (some v2),by simp[hl],by
  rw[abU _ _ (),abU _ _ (by rw[aa6];omega)]⟩,q⟩
section
variable{X:Cx}{elt iter tg:Expr}{xs:List Str}{scope:Scope}{pos:Pos}{ys:List Str}{Θ:List Nat}
def dH{i:Nat}{x:Str}{px:Pos}(S:ag X scope xs ys Θ)(h:xs[i]? =some x)(C:Addr)(s:Shared)(H:Hp)(fp:List Addr):PG (Cx.comp X (xs++ys) scope C s H fp) (.Name x px) (fm i):=by
 have hm:x∈xs:=aai h;have hi:(xs++ys)[i]? =some x:=by rw[aas (aaf.mp h).1];exact h
 exact ae S.nd hi (.inl (lookup_relabel_local (S.own x hm))) (.inr (lookup_relabel_local (S.own x hm)))
def ye{x y:Str}{px py:Pos}{k:Nat}(hc:X.calm=true)(S:ag X scope [x,y] ys Θ)(C:Addr)(s:Shared)(H:Hp)(fp:List Addr):PG (Cx.comp X ([x,y]++ys) scope C s H fp) (.Tuple [.Name x px,.Name y py] k pos) (E_ X.K 2 (iR (fm 0) (iR (fm 1) Fo))):=
 lV (X:=Cx.comp X ([x,y]++ys) scope C s H fp) hc (bf (dH S (i:=0) rfl C s H fp) (bf (dH S (i:=1) rfl C s H fp) i7))
end
def tw:DT:=λ_ M q _=>q true M
def Xs(X:Cx)(cs:List Expr)(t:DT):Prop:=Va X cs (E8 X.K (λ_=>E0) t)
def hJ{X:Cx}:Xs X [] tw:=⟨.inl rfl,λδ s σ H Q I ⟨G,L,ρ,M,q,x,r,n,h,hx,hQ⟩=>abk ⟨H,I,hQ true H ⟨G,L,M,.refl _ _ _,r,h⟩⟩⟩
def xq{X:Cx}{c:Expr}{t:DT}(h:JT X (λ_=>E0) c t):Xs X [c] t:=⟨.inr ⟨c,rfl⟩,h⟩
def Nq(b:Bool)(g:Dt->En->(En->Prop)->Prop)(tc:DT)(te:DE)(cs:En)(q:DQ):List Dt->(Ms->Prop)->Ms->Prop:=λzs ok M1=>zs.length<=sizeLine/\g7 g tc te cs ok zs [] M1 (Ue b q)
section
variable{X:Cx}{R:St->XK}{elt iter tg:Expr}{cs:List Expr}{xs:List Str}{scope:Scope}{pos:Pos}{gg:TG}{g:Dt->En->(En->Prop)->Prop}{ti:DK}{tc:DT}{te:DE}{ys:List Str}{Θ:List Nat}(b:Bool)(S:ag X scope xs ys Θ)(hi:JK X R tg iter ti)(hg:∀C s H fp,PG (Cx.comp X (xs++ys) scope C s H fp) tg gg)(gd:GD X.K gg g)(hk:vA xs.length gg)(ht:∀C s H fp,Xs (Cx.comp X (xs++ys) scope C s H fp) cs tc)(he:∀C s H fp,JE (Cx.comp X (xs++ys) scope C s H fp) (λ_=>E0) elt te)(hc:X.calm=true)(hs:∀x,foldedSetIterable iter X.env x=pure x)
include S hi hg gd hk ht he hc hs
def Sd{t:DE}(e:∀ρ M q x,t ρ M q x->ti ρ M (Nq b g tc te (List.replicate xs.length none++mX Θ ρ) q) x):JE X R (.ListComp elt [⟨tg,iter,cs,0⟩] scope pos) t:=
 .of (Il (tc:=E8 X.K (λ_=>E0) tc) (te:=Ax X.K (λ_=>E0) te) S hc hi hg hk ht he hs) λσ H G L ρ M q x rl n h hx=>⟨G,L,ρ,M,_,x,rl,n,e _ _ _ _ h,hx,λJ H1 ⟨xs,ok,G1,L1,M1,e1,r1,y,hz,h1⟩ D hD=>yY gd r1 (n.mono e1) y hD hz h1 λG2 L2 M2 H2 ds vs e2 r2 g2 l2 h2 n2 k=>Fin.back e1 (Dy e2 r2 hD g2 l2 h2 n2 k)⟩
def Qy{i:Nat}{y:Str}{py gM:Pos}(hN:X.N.Nodup)(BU:X.N[i]? =some y)(hy:Loc X.env.scope y)(BR:swapsWith (.ListComp elt [⟨tg,iter,cs,0⟩] scope pos) (some (.Name y py)) gM.line X.env=pure true)(hf:X.fn y=true\/X.env.scope.names.lookup y=some .local){t:DE}(e:∀ρ M q x,t ρ M q x->ti ρ M (Nq b g tc te (List.replicate xs.length none++mX Θ ρ) q) x):
  JS X R (.Assign [.Name y py] (.ListComp elt [⟨tg,iter,cs,0⟩] scope pos) gM) (tJ i t):=.of (yC (tc:=E8 X.K (λ_=>E0) tc) (te:=Ax X.K (λ_=>E0) te) hN BU hy S hc hi hg hk ht he BR hs hf) λσ H G L ρ M Dn rl n h hx=>by
 refine⟨G,L,ρ,M,_,_,rl,n,e _ _ _ _ h,hx,fun J H1 ⟨xs,ok,G1,L1,M1,e1,r1,y,hz,h1⟩ D hD=>yY gd r1 (n.mono e1) y hD hz h1 λG2 L2 M2 H2 ds vs e2 r2 g2 l2 h2 n2 k=>?_⟩;have⟨d,G3,L3,M3,e3,r3,n3,h3⟩:=Dy (q:=λd M=>Dn.nx (ρ.set i (some d)) M) e2 r2 hD g2 l2 h2 n2 k;exact⟨_,G3,L3,M3,e1.trans e3,r3,((n.mono e1).mono e3).set i n3,h3⟩
end
def vf(te:DE)(cs:En):List Dt->List Dt->Ms->(List Dt->Ms->Prop)->Prop
 | [],acc,M,k=>k acc M
 | x::xs,acc,M,k=>te (some x::cs) M (λd M1=>vf te cs xs (acc++[d]) M1 k) ki
def vw(ti:DA)(te:DE)(Θ:List Nat):DE:=λρ M q x=>ti ρ M (λxs M1=>xs.length<=sizeLine/\vf te (mX Θ ρ) xs [] M1 (λys M2=>q (.lst ys) M2)) x
def v8{te:DE}{cs:En}:∀xs,vf te cs xs=g7 (gN 0) tw te (none::cs) (λ_=>True) xs
 | []=>funext λacc=>funext λM=>funext λk=>(true_and _).symm
 | x::xs=>funext λacc=>funext λM=>funext λk=>by show te (some x::cs) M (λd M1=>vf te cs xs (acc++[d]) M1 k) ki=(True/\te (some x::cs) M (λd M1=>g7 (gN 0) tw te (none::cs) (λ_=>True) xs (acc++[d]) M1 k) ki);rw[v8 xs,true_and]
section
variable{X:Cx}{R:St->XK}{elt iter:Expr}{x:Str}{px:Pos}{scope:Scope}{pos:Pos}{ti:DA}{te:DE}{ys:List Str}{Θ:List Nat}
def Jm(S:ag X scope [x] ys Θ)(hi:JI X R (.Name x px) iter ti)(he:∀C s H fp,JE (Cx.comp X (x::ys) scope C s H fp) (λ_=>E0) elt te)(hc:X.calm=true:=by rfl)(hs:∀x,foldedSetIterable iter X.env x=pure x:=by intro _;rfl):JE X R (.ListComp elt [⟨.Name x px,iter,[],0⟩] scope pos) (vw ti te Θ):=Sd false S (uZ hi) (dH S (i:=0) rfl) aA (c_ (Nat.zero_lt_succ 0)) (λ_ _ _ _=>hJ) he hc hs λρ M q x h=>by unfold vw at h;simp only[v8]at h;exact h
def Co{i:Nat}{y:Str}{py gM:Pos}(hN:X.N.Nodup)(BU:X.N[i]? =some y)(hy:Loc X.env.scope y)(S:ag X scope [x] ys Θ)(hi:JI X R (.Name x px) iter ti)(he:∀C s H fp,JE (Cx.comp X (x::ys) scope C s H fp) (λ_=>E0) elt te)(hc:X.calm=true:=by rfl)(BR:swapsWith (.ListComp elt [⟨.Name x px,iter,[],0⟩] scope pos) (some (.Name y py)) gM.line X.env=pure true:=by rfl)(hs:∀x,foldedSetIterable iter X.env x=pure x:=by intro _;rfl)(hf:X.fn y=true\/X.env.scope.names.lookup y=some .local:=by first| exact .inl rfl| exact .inr rfl| assumption):JS X R (.Assign [.Name y py] (.ListComp elt [⟨.Name x px,iter,[],0⟩] scope pos) gM) (tJ i (vw ti te Θ)):=Qy false S (uZ hi) (dH S (i:=0) rfl) aA (c_ (Nat.zero_lt_succ 0)) (λ_ _ _ _=>hJ) he hc hs hN BU hy BR hf λρ M q x h=>by unfold vw at h;simp only[v8]at h;exact h
end
def fin_same{K:fI}{G0:Hp}{L0:List Addr}{H0 G:Hp}{L:List Addr}{M:Ms}{H:Hp}{d:Dt}{v:V}{q:DQ}(e:Ex G0 L0 H0 G L H)(r:Rl K G L M H)(n:Den K G L d v)(h:q d M):Fin K G0 L0 H0 q v H:=⟨d,G,L,M,e,r,n,h⟩
def cy{K:fI}{G0:Hp}{L0:List Addr}{H0 G:Hp}{L:List Addr}{M:Ms}{H:Hp}{d:Dt}{v:V}{q:DQ}(e:Ex G0 L0 H0 G L H)(r:Rl K G L M H)(h:q d M)(n:Den K G L d v:=by rfl):Fin K G0 L0 H0 q v H:=⟨d,G,L,M,e,r,n,h⟩
def zz:Dt->Dt->Ms->DQ->Prop
 | .int i,.int j,M,q=>q (.int (i+j)) M
 | .str a,.str b,M,q=>a.length+b.length<=sizeLine/\q (.str (a++b)) M
 | .lst a,.lst b,M,q=>a.length+b.length<=sizeLine/\q (.lst (a++b)) M
 | .tup a,.tup b,M,q=>(a≠[]/\a.length+b.length<=sizeLine)/\q (.tup (a++b)) M
 | _,_,_,_=>False
def Hs:Dt->Dt->Ms->DQ->Prop
 | .int i,.int j,M,q=>q (.int (i - j)) M
 | _,_,_,_=>False
def IG:Dt->Dt->Ms->DQ->Prop
 | .int i,.int j,M,q=>(fj i/\fj j)/\q (.int (i * j)) M
 | .lst a,.int k,M,q=>(-(2 ^ 63)<=k/\k < 2 ^ 63/\a.length * k.toNat<=sizeLine)/\q (.lst (List.replicate k.toNat a).flatten) M
 | _,_,_,_=>False
def Oi:Dt->Dt->Ms->DQ->Prop
 | .int i,.int j,M,q=>(0 < j/\fj j)/\q (.int (i / j)) M
 | _,_,_,_=>False
def CY:Dt->Dt->Ms->DQ->Prop
 | .int i,.int j,M,q=>(j≠0/\fj j)/\q (.int (i.fdiv j)) M
 | _,_,_,_=>False
def PF:Dt->Dt->Ms->DQ->Prop
 | .int i,.int j,M,q=>0 < j/\q (.int (i % j)) M
 | _,_,_,_=>False
def N0:Dt->Dt->Ms->DQ->Prop
 | .int i,.int j,M,q=>yp i j/\q (.int (i ^ j.toNat)) M
 | _,_,_,_=>False
def P7:Dt->Ms->DQ->Prop
 | .int i,M,q=>q (.int (-i)) M
 | _,_,_=>False
section
variable{K:fI}
def Vx:pS K (λx y H Q=>(∃i j,x=V.int i/\y= .int j/\Q (.int (i+j)) H)\/(∃i j,x=V.str i/\y= .str j/\i.length+j.length<=sizeLine/\Q (.str (i++j)) H)\/Pu x y H Q\/Nu K x y H Q) zz:=by
 intro G0 L0 H0 G L M H v1 v2 d1 d2 q e r n1 n2 h;unfold zz at h;split at h
 ·rename_i i j;exact .inl ⟨i,j,n1,n2,cy e r h⟩
 ·rename_i a b;exact .inr (.inl ⟨a,b,n1,n2,h.1,cy e r h.2⟩)
 ·rename_i a b;have⟨p1,w1,rfl,e1,m1⟩:=n1;have⟨p2,w2,rfl,e2,m2⟩:=n2;refine .inr (.inr (.inl ⟨p1,p2,w1,w2,rfl,rfl,r.sub _ _ e1,r.sub _ _ e2,by rw[<-m1.length,<-m2.length];exact h.1,λp hp=>?_⟩));exact kF e r hp (qd r hp (m1.app m2)) h.2
 ·rename_i a b;have⟨p1,w1,rfl,e1,m1⟩:=n1;have⟨p2,w2,rfl,e2,m2⟩:=n2;have ne:w1≠[]:=λz=>h.1.1 (by have:=m1.length;rw[z]at this;exact List.eq_nil_of_length_eq_zero this);refine .inr (.inr (.inr ⟨p1,p2,w1,w2,rfl,rfl,.inl (.inl (r.sub _ _ e1)),.inl (.inl (r.sub _ _ e2)),ne,by rw[<-m1.length,<-m2.length];exact h.1.2,λz=>?_,λ_ p hp=>?_⟩))
  ·have hb:b=[]:=by have:=m2.length;rw[z]at this;exact List.eq_nil_of_length_eq_zero this
   subst hb;rw[aaY]at h;exact fin_same (d:=.tup a) e r ⟨p1,w1,rfl,e1,m1⟩ h.2
  ·exact kF e r hp (qc r hp (m1.app m2)) h.2
 ·exact h.elim
def VR:pS K (Ey λi j=>.int (i - j)) Hs:=by
 intro G0 L0 H0 G L M H v1 v2 d1 d2 q e r n1 n2 h;unfold Hs at h;split at h
 ·exact⟨_,_,n1,n2,cy e r h⟩
 ·exact h.elim
def W7:pS K (λx y H Q=>(rI (λi j=>fj i/\fj j) λi j=>.int (i * j)) x y H Q\/PU x y H Q) IG:=by
 intro G0 L0 H0 G L M H v1 v2 d1 d2 q e r n1 n2 h;unfold IG at h;split at h
 ·exact .inl ⟨_,_,n1,n2,h.1,cy e r h.2⟩
 ·rename_i a k;have⟨p1,w1,rfl,e1,m1⟩:=n1;refine .inr ⟨p1,k,w1,rfl,n2,r.sub _ _ e1,h.1.1,h.1.2.1,by rw[<-m1.length];exact h.1.2.2,λp hp=>?_⟩;exact kF e r hp (qd r hp (.of (vJ m1.pair k.toNat))) h.2
 ·exact h.elim
def VW:pS K (rI (λ_ j=>j≠0/\fj j) λi j=>.int (i.fdiv j)) Oi:=by
 intro G0 L0 H0 G L M H v1 v2 d1 d2 q e r n1 n2 h;unfold Oi at h;split at h
 ·rename_i i j;have h0:=h.1.1;refine⟨_,_,n1,n2,⟨(),h.1.2⟩,fin_same (d:=.int (i.fdiv j)) e r rfl ?_⟩;rw[acd i (aag h0)];exact h.2
 ·exact h.elim
def Tw:pS K (rI (λ_ j=>j≠0/\fj j) λi j=>.int (i.fdiv j)) CY:=by
 intro G0 L0 H0 G L M H v1 v2 d1 d2 q e r n1 n2 h;unfold CY at h;split at h
 ·exact⟨_,_,n1,n2,h.1,cy e r h.2⟩
 ·exact h.elim
def W0:pS K (rI (λ_ j=>0 < j) λi j=>.int (i % j)) PF:=by
 intro G0 L0 H0 G L M H v1 v2 d1 d2 q e r n1 n2 h;unfold PF at h;split at h
 ·exact⟨_,_,n1,n2,h.1,cy e r h.2⟩
 ·exact h.elim
def VL:pS K (rI yp λi j=>.int (i ^ j.toNat)) N0:=by
 intro G0 L0 H0 G L M H v1 v2 d1 d2 q e r n1 n2 h;unfold N0 at h;split at h
 ·exact⟨_,_,n1,n2,h.1,cy e r h.2⟩
 ·exact h.elim
def XI:XZ K (rU λi=>.int (-i)) P7:=by
 intro G0 L0 H0 G L M H v1 d1 q e r n1 h;unfold P7 at h;split at h
 ·exact⟨_,n1,cy e r h⟩
 ·exact h.elim
end
section
variable{X:Cx}{R:St->XK}{a b c:Expr}{ta tb:DE}{pos:Pos}
def cJ(ja:JE X R a ta)(jb:JE X R b tb):JE X R (.BinOp a .Add b pos) (jO zz ta tb):=vO (OV.or (AI.or (Jl.or K0))) Vx ja jb
def sN(ja:JE X R a ta)(jb:JE X R b tb):JE X R (.BinOp a .Sub b pos) (jO Hs ta tb):=vO OM VR ja jb
def aP(ja:JE X R a ta)(jb:JE X R b tb):JE X R (.BinOp a .Mult b pos) (jO IG ta tb):=vO (K5.or Kn) W7 ja jb
def eJ(ja:JE X R a ta)(jb:JE X R b tb):JE X R (.BinOp a .FloorDiv b pos) (jO Oi ta tb):=vO zE VW ja jb
def Cu(ja:JE X R a ta)(jb:JE X R b tb):JE X R (.BinOp a .FloorDiv b pos) (jO CY ta tb):=vO zE Tw ja jb
def cQ(ja:JE X R a ta)(jb:JE X R b tb):JE X R (.BinOp a .Mod b pos) (jO PF ta tb):=vO N4 W0 ja jb
def ny(ja:JE X R a ta)(jb:JE X R b tb):JE X R (.BinOp a .Pow b pos) (jO N0 ta tb):=vO Pm VL ja jb
def MT(ja:JE X R a ta):JE X R (.UnaryOp .USub a pos) (Uu P7 ta):=X5 Oo XI ja
end
def U9:Dt->Dt->Ms->DQ->Prop
 | .int i,.int j,M,q=>q (.bl (decide (i < j))) M
 | _,_,_,_=>False
def Uq:Dt->Dt->Ms->DQ->Prop
 | .int i,.int j,M,q=>q (.bl (decide (i<=j))) M
 | _,_,_,_=>False
def UD:Dt->Dt->Ms->DQ->Prop
 | .int i,.int j,M,q=>q (.bl (decide (j < i))) M
 | _,_,_,_=>False
def U':Dt->Dt->Ms->DQ->Prop
 | .int i,.int j,M,q=>q (.bl (decide (j<=i))) M
 | _,_,_,_=>False
def vj:Dt->Option V
 | .aY=>some .aY
 | .bl b=>some (.bl b)
 | .int i=>some (.int i)
 | .str x=>some (.str x)
 | _=>none
def iw:List Dt->Option (List V)
 | []=>some []
 | d::ds=>match vj d,iw ds with
  | some v,some vs=>some (v::vs)
  | _,_=>none
section
variable{K:fI}{G:Hp}{L:List Addr}
def ni{d:Dt}{v u:V}(h:vj d=some u)(n:Den K G L d v):v=u/\eK u=true:=by cases d <;> first| (cases h;exact⟨n,rfl⟩)| cases h
def gf:∀{ds:List Dt} {vs us:List V},iw ds=some us->Τ K G L ds vs->vs=us/\us.all eK=true
 | [],vs,us,h,n=>by cases h;exact⟨n,rfl⟩
 | d::ds,_,us,h,⟨v,r,e,n1,n2⟩=>by
  subst e;unfold iw at h;split at h
  ·rename_i u1 u2 h1 h2;cases h;have⟨a1,a2⟩:=ni h1 n1;have⟨b1,b2⟩:=gf h2 n2;subst a1 b1;exact⟨rfl,by rw[abS,a2,b2];rfl⟩
  ·cases h
end
def LG:Dt->Dt->Ms->DQ->Prop
 | .int i,.int j,M,q=>q (.bl (decide (i=j))) M
 | .str i,.str j,M,q=>q (.bl (decide (i=j))) M
 | .bl i,.bl j,M,q=>q (.bl (decide (i=j))) M
 | .tup a,.tup b,M,q=>match iw a,iw b with
  | some us,some vs=>q (.bl (nH us vs)) M
  | _,_=>False
 | _,_,_,_=>False
def O8:Dt->Dt->Ms->DQ->Prop
 | .int i,.int j,M,q=>q (.bl (!decide (i=j))) M
 | .str i,.str j,M,q=>q (.bl (!decide (i=j))) M
 | .bl i,.bl j,M,q=>q (.bl (!decide (i=j))) M
 | .tup a,.tup b,M,q=>match iw a,iw b with
  | some us,some vs=>q (.bl (!nH us vs)) M
  | _,_=>False
 | _,_,_,_=>False
def LB:Dt->Dt->Ms->DQ->Prop
 | .aY,.aY,M,q=>q (.bl true) M
 | .bl _,.aY,M,q=>q (.bl false) M
 | .int _,.aY,M,q=>q (.bl false) M
 | .str _,.aY,M,q=>q (.bl false) M
 | .tup _,.aY,M,q=>q (.bl false) M
 | .lst _,.aY,M,q=>q (.bl false) M
 | _,_,_,_=>False
def vo:Dt->Dt->Ms->DQ->Prop
 | .aY,.aY,M,q=>q (.bl false) M
 | .bl _,.aY,M,q=>q (.bl true) M
 | .int _,.aY,M,q=>q (.bl true) M
 | .str _,.aY,M,q=>q (.bl true) M
 | .tup _,.aY,M,q=>q (.bl true) M
 | .lst _,.aY,M,q=>q (.bl true) M
 | _,_,_,_=>False
section
variable{K:fI}
def YG:pS K (Ey λi j=>.bl (decide (i < j))) U9:=by
 intro G0 L0 H0 G L M H v1 v2 d1 d2 q e r n1 n2 h;unfold U9 at h;split at h
 ·exact⟨_,_,n1,n2,cy e r h⟩
 ·exact h.elim
def Z0:pS K (Ey λi j=>.bl (decide (i<=j))) Uq:=by
 intro G0 L0 H0 G L M H v1 v2 d1 d2 q e r n1 n2 h;unfold Uq at h;split at h
 ·exact⟨_,_,n1,n2,cy e r h⟩
 ·exact h.elim
def ZU:pS K (Ey λi j=>.bl (decide (j < i))) UD:=by
 intro G0 L0 H0 G L M H v1 v2 d1 d2 q e r n1 n2 h;unfold UD at h;split at h
 ·exact⟨_,_,n1,n2,cy e r h⟩
 ·exact h.elim
def Zb:pS K (Ey λi j=>.bl (decide (j<=i))) U':=by
 intro G0 L0 H0 G L M H v1 v2 d1 d2 q e r n1 n2 h;unfold U' at h;split at h
 ·exact⟨_,_,n1,n2,cy e r h⟩
 ·exact h.elim
def kK{p q:Prop} [Decidable p] [Decidable q](h:p↔q):decide p=decide q:=decide_eq_decide.mpr h
def SH:pS K (λx y H Q=>Y8 x y H Q\/TC K x y H Q) LG:=by
 intro G0 L0 H0 G L M H v1 v2 d1 d2 q e r n1 n2 h;unfold LG at h;split at h
 ·rename_i i j;cases n1;cases n2;exact .inl ⟨rfl,fin_same (d:=.bl _) e r (by show V.bl _=V.bl _;rw[kK (p:=V.int i=V.int j) (q:=i=j) ⟨λz=>V.int.inj z,λz=>by rw[z]⟩]) h⟩
 ·rename_i i j;cases n1;cases n2;exact .inl ⟨rfl,fin_same (d:=.bl _) e r (by show V.bl _=V.bl _;rw[kK (p:=V.str i=V.str j) (q:=i=j) ⟨λz=>V.str.inj z,λz=>by rw[z]⟩]) h⟩
 ·rename_i i j;cases n1;cases n2;exact .inl ⟨rfl,fin_same (d:=.bl _) e r (by show V.bl _=V.bl _;rw[kK (p:=V.bl i=V.bl j) (q:=i=j) ⟨λz=>V.bl.inj z,λz=>by rw[z]⟩]) h⟩
 ·rename_i a b;have⟨p1,w1,rfl,e1,m1⟩:=n1;have⟨p2,w2,rfl,e2,m2⟩:=n2;split at h
  ·rename_i us vs h1 h2;have⟨rfl,a2⟩:=gf h1 m1;have⟨rfl,b2⟩:=gf h2 m2;exact .inr ⟨p1,p2,_,_,rfl,rfl,.inl (.inl (r.sub _ _ e1)),.inl (.inl (r.sub _ _ e2)),a2,b2,cy e r h⟩
  ·exact h.elim
 ·exact h.elim
def XJ:pS K (λx y H Q=>Y6 x y H Q\/T3 K x y H Q) O8:=by
 intro G0 L0 H0 G L M H v1 v2 d1 d2 q e r n1 n2 h;unfold O8 at h;split at h
 ·rename_i i j;cases n1;cases n2;exact .inl ⟨rfl,fin_same (d:=.bl _) e r (by show V.bl _=V.bl _;rw[kK (p:=V.int i=V.int j) (q:=i=j) ⟨λz=>V.int.inj z,λz=>by rw[z]⟩]) h⟩
 ·rename_i i j;cases n1;cases n2;exact .inl ⟨rfl,fin_same (d:=.bl _) e r (by show V.bl _=V.bl _;rw[kK (p:=V.str i=V.str j) (q:=i=j) ⟨λz=>V.str.inj z,λz=>by rw[z]⟩]) h⟩
 ·rename_i i j;cases n1;cases n2;exact .inl ⟨rfl,fin_same (d:=.bl _) e r (by show V.bl _=V.bl _;rw[kK (p:=V.bl i=V.bl j) (q:=i=j) ⟨λz=>V.bl.inj z,λz=>by rw[z]⟩]) h⟩
 ·rename_i a b;have⟨p1,w1,rfl,e1,m1⟩:=n1;have⟨p2,w2,rfl,e2,m2⟩:=n2;split at h
  ·rename_i us vs h1 h2;have⟨rfl,a2⟩:=gf h1 m1;have⟨rfl,b2⟩:=gf h2 m2;exact .inr ⟨p1,p2,_,_,rfl,rfl,.inl (.inl (r.sub _ _ e1)),.inl (.inl (r.sub _ _ e2)),a2,b2,cy e r h⟩
  ·exact h.elim
 ·exact h.elim
def Wc:pS K (λx y H Q=>y= .aY/\Q (.bl (decide (x= .aY))) H) LB:=by
 intro G0 L0 H0 G L M H v1 v2 d1 d2 q e r n1 n2 h;unfold LB at h;split at h
 ·cases n1;exact⟨n2,fin_same (d:=.bl true) e r (by show V.bl _=V.bl _;rw[aaE rfl]) h⟩
 ·cases n1;exact⟨n2,fin_same (d:=.bl false) e r (by show V.bl _=V.bl _;rw[aar nofun]) h⟩
 ·cases n1;exact⟨n2,fin_same (d:=.bl false) e r (by show V.bl _=V.bl _;rw[aar nofun]) h⟩
 ·cases n1;exact⟨n2,fin_same (d:=.bl false) e r (by show V.bl _=V.bl _;rw[aar nofun]) h⟩
 ·have⟨p1,w1,rfl,_⟩:=n1;exact⟨n2,fin_same (d:=.bl false) e r (by show V.bl _=V.bl _;rw[aar nofun]) h⟩
 ·have⟨p1,w1,rfl,_⟩:=n1;exact⟨n2,fin_same (d:=.bl false) e r (by show V.bl _=V.bl _;rw[aar nofun]) h⟩
 ·exact h.elim
def Nx:pS K (λx y H Q=>y= .aY/\Q (.bl (!decide (x= .aY))) H) vo:=by
 intro G0 L0 H0 G L M H v1 v2 d1 d2 q e r n1 n2 h;unfold vo at h;split at h
 ·cases n1;exact⟨n2,fin_same (d:=.bl false) e r (by show V.bl _=V.bl _;rw[aaE rfl];rfl) h⟩
 ·cases n1;exact⟨n2,fin_same (d:=.bl true) e r (by show V.bl _=V.bl _;rw[aar nofun];rfl) h⟩
 ·cases n1;exact⟨n2,fin_same (d:=.bl true) e r (by show V.bl _=V.bl _;rw[aar nofun];rfl) h⟩
 ·cases n1;exact⟨n2,fin_same (d:=.bl true) e r (by show V.bl _=V.bl _;rw[aar nofun];rfl) h⟩
 ·have⟨p1,w1,rfl,_⟩:=n1;exact⟨n2,fin_same (d:=.bl true) e r (by show V.bl _=V.bl _;rw[aar nofun];rfl) h⟩
 ·have⟨p1,w1,rfl,_⟩:=n1;exact⟨n2,fin_same (d:=.bl true) e r (by show V.bl _=V.bl _;rw[aar nofun];rfl) h⟩
 ·exact h.elim
end
section
variable{X:Cx}{R:St->XK}{a b c:Expr}{ta tb:DE}{pos:Pos}
def Kj(ja:JE X R a ta)(jb:JE X R b tb):JE X R (.Compare a [.Lt] [b] pos) (jO U9 ta tb):=vd Nd YG ja jb (eD _)
def Br(ja:JE X R a ta)(jb:JE X R b tb):JE X R (.Compare a [.LtE] [b] pos) (jO Uq ta tb):=vd NS Z0 ja jb (eD _)
def V5(ja:JE X R a ta)(jb:JE X R b tb):JE X R (.Compare a [.Gt] [b] pos) (jO UD ta tb):=vd NC ZU ja jb (eD _)
def Ye(ja:JE X R a ta)(jb:JE X R b tb):JE X R (.Compare a [.GtE] [b] pos) (jO U' ta tb):=vd NA Zb ja jb (eD _)
def LO{k:Nat}(hr:cx k X.A)(ja:JE X R a ta)(jb:JE X R b tb):JE X R (.Compare a [.Eq] [b] pos) (jO LG ta tb):=vd (MV.or (Ke hr.BZ)) SH ja jb (eD _)
def NW(ja:JE X R a ta)(jb:JE X R b tb):JE X R (.Compare a [.IsNot] [b] pos) (jO vo ta tb):=vd DC Nx ja jb (eD _)
def pL(ja:JE X R a ta)(jb:JE X R b tb):JT X R (.Compare a [.Lt] [b] pos) (mQ (jO U9 ta tb)):=ip Nd YG ja jb (eD _)
def Q4(ja:JE X R a ta)(jb:JE X R b tb):JT X R (.Compare a [.LtE] [b] pos) (mQ (jO Uq ta tb)):=ip NS Z0 ja jb (eD _)
def pw(ja:JE X R a ta)(jb:JE X R b tb):JT X R (.Compare a [.Gt] [b] pos) (mQ (jO UD ta tb)):=ip NC ZU ja jb (eD _)
def SY(ja:JE X R a ta)(jb:JE X R b tb):JT X R (.Compare a [.GtE] [b] pos) (mQ (jO U' ta tb)):=ip NA Zb ja jb (eD _)
def dz{k:Nat}(hr:cx k X.A)(ja:JE X R a ta)(jb:JE X R b tb):JT X R (.Compare a [.Eq] [b] pos) (mQ (jO LG ta tb)):=ip (MV.or (Ke hr.BZ)) SH ja jb (eD _)
def rV{k:Nat}(hr:cx k X.A)(ja:JE X R a ta)(jb:JE X R b tb):JT X R (.Compare a [.NotEq] [b] pos) (mQ (jO O8 ta tb)):=ip (T1.or (Oj hr.BZ)) XJ ja jb (eD _)
def BN(ja:JE X R a ta)(jb:JE X R b tb):JT X R (.Compare a [.Is] [b] pos) (mQ (jO LB ta tb)):=ip N3 Wc ja jb (eD _)
def xo(ja:JE X R a ta)(jb:JE X R b tb):JT X R (.Compare a [.IsNot] [b] pos) (mQ (jO vo ta tb)):=ip DC Nx ja jb (eD _)
end
def hZ(M:Ms):Dt->Option (List Dt)
 | .lst xs=>some xs
 | .tup xs=>some xs
 | .hW ns=>some (ns.map .int)
 | .kt xs=>some xs
 | .loc k=>match M[k]? with
  | some (.lst xs)=>some xs
  | _=>none
 | _=>none
def qi{K:fI}{G:Hp}{L:List Addr}{M:Ms}{H:Hp}{d:Dt}{v:V}{xs:List Dt}(r:Rl K G L M H)(n:Den K G L d v)(h:hZ M d=some xs):∃a vs,v= .ref a/\(gc K H a vs\/mL K H a vs)/\Τ K G L xs vs:=by
 cases d with
 | lst ds=>cases h;have⟨a,vs,rfl,e,m⟩:=n;exact⟨a,vs,rfl,.inl (.of (r.sub _ _ e)),m⟩
 | tup ds=>cases h;have⟨a,vs,rfl,e,m⟩:=n;exact⟨a,vs,rfl,.inr (.of (r.sub _ _ e)),m⟩
 | kt ds=>cases h;have⟨a,vs,rfl,e,m⟩:=n;exact⟨a,vs,rfl,.inr (r.sub.Rt e),m⟩
 | hW ns=>cases h;have⟨a,rfl,e⟩:=n;exact⟨a,_,rfl,.inl (r.sub.seq e),iL⟩
 | loc k=>
  have⟨a,rfl,e⟩:=n;have h:(match M[k]? with| some (.lst xs)=>some xs| _=>none)=some xs:=h;split at h
  ·rename_i ys hm;cases h;have⟨_,vs,e1,m1⟩:=r.fZ k a _ e hm;exact⟨a,vs,rfl,.inl (.of e1),m1⟩
  ·cases h
 | _=>cases h
def LQ{K:fI}{G:Hp}{L:List Addr}{ds:List Dt}{vs:List V}{i:Int}{d:Dt}(n:Τ K G L ds vs)(h:iH ds i=some d):∃v,iH vs i=some v/\Den K G L d v:=by
 unfold iH at h⊢;rw[<-n.length];cases q:GC ds.length i with
 | none=>rw[q]at h;cases h
 | some j=>
  rw[q]at h;have⟨v,e,m⟩:=n.get h;exact⟨v,e,m⟩
def cR:Dt->Dt->Ms->DQ->Prop
 | .str z,.int i,M,q=>z.length<=sizeLine/\match iH z.cps.toList i with
  | some c=>q (.str ⟨#[c]⟩) M
  | none=>False
 | d,.int i,M,q=>match hZ M d with
  | some xs=>(match iH xs i with
   | some y=>q y M
   | none=>False)
  | none=>False
 | _,_,_,_=>False
def gH:List Dt->Ms->DQ->Prop
 | [.str z],M,q=>z.length<=sizeLine/\q (.int z.length) M
 | [d],M,q=>match hZ M d with
  | some xs=>q (.int xs.length) M
  | none=>False
 | _,_,_=>False
section
variable{K:fI}
def ixD:pS K (YY K) cR:=by
 intro G0 L0 H0 G L M H v1 v2 d1 d2 q e r n1 n2 h;unfold cR at h;split at h
 ·rename_i z i;split at h
  ·rename_i c hc;exact .inr (.inr ⟨z,i,c,n1,n2,h.1,hc,cy e r h.2⟩)
  ·exact h.2.elim
 ·rename_i d i _;split at h
  ·rename_i xs hx;split at h
   ·rename_i y hy;have⟨a,vs,rfl,hs,m⟩:=qi r n1 hx;have⟨v,e1,m1⟩:=LQ m hy;rcases hs with hs| hs
    ·exact .inl ⟨a,vs,i,v,rfl,n2,hs,e1,fin_same e r m1 h⟩
    ·exact .inr (.inl ⟨a,vs,i,v,rfl,n2,hs,e1,fin_same e r m1 h⟩)
   ·exact h.elim
  ·exact h.elim
 ·exact h.elim
def WB:Gi K (λxs H Q=>(∃z,xs=[V.str z]/\z.length<=sizeLine/\Q (.int z.length) H)\/(∃p ys,xs=[V.ref p]/\(gc K H p ys\/mL K H p ys)/\Q (.int ys.length) H)) gH:=by
 intro G0 L0 H0 G L M H vs ds q e r n h;unfold gH at h;split at h
 ·rename_i z;have⟨v,rfl,n1⟩:=aW n;cases n1;exact .inl ⟨z,rfl,h.1,cy e r h.2⟩
 ·rename_i d _;have⟨v,rfl,n1⟩:=aW n;split at h
  ·rename_i xs hx;have⟨a,ws,rfl,hs,m⟩:=qi r n1 hx;exact .inr ⟨a,ws,rfl,hs,fin_same (d:=.int xs.length) e r (by show V.int _=V.int _;rw[m.length]) h⟩
  ·exact h.elim
 ·exact h.elim
end
section
variable{X:Cx}{R:St->XK}{a b c:Expr}{ta tb:DE}{pos:Pos}
def Ε(ja:JE X R a ta)(jb:JE X R b tb)(hs:xm b:=by exactλ_ _=>rfl):JE X R (.Subscript a b pos) (jO cR ta tb):=R4 Po ixD ja jb hs
variable{x:Str}{p:Pos}{e:Expr}{es:List Expr}{t:DA}{id T:String}{r:List V->Hp->VK->Prop}{f:List Dt->Ms->DQ->Prop}
def iX(hc:dY X (.builtin id) r)(cd:Gi X.K r f)(hm:X.mg x=none)(hv:bootBuiltins x=some (.builtin id))(ha:JA X R (e::es) t)(hg:Gl X x:=by rfl)(hn:x≠"__name__":=by decide)(Cj:(x==("__debug__":Str))=false:=by decide)
  (he:starEach (e::es) X.env=(false,eval e X.env)::starEach es X.env:=by rfl) (fE:(backTo pos (starEach es X.env)).any (·.1)=false:=by rfl):JE X R (.Call (.Name x p) (e::es) [] pos) (D4 f t):=
 .of (HV hc hg hm hv ha hn Cj he fE) λσ H G L ρ M q x r n h hx=>M7 cd r n h hx
def qL(hc:dY X (.type T) r)(cd:Gi X.K r f)(hm:X.mg x=none)(hv:bootBuiltins x=some (.type T))(ha:JA X R (e::es) t)(hg:Gl X x:=by rfl)(hn:x≠"__name__":=by decide)(Cj:(x==("__debug__":Str))=false:=by decide)
  (he:starEach (e::es) X.env=(false,eval e X.env)::starEach es X.env:=by rfl) (fE:(backTo pos (starEach es X.env)).any (·.1)=false:=by rfl):JE X R (.Call (.Name x p) (e::es) [] pos) (D4 f t):=
 .of (FF hc hg hm hv ha hn Cj he fE) λσ H G L ρ M q x r n h hx=>M7 cd r n h hx
def cZ(hm:X.mg "len"=none)(ha:JA X R [e] t)(he:starEach [e] X.env=(false,eval e X.env)::starEach [] X.env:=by rfl)(fE:(backTo pos (starEach [] X.env)).any (·.1)=false:=by rfl)(hg:Gl X "len":=by rfl):JE X R (.Call (.Name "len" p) [e] [] pos) (D4 gH t):=
 iX (vX.or xH) WB hm PySem.boot_len ha hg @_ @_ he fE
end
section
variable{X:Cx}
def xB:dY X (.type "int") (λxs H Q=>∃x n,xs=[.str x]/\PySem.intText? x=some n/\x.length<=640/\Q (.int n) H):=by intro δ s σ H xs us Q I rs h;have⟨x,n,rfl,hn,hl,q⟩:=h;have⟨w,rfl,u,rfl⟩:=kr rs;exact PySem.W.KIN.call_text hn hl ⟨.int n,H,I.tok _,⟨_,rfl⟩,q⟩
end
def Pd:List Dt->Ms->DQ->Prop
 | [.int i],M,q=>q (.int i) M
 | [.bl b],M,q=>q (.int (if b then 1 else 0)) M
 | [.str x],M,q=>x.length<=640/\match PySem.intText? x with
  | some n=>q (.int n) M
  | none=>False
 | _,_,_=>False
def Oq:List Dt->Ms->DQ->Prop
 | [.int i],M,q=>q (.int (if i < 0 then -i else i)) M
 | _,_,_=>False
def Hx:List Dt->Ms->DQ->Prop
 | [.int i,.int j],M,q=>q (.int (if j < i then j else i)) M
 | _,_,_=>False
def OP:List Dt->Ms->DQ->Prop
 | [d],M,q=>∃bs:List Bool,hZ M d=some (bs.map Dt.bl)/\(∀k,d≠ .kt k)/\(∀k,d≠ .tup k)/\q (.bl (bs.any id)) M
 | _,_,_=>False
section
variable{K:fI}
def uQ{G:Hp}{L:List Addr}:∀{l:List Str},Τ K G L (l.map Dt.str) (l.map V.str)
 | []=>rfl
 | _::_=>⟨_,_,rfl,rfl,uQ⟩
def nN{G:Hp}{L:List Addr}:∀{bs:List Bool} {vs:List V},Τ K G L (bs.map Dt.bl) vs->vs=bs.map V.bl
 | [],_,h=>h
 | b::bs,_,⟨v,r,e,h1,h2⟩=>by subst e;rw[nN h2,show v=V.bl b from h1];rfl
def YE:Gi K (λxs H Q=>((∃i,xs=[V.int i]/\Q (.int i) H)\/∃k,xs=[V.bl k]/\Q (.int (if k then 1 else 0)) H)\/∃x n,xs=[V.str x]/\PySem.intText? x=some n/\x.length<=640/\Q (.int n) H) Pd:=by
 intro G0 L0 H0 G L M H vs ds q e r n h;unfold Pd at h;split at h
 ·rename_i i;have⟨v,rfl,n1⟩:=aW n;cases n1;exact .inl (.inl ⟨i,rfl,cy e r h⟩)
 ·rename_i i;have⟨v,rfl,n1⟩:=aW n;cases n1;exact .inl (.inr ⟨i,rfl,cy e r h⟩)
 ·rename_i x;have⟨v,rfl,n1⟩:=aW n;cases n1;split at h
  ·rename_i m hm;exact .inr ⟨x,m,rfl,hm,h.1,cy e r h.2⟩
  ·exact h.2.elim
 ·exact h.elim
def V7:Gi K (λxs H Q=>∃i,xs=[V.int i]/\Q (.int (if i < 0 then -i else i)) H) Oq:=by
 intro G0 L0 H0 G L M H vs ds q e r n h;unfold Oq at h;split at h
 ·rename_i i;have⟨v,rfl,n1⟩:=aW n;cases n1;exact⟨i,rfl,cy e r h⟩
 ·exact h.elim
def YF:Gi K (λxs H Q=>∃i j,xs=[V.int i,.int j]/\Q (.int (if j < i then j else i)) H) Hx:=by
 intro G0 L0 H0 G L M H vs ds q e r n h;unfold Hx at h;split at h
 ·rename_i i j;have⟨v,u,rfl,n1,n2⟩:=gF n;cases n1;cases n2;exact⟨i,j,rfl,cy e r h⟩
 ·exact h.elim
def VC:Gi K (SE K) OP:=by
 intro G0 L0 H0 G L M H vs ds q e r n h;unfold OP at h;split at h
 ·rename_i d;have⟨bs,hs,nk,nt,h⟩:=h;have⟨v,rfl,n1⟩:=aW n;cases d with
  | lst xs=>
   cases hs;have⟨a,ws,rfl,e1,m⟩:=n1;exact⟨a,bs,rfl,by rw[<-nN m];exact .of (r.sub _ _ e1),cy e r h⟩
  | loc k=>
   have⟨a,rfl,e1⟩:=n1;have hs:(match M[k]? with| some (.lst xs)=>some xs| _=>none)=some (bs.map Dt.bl):=hs;split at hs
   ·rename_i ys hm;cases hs;have⟨_,ws,e2,m⟩:=r.fZ k a _ e1 hm;exact⟨a,bs,rfl,by rw[<-nN m];exact .of e2,cy e r h⟩
   ·cases hs
  | tup xs=>exact aay rfl (nt xs)
  | kt xs=>exact aay rfl (nk xs)
  | hW ns=>
   have e0:ns.map Dt.int=bs.map Dt.bl:=aao hs;cases ns with
   | nil=>
    cases bs with
    | nil=>have⟨a,rfl,e1⟩:=n1;exact⟨a,[],rfl,r.sub.seq e1,cy e r h⟩
    | cons _ _=>cases e0
   | cons _ _=>
    cases bs with
    | nil=>cases e0
    | cons _ _=>cases e0
  | _=>cases hs
 ·exact h.elim
end
section
variable{X:Cx}{R:St->XK}{o a e e1 e2:Expr}{es:List Expr}{to ta te:DE}{t:DA}{name:Str}{apos bY pos p p2:Pos}{T id:String}
def FP:bootBuiltins "int"=some (.type "int"):=by decide+kernel
def E6:bootBuiltins "abs"=some (.builtin "abs"):=by decide+kernel
def E9:bootBuiltins "any"=some (.builtin "any"):=by decide+kernel
def EG:bootBuiltins "min"=some (.builtin "min"):=by decide+kernel
def Cn:bootBuiltins "list"=some (.type "list"):=by decide+kernel
def rM{x:Str}{z:Int}(hm:∃tk,X.mg x=some (.int z tk))(hg:Gl X x:=by rfl)(hd:(x==("__debug__":Str))=false:=by decide):JE X R (.Name x p) (dC (.int z)):=let ⟨tk,hm⟩:=hm;QP (Dv (v:=.int z) hg hm ⟨tk,rfl⟩ hd) λ_ _=>rfl
end
def U2(x:Str):It:=⟨λi _=>i < x.cps.size,λi H v H'=>H'=H/\∃c,x.cps[i]? =some c/\v= .str ⟨#[c]⟩,λi _=>x.cps.size<=i⟩
def FA{P:Program}{w:World}{K:fI}{tg:Expr}(x:Str)(t:Tok)(it:Addr):Turn P w K tg (U2 x) [it] it (λi h=>h.IsStrIter it "str_ascii_iterator" x t i) where
 mem:=by simp
 obj:=λi h st b hb=>by
  have e:b=it:=by simpa using hb
  subst e;have⟨o,e,c,d⟩:=st;exact⟨o,e,λv z=>by rw[d]at z;cases z⟩
 keep:=λi h h' st k=>let ⟨o,ho,r⟩:=st;⟨o,k it (by simp) o ho,r⟩
 item:=by intro X hP hw hK hc i δ s σ H E I hf st hg;subst hP hw hK;have⟨f0,f1,f2,f3,f4,f5⟩:=hf it (by simp);have hg:i < x.cps.size:=hg;refine wpAny_pyNext_ascii_item st (c:=x.cps[i]) (by simp[hg]) λh' xi sb=>?_;have I1:Inv X δ σ H {s with heap:=h',toks:=s.toks+1}:=I.turned (λb o hb e=>(sb.2 b hb).trans e) f0 f1 f3 f4 f5;have⟨o,e,c,d⟩:=id xi;exact⟨_,rfl,vm (s:={s with heap:=h',toks:=s.toks+1}) e c d @_ ⟨.str ⟨#[x.cps[i]]⟩,H,I1,⟨_,rfl⟩,⟨rfl,_,by simp[hg],rfl⟩,xi,λb hb=>(hf b hb).1⟩⟩
 done:=by intro X hP hw hK hc i δ s σ H E I hf st hg;subst hP hw hK;have⟨f0,f1,f2,f3,f4,f5⟩:=hf it (by simp);have hg:x.cps.size<=i:=hg;exact wpAny_pyNext_ascii_end (I.ok.hd hc) st (by simp;omega) λh' eb=>⟨rfl,I.turned (t':=s.toks) (λb o hb e=>eb b o hb e) f0 f1 f3 f4 f5⟩
 self:=λ_ _ _ _ _ st h=>wpAny_pyIter_striter_ascii st h
def ET{P:Program}{w:World}{K:fI}{tg:Expr}(x:Str)(t:Tok)(it:Addr):Turn P w K tg (U2 x) [it] it (λi h=>h.IsStrIter it "str_iterator" x t i) where
 mem:=by simp
 obj:=λi h st b hb=>by
  have e:b=it:=by simpa using hb
  subst e;have⟨o,e,c,d⟩:=st;exact⟨o,e,λv z=>by rw[d]at z;cases z⟩
 keep:=λi h h' st k=>let ⟨o,ho,r⟩:=st;⟨o,k it (by simp) o ho,r⟩
 item:=by intro X hP hw hK hc i δ s σ H E I hf st hg;subst hP hw hK;have⟨f0,f1,f2,f3,f4,f5⟩:=hf it (by simp);have hg:i < x.cps.size:=hg;refine wpAny_pyNext_wide_item st (c:=x.cps[i]) (by simp[hg]) λh' xi sb=>?_;have I1:Inv X δ σ H {s with heap:=h',toks:=s.toks+1}:=I.turned (λb o hb e=>(sb.2 b hb).trans e) f0 f1 f3 f4 f5;have⟨o,e,c,d⟩:=id xi;exact⟨_,rfl,vm (s:={s with heap:=h',toks:=s.toks+1}) e c d @_ ⟨.str ⟨#[x.cps[i]]⟩,H,I1,⟨_,rfl⟩,⟨rfl,_,by simp[hg],rfl⟩,xi,λb hb=>(hf b hb).1⟩⟩
 done:=by intro X hP hw hK hc i δ s σ H E I hf st hg;subst hP hw hK;have⟨f0,f1,f2,f3,f4,f5⟩:=hf it (by simp);have hg:x.cps.size<=i:=hg;exact wpAny_pyNext_wide_end (I.ok.hd hc) st (by simp;omega) λh' eb=>⟨rfl,I.turned (t':=s.toks) (λb o hb e=>eb b o hb e) f0 f1 f3 f4 f5⟩
 self:=λ_ _ _ _ _ st h=>wpAny_pyIter_striter_wide st h
def xW(z:Str):List Dt:=z.cps.toList.map λc=>Dt.str ⟨#[c]⟩
def Qj{K:fI}{G:Hp}{L:List Addr}{z:Str}:Yl K (U2 z) (xW z) G L where
 go :=λi G1 L1 M1 H1 d g l r e=>by
  unfold xW at e;rw[aak]at e;cases q:z.cps.toList[i]? with
  | none=>rw[q]at e;cases e
  | some c=>
   rw[q]at e;cases e;have hi:i < z.cps.size:=by have:=(aaf.mp q).1;simpa using this
   refine⟨hi,λv' H' xz=>?_⟩;have⟨eH,c',e',y⟩:=xz;subst eH y;have:c'=c:=by rw[<-Array.getElem?_toList,q]at e';exact(aao e').symm
   subst this;exact⟨G1,.refl _ _ _,r,rfl⟩
 stop:=λi G1 L1 M1 H1 g l r e=>by unfold xW at e;show z.cps.size<=i;simpa using e
def SW(M:Ms):Dt->Option (List Dt)
 | .lst xs=>some xs
 | .tup xs=>some xs
 | .hW ns=>some (ns.map .int)
 | .kt xs=>some xs
 | .str z=>some (xW z)
 | _=>none
section
variable{X:Cx}{R:St->XK}{tg e:Expr}{te:DE}
def xQ{δ:List (Addr×Obj)}{σ:St}{H:Hp}{s:Shared}{a:Addr}{vs:List V}{Q:It->Hp->Prop}{E:Value->Shared->Prop}(I:Inv X δ σ H s)(hq:gc X.K H a vs)(q:Q (U6 X.K a) H):wpAny (model X.prog X.w) X.A (pyIter (.ref a)) (Kw X δ σ tg Q) E s:=by
 have⟨its,rv,p,hz⟩:=I.list hq;refine wpAny_pyIter_list p.isList ?_;refine⟨s.heap.objs.size,[s.heap.objs.size],_,_,H,rfl,I.kept (t':=s.toks) λb o e=>aam _ e,Fz a _,⟨_,aaS _ rfl,rfl,rfl⟩,λb hb=>?_,q⟩;have e:b=s.heap.objs.size:=by simpa using hb
 subst e;exact I.A2 (aaj _) (I.aX.fresh (aaj _))
def J0{δ:List (Addr×Obj)}{σ:St}{H:Hp}{s:Shared}{a:Addr}{vs:List V}{Q:It->Hp->Prop}{E:Value->Shared->Prop}(I:Inv X δ σ H s)(hq:mL X.K H a vs)(q:Q (Yp X.K a) H):wpAny (model X.prog X.w) X.A (pyIter (.ref a)) (Kw X δ σ tg Q) E s:=by
 have⟨its,rv,p,hz⟩:=I.tuple hq;refine wpAny_pyIter_tuple (show s.heap.IsTuple a its.toArray from p) ?_;refine⟨s.heap.objs.size,[s.heap.objs.size],_,_,H,rfl,I.kept (t':=s.toks) λb o e=>aam _ e,B5 a _,⟨_,aaS _ rfl,rfl,rfl⟩,λb hb=>?_,q⟩;have e:b=s.heap.objs.size:=by simpa using hb
 subst e;exact I.A2 (aaj _) (I.aX.fresh (aaj _))
def OU{δ:List (Addr×Obj)}{σ:St}{H:Hp}{s:Shared}{z:Str}{t:Tok}{Q:It->Hp->Prop}{E:Value->Shared->Prop}(I:Inv X δ σ H s)(q:Q (U2 z) H):wpAny (model X.prog X.w) X.A (pyIter (.str z t)) (Kw X δ σ tg Q) E s:=by
 have fp:∀b∈[s.heap.objs.size],qy X δ H b:=λb hb=>by
  have e:b=s.heap.objs.size:=by simpa using hb
  subst e;exact I.A2 (aaj _) (I.aX.fresh (aaj _))
 cases ha:z.cps.all (· < 128)
 ·exact wpAny_pyIter_wide ha ⟨s.heap.objs.size,[s.heap.objs.size],_,_,H,rfl,I.kept (t':=s.toks) λb o e=>aam _ e,ET z t _,⟨_,aaS _ rfl,rfl,rfl⟩,fp,q⟩
 ·exact wpAny_pyIter_ascii ha ⟨s.heap.objs.size,[s.heap.objs.size],_,_,H,rfl,I.kept (t':=s.toks) λb o e=>aam _ e,FA z t _,⟨_,aaS _ rfl,rfl,rfl⟩,fp,q⟩
end
def PV:DF:=λds _ q _=>∃ns:List Int,ds=[.hW ns]/\ns.length<=63/\∀M',q (.bl true) M'
def zR(K:fI):Sp:=λvs H Q _=>∃(a:Addr) (ns:List Int),vs=[.ref a]/\gc K H a (ns.map V.int)/\ns.length<=63/\∀H',Q (.bl true) H'
def OG{P:Program}{w:World}{K:fI}{mg:Str->Option Value}{base:Heap}{k:Nat}{f:Addr}{fd:FuncData}{x:Str}(F:aw P w K mg base (cP P w) k f fd [x] (dw K PV)):aw P w K mg base UL k f fd [x] (zR K):=by
 have sp:∀vs H Q E,zR K vs H Q E->dw K PV vs H Q E0:=by rintro vs H Q E ⟨a,ns,rfl,hS,hl,hQ⟩;refine⟨H,[],[.hW ns],[],λd _=>d= .bl true,λ_ _ _=>False,⟨.refl _,rfl,List.nodup_nil,λk a m h=>by simp at h⟩,⟨_,_,rfl,⟨a,rfl,hS⟩,rfl⟩,⟨ns,rfl,hl,λ_=>rfl⟩,fun v H' ⟨d,G',L',M',_,_,n,e⟩=>?_,λ_ _ _ _ _ _ _ h=>h.elim⟩;subst e;rw[show v=V.bl true from n];exact hQ H'
 refine⟨λvs H Q E h=>F.len vs H Q E0 (sp vs H Q E h),λA outer s H args us vs Q E hr he hb hv h=>codeAny_mono (F.run A outer s H args us vs Q E0 hr he hb hv (sp vs H Q E h)) λr s' hq=>?_⟩;cases r with
 | error e=>
  have⟨_,_,_,_,_,_,_,_,hE⟩:=hq;exact hE.elim
 | ok fl=>cases fl <;> exact hq
def Pz(c:DT)(tb:DS):DS:=λDn ρ M=>∃W:Nat->En->Ms->Prop,(∃m,W m ρ M)/\∀m ρ M,W m ρ M->
 c ρ M (λb M1=>(b=true->∃N:En->Ms->Prop,(∀ρ' M',N ρ' M'->∃m',m' < m/\W m' ρ' M')/\tb {Dn with nx:=N,ct:=N,bk:=Dn.nx} ρ M1)/\(b=false->Dn.nx ρ M1)) Dn.x
def WL(i j:Nat)(t:DA):DS:=λDn ρ M=>t ρ M (λds M1=>match ds with
 | [a,b]=>Dn.nx ((ρ.set i (some a)).set j (some b)) M1
 | _=>False) Dn.x
section
variable{X:Cx}{R:St->XK}{c a b:Expr}{body:List Stmt}{tc:DT}{tb:DS}{pos:Pos}
def jK(hc:JT X R c tc)(hb:CW X R body tb)(hp:PassesOwn (model X.prog X.w) X.A X.env X.xe:=by first| exact PassesOwn.never| exact PassesOwn.leaving):JS X R (.While c body [] pos) (Pz tc tb):=.of (HC hp hc hb) λσ H G L ρ M Dn rl n h hx=>by
 have⟨W,⟨m0,w0⟩,turn⟩:=h;refine⟨λm σ' H'=>eR X.K G L H (W m) σ' H',⟨m0,ρ,G,L,M,.refl _ _ _,rl,n,w0⟩,λm σ' H' xz=>?_⟩;have⟨ρ',G',L',M',e',r',n',w'⟩:=xz;refine⟨G',L',ρ',M',_,_,r',n',turn m ρ' M' w',hx.on e',λv H1 xz=>?_⟩;have⟨G1,L1,M1,e1,r1,h1⟩:=xz;cases v with
 | true=>
  have⟨N,hN,hb⟩:=h1.1 rfl;refine B3 ⟨eR X.K G L H N,fun σ2 H2 ⟨ρ2,G2,L2,M2,e2,r2,n2,h2⟩=>?_,?_⟩
  ·have⟨m',hm,w2⟩:=hN ρ2 M2 h2;exact⟨m',hm,ρ2,G2,L2,M2,e2,r2,n2,w2⟩
  ·have So:=e'.trans e1;exact⟨G1,L1,ρ',M1,_,r1,n'.mono e1,hb,hx.on So,⟨λ_ _ f=>eR.back So f,λ_ _ f=>Fin.back So f,λ_ _ f=>eR.back So f,λ_ _ f=>eR.back So f⟩⟩
 | false=>exact BB ⟨ρ',G1,L1,M1,e'.trans e1,r1,n'.mono e1,h1.2 rfl⟩
def Qw{i j:Nat}{x y:Str}{t:DA}{px py pt:Pos}{kt k2 OA}(hN:X.N.Nodup)(hi:X.N[i]? =some x)(hj:X.N[j]? =some y)(ha:JA X R [a,b] t)(Ww:i≠j:=by decide)
  (hx:X.env.scope.names.lookup x=some .local:=by rfl) (hy:X.env.scope.names.lookup y=some .local:=by rfl)
  (hw:swappedStores [.Tuple [.Name x px,.Name y py] kt pt] (.Tuple [a,b] k2 OA) X.env=pure (some [x,y]):=by rfl) (hc:X.calm=true:=by rfl)
  (hs:swapsWithSole [.Tuple [.Name x px,.Name y py] kt pt] (.Tuple [a,b] k2 OA) pos.line X.env=pure false:=by rfl):
  JS X R (.Assign [.Tuple [.Name x px,.Name y py] kt pt] (.Tuple [a,b] k2 OA) pos) (WL i j t):=.of (Qh hc hN hi hj Ww hx hy ha hw hs) λσ H G L ρ M Dn rl n h hx=>by
 refine⟨G,L,ρ,M,_,_,rl,n,h,hx,λvs H1 xz=>?_⟩;have⟨ds,G1,L1,M1,e1,r1,n1,h1⟩:=xz
 (try dsimp only at h1)
 split at h1
 ·have⟨v,u,rfl,m1,m2⟩:=gF n1;exact⟨v,u,rfl,_,G1,L1,M1,e1,r1,((n.mono e1).set i m1).set j m2,h1⟩
 ·exact h1.elim
end
section
variable{X:Cx}{R:St->XK}{e e2 o:Expr}{es:List Expr}{t:DA}{to ta tb:DE}{a b:Expr}{p pos apos bY:Pos}
def Ee(hm:X.mg "abs"=none)(ha:JA X R [e] t)(he:starEach [e] X.env=(false,eval e X.env)::starEach [] X.env:=by rfl)(fE:(backTo pos (starEach [] X.env)).any (·.1)=false:=by rfl)(hg:Gl X "abs":=by rfl):JE X R (.Call (.Name "abs" p) [e] [] pos) (D4 Oq t):=
 iX JH V7 hm E6 ha hg @_ @_ he fE
def Sv(hm:X.mg "min"=none)(ha:JA X R [e,e2] t)(hc:X.calm=true:=by rfl)(he:starEach [e,e2] X.env=(false,eval e X.env)::starEach [e2] X.env:=by rfl)(fE:(backTo pos (starEach [e2] X.env)).any (·.1)=false:=by rfl)(hg:Gl X "min":=by rfl):JE X R (.Call (.Name "min" p) [e,e2] [] pos) (D4 Hx t):=
 iX (ES hc) YF hm EG ha hg @_ @_ he fE
def NB(hm:X.mg "any"=none)(ha:JA X R [e] t)(hc:X.calm=true:=by rfl)(he:starEach [e] X.env=(false,eval e X.env)::starEach [] X.env:=by rfl)(fE:(backTo pos (starEach [] X.env)).any (·.1)=false:=by rfl)(hg:Gl X "any":=by rfl):JE X R (.Call (.Name "any" p) [e] [] pos) (D4 OP t):=
 iX (Ha hc) VC hm E9 ha hg @_ @_ he fE
def SA(hm:X.mg "int"=none)(ha:JA X R [e] t)(he:starEach [e] X.env=(false,eval e X.env)::starEach [] X.env:=by rfl)(fE:(backTo pos (starEach [] X.env)).any (·.1)=false:=by rfl)(hg:Gl X "int":=by rfl):JE X R (.Call (.Name "int" p) [e] [] pos) (D4 Pd t):=
 qL (FO.or xB) YE hm FP ha hg @_ @_ he fE
end
def nO{te:DE}{cs:En}{f:Dt->Dt}{M:Ms}{k:List Dt->Ms->Prop}:∀(xs acc:List Dt),(∀x∈xs,∀q:DQ,q (f x) M->te (some x::cs) M q ki)->k (acc++xs.map f) M->vf te cs xs acc M k
 | [],acc,_,h=>by rw[List.map_nil,aaY]at h;exact h
 | x::xs,acc,ht,h=>ht x List.mem_cons_self _ (nO xs (acc++[f x]) (λy hy=>ht y (List.mem_cons_of_mem _ hy)) (by simpa using h))
def Β{d y:Dt}{xs:List Dt}{i:Int}{M:Ms}{q:DQ}(hs:hZ M d=some xs)(h:iH xs i=some y)(k:q y M):cR d (.int i) M q:=by
 cases d with
 | str z=>cases hs
 | _=>
  unfold cR;simp only[hs,h];exact k
def aF{d:Dt}{xs:List Dt}{M:Ms}{q:DQ}(hs:hZ M d=some xs)(k:q (.int xs.length) M):gH [d] M q:=by
 cases d with
 | str z=>cases hs
 | _=>
  unfold gH;simp only[hs];exact k
def cf{α:Type}{x:α}{xs:List α}:iH (x::xs) 0=some x:=Υ (j:=0) rfl
def Gs(bs:List Bool):(List.range bs.length).all (λi=>bs.getD i false)=bs.all id:=by
 induction bs with
 | nil=>rfl
 | cons b bs ih=>
  rw[aaJ,abC,abS,List.all_map,abS,<-ih];rfl
def Su(K:fI):List V->Hp->VK->Prop:=λxs H Q=>∃(p:Addr) (bs:List Bool),xs=[.ref p]/\gc K H p (bs.map V.bl)/\Q (.bl (bs.all id)) H
section
variable{X:Cx}
def JG (hc : X.calm = true) : dY X (.builtin "all") (Su X.K) :=by
  intro δ s σ H xs us Q I r h;obtain⟨p,bs,rfl,hq,q⟩ :=h;obtain⟨u,rfl,r1⟩ :=kr r;cases r1;obtain⟨its,rv,pl,hz⟩ :=I.list hq;have OT :=wD rv;subst OT;refine call_all_walk (wpAny_pyIter_list pl.isList ?_);have lp : p < s.heap.objs.size :=by obtain⟨o,e,_⟩ :=pl.isList;exact aat e
  refine⟨s.heap.objs.size,_,_,_,_,_,λi =>bs.getD i false,rfl,Walks.list (show X.A.in1.handled = none from I.ok.hd hc) s.heap.objs.size p (aaK lp) (bs.map Value.bool).toArray,⟨⟨_,aaS _ rfl,rfl,rfl⟩,pl.isList.at λo e =>aam _ e⟩,As,λh' tk hk =>?_⟩;refine⟨.bl (bs.all id),H,I.kept λb o e =>hk b o (λz =>by have : b = s.heap.objs.size :=(by simpa using z);exact Nat.lt_irrefl _ (this ▸ Heap.lt_size e)) (Heap.get?_push_of_some _ e),?_,q⟩;rw[aa0,aae,Gs];rfl
end
def Pp:List Dt->Ms->DQ->Prop
 | [.lst xs],M,q=>∃bs:List Bool,xs=bs.map Dt.bl/\q (.bl (bs.all id)) M
 | _,_,_=>False
def XD{K:fI}:Gi K (Su K) Pp:=by
 intro G0 L0 H0 G L M H vs ds q e r n h;unfold Pp at h;split at h
 ·rename_i xs;have⟨bs,rfl,h⟩:=h;have⟨v,rfl,n1⟩:=aW n;have⟨a,ws,rfl,e1,m⟩:=n1;exact⟨a,bs,rfl,by rw[<-nN m];exact .of (r.sub _ _ e1),cy e r h⟩
 ·exact h.elim
def Tv(i j:Nat)(t:DE):DS:=λDn ρ M=>t ρ M (λd M1=>match d with
 | .tup [a,b]=>Dn.nx ((ρ.set i (some a)).set j (some b)) M1
 | _=>False) Dn.x
section
variable{X:Cx}{R:St->XK}{e o:Expr}{es:List Expr}{t:DA}{to te:DE}{p pos apos bY:Pos}
def FQ:bootBuiltins "all"=some (.builtin "all"):=by decide+kernel
def MW(hm:X.mg "all"=none)(ha:JA X R [e] t)(hc:X.calm=true:=by rfl)(he:starEach [e] X.env=(false,eval e X.env)::starEach [] X.env:=by rfl)(fE:(backTo pos (starEach [] X.env)).any (·.1)=false:=by rfl)(hg:Gl X "all":=by rfl):JE X R (.Call (.Name "all" p) [e] [] pos) (D4 Pp t):=
 iX (JG hc) XD hm FQ ha hg @_ @_ he fE
variable{i j k:Nat}{tg:Expr}
def Lr(he:JE X R e te)(hg:PG X tg (E_ X.K 2 (iR (fm i) (iR (fm j) Fo))))(hs:swapsWithSole [tg] e pos.line X.env=pure false:=by rfl)(hw:swappedStores [tg] e X.env=pure none:=by rfl)
  (h1:(assignEach [tg] X.env).map (·.2)=[assign tg X.env]:=by rfl):JS X R (.Assign [tg] e pos) (Tv i j te):=.of (CG he hg hs hw h1) λσ H G L ρ M Dn rl n h hx=>by
 refine⟨G,L,ρ,M,_,_,rl,n,h,hx,λv H1 xz=>?_⟩;have⟨d1,G1,L1,M1,e1,r1,n1,h1⟩:=xz
 (try dsimp only at h1)
 split at h1
 ·rename_i a b;have⟨p,vs,rfl,e,m⟩:=n1;have⟨v1,v2,rfl,m1,m2⟩:=gF m;exact⟨p,_,rfl,.inl (.inl (r1.sub _ _ e)),rfl,v1,_,rfl,v2,_,rfl,rfl,_,G1,L1,M1,e1,r1,((n.mono e1).set i m1).set j m2,h1⟩
 ·exact h1.elim
end
mutual
def Dt.under(n:Nat):Dt->Prop
 | .aY=>True
 | .bl _=>True
 | .int _=>True
 | .str _=>True
 | .tup ds=>Dt.bj n ds
 | .lst ds=>Dt.bj n ds
 | .obj _ _ ds=>Dt.bj n ds
 | .loc k=>k < n
 | .ref _=>True
 | .ty _=>True
 | .hW _=>True
 | .kt ds=>Dt.bj n ds
 | .exc _ _ ds=>Dt.bj n ds
 | .TM _ _ _ _ ds=>Dt.bj n ds
def Dt.bj(n:Nat):List Dt->Prop
 | []=>True
 | d::ds=>Dt.under n d/\Dt.bj n ds
end
def MO.under(n:Nat):MO->Prop
 | .lst ds=>Dt.bj n ds
 | .ins _ _ ds=>Dt.bj n ds
 | .jm _ ds=>Dt.bj n ds
 | .raw _=>True
mutual
inductive Gy(n:Nat)(E:Ms):Dt->Dt->Prop
 | old {d:Dt} (h:d.under n):Gy n E d d
 | tup {ds es:List Dt} (h:fP n E ds es):Gy n E (.tup ds) (.tup es)
 | lst {ds es:List Dt} (h:fP n E ds es):Gy n E (.lst ds) (.lst es)
 | obj {C:Addr} {ns:List Str} {ds es:List Dt} (h:fP n E ds es):Gy n E (.obj C ns ds) (.obj C ns es)
 | yu {k:Nat} {ds es:List Dt} (hk:n<=k) (e:E[k - n]? =some (.lst ds)) (h:fP n E ds es):Gy n E (.loc k) (.lst es)
 | QX {k:Nat} {C:Addr} {ns:List Str} {ds es:List Dt} (hk:n<=k) (e:E[k - n]? =some (.ins C ns ds)) (h:fP n E ds es):Gy n E (.loc k) (.obj C ns es)
inductive fP(n:Nat)(E:Ms):List Dt->List Dt->Prop
 | nil:fP n E [] []
 | cons {d e:Dt} {ds es:List Dt} (h:Gy n E d e) (t:fP n E ds es):fP n E (d::ds) (e::es)
end
def fP.length{n:Nat}{E:Ms}:∀{ds es:List Dt},fP n E ds es->ds.length=es.length
 | [],es,h=>by cases h;rfl
 | d::ds,es,h=>by
  cases h with
  | cons h t=>rw[aaJ,aaJ,fP.length t]
def fP.old{n:Nat}{E:Ms}:∀{ds:List Dt},Dt.bj n ds->fP n E ds ds
 | [],_=>.nil
 | _::_,h=>.cons (.old h.1) (fP.old h.2)
section
variable{K:fI}{G G':Hp}{L0 t:List Addr}{n:Nat}
mutual
def u6(hn:L0.length=n)(g:dU G G'):∀(d:Dt) (v:V),d.under n->Den K G (L0++t) d v->Den K G' L0 d v
 | .aY,_,_,h=>h
 | .bl _,_,_,h=>h
 | .int _,_,_,h=>h
 | .str _,_,_,h=>h
 | .tup ds,_,u,⟨a,vs,e,h1,h2⟩=>⟨a,vs,e,g _ _ h1,bQ hn g ds vs u h2⟩
 | .lst ds,_,u,⟨a,vs,e,h1,h2⟩=>⟨a,vs,e,g _ _ h1,bQ hn g ds vs u h2⟩
 | .obj C ns ds,_,u,⟨a,dx,vs,e,h1,hl,h2⟩=>⟨a,dx,vs,e,g _ _ h1,hl,bQ hn g ds vs u h2⟩
 | .loc k,_,u,⟨a,e,h1⟩=>⟨a,e,by
   have u:k < n:=u
   rwa[aas (by rw[hn];exact u)]at h1⟩
 | .ref _,_,_,h=>h
 | .ty _,_,_,h=>h
 | .hW _,_,_,⟨a,e,h1⟩=>⟨a,e,g.seq h1⟩
 | .kt ds,_,u,⟨a,vs,e,h1,h2⟩=>⟨a,vs,e,g.Rt h1,bQ hn g ds vs u h2⟩
 | .exc _ _ ds,_,u,⟨a,od,vs,e,h1,h2,h3,h4⟩=>⟨a,od,vs,e,g _ _ h1,h2.imp (λz=>z) (λ⟨dx,z1,z2⟩=>⟨dx,z1,g _ _ z2⟩),h3,bQ hn g ds vs u h4⟩
 | .TM _ _ _ _ ds,_,u,⟨vs,e,h2,h3,h4⟩=>⟨vs,e,h2.imp (λz=>z) (λ⟨dx,z1,z2⟩=>⟨dx,z1,g _ _ z2⟩),h3,bQ hn g ds vs u h4⟩
def bQ(hn:L0.length=n)(g:dU G G'):∀(ds:List Dt) (vs:List V),Dt.bj n ds->Τ K G (L0++t) ds vs->Τ K G' L0 ds vs
 | [],_,_,h=>h
 | d::ds,_,u,⟨v,r,e,h1,h2⟩=>⟨v,r,e,u6 hn g d v u.1 h1,bQ hn g ds r u.2 h2⟩
end
def E7{H:Hp}{a:Addr}(hn:L0.length=n)(g:dU G G'){m:MO}(u:m.under n)(h:GG K G (L0++t) H a m):GG K G' L0 H a m:=by
 cases m with
 | lst ds=>have⟨vs,e,h⟩:=h;exact⟨vs,e,bQ hn g _ _ u h⟩
 | ins C ns ds=>have⟨dx,vs,e,hl,h⟩:=h;exact⟨dx,vs,e,hl,bQ hn g _ _ u h⟩
 | jm ks ds=>have⟨vs,e,hl,h⟩:=h;exact⟨vs,e,hl,bQ hn g _ _ u h⟩
 | raw u=>exact h
end
open Classical in
noncomputable def p9(G H:Hp)(t:List Addr):Hp:=λb=>if b∈t then H b else G b
def DV{G H:Hp}{t:List Addr}{b:Addr}(h:b∈t):p9 G H t b=H b:=by unfold p9;rw[if_pos h]
def mP{G H:Hp}{t:List Addr}{b:Addr}(h:b∉t):p9 G H t b=G b:=by unfold p9;rw[if_neg h]
section
variable{K:fI}{G:Hp}{L0 t:List Addr}{M0 E:Ms}{H:Hp}
def iC(r:Rl K G (L0++t) (M0++E) H):dU G (p9 G H t):=λb u e=>by
 by_cases hb:b∈t
 ·have⟨_,_,_,_,g,_⟩:=r.vT (a:=b) (aaA _ hb);rw[g]at e;cases e
 ·rw[mP hb];exact e
def GK(r:Rl K G (L0++t) (M0++E) H)(hn:L0.length=M0.length){k:Nat}{a:Addr}{m:MO}(hk:M0.length<=k)(e:(L0++t)[k]? =some a)(em:E[k - M0.length]? =some m):p9 G H t a=H a/\GG K G (L0++t) H a m:=by
 have e2:(M0++E)[k]? =some m:=by rw[aax hk];exact em
 have⟨_,q⟩:=r.fZ k a m e e2;rw[aax (by rw[hn];exact hk)]at e;exact⟨DV (aai e),q⟩
def Mb(r:Rl K G (L0++t) (M0++E) H)(hn:L0.length=M0.length){d d':Dt}(f:Gy M0.length E d d'):∀v,Den K G (L0++t) d v->Den K (p9 G H t) L0 d' v:=by
 refine Gy.rec (motive_1:=λd d' _=>∀v,Den K G (L0++t) d v->Den K (p9 G H t) L0 d' v) (motive_2:=λds es _=>∀vs,Τ K G (L0++t) ds vs->Τ K (p9 G H t) L0 es vs) ?_ ?_ ?_ ?_ ?_ ?_ ?_ ?_ f
 ·exactλ{d} u v h=>u6 hn (iC r) d v u h
 ·exactλ{ds es} f ih v ⟨a,vs,e,h1,h2⟩=>⟨a,vs,e,iC r _ _ h1,ih vs h2⟩
 ·exactλ{ds es} f ih v ⟨a,vs,e,h1,h2⟩=>⟨a,vs,e,iC r _ _ h1,ih vs h2⟩
 ·exactλ{C ns ds es} f ih v ⟨a,dx,vs,e,h1,hl,h2⟩=>⟨a,dx,vs,e,iC r _ _ h1,hl.trans f.length,ih vs h2⟩
 ·intro k ds es hk em f ih v ⟨a,e,h1⟩;have⟨o,vs,e1,h2⟩:=GK r hn hk h1 em;exact⟨a,vs,e,o.trans e1,ih vs h2⟩
 ·intro k C ns ds es hk em f ih v ⟨a,e,h1⟩;have⟨o,dx,vs,e1,hl,h2⟩:=GK r hn hk h1 em;exact⟨a,dx,vs,e,o.trans e1,hl.trans f.length,ih vs h2⟩
 ·exactλvs h=>h
 ·exactλ{d e ds es} f t ih1 ih2 vs ⟨v,r,e,h1,h2⟩=>⟨v,r,e,ih1 v h1,ih2 r h2⟩
end
def Wd(n:Nat)(q:DQ):DQ:=λd M=>∃M' E d',M=M'++E/\M'.length=n/\(∀m∈M',MO.under n m)/\Gy n E d d'/\q d' M'
def Fin.C6{K:fI}{G0:Hp}{L0:List Addr}{M0:Ms}{H0:Hp}{q:DQ}{v:V}{H:Hp}(r0:Rl K G0 L0 M0 H0)(f:Fin K G0 L0 H0 (Wd M0.length q) v H):Fin K G0 L0 H0 q v H:=by
 have⟨d,G,L,M,ex,r,dn,M',E,d',rfl,hl,hu,fz,hq⟩:=f;have⟨t,rfl⟩:=ex.l;have hn:L0.length=M'.length:=by rw[hl];exact r0.len
 have ZF:∀b,b∈L0->b∉t:=λb h1 h2=>(ab9.mp r.nd).2.2 b h1 b h2 rfl;have sm:=iC r;refine⟨d',p9 G H t,L0,M',⟨ex.g.trans sm,.refl _,λb h1 h2=>?_,ex.out,λb h=>.inl h,ex.CV⟩,⟨λb u e=>?_,hn,(ab9.mp r.nd).1,λk a m h1 h2=>?_⟩,Mb r hn (hl▸fz) v dn,hq⟩
 ·have hb:b∉t:=λz=>(ex.new b (aaA _ z)).elim (λy=>ZF b y z) h2;rw[mP hb];exact ex.fr b h1 h2
 ·by_cases hb:b∈t
  ·rw[DV hb]at e;exact e
  ·rw[mP hb]at e;exact r.sub b u e
 ·have k1:k < L0.length:=(aaf.mp h1).1;have e1:(L0++t)[k]? =some a:=by rw[aas k1];exact h1
  have e2:(M'++E)[k]? =some m:=by rw[aas (by rw[<-hn];exact k1)];exact h2
  have⟨g,q⟩:=r.fZ k a m e1 e2;exact⟨by rw[mP (ZF a (aai h1))];exact g,E7 (n:=M'.length) hn sm (by rw[hl];exact hu m (aai h2)) q⟩
section
variable{X:Cx}{R:St->XK}{e:Expr}{t:DE}
def gI{st:Stmt}:JS X R st (λ_ _ _=>False):=λ_ _ _ _ _ _ ⟨_,_,_,_,_,_,_,h,_,_⟩=>h.elim
end
def Hb(C:Addr)(m:Str)(sp:Sp)(qa:List V)(R:St->XK)(ta:TE)(t:TA):TE:=λσ H Q=>ta σ H λx H1=>∃a dx fs,x= .ref a/\H1 a=some (.ins C dx fs)/\fs.lookup m=none/\
 t σ H1 λvs H2=>sp (x::(vs++qa)) H2 Q (R σ)
def Od(C:Addr)(sp:Sp)(qa:List V)(R:St->XK)(t:TA):TE:=λσ H Q=>t σ H λvs H1=>∀x dx,H1 x=none->H1 dx=none->dx≠x->
 sp (.ref x::(vs++qa)) (upd (upd H1 dx (.own x)) x (.ins C dx [])) (λv H2=>v= .aY/\Q (.ref x) H2) (R σ)
section
variable{X:Cx}{CX:AA}{k:Nat}{f C:Addr}{fd:FuncData}{ps:List Str}{sp:Sp}{qa:List V}{ds:List Value}{R:St->XK}{x m:Str}{p pos apos:Pos}{e o:Expr}{es:List Expr}{ta:TE}{t:TA}
def JP{pl:Sem Bool}(he:PE X o ta)(c:Fy X.K C)(hm:MK X.K C m f)(F:aw X.prog X.w X.K X.mg X.base CX k f fd ps sp)(hr:cx k X.A)(hb:jr X.K fd ps ds)(hd:ay qa ds)(hx:dN CX X R)(ha:PA X (e::es) t)
  (KZ:starEach (e::es) X.env=(false,eval e X.env)::starEach es X.env:=by rfl) (fE:(backTo pos (starEach es X.env)).any (·.1)=false:=by rfl)
  (ht:eval (.Call (.Attribute o m apos) (e::es) [] pos) X.env=(do
   let ov<-eval o X.env
   standAt apos.atName
   let (f,first)<-holding [ov] (getMethod ov m pl)
   callWith pos f first (backTo pos (starEach (e::es) X.env)) (backToKw pos (keywordEach [] X.env))):=by rfl):
  PE X (.Call (.Attribute o m apos) (e::es) [] pos) (Hb C m sp qa R ta t):=by
 intro δ s σ H Q I h;refine PySem.W.methodCall_KW (pl:=pl) (bA (he δ s σ H _ I h) λu s1 xz=>?_) ht;have⟨x,H1,I1,rx,a,dx,fs,ex,ea,l,q⟩:=xz;subst ex;obtain rfl:u=Value.ref a:=rx;refine sJ I1 ea c hm l ?_;refine PySem.W.callWith_K (first:=[.ref a]) (h₀:=X.base) I.ok.mod.T6 hm.kp (bA (ha pos δ s1 σ H1 _ I1 q) fun us s2 ⟨vs,H2,I2,r,q2⟩=>⟨I2.Dh,?_⟩) KZ fE;exact yh (us:=.ref a::us) (vs:=.ref a::vs) F hr hb hd hx I2 (.cons rfl r) q2
def Gj{pl:Sem Bool}(he:PE X o ta)(c:Fy X.K C)(hm:MK X.K C m f)(F:aw X.prog X.w X.K X.mg X.base CX k f fd ps sp)(hr:cx k X.A)(hb:jr X.K fd ps ds)(hd:ay qa ds)(hx:dN CX X R)
  (ht:eval (.Call (.Attribute o m apos) [] [] pos) X.env=(do
   let ov<-eval o X.env
   standAt apos.atName
   let (f,first)<-holding [ov] (getMethod ov m pl)
   callWith pos f first (backTo pos (starEach [] X.env)) (backToKw pos (keywordEach [] X.env))):=by rfl):
  PE X (.Call (.Attribute o m apos) [] [] pos) (Hb C m sp qa R ta Rh):=by
 intro δ s σ H Q I h;refine PySem.W.methodCall_KW (pl:=pl) (bA (he δ s σ H _ I h) λu s1 xz=>?_) ht;have⟨x,H1,I1,rx,a,dx,fs,ex,ea,l,q⟩:=xz;subst ex;obtain rfl:u=Value.ref a:=rx;refine sJ I1 ea c hm l ?_;exact PySem.W.callWith_K0 (first:=[.ref a]) I1.Dh hm.kp (yh (us:=[.ref a]) (vs:=[.ref a]) F hr hb hd hx I1 (.cons rfl .nil) q)
def EL{δ:List (Addr×Obj)}{σ:St}{H:Hp}{s:Shared}{Q:VK}{us:List Value}{vs:List V}(M:Mk X.K C f)(F:aw X.prog X.w X.K X.mg X.base CX k f fd ps sp)(hr:cx (k+1) X.A)(hb:jr X.K fd ps ds)(hd:ay qa ds)
  (hx:dN CX X R) (I:Inv X δ σ H s) (r:ay vs us)
  (h:∀x dx,H x=none->H dx=none->dx≠x->sp (.ref x::(vs++qa)) (upd (upd H dx (.own x)) x (.ins C dx [])) (λv H2=>v= .aY/\Q (.ref x) H2) (R σ)):
  wpAny (model X.prog X.w) X.A (call (.ref C) us) (EP X δ σ Q) X.xe s:=by
 have hq:=h (s.heap.objs.size+1) s.heap.objs.size (I.aX.fresh (Nat.le_succ _)) (I.aX.fresh (aaj _)) (aaK (abA _));have I2:=Inv.made (C:=C) I;have r2:ay (V.ref (s.heap.objs.size+1)::(vs++qa)) (Value.ref (s.heap.objs.size+1)::(us++ds)):=.cons rfl (r.append hd);have hl:(Value.ref (s.heap.objs.size+1)::us++ds).length=ps.length:=by have e:=r2.length;rw[F.len _ _ _ _ hq]at e;exact e.symm
 refine wpAny_call (IW (f:=f) I.Dh M.makes M.init (ack.mp M.fn) (codeAny_mono (F.run _ X.stack _ _ ⟨Value.ref (s.heap.objs.size+1)::us,[]⟩ (Value.ref (s.heap.objs.size+1)::(us++ds)) _ _ (R σ) (hr.make C us [])
  (I2.Sb.make C us []) (hb _ (Value.ref (s.heap.objs.size+1)::us) I2.Dh hl) r2 hq) λr s' ku=>?_))
 cases r with
 | error e=>exact hx δ σ _ _ e s' I2 ku
 | ok fl=>
  cases fl with
  | ret u=>
   have⟨v,H',I3,rv,ev,q3⟩:=I2.after ku;subst ev;exact⟨rv,⟨V.ref (s.heap.objs.size+1),H',I3,rfl,q3⟩⟩
  | next=>exact False.elim ku
  | brk=>exact False.elim ku
  | cont=>exact False.elim ku
def Hc(M:Mk X.K C f)(F:aw X.prog X.w X.K X.mg X.base CX k f fd ps sp)(hr:cx (k+1) X.A)(hg:Gl X x)(hm:X.mg x=some (.ref C))(hb:jr X.K fd ps ds)(hd:ay qa ds)(hx:dN CX X R)
  (ha:PA X (e::es) t) (Cj:(x==("__debug__":Str))=false:=by decide) (he:starEach (e::es) X.env=(false,eval e X.env)::starEach es X.env:=by rfl) (fE:(backTo pos (starEach es X.env)).any (·.1)=false:=by rfl):
  PE X (.Call (.Name x p) (e::es) [] pos) (Od C sp qa R t):=by
 intro δ s σ H Q I h;refine wpAny_Call_Name_kw (vU I hg hm ?_ Cj);refine PySem.W.callWith_K (h₀:=X.base) I.ok.mod.T6 M.kp (bA (ha pos δ s σ H _ I h) fun us s1 ⟨vs,H1,I1,r,q⟩=>⟨I1.Dh,?_⟩) he fE;exact EL M F hr hb hd hx I1 r q
end
def Mh(C:Addr)(M:Ms)(d:Dt)(ns:List Str)(ds:List Dt):Prop:=d= .obj C ns ds\/∃k,d= .loc k/\M[k]? =some (.ins C ns ds)
section
variable{K:fI}{G:Hp}{L:List Addr}{M:Ms}{H:Hp}{C:Addr}{d:Dt}{v:V}{ns:List Str}{ds:List Dt}
def IU(r:Rl K G L M H)(n:Den K G L d v)(o:Mh C M d ns ds):∃a dx vs,v= .ref a/\H a=some (.ins C dx (ns.zip vs))/\ns.length=ds.length/\Τ K G L ds vs:=by
 rcases o with rfl| ⟨k,rfl,hm⟩
 ·have⟨a,dx,vs,e,h1,hl,h2⟩:=n;exact⟨a,dx,vs,e,r.sub _ _ h1,hl,h2⟩
 ·have⟨a,e,h1⟩:=n;have⟨_,dx,vs,h2,hl,h3⟩:=r.fZ k a _ h1 hm;exact⟨a,dx,vs,e,h2,hl,h3⟩
def yR{f:Str}:∀{ns:List Str} {ds:List Dt} {vs:List V} {d:Dt},Τ K G L ds vs->(ns.zip ds).lookup f=some d->∃v,(ns.zip vs).lookup f=some v/\Den K G L d v
 | [],_,_,_,_,h=>by simp at h
 | _::_,[],_,_,_,h=>by simp at h
 | g::ns,d::ds,_,d',⟨v,r,rfl,h1,h2⟩,h=>by
  rw[abz,abR]at h;rw[abz,abR];cases q:f==g with
  | true=>rw[q]at h;cases h;exact⟨v,rfl,h1⟩
  | false=>rw[q]at h;exact yR h2 h
def qH{f:Str}:∀{ns:List Str} {ds:List Dt} {vs:List V},Τ K G L ds vs->(ns.zip ds).lookup f=none->(ns.zip vs).lookup f=none
 | [],_,_,_,_=>by simp
 | _::_,[],_,h,_=>by have h:_=_:=h;subst h;simp
 | g::ns,d::ds,_,⟨v,r,rfl,h1,h2⟩,h=>by
  rw[abz,abR]at h;rw[abz,abR];cases q:f==g with
  | true=>rw[q]at h;cases h
  | false=>rw[q]at h;exact qH h2 h
def y_{f:Str}{v:V}:∀{ns:List Str} {vs:List V},ns.length=vs.length->f∉ns->jx f v (ns.zip vs)=(ns++[f]).zip (vs++[v])
 | [],[],_,_=>rfl
 | g::ns,x::vs,hl,h=>by have hg:¬g=f:=λz=>h (by rw[z];exact aad);show(if g=f then (g,v)::ns.zip vs else (g,x)::jx f v (ns.zip vs))=(g,x)::(ns++[f]).zip (vs++[v]);rw[if_neg hg,y_ (by simpa using hl) λz=>h (List.mem_cons_of_mem _ z)]
 | [],_::_,hl,_=>by simp at hl
 | _::_,[],hl,_=>by simp at hl
end
def O3(C:Addr)(f:Str)(t:DE):DE:=λρ M q x=>t ρ M (λd M1=>∃ns ds v,Mh C M1 d ns ds/\(ns.zip ds).lookup f=some v/\q v M1) x
def Ny(C:Addr)(m:Str)(T:DF)(to:DE)(ta:DA):DE:=λρ M q x=>to ρ M (λd M1=>(∃ns ds,Mh C M1 d ns ds/\(ns.zip ds).lookup m=none)/\ta ρ M1 (λds M2=>T (d::ds) M2 q (λC fs M'=>x ρ C fs M')) x) x
def RK(C:Addr)(T:DF)(ta:DA):DE:=λρ M q x=>ta ρ M (λds M1=>T (.loc M1.length::ds) (M1++[.ins C [] []]) (λd M2=>d= .aY/\q (.loc M1.length) M2) (λC fs M'=>x ρ C fs M')) x
def M8(C:Addr)(f:Str)(to tv:DE):DS:=λDn ρ M=>tv ρ M (λy M1=>to ρ M1 (λd M2=>∃k ns ds,d= .loc k/\M2[k]? =some (.ins C ns ds)/\f∉ns/\ns.length < 1000/\Dn.nx ρ (M2.set k (.ins C (ns++[f]) (ds++[y])))) Dn.x) Dn.x
structure fG(P:Program)(w:World)(K:fI)(mg:Str->Option Value)(base:Heap)(k:Nat)(C:Addr)(m:Str)(ps:List Str)(T:DF)(f:Addr)(fd:FuncData):Prop where
 ok:aw P w K mg base (cP P w) k f fd ps (dw K T)
 b:jr K fd ps []
 c:Fy K C
 m:MK K C m f
structure Lc(P:Program)(w:World)(K:fI)(mg:Str->Option Value)(base:Heap)(k:Nat)(x:Str)(C:Addr)(ps:List Str)(T:DF)(f:Addr)(fd:FuncData):Prop where
 ok:aw P w K mg base (cP P w) k f fd ps (dw K T)
 b:jr K fd ps []
 k:Mk K C f
 m:mg x=some (.ref C)
section
variable{X:Cx}{R:St->XK}{C:Addr}{f m x:Str}{T:DF}{k k':Nat}{a:Addr}{fd:FuncData}{ps:List Str}{e o value:Expr}{es:List Expr}{pos pos' apos p:Pos}{to te tv:DE}{ta:DA}
def yI(c:Fy X.K C)(n:hX X.K C f)(he:JE X R e te)(hb:attributeBase e f X.env (eval e X.env)=eval e X.env:=by rfl):JE X R (.Attribute e f pos) (O3 C f te):=
 .of (Om he hb) λσ H G L ρ M q x rl en h hx=>by refine⟨G,L,ρ,M,_,x,rl,en,h,hx,λv H1 xz=>?_⟩;have⟨d1,G1,L1,M1,e1,r1,n1,ns,ds,y,ob,hl,h1⟩:=xz;have⟨p,dx,vs,rfl,hp,_,dn⟩:=IU r1 n1 ob;have⟨u,hu,du⟩:=yR dn hl;exact⟨p,C,dx,_,u,rfl,hp,c,n,hu,y,G1,L1,M1,e1,r1,du,h1⟩
def gh{pl:Sem Bool}(D:fG X.prog X.w X.K X.mg X.base k C m ps T a fd)(hr:cx k' X.A)(hx:dN (cP X.prog X.w) X R)(ho:JE X R o to)(ha:JA X R (e::es) ta)(hk:k<=k':=by decide)
  (KZ:starEach (e::es) X.env=(false,eval e X.env)::starEach es X.env:=by rfl) (fE:(backTo pos (starEach es X.env)).any (·.1)=false:=by rfl)
  (ht:eval (.Call (.Attribute o m apos) (e::es) [] pos) X.env=(do
   let ov<-eval o X.env
   standAt apos.atName
   let (f,first)<-holding [ov] (getMethod ov m pl)
   callWith pos f first (backTo pos (starEach (e::es) X.env)) (backToKw pos (keywordEach [] X.env))):=by rfl):
  JE X R (.Call (.Attribute o m apos) (e::es) [] pos) (Ny C m T to ta):=
 .of (JP (pl:=pl) ho D.c D.m D.ok (hr.mono hk) D.b .nil hx ha KZ fE ht) λσ H G L ρ M q x rl en h hx=>by refine⟨G,L,ρ,M,_,x,rl,en,h,hx,λv H1 xz=>?_⟩;have⟨d1,G1,L1,M1,e1,r1,n1,⟨ns,ds,ob,hl⟩,h1⟩:=xz;have⟨p,dx,vs,rfl,hp,_,dn⟩:=IU r1 n1 ob;refine⟨p,dx,_,rfl,hp,qH dn hl,G1,L1,ρ,M1,_,x,r1,en.mono e1,h1,hx.on e1,λus H2 xz=>?_⟩;have⟨zZ,G2,L2,M2,e2,r2,n2,h2⟩:=xz;show dw X.K T (V.ref p::(us++[])) H2 _ _;rw[aaY];have Jk:=e1.trans e2;exact⟨G2,L2,d1::zZ,M2,q,_,r2,⟨_,_,rfl,Den.mono e2.g e2.l _ _ n1,n2⟩,h2,λv H' f=>Fin.back Jk f,λC fs M' G' L' H' od hq e' r' y=>hx σ ρ C fs M' G' L' H' od hq (Jk.trans e') r' (en.mono (Jk.trans e')) y⟩
def gS{pl:Sem Bool}(D:fG X.prog X.w X.K X.mg X.base k C m ps T a fd)(hr:cx k' X.A)(hx:dN (cP X.prog X.w) X R)(ho:JE X R o to)(hk:k<=k':=by decide)
  (ht:eval (.Call (.Attribute o m apos) [] [] pos) X.env=(do
   let ov<-eval o X.env
   standAt apos.atName
   let (f,first)<-holding [ov] (getMethod ov m pl)
   callWith pos f first (backTo pos (starEach [] X.env)) (backToKw pos (keywordEach [] X.env))):=by rfl):
  JE X R (.Call (.Attribute o m apos) [] [] pos) (Ny C m T to Oe):=
 .of (Gj (pl:=pl) ho D.c D.m D.ok (hr.mono hk) D.b .nil hx ht) λσ H G L ρ M q x rl en h hx=>by refine⟨G,L,ρ,M,_,x,rl,en,h,hx,λv H1 xz=>?_⟩;have⟨d1,G1,L1,M1,e1,r1,n1,⟨ns,ds,ob,hl⟩,h1⟩:=xz;have⟨p,dx,vs,rfl,hp,_,dn⟩:=IU r1 n1 ob;refine⟨p,dx,_,rfl,hp,qH dn hl,?_⟩;show dw X.K T (V.ref p::([]++[])) H1 _ _;exact⟨G1,L1,[d1],M1,q,_,r1,⟨_,_,rfl,n1,rfl⟩,h1,λv H' f=>Fin.back e1 f,λC fs M' G' L' H' od hq e' r' y=>hx σ ρ C fs M' G' L' H' od hq (e1.trans e') r' (en.mono (e1.trans e')) y⟩
def Hl(D:Lc X.prog X.w X.K X.mg X.base k x C ps T a fd)(hr:cx k' X.A)(hx:dN (cP X.prog X.w) X R)(ha:JA X R (e::es) ta)(hk:k+1<=k':=by decide)(hg:Gl X x:=by rfl)(Cj:(x==("__debug__":Str))=false:=by decide)
  (he:starEach (e::es) X.env=(false,eval e X.env)::starEach es X.env:=by rfl) (fE:(backTo pos (starEach es X.env)).any (·.1)=false:=by rfl):JE X R (.Call (.Name x p) (e::es) [] pos) (RK C T ta):=
 .of (Hc D.k D.ok (hr.mono hk) hg D.m D.b .nil hx ha Cj he fE) λσ H G L ρ M q x rl en h hx=>by
  refine⟨G,L,ρ,M,_,x,rl,en,h,hx,λvs H1 xz y dx hy ZC mM=>?_⟩;have⟨ds,G1,L1,M1,e1,r1,n1,h1⟩:=xz;show dw X.K T (V.ref y::(vs++[])) _ _ _;rw[aaY];have ra:=r1.KO (o:=.own y) ZC;have ea:=r1.QR (o:=.own y) ZC;have UO:upd H1 dx (HO.own y) y=none:=by rw[Ζ (Ne.symm mM)];exact hy
  have rb:=ra.KD (p:=y) (o:=.ins C dx []) (m:=.ins C [] []) UO ⟨dx,[],ah,rfl,rfl⟩;have eb:=ra.Uo (p:=y) (o:=.ins C dx []) UO;have e2:=ea.trans eb;have Jk:=e1.trans e2;refine⟨_,_,.loc M1.length::ds,_,_,_,rb,⟨_,_,rfl,⟨y,rfl,?_⟩,Τ.mono e2.g e2.l _ _ n1⟩,h1,fun v H' ⟨d,G',L',M',e',r',dn,hd,hq⟩=>?_,λC fs M' G' L' H' od hq e' r' z=>hx σ ρ C fs M' G' L' H' od hq (Jk.trans e') r' (en.mono (Jk.trans e')) z⟩
  ·rw[<-r1.len,List.getElem?_append_right (Nat.le_refl _)];simp
  ·subst hd;refine⟨dn,.loc M1.length,G',L',M',Jk.trans e',r',⟨y,rfl,e'.l.get ?_⟩,hq⟩;rw[<-r1.len,List.getElem?_append_right (Nat.le_refl _)];simp
def C_(c:Fy X.K C)(n:hX X.K C f)(ho:JE X R o to)(hv:JE X R value tv)(hs:swapsWith value (some (.Attribute o f pos')) pos.line X.env=pure false:=by rfl):JS X R (.Assign [.Attribute o f pos'] value pos) (M8 C f to tv):=
 .of (Pb ho hv hs) λσ H G L ρ M Dn rl en h hx=>by refine⟨G,L,ρ,M,_,_,rl,en,h,hx,λy H1 xz=>?_⟩;have⟨dy,G1,L1,M1,e1,r1,n1,h1⟩:=xz;refine⟨G1,L1,ρ,M1,_,_,r1,en.mono e1,h1,hx.on e1,λu H2 xz=>?_⟩;have⟨du,G2,L2,M2,e2,r2,n2,k,ns,ds,ed,hm,hf,hz,h2⟩:=xz;subst ed;have⟨p,rfl,hp⟩:=n2;have⟨_,dx,vs,hH,hl,dn⟩:=r2.fZ k p _ hp hm;have ZE:ns.length=vs.length:=hl.trans dn.length;refine⟨p,C,dx,_,rfl,hH,c,n,by rw[abV,<-ZE,Nat.min_self];exact hz,?_⟩;rw[y_ ZE hf];exact⟨ρ,G2,L2,_,(e1.trans e2).trans (r2.Es hp),r2.setM (m:=.ins C (ns++[f]) (ds++[dy])) hp ⟨dx,_,ah,by rw[aah,aah,hl];rfl,dn.app ⟨_,_,rfl,Den.mono e2.g e2.l _ _ n1,rfl⟩⟩,(en.mono (e1.trans e2)).mono (r2.Es (o:=.own p) hp),h2⟩
end
def C7:List Dt->Ms->DQ->Prop
 | [d],M,q=>match hZ M d with
  | some xs=>q (.loc M.length) (M++[.lst xs])
  | none=>False
 | _,_,_=>False
section
variable{K:fI}
def S7:Gi K (λxs H Q=>∃p ys,xs=[V.ref p]/\(gc K H p ys\/mL K H p ys)/\∀l,H l=none->Q (.ref l) (upd H l (.lst ys))) C7:=by
 intro G0 L0 H0 G L M H vs ds q e r n h;unfold C7 at h;split at h
 ·rename_i d;have⟨v,rfl,n1⟩:=aW n;split at h
  ·rename_i xs hs;have⟨a,us,rfl,hq,dn⟩:=qi r n1 hs;exact⟨a,us,rfl,hq,λl hl=>kG e r hl dn h⟩
  ·exact h.elim
 ·exact h.elim
end
section
variable{X:Cx}{R:St->XK}{e o i value:Expr}{t:DA}{to ti tv:DE}{p pos apos bY mO:Pos}
def wL(hm:X.mg "list"=none)(ha:JA X R [e] t)(hg:Gl X "list":=by rfl)(he:starEach [e] X.env=(false,eval e X.env)::starEach [] X.env:=by rfl)(fE:(backTo pos (starEach [] X.env)).any (·.1)=false:=by rfl):JE X R (.Call (.Name "list" p) [e] [] pos) (D4 C7 t):=
 qL wN S7 hm Cn ha hg @_ @_ he fE
def Xd(to:DE)(t:DA):DE:=λρ M q x=>to ρ M (λd M1=>(∃k xs,d= .loc k/\M1[k]? =some (.lst xs))/\t ρ M1 (λds M2=>∃k xs y,d= .loc k/\ds=[y]/\M2[k]? =some (.lst xs)/\xs.length < sizeLine/\q .aY (M2.set k (.lst (xs++[y])))) x) x
def iB(ho:JE X R o to)(ha:JA X R [e] t)(zb:attributeBase o "append" X.env (eval o X.env)=eval o X.env:=by rfl)
  (Jx:((backTo bY (starEach [e] X.env)).all (λx=> !x.1)&&(backToKw bY (keywordEach [] X.env)).all (λx=>x.1.isSome)
   &&decide (([e]:List Expr).length+([]:List Keyword).length+(if ([]:List Keyword).isEmpty then 0 else 1) < 30))=true:=by rfl)
  (yQ:(apos.endLine==bY.line)=true:=by rfl) (hs:starEach [e] X.env=(false,eval e X.env)::starEach [] X.env:=by rfl) (sd:(backTo bY (starEach [] X.env)).any (·.1)=false:=by rfl):
  JE X R (.Call (.Attribute o "append" apos) [e] [] bY) (Xd to t):=
 .of (Nz PySem.F.plainAttrs_list PySem.F.slot_list_append PySem.F.type_list_append (r:=Df) uN ho ha zb Jx yQ hs sd) λσ H G L ρ M q x rl n h hx=>by refine⟨G,L,ρ,M,_,x,rl,n,h,hx,λv H1 xz=>?_⟩;have⟨d1,G1,L1,M1,e1,r1,n1,⟨k,xs,ed,hm⟩,h1⟩:=xz;subst ed;have⟨a,rfl,hk⟩:=n1;have⟨_,vs,hH,_⟩:=r1.fZ k a _ hk hm;refine⟨.inl ⟨rfl,vs,.of hH⟩,G1,L1,ρ,M1,_,x,r1,n.mono e1,h1,hx.on e1,λus H2 xz=>?_⟩;have⟨ds,G2,L2,M2,e2,r2,n2,k',xs',y,ek,ed,Sf,hz,h2⟩:=xz;cases ek;subst ed;have⟨u,rfl,n3⟩:=aW n2;have Gz:=e2.l.get hk;have⟨_,GB,UT,QF⟩:=r2.fZ k a _ Gz Sf;refine⟨a,GB,u,rfl,rfl,UT,by rw[<-QF.length];exact hz,.aY,G2,L2,_,(e1.trans e2).trans (r2.Es Gz),r2.setM (m:=.lst (xs'++[y])) Gz ⟨_,ah,QF.app ⟨_,_,rfl,n3,rfl⟩⟩,rfl,h2⟩
def xS(to ti tv:DE):DS:=λDn ρ M=>tv ρ M (λy M1=>to ρ M1 (λd M2=>ti ρ M2 (λdi M3=>∃k i xs j,d= .loc k/\di= .int i/\M3[k]? =some (.lst xs)/\GC xs.length i=some j/\Dn.nx ρ (M3.set k (.lst (xs.set j y)))) Dn.x) Dn.x) Dn.x
def jN(ho:JE X R o to)(hi:JE X R i ti)(hv:JE X R value tv)(hs:swapsWithSole [.Subscript o i mO] value pos.line X.env=pure false:=by rfl)(hw:swappedStores [.Subscript o i mO] value X.env=pure none:=by rfl)
  (h1:(assignEach [.Subscript o i mO] X.env).map (·.2)=[assign (.Subscript o i mO) X.env]:=by rfl)
  (ha:∀v,assign (.Subscript o i mO) X.env v=(do
   let ov<-holding [v] (eval o X.env)
   let iv<-holding [v,ov] (eval i X.env)
   standAt mO
   holding [v,ov,iv] (setItem ov iv v)
   release [v,ov,iv] []):=by intro _;rfl):JS X R (.Assign [.Subscript o i mO] value pos) (xS to ti tv):=
 .of (CG hv (OQ (t:=NG) ho hi Ay ha) hs hw h1) λσ H G L ρ M Dn rl n h hx=>by refine⟨G,L,ρ,M,_,_,rl,n,h,hx,λv H1 xz=>?_⟩;have⟨dv,G1,L1,M1,e1,r1,n1,h1⟩:=xz;refine⟨G1,L1,ρ,M1,_,_,r1,n.mono e1,h1,hx.on e1,λov H2 xz=>?_⟩;have⟨d,G2,L2,M2,e2,r2,n2,h2⟩:=xz;refine⟨G2,L2,ρ,M2,_,_,r2,(n.mono e1).mono e2,h2,(hx.on e1).on e2,λiv H3 xz=>?_⟩;have⟨di,G3,L3,M3,e3,r3,n3,k,i,xs,j,ed,ei,hm,hj,h3⟩:=xz;subst ed ei;have⟨a,rfl,hk⟩:=n2;have n3:iv= .int i:=n3;subst n3;have vx:=e3.l.get hk;have⟨_,vs,hH,dn⟩:=r3.fZ k a _ vx hm;have KQ:=e2.trans e3;have UJ:=Den.mono KQ.g KQ.l _ _ n1;refine⟨a,vs,i,j,rfl,rfl,hH,by rw[<-dn.length];exact hj,ρ,G3,L3,_,((e1.trans e2).trans e3).trans (r3.Es vx),r3.setM (m:=.lst (xs.set j dv)) vx ⟨_,ah,.of (xJ UJ j dn.pair)⟩,(((n.mono e1).mono e2).mono e3).mono (r3.Es (o:=.own a) vx),h3⟩
end
structure Src(K:fI)(a:Addr)(xs:List Dt)(ok:Ms->Prop)(G0:Hp)(L0:List Addr):Prop where
 at_:∀G L M H,dU G0 G->Pre L0 L->Rl K G L M H->ok M->∃vs,gc K H a vs/\Τ K G L xs vs
def iz(M:Ms):Dt->Option (List Dt×(Ms->Prop))
 | .lst xs=>some (xs,λ_=>True)
 | .hW ns=>some (ns.map .int,λ_=>True)
 | .loc k=>match M[k]? with
  | some (.lst xs)=>some (xs,λM'=>M'[k]? =some (.lst xs))
  | _=>none
 | _=>none
def sR{K:fI}{G:Hp}{L:List Addr}{M:Ms}{H:Hp}{d:Dt}{v:V}{xs:List Dt}{ok:Ms->Prop}(r:Rl K G L M H)(n:Den K G L d v)(h:iz M d=some (xs,ok)):∃a vs,v= .ref a/\gc K H a vs/\Src K a xs ok G L/\ok M:=by
 cases d with
 | lst ds=>
  cases h;have⟨a,vs,rfl,e,m⟩:=n;exact⟨a,vs,rfl,.of (r.sub _ _ e),⟨λG' L' M' H' g l r' _=>⟨vs,.of (r'.sub _ _ (g _ _ e)),Τ.mono g l _ _ m⟩⟩,trivial⟩
 | hW ns=>
  cases h;have⟨a,rfl,e⟩:=n;exact⟨a,_,rfl,r.sub.seq e,⟨λG' L' M' H' g l r' _=>⟨_,r'.sub.seq (g.seq e),iL⟩⟩,trivial⟩
 | loc k=>
  have⟨a,rfl,e⟩:=n;have h:(match M[k]? with| some (.lst xs)=>some (xs,λM':Ms=>M'[k]? =some (.lst xs))| _=>none)=some (xs,ok):=h;split at h
  ·rename_i ys hm;cases h;have⟨_,vs,e1,m1⟩:=r.fZ k a _ e hm;refine⟨a,vs,rfl,.of e1,⟨λG' L' M' H' g l r' hk=>?_⟩,hm⟩;have⟨_,GB,e2,m2⟩:=r'.fZ k a _ (l.get e) hk;exact⟨GB,.of e2,m2⟩
  ·cases h
 | _=>cases h
def HH{K:fI}{G:Hp}{L:List Addr}{a:Addr}{xs:List Dt}{ok:Ms->Prop}(s:Src K a xs ok G L):Pq K (U6 K a) xs ok G L where
 go:=λi G1 L1 M1 H1 d g l r k e=>by
  have⟨vs,hs,n⟩:=s.at_ G1 L1 M1 H1 g l r k;have⟨v,e1,n1⟩:=n.get e
  exact⟨⟨vs,v,hs,e1⟩,fun v' H' ⟨eH,y⟩=>by
   subst eH;have e2:=y vs hs;rw[e1]at e2;cases e2
   exact⟨G1,.refl _ _ _,r,n1⟩⟩
 stop:=λi G1 L1 M1 H1 g l r k e=>by have⟨vs,hs,n⟩:=s.at_ G1 L1 M1 H1 g l r k;exact⟨vs,hs,by rw[<-n.length];exact e⟩
def j1(M:Ms):Dt->Option (List Dt×(Ms->Prop))
 | .loc k=>iz M (.loc k)
 | d=>(SW M d).map λxs=>(xs,λ_=>True)
def eS(t:DE):DK:=λρ M q x=>t ρ M (λd M1=>match j1 M1 d with
 | some (xs,ok)=>q xs ok M1
 | none=>False) x
def aR{X:Cx}{R:St->XK}{tg e:Expr}{te:DE}(h:JE X R e te):JK X R tg e (eS te):=by
 intro δ s σ H Q I ⟨G,L,ρ,M,q,x,rl,n,ht,hx,hQ⟩;refine bA (h δ s σ H (Fin X.K G L H _) I ⟨G,L,ρ,M,_,x,rl,n,ht,hx,λ_ _ f=>f⟩) λu s1 xz=>?_;have⟨v,H1,I1,rv,d,G1,L1,M1,e1,r1,n1,h1⟩:=xz
 (try dsimp only at h1)
 cases hi:j1 M1 d with
 | none=>rw[hi]at h1;exact h1.elim
 | some p=>
  have⟨xs,ok⟩:=p;rw[hi]at h1;have fin:∀J,Pq X.K J xs ok G1 L1->Q J H1:=λJ y=>hQ J H1 ⟨xs,ok,G1,L1,M1,e1,r1,y,h1⟩;have up:∀{J},ok=(λ_=>True)->Yl X.K J xs G1 L1->Pq X.K J xs ok G1 L1:=λeo y=>by subst eo;exact⟨λi G L M H d g l r _ e=>y.go i G L M H d g l r e,λi G L M H g l r _ e=>y.stop i G L M H g l r e⟩
  cases d with
  | loc k=>
   have⟨a,vs,rfl,hs,sr,_⟩:=sR r1 n1 hi;cases rv;exact xQ I1 hs (fin _ (HH sr))
  | lst ds=>
   cases hi;have⟨a,vs,rfl,e,m⟩:=n1;cases rv;exact xQ I1 (vs:=vs) (.of (r1.sub _ _ e)) (fin _ (up rfl (Ds (λG' g=>.of (g _ _ e)) m)))
  | hW ns=>
   cases hi;have⟨a,rfl,e⟩:=n1;cases rv;exact xQ I1 (r1.sub.seq e) (fin _ (up rfl (Ds (λG' g=>g.seq e) iL)))
  | tup ds=>
   cases hi;have⟨a,vs,rfl,e,m⟩:=n1;cases rv;exact J0 I1 (vs:=vs) (.of (r1.sub _ _ e)) (fin _ (up rfl (GJ (λG' g=>.of (g _ _ e)) m)))
  | kt ds=>
   cases hi;have⟨a,vs,rfl,e,m⟩:=n1;cases rv;exact J0 I1 (r1.sub.Rt e) (fin _ (up rfl (GJ (λG' g=>g.Rt e) m)))
  | str z=>
   cases hi;cases n1;have⟨t,rfl⟩:=rv;exact OU I1 (fin _ (up rfl Qj))
  | _=>cases hi
def wd(g:Dt->En->(En->Prop)->Prop)(tb:DS)(Dn:lh)(ok:Ms->Prop):List Dt->En->Ms->Prop
 | [],ρ,M=>ok M/\Dn.nx ρ M
 | x::xs,ρ,M=>ok M/\g x ρ λρ'=>tb {Dn with nx:=wd g tb Dn ok xs,ct:=wd g tb Dn ok xs,bk:=Dn.nx} ρ' M
def nI(ti:DK)(g:Dt->En->(En->Prop)->Prop)(tb:DS):DS:=λDn ρ M=>ti ρ M (λxs ok M1=>wd g tb Dn ok xs ρ M1) Dn.x
section
variable{X:Cx}{R:St->XK}{tg iter:Expr}{body:List Stmt}{ti:DK}{gg:TG}{g:Dt->En->(En->Prop)->Prop}{tb:DS}{pos:Pos}
def b6(hi:JK X R tg iter ti)(hg:PG X tg gg)(gd:GD X.K gg g)(hb:CW X R body tb)(hp:PassesOwn (model X.prog X.w) X.A X.env X.xe:=by first| exact PassesOwn.never| exact PassesOwn.leaving)(hc:X.calm=true:=by rfl)(hs:∀x,foldedSetIterable iter X.env x=pure x:=by intro _;rfl):
  JS X R (.For tg iter body [] pos) (nI ti g tb):=.of (A3 hp hc hi hg hb hs) λσ H G L ρ M Dn rl n h hx=>by
 refine⟨G,L,ρ,M,_,_,rl,n,h,hx,λJ H1 xz=>?_⟩;have⟨xs,ok,G1,L1,M1,e1,r1,y,h1⟩:=xz;refine⟨λi m σ' H'=>m+i=xs.length/\eR X.K G1 L1 H1 (λρ' M'=>wd g tb Dn ok (xs.drop i) ρ' M') σ' H',⟨xs.length,rfl,ρ,G1,L1,M1,.refl _ _ _,r1,n.mono e1,by rw[acx];exact h1⟩,?_⟩;rintro i m σ' H' ⟨hm,ρ',G',L',M',e',r',n',h'⟩;by_cases hi:i < xs.length
 ·right;have hd:xs[i]? =some xs[i]:=aaa hi;rw[abr hi]at h';have⟨aX,h'⟩:=h';have⟨go,yl⟩:=y.go i G' L' M' H' _ e'.g e'.l r' aX hd;refine⟨go,eR X.K G1 L1 H1 (λρ' M'=>wd g tb Dn ok (xs.drop (i+1)) ρ' M'),λσ2 H2 f=>⟨m - 1,(),(),f⟩,λv H2 hy=>?_⟩;have⟨G2,e2,r2,n2⟩:=yl v H2 hy;refine gd G2 L' M' H2 _ v ρ' σ' _ _ r2 n2 (n'.mono e2) h' λρ3 σ3 n3 h3=>?_;refine⟨G2,L',ρ3,M',_,r2,n3,h3,hx.on (e1.trans (e'.trans e2)),⟨λ_ _ f=>eR.back (e'.trans e2) f,λ_ _ f=>Fin.back (e1.trans (e'.trans e2)) f,λ_ _ f=>eR.back (e1.trans (e'.trans e2)) f,λ_ _ f=>eR.back (e'.trans e2) f⟩⟩
 ·left;rw[ab2 ()]at h';exact⟨y.stop i G' L' M' H' e'.g e'.l r' h'.1 (),ρ',G',L',M',e1.trans e',r',n',h'.2⟩
end
def pJ(te:DE)(cs:En)(ok:Ms->Prop):List Dt->List Dt->Ms->(List Dt->Ms->Prop)->Prop
 | [],acc,M,k=>ok M/\k acc M
 | x::xs,acc,M,k=>ok M/\te (some x::cs) M (λd M1=>pJ te cs ok xs (acc++[d]) M1 k) ki
def nQ(ti:DK)(te:DE)(Θ:List Nat):DE:=λρ M q x=>ti ρ M (λxs ok M1=>xs.length<=sizeLine/\pJ te (mX Θ ρ) ok xs [] M1 (λys M2=>q (.lst ys) M2)) x
def qh(ti:DK)(te:DE)(Θ:List Nat):DE:=λρ M q x=>ti ρ M (λxs ok M1=>xs.length<=sizeLine/\pJ te (mX Θ ρ) ok xs [] M1 (λys M2=>q (.loc M2.length) (M2++[.lst ys]))) x
def m8{te:DE}{cs:En}{ok:Ms->Prop}:∀xs,pJ te cs ok xs=g7 (gN 0) tw te (none::cs) ok xs
 | []=>rfl
 | x::xs=>funext λacc=>funext λM=>funext λk=>by show(ok M/\te (some x::cs) M (λd M1=>pJ te cs ok xs (acc++[d]) M1 k) ki)=(ok M/\te (some x::cs) M (λd M1=>g7 (gN 0) tw te (none::cs) ok xs (acc++[d]) M1 k) ki);rw[m8 xs]
section
variable{X:Cx}{R:St->XK}{elt iter:Expr}{x:Str}{px:Pos}{scope:Scope}{pos:Pos}{ti:DK}{te:DE}{ys:List Str}{Θ:List Nat}
def gZ(S:ag X scope [x] ys Θ)(hi:JK X R (.Name x px) iter ti)(he:∀C s H fp,JE (Cx.comp X (x::ys) scope C s H fp) (λ_=>E0) elt te)(hc:X.calm=true:=by rfl)(hs:∀x,foldedSetIterable iter X.env x=pure x:=by intro _;rfl):JE X R (.ListComp elt [⟨.Name x px,iter,[],0⟩] scope pos) (nQ ti te Θ):=Sd false S hi (dH S (i:=0) rfl) aA (c_ (Nat.zero_lt_succ 0)) (λ_ _ _ _=>hJ) he hc hs λρ M q x h=>by unfold nQ at h;simp only[m8]at h;exact h
def HB(S:ag X scope [x] ys Θ)(hi:JK X R (.Name x px) iter ti)(he:∀C s H fp,JE (Cx.comp X (x::ys) scope C s H fp) (λ_=>E0) elt te)(hc:X.calm=true:=by rfl)(hs:∀x,foldedSetIterable iter X.env x=pure x:=by intro _;rfl):JE X R (.ListComp elt [⟨.Name x px,iter,[],0⟩] scope pos) (qh ti te Θ):=Sd true S hi (dH S (i:=0) rfl) aA (c_ (Nat.zero_lt_succ 0)) (λ_ _ _ _=>hJ) he hc hs λρ M q x h=>by unfold qh at h;simp only[m8]at h;exact h
def fD{i:Nat}{y:Str}{py gM:Pos}(hN:X.N.Nodup)(BU:X.N[i]? =some y)(hy:Loc X.env.scope y)(S:ag X scope [x] ys Θ)(hi:JK X R (.Name x px) iter ti)(he:∀C s H fp,JE (Cx.comp X (x::ys) scope C s H fp) (λ_=>E0) elt te)(hc:X.calm=true:=by rfl)(BR:swapsWith (.ListComp elt [⟨.Name x px,iter,[],0⟩] scope pos) (some (.Name y py)) gM.line X.env=pure true:=by rfl)(hs:∀x,foldedSetIterable iter X.env x=pure x:=by intro _;rfl)(hf:X.fn y=true\/X.env.scope.names.lookup y=some .local:=by first| exact .inl rfl| exact .inr rfl| assumption):JS X R (.Assign [.Name y py] (.ListComp elt [⟨.Name x px,iter,[],0⟩] scope pos) gM) (tJ i (nQ ti te Θ)):=Qy false S hi (dH S (i:=0) rfl) aA (c_ (Nat.zero_lt_succ 0)) (λ_ _ _ _=>hJ) he hc hs hN BU hy BR hf λρ M q x h=>by unfold nQ at h;simp only[m8]at h;exact h
def mW{i:Nat}{y:Str}{py gM:Pos}(hN:X.N.Nodup)(BU:X.N[i]? =some y)(hy:Loc X.env.scope y)(S:ag X scope [x] ys Θ)(hi:JK X R (.Name x px) iter ti)(he:∀C s H fp,JE (Cx.comp X (x::ys) scope C s H fp) (λ_=>E0) elt te)(hc:X.calm=true:=by rfl)(BR:swapsWith (.ListComp elt [⟨.Name x px,iter,[],0⟩] scope pos) (some (.Name y py)) gM.line X.env=pure true:=by rfl)(hs:∀x,foldedSetIterable iter X.env x=pure x:=by intro _;rfl)(hf:X.fn y=true\/X.env.scope.names.lookup y=some .local:=by first| exact .inl rfl| exact .inr rfl| assumption):JS X R (.Assign [.Name y py] (.ListComp elt [⟨.Name x px,iter,[],0⟩] scope pos) gM) (tJ i (qh ti te Θ)):=Qy true S hi (dH S (i:=0) rfl) aA (c_ (Nat.zero_lt_succ 0)) (λ_ _ _ _=>hJ) he hc hs hN BU hy BR hf λρ M q x h=>by unfold qh at h;simp only[m8]at h;exact h
end
def uH:∀{ns:List Int} {us:List Value},ay (ns.map V.int) us->∃ts:List (Int×Tok),us=ts.map (λp=>Value.int p.1 p.2)/\ts.map (·.1)=ns
 | [],_,h=>by cases h;exact⟨[],rfl,rfl⟩
 | n::ns,_,h=>by
  cases h with
  | cons r t=>
   have⟨tk,rfl⟩:=r;have⟨ts,rfl,rfl⟩:=uH t;exact⟨(n,tk)::ts,rfl,rfl⟩
def T2(K:fI):List V->Hp->VK->Prop:=λxs H Q=>∃(p:Addr) (ns:List Int),xs=[.ref p]/\gc K H p (ns.map V.int)/\Q (.int ns.sum) H
def JY{X:Cx}(hc:X.calm=true):dY X (.builtin "sum") (T2 X.K):=by
 intro δ s σ H xs us Q I r h;have⟨p,ns,rfl,hq,q⟩:=h;have⟨u,rfl,r1⟩:=kr r;cases r1;have⟨its,rv,pl,hz⟩:=I.list hq;have⟨ts,rfl,rfl⟩:=uH rv;have e:(ts.map λp=>Value.int p.1 p.2).toArray=intItems ts.toArray:=by simp[intItems]
 have hl:=pl.isList;rw[e]at hl;refine sum_intListG (I.ok.hd hc) hl λh' tk t' hk=>?_;refine⟨.int (ts.map (·.1)).sum,H,I.kept hk,⟨t',?_⟩,q⟩;rw[preSum_eq,List.take_of_length_le (by simp)]
def OB:List Dt->Ms->DQ->Prop
 | [d],M,q=>∃ns:List Int,hZ M d=some (ns.map .int)/\(∃xs ok,iz M d=some (xs,ok))/\q (.int ns.sum) M
 | _,_,_=>False
def qC{K:fI}{G:Hp}{L:List Addr}:∀{ns:List Int} {vs:List V},Τ K G L (ns.map Dt.int) vs->vs=ns.map V.int
 | [],_,h=>h
 | _::_,_,⟨v,r,e,h1,h2⟩=>by have h1:v=_:=h1;rw[e,h1,qC h2];rfl
def j3{M:Ms}{d:Dt}{xs:List Dt}{ok:Ms->Prop}(h:iz M d=some (xs,ok)):hZ M d=some xs:=by
 cases d with
 | lst ds=>cases h;rfl
 | hW ns=>cases h;rfl
 | loc k=>
  have h:(match M[k]? with| some (.lst xs)=>some (xs,λM':Ms=>M'[k]? =some (.lst xs))| _=>none)=some (xs,ok):=h;show(match M[k]? with| some (.lst xs)=>some xs| _=>none)=some xs;split at h
  ·rename_i ys hm;cases h;rfl
  ·cases h
 | _=>cases h
def V6{K:fI}:Gi K (T2 K) OB:=by
 intro G0 L0 H0 G L M H vs ds q e r n h;unfold OB at h;split at h
 ·rename_i d;have⟨v,rfl,n1⟩:=aW n;have⟨ns,hs,⟨xs,ok,hl⟩,hq⟩:=h;have⟨a,us,rfl,sq,sr,aX⟩:=sR r n1 hl;rw[j3 hl]at hs;cases hs;have⟨ws,UZ,dn⟩:=sr.at_ G L M H (.refl _) (.refl _) r aX;rw[qC dn]at UZ;exact⟨a,ns,rfl,UZ,.int ns.sum,G,L,M,e,r,rfl,hq⟩
 ·exact h.elim
def FD:bootBuiltins "sum"=some (.builtin "sum"):=by decide+kernel
def Bh:bootBuiltins "enumerate"=some (.type "enumerate"):=by decide+kernel
section
variable{X:Cx}{R:St->XK}{e a b:Expr}{t:DA}{ta tb:DE}{p pos:Pos}
def DZ(hm:X.mg "sum"=none)(ha:JA X R [e] t)(hc:X.calm=true:=by rfl)(hg:Gl X "sum":=by rfl)(he:starEach [e] X.env=(false,eval e X.env)::starEach [] X.env:=by rfl)(fE:(backTo pos (starEach [] X.env)).any (·.1)=false:=by rfl):JE X R (.Call (.Name "sum" p) [e] [] pos) (D4 OB t):=
 iX (JY hc) V6 hm FD ha hg @_ @_ he fE
def Uc:Dt->Dt->Ms->DQ->Prop:=λd e M q=>∃u xs us,vj d=some u/\hZ M e=some xs/\iw xs=some us/\q (.bl (QS u us)) M
def WJ{K:fI}:pS K (ZO K false) Uc:=by intro G0 L0 H0 G L M H v1 v2 d1 d2 q e r n1 n2 ⟨u,xs,us,h1,h2,h3,hq⟩;have⟨rfl,fu⟩:=ni h1 n1;have⟨a,vs,rfl,sq,dn⟩:=qi r n2 h2;have⟨rfl,fs⟩:=gf h3 dn;exact⟨a,vs,rfl,sq,fu,fs,.bl _,G,L,M,e,r,rfl,hq⟩
def BP(ja:JE X R a ta)(jb:JE X R b tb)(hm:behindInMarks .In b=false:=by rfl):JT X R (.Compare a [.In] [b] pos) (mQ (jO Uc ta tb)):=ip Fp WJ ja jb hm
end
def Inv.uy{X:Cx}{δ:List (Addr×Obj)}{σ:St}{H:Hp}{s:Shared}{h':Heap}{its:List Addr}{T:Addr}{o:HO}{t':Nat}(I:Inv X δ σ H s)(k:∀b u,b∉its->s.heap.get? b=some u->h'.get? b=some u)(f:∀b∈its,qy X δ H b)(hT:s.heap.objs.size<=T)(new:da X.prog X.w (upd H T o) h' T o):
  Inv X δ σ (upd H T o) {s with heap:=h',toks:=t'}:=by
 have hn:=I.aX.fresh hT;have RI:∀b u,H b=some u->b∉its:=λb u e z=>by rw[(f b z).1]at e;cases e
 refine I.call (ch:=its) (g':=s.gens) (d':=s.drawn) (t':=t') ⟨λb u q _ _ hb=>k b u hb q,λb u q _ _ hb=>⟨u.slots,k b u hb q⟩,λb u q n _=>?_,λb u q hb=>⟨u,k b u hb q⟩,λb xs q=>?_,λb u xs q=>?_,λb ps q=>⟨#[],?_⟩⟩ (λb u e=>?_) I.bare λb hb=>?_
 ·rw[Ζ (aaK (aaz (aat q) hT))];exact n
 ·rw[Ζ (bU q hn)];exact q
 ·rw[Ζ (bU q hn)];exact q
 ·rw[Ζ (bU q hn),q];simp
 ·by_cases hb:b=T
  ·subst hb;rw[ah]at e;cases e;exact new
  ·rw[Ζ hb]at e;refine(I.aX b u e).Cr (λc v hc q=>k c v ?_ q) (λc q=>by rw[Ζ (bU q hn)];exact q) λc xs q=>by rw[Ζ (bU q hn)];exact q
   rcases hc with z| z
   ·rw[z];exact RI b u e
   ·exact RI c _ z
 ·have⟨f0,f1,f2,f3,f4,f5⟩:=f b hb;exact⟨f3,f1,f4,f5⟩
def ZH(K:fI)(l:Addr):It:=
 ⟨λi H=>∃xs x,gc K H l xs/\xs[i]? =some x,λi H v H'=>∃p x,H p=none/\v= .ref p/\H'=upd H p (.tup [.int i,x])/\∀xs,gc K H l xs->xs[i]? =some x,λi H=>∃xs,gc K H l xs/\xs.length<=i⟩
def FU{P:Program}{w:World}{K:fI}{elts:List Expr}{x1:Nat}{tp:Pos}(l it e:Addr)(mM:e≠it):Turn P w K (.Tuple elts x1 tp) (ZH K l) [e,it] e (λi h=>(∃old,IsEnum h e it i old)/\h.IsListIter it l i) where
 mem:=by simp
 obj:=λi h st b hb=>by
  have⟨⟨old,he⟩,hi⟩:=st;rcases aaD.mp hb with rfl| hb
  ·exact⟨_,he,λv z=>by
    have z':Data.fields _=Data.cell v:=z
    cases z'⟩
  ·have e:b=it:=by simpa using hb
   subst e;have⟨o,e,c,d⟩:=hi;exact⟨o,e,λv z=>by rw[d]at z;cases z⟩
 keep:=λi h h' st k=>by have⟨⟨old,he⟩,hi⟩:=st;exact⟨⟨old,k e (by simp) _ he⟩,hi.at λo q=>k it (by simp) o q⟩
 item:=by
  intro X hP hw hK hc i δ s σ H E I hf st hg;subst hP hw hK;have⟨⟨old,he⟩,hi⟩:=st;have⟨xs,x,hq,hx⟩:=hg;have⟨its,rv,p,hz⟩:=I.list hq;have⟨u,hu,ru⟩:=rv.get hx;refine wpAny_pyNext_enum_item he hi p.isList (x:=u) (by simpa using hu) mM λh' ho Ja hT hsz hk=>?_;refine⟨_,rfl,wpAny_letOwnedTupleGo_enum (s:={s with heap:=h',toks:=s.toks+1}) ho λh2 he2 sb=>?_⟩;have sb:Heap.SameBut e h' h2:=sb;have elt:e < s.heap.objs.size:=aat he;have ilt:it < s.heap.objs.size:=by have⟨o,q,_⟩:=hi;exact aat q
  have neT:s.heap.objs.size≠e:=acz elt;have hT2:h2.get? s.heap.objs.size=some {cls:=.type "tuple",data:=.seq #[.int i s.toks,u]}:=(sb.2 _ neT).trans hT;have I2:Inv X δ σ (upd H s.heap.objs.size (.tup [.int i,x])) {s with heap:=h2,toks:=s.toks+1}:=by
   refine I.uy (its:=[e,it]) (λb o hb q=>?_) hf (aaj _) ?_
   ·have h1:b≠e:=λz=>hb (by simp[z]);have h3:b≠it:=λz=>hb (by simp[z]);exact(sb.2 b h1).trans (hk b o h1 h3 q)
   ·refine⟨by simp[sizeLine_eq],[.int i s.toks,u],.cons ⟨_,rfl⟩ (.cons ru .nil),?_⟩;exact⟨_,hT2,rfl,0,rfl⟩
  have iter:h2.IsListIter it l (i+1):=Ja.at λo q=>(sb.2 it (Ne.symm mM)).trans q;refine⟨.ref s.heap.objs.size,_,I2,rfl,⟨s.heap.objs.size,x,I.aX.fresh (Nat.le_refl _),rfl,rfl,λys hy=>by rw[I.cb hy hq];exact hx⟩,⟨⟨u,by simpa using he2⟩,iter⟩,λb hb=>?_⟩;have nb:b≠s.heap.objs.size:=by
   rcases aaD.mp hb with rfl| hb
   ·exact aaK elt
   ·have:b=it:=by simpa using hb
    subst this;exact aaK ilt
  rw[Ζ nb];exact(hf b hb).1
 done:=by intro X hP hw hK hc i δ s σ H E I hf st hg;subst hP hw hK;have⟨⟨old,he⟩,hi⟩:=st;have⟨xs,hq,hx⟩:=hg;have⟨its,rv,p,hz⟩:=I.list hq;have hl:=rv.length;have⟨f0,f1,f2,f3,f4,f5⟩:=hf it (by simp);refine wpAny_pyNext_enum_end (I.ok.hd hc) he hi p.isList (by simp;omega) λh' ext=>⟨rfl,I.turned (t':=s.toks) (λb o hb q=>ext b o hb q) f0 f1 f3 f4 f5⟩
 self:=λ_ _ _ _ _ st h=>by have⟨⟨old,he⟩,_⟩:=st;exact wpAny_pyIter_enum he h
def gY:Nat->List Dt->List Dt
 | _,[]=>[]
 | n,x::xs=>.tup [.int n,x]::gY (n+1) xs
def fU:∀(n:Nat) (xs:List Dt),(gY n xs).length=xs.length
 | _,[]=>rfl
 | n,_::xs=>by unfold gY;rw[List.length_cons,List.length_cons,fU]
def n8:∀{n i:Nat} {xs:List Dt} {d:Dt},(gY n xs)[i]? =some d->∃x,xs[i]? =some x/\d= .tup [.int ((n+i:Nat):Int),x]
 | n,i,[],d,h=>by simp[gY]at h
 | n,0,x::xs,d,h=>by unfold gY at h;simp at h;exact⟨x,rfl,by rw[<-h];simp⟩
 | n,i+1,x::xs,d,h=>by unfold gY at h;have⟨y,h1,h2⟩:=n8 (n:=n+1) (i:=i) (xs:=xs) (d:=d) (by simpa using h);exact⟨y,by simpa using h1,by rw[h2,show n+1+i=n+(i+1) by omega]⟩
def Ko{K:fI}{G:Hp}{L:List Addr}{a:Addr}{xs:List Dt}{ok:Ms->Prop}(s:Src K a xs ok G L):Pq K (ZH K a) (gY 0 xs) ok G L where
 go:=λi G1 L1 M1 H1 d g l r k e=>by have⟨vs,hs,n⟩:=s.at_ G1 L1 M1 H1 g l r k;have⟨y,ey,rfl⟩:=n8 e;have⟨v,e1,n1⟩:=n.get ey;refine⟨⟨vs,v,hs,e1⟩,λv' H' xz=>?_⟩;have⟨p,x,hp,ev,eH,hx⟩:=xz;subst ev eH;have e2:=hx vs hs;rw[e1]at e2;cases e2;refine⟨_,r.QR hp,r.KO hp,qc (ds:=[.int ((0+i:Nat):Int),y]) r hp ⟨_,_,rfl,?_,_,_,rfl,n1,rfl⟩⟩;show V.int i=V.int _;rw[aa7]
 stop:=λi G1 L1 M1 H1 g l r k e=>by have⟨vs,hs,n⟩:=s.at_ G1 L1 M1 H1 g l r k;exact⟨vs,hs,by rw[<-n.length,<-fU 0];exact e⟩
def SK(t:DA):DK:=λρ M q x=>t ρ M (λds M1=>∃d xs ok,ds=[d]/\iz M1 d=some (xs,ok)/\q (gY 0 xs) ok M1) x
def mU{X:Cx}{R:St->XK}{elts:List Expr}{x1:Nat}{tp:Pos}{a:Expr}{t:DA}{p pos:Pos}(hm:X.mg "enumerate"=none)(ha:JA X R [a] t)(hg:Gl X "enumerate":=by rfl)(hs:starEach [a] X.env=[(false,eval a X.env)]:=by rfl):JK X R (.Tuple elts x1 tp) (.Call (.Name "enumerate" p) [a] [] pos) (SK t):=by
 intro δ s σ H Q I ⟨G,L,ρ,M,q,x,rl,n,ht,hx,hQ⟩;refine Call_ (pd I hg hm Bh (PyProof.Rows.callWith_type1 (bA (ha pos δ s σ H (MM X.K G L H _) I ⟨G,L,ρ,M,_,x,rl,n,ht,hx,λ_ _ f=>f⟩) λus s1 xz=>?_) hs rfl));have⟨vs,H1,I1,rv,ds,G1,L1,M1,e1,r1,n1,d,xs,ok,ed,hl,h1⟩:=xz;subst ed;have⟨v,rfl,n2⟩:=aW n1;have⟨b,ws,rfl,sq,sr,_⟩:=sR r1 n2 hl;have⟨u,rfl,ru⟩:=ay.one rv;cases ru;have⟨its,_,pl,_⟩:=I1.list sq;refine call_enumerate_list pl.isList λh' he hi hz hk=>?_;have I2:Inv X δ σ H1 {s1 with heap:=h'}:=I1.kept (t':=s1.toks) hk;refine wpAny_pyIter_enum (s:={s1 with heap:=h'}) he ⟨s1.heap.objs.size+1,[s1.heap.objs.size+1,s1.heap.objs.size],_,_,H1,rfl,I2,FU b s1.heap.objs.size (s1.heap.objs.size+1) (acz (abA _)),⟨⟨_,he⟩,hi⟩,λc hc=>?_,hQ _ _ ⟨_,ok,G1,L1,M1,e1,r1,Ko sr,h1⟩⟩;have hc:s1.heap.objs.size<=c:=by
  rcases aaD.mp hc with rfl| hc
  ·exact Nat.le_succ _
  ·have:c=s1.heap.objs.size:=by simpa using hc
   rw[this];exact aaj _
 have f:=I1.A2 (H':=H1) hc (I1.aX.fresh hc);exact f
section
variable{X:Cx}{R:St->XK}{e e2:Expr}{t:DA}{p pos:Pos}
def vc:∀{zs:List Str} {us:List Value},Paired (λ(z:Str) (u:Value)=>∃tk,u= .str z tk) zs us->ay (zs.map V.str) us
 | _,_,.nil=>.nil
 | _,_,.cons h t=>.cons h (vc t)
def MX{x:Str}{zs:List Str}(hm:∃a o its n,X.mg x=some (.ref a)/\X.K.lookup a=some o/\o.cls= .type "tuple"/\o.data= .seq its n/\its.size<=sizeLine/\Paired (λ(z:Str) (u:Value)=>∃tk,u= .str z tk) zs its.toList)(hg:Gl X x:=by rfl)(hd:(x==("__debug__":Str))=false:=by decide):JE X R (.Name x pos) (dC (.kt (zs.map .str))):=by have⟨a,o,its,n,h1,h2,h3,h4,h5,h6⟩:=hm;exact QP (v:=.ref a) (Dv hg h1 rfl hd) λG L=>⟨a,zs.map V.str,rfl,.inr ⟨o,its,n,h2,h3,h4,h5,vc h6⟩,uQ⟩
end
def dt{te:DE}{cs:En}{ok:Ms->Prop}{f:Dt->Dt}:∀{xs acc:List Dt} {M:Ms} {k:List Dt->Ms->Prop},ok M->(∀x∈xs,∀q:DQ,q (f x) M->te (some x::cs) M q ki)->k (acc++xs.map f) M->pJ te cs ok xs acc M k
 | [],acc,M,k,ho,_,h=>⟨ho,by simpa using h⟩
 | x::xs,acc,M,k,ho,hf,h=>⟨ho,hf x List.mem_cons_self _ (dt ho (λy hy=>hf y (List.mem_cons_of_mem _ hy)) (by simpa using h))⟩
def aV{g:Dt->En->(En->Prop)->Prop}{tb:DS}{Dn:lh}{ok:Ms->Prop}(J:List Dt->En->Ms->Prop)(aX:∀xs ρ M,J xs ρ M->ok M)
  (step:∀x xs ρ M,J (x::xs) ρ M->(∀ρ M,J xs ρ M->wd g tb Dn ok xs ρ M)->g x ρ λρ'=>tb {Dn with nx:=wd g tb Dn ok xs,ct:=wd g tb Dn ok xs,bk:=Dn.nx} ρ' M)
  (fin:∀ρ M,J [] ρ M->Dn.nx ρ M):∀(xs:List Dt) (ρ:En) (M:Ms),J xs ρ M->wd g tb Dn ok xs ρ M
 | [],ρ,M,h=>⟨aX _ _ _ h,fin _ _ h⟩
 | x::xs,ρ,M,h=>⟨aX _ _ _ h,step x xs ρ M h λρ' M' h'=>aV J aX step fin xs ρ' M' h'⟩
section
variable{K:fI}{G:Hp}{L:List Addr}
mutual
def N1:∀(d:Dt) (v:V),Den K G L d v->d.under L.length
 | .aY,_,_=>trivial
 | .bl _,_,_=>trivial
 | .int _,_,_=>trivial
 | .str _,_,_=>trivial
 | .tup ds,_,⟨a,vs,e,h1,h2⟩=>e_ ds vs h2
 | .lst ds,_,⟨a,vs,e,h1,h2⟩=>e_ ds vs h2
 | .obj C ns ds,_,⟨a,dx,vs,e,h1,hl,h2⟩=>e_ ds vs h2
 | .loc k,_,⟨a,e,h1⟩=>(aaf.mp h1).1
 | .ref _,_,_=>trivial
 | .ty _,_,_=>trivial
 | .hW _,_,_=>trivial
 | .kt ds,_,⟨a,vs,e,h1,h2⟩=>e_ ds vs h2
 | .exc _ _ ds,_,⟨a,od,vs,e,h1,h2,h3,h4⟩=>e_ ds vs h4
 | .TM _ _ _ _ ds,_,⟨vs,e,h2,h3,h4⟩=>e_ ds vs h4
def e_:∀(ds:List Dt) (vs:List V),Τ K G L ds vs->Dt.bj L.length ds
 | [],_,_=>trivial
 | d::ds,_,⟨v,r,e,h1,h2⟩=>⟨N1 d v h1,e_ ds r h2⟩
end
def Rl.un{M:Ms}{H:Hp}(r:Rl K G L M H):∀m∈M,MO.under M.length m:=λm hm=>by
 have⟨k,hk,e⟩:=aba hm;have em:M[k]? =some m:=by rw[aaa hk,e]
 have el:L[k]? =some (L[k]'(by rw[r.len];exact hk)):=aaa _;have⟨_,q⟩:=r.fZ k _ m el em;rw[<-r.len];cases m with
 | lst ds=>have⟨vs,_,h⟩:=q;exact e_ _ _ h
 | ins C ns ds=>have⟨dx,vs,_,_,h⟩:=q;exact e_ _ _ h
 | jm ks ds=>have⟨vs,_,_,h⟩:=q;exact e_ _ _ h
 | raw u=>trivial
end
def pZ(M0:Ms)(q:DQ):DQ:=λd M=>∃E d',M=M0++E/\Gy M0.length E d d'/\q d' M0
def Fin.pZ{K:fI}{G0:Hp}{L0:List Addr}{M0:Ms}{H0:Hp}{q:DQ}{v:V}{H:Hp}(r0:Rl K G0 L0 M0 H0)(f:Fin K G0 L0 H0 (pZ M0 q) v H):Fin K G0 L0 H0 q v H:=by have⟨d,G,L,M,ex,r,dn,E,d',e,fz,hq⟩:=f;exact Fin.C6 r0 ⟨d,G,L,M,ex,r,dn,M0,E,d',e,rfl,r0.un,fz,hq⟩
def SU(t:DE):DE:=λρ M q x=>t ρ M (pZ M q) x
def cK{X:Cx}{R:St->XK}{e:Expr}{t:DE}(h:JE X R e t):JE X R e (SU t):=.of h λσ H G L ρ M q x rl n ht hx=>⟨G,L,ρ,M,_,x,rl,n,ht,hx,λv H1 f=>Fin.pZ rl f⟩
def KY{M0:Ms}{q:DQ}{d:Dt}(hu:d.under M0.length)(h:q d M0):pZ M0 q d M0:=⟨[],d,by simp,.old hu,h⟩
def ie{M0 E:Ms}{q:DQ}{d d':Dt}(f:Gy M0.length E d d')(h:q d' M0):pZ M0 q d (M0++E):=⟨E,d',rfl,f,h⟩
def fS(f:Expr->Option Dt):List Expr->Option (List Dt)
 | []=>some []
 | e::es=>match f e,fS f es with
  | some d,some ds=>some (d::ds)
  | _,_=>none
def gr:Nat->Expr->Option Dt
 | 0,e=>match e with
  | .Constant (.int i) _ _=>some (.int i)
  | .Constant (.str x) _ _=>some (.str x)
  | _=>none
 | n+1,e=>match e with
  | .Constant (.int i) _ _=>some (.int i)
  | .Constant (.str x) _ _=>some (.str x)
  | .Tuple es _ _=>if es.length<=100 then (fS (gr n) es).map .tup else none
  | .List es _=>if es.length<=100 then (fS (gr n) es).map .lst else none
  | _=>none
def Bj{n:Nat}{e:Expr}{d:Dt}{es:List Expr}{env:Env}(h:gr n e=some d):starEach (e::es) env=(false,eval e env)::starEach es env:=by cases n <;> (unfold gr at h;split at h <;> first| rfl| cases h)
def jM{f:Expr->Option Dt}:∀{es:List Expr} {ds:List Dt},fS f es=some ds->ds.length=es.length
 | [],ds,h=>by cases h;rfl
 | e::es,ds,h=>by
  unfold fS at h;split at h
  ·rename_i d Kx h1 h2;cases h;rw[aaJ,aaJ,jM h2]
  ·cases h
section
variable{X:Cx}{R:St->XK}
def r9{n:Nat}(ih:∀(e:Expr) (d:Dt),gr n e=some d->JE X R e (dC d)):∀(es:List Expr) (ds:List Dt),fS (gr n) es=some ds->JA X R es (λ_ M q _=>q ds M)
 | [],ds,h=>by cases h;exact η
 | e::es,ds,h=>by
  unfold fS at h;split at h
  ·rename_i d Kx h1 h2;cases h;exact ι (ih e d h1) (r9 ih es Kx h2) (hs:=Bj h1)
  ·cases h
def Eb{n:Nat}(h:n<=100):n<=sizeLine:=aaw h @_
def JE.imp{e:Expr}{t t':DE}(h:JE X R e t)(hi:∀ρ M q x,t' ρ M q x->t ρ M q x):JE X R e t':=.of h λσ H G L ρ M q x rl n ht hx=>⟨G,L,ρ,M,q,x,rl,n,hi _ _ _ _ ht,hx,λ_ _ f=>f⟩
def fh:∀(n:Nat) {e:Expr} {d:Dt},gr n e=some d->JE X R e (dC d)
 | 0,e,d,h=>by
  unfold gr at h;split at h
  ·cases h;exact ο
  ·cases h;exact eY
  ·cases h
 | n +1,e,d,h=>by
  unfold gr at h;split at h
  ·cases h;exact ο
  ·cases h;exact eY
  ·split at h
   ·rename_i es _ _ hl;cases hc:fS (gr n) es with
    | none=>rw[hc]at h;cases h
    | some ds=>
     rw[hc]at h;cases h;exact(cY (r9 (λe d=>fh n) es ds hc)).imp λρ M q x hq=>⟨Eb (by rw[jM hc];exact hl),hq⟩
   ·cases h
  ·split at h
   ·rename_i es _ hl;cases hc:fS (gr n) es with
    | none=>rw[hc]at h;cases h
    | some ds=>
     rw[hc]at h;cases h;exact(nc (r9 (λe d=>fh n) es ds hc)).imp λρ M q x hq=>⟨Eb (by rw[jM hc];exact hl),hq⟩
   ·cases h
  ·cases h
end
def E5:bootBuiltins "zip"=some (.type "zip"):=by decide+kernel
def Inv.KU{X:Cx}{δ:List (Addr×Obj)}{σ:St}{H:Hp}{s:Shared}{h':Heap}{its:List Addr}{t':Nat}(I:Inv X δ σ H s)(k:∀b u,b∉its->s.heap.get? b=some u->h'.get? b=some u)(f:∀b∈its,qy X δ H b):
  Inv X δ σ H {s with heap:=h',toks:=t'}:=by
 have RI:∀b u,H b=some u->b∉its:=λb u e z=>by rw[(f b z).1]at e;cases e
 refine I.call (ch:=its) (g':=s.gens) (d':=s.drawn) (t':=t') ⟨λb u q _ _ hb=>k b u hb q,λb u q _ _ hb=>⟨u.slots,k b u hb q⟩,λb u q n _=>n,λb u q hb=>⟨u,k b u hb q⟩,λb xs q=>q,λb u xs q=>q,λb ps q=>⟨#[],by rw[q];simp⟩⟩ (λb u e=>?_) I.bare λb hb=>?_
 ·refine(I.aX b u e).Cr (λc v hc q=>k c v ?_ q) (λc q=>q) λc xs q=>q;rcases hc with z| z
  ·rw[z];exact RI b u e
  ·exact RI c _ z
 ·have⟨f0,f1,f2,f3,f4,f5⟩:=f b hb;exact⟨f3,f1,f4,f5⟩
def ZY(K:fI)(l1 l2:Addr):It:=
 ⟨λi H=>∃xs ys x y,gc K H l1 xs/\gc K H l2 ys/\xs[i]? =some x/\ys[i]? =some y,
  λi H v H'=>∃p x y,H p=none/\v= .ref p/\H'=upd H p (.tup [x,y])/\(∀xs,gc K H l1 xs->xs[i]? =some x)/\∀ys,gc K H l2 ys->ys[i]? =some y,
  λi H=>∃xs ys,gc K H l1 xs/\gc K H l2 ys/\(xs.length<=i\/ys.length<=i)⟩
def Jy{P:Program}{w:World}{K:fI}{elts:List Expr}{x1:Nat}{tp:Pos}{l1 l2 i1 i2 TI TO z:Addr}(D:ZipApart z TI TO i1 i2 l1 l2):Turn P w K (.Tuple elts x1 tp) (ZY K l1 l2) [z,TI,TO,i1,i2] z (λi h=>(∃a b,IsZip h z TI TO .none/\IsPair h TI (.ref i1) (.ref i2)/\IsPair h TO a b)/\h.IsListIter i1 l1 i/\h.IsListIter i2 l2 i) where
 mem:=by simp
 obj:=λi h st b hb=>by
  have⟨⟨a,c,hz,J',KA⟩,h1,h2⟩:=st;simp only[List.mem_cons,List.not_mem_nil,or_false]at hb;rcases hb with rfl| rfl| rfl| rfl| rfl
  ·exact⟨_,hz,λv z=>by
    have z':Data.fields _=Data.cell v:=z
    cases z'⟩
  ·exact⟨_,J',λv z=>by
    have z':Data.seq _=Data.cell v:=z
    cases z'⟩
  ·exact⟨_,KA,λv z=>by
    have z':Data.seq _=Data.cell v:=z
    cases z'⟩
  ·have⟨o,e,c,d⟩:=h1;exact⟨o,e,λv z=>by rw[d]at z;cases z⟩
  ·have⟨o,e,c,d⟩:=h2;exact⟨o,e,λv z=>by rw[d]at z;cases z⟩
 keep:=λi h h' st k=>by have⟨⟨a,c,hz,J',KA⟩,h1,h2⟩:=st;exact⟨⟨a,c,k z (by simp) _ hz,k TI (by simp) _ J',k TO (by simp) _ KA⟩,h1.at λo q=>k i1 (by simp) o q,h2.at λo q=>k i2 (by simp) o q⟩
 item:=by
  intro X hP hw hK hc i δ s σ H E I hf st hg;subst hP hw hK;have⟨⟨a,c,hz,J',KA⟩,h1,h2⟩:=st;have⟨xs,ys,x,y,Q5,QD,hx,hy⟩:=hg;have⟨Yz,Xc,p1,_⟩:=I.list Q5;have⟨u1,hu1,ru1⟩:=Xc.get hx;have⟨Jc,Vn,p2,_⟩:=I.list QD;have⟨u2,hu2,ru2⟩:=Vn.get hy;refine wpAny_pyNext_zip_item D hz J' KA h1 h2 p1.isList p2.isList (x:=u1) (y:=u2) (by simpa using hu1) (by simpa using hu2) λh' Ur Vj nu Mn hT hsz hk=>?_;refine⟨_,rfl,wpAny_letOwnedTupleGo_zip (s:={s with heap:=h'}) Ur λh3 hz3 sb=>?_⟩;have sb:Heap.SameBut z h' h3:=sb;have Z5:z < s.heap.objs.size:=aat hz;have neT:s.heap.objs.size≠z:=acz Z5;have hT3:h3.get? s.heap.objs.size=some {cls:=.type "tuple",data:=.seq #[u1,u2]}:=(sb.2 _ neT).trans hT;have lt:∀b∈[z,TI,TO,i1,i2],b < s.heap.objs.size:=λb hb=>by
   simp only[List.mem_cons,List.not_mem_nil,or_false]at hb;rcases hb with rfl| rfl| rfl| rfl| rfl
   ·exact Z5
   ·exact aat J'
   ·exact aat KA
   ·have⟨o,q,_⟩:=h1;exact aat q
   ·have⟨o,q,_⟩:=h2;exact aat q
  have I2:Inv X δ σ (upd H s.heap.objs.size (.tup [x,y])) {s with heap:=h3,toks:=s.toks}:=by
   refine I.uy (its:=[z,TI,TO,i1,i2]) (λb o hb q=>?_) hf (aaj _) ?_
   ·simp only[List.mem_cons,List.not_mem_nil,or_false,not_or]at hb;have⟨b1,b2,b3,b4,b5⟩:=hb;exact(sb.2 b b1).trans (hk b o b1 b3 b4 b5 q)
   ·refine⟨by simp[sizeLine_eq],[u1,u2],.cons ru1 (.cons ru2 .nil),?_⟩;exact⟨_,hT3,rfl,0,rfl⟩
  refine⟨.ref s.heap.objs.size,_,I2,rfl,⟨s.heap.objs.size,x,y,I.aX.fresh (aaj _),rfl,rfl,λzs XF=>by rw[I.cb XF Q5];exact hx,λzs XF=>by rw[I.cb XF QD];exact hy⟩,⟨⟨u1,u2,hz3,(sb.2 _ D.TIz).trans (hk _ _ D.TIz D.TITO D.TIi1 D.TIi2 J'),(sb.2 _ D.TOz).trans Vj⟩,nu.at λo q=>(sb.2 i1 D.i1z).trans q,Mn.at λo q=>(sb.2 i2 D.i2z).trans q⟩,λb hb=>?_⟩;rw[Ζ (aaK (lt b hb))];exact(hf b hb).1
 done:=by intro X hP hw hK hc i δ s σ H E I hf st hg;subst hP hw hK;have⟨⟨a,c,hz,J',KA⟩,h1,h2⟩:=st;have⟨xs,ys,Q5,QD,hx⟩:=hg;have⟨Yz,Xc,p1,_⟩:=I.list Q5;have⟨Jc,Vn,p2,_⟩:=I.list QD;have Xw:=Xc.length;have Ir:=Vn.length;refine wpAny_pyNext_zip_end (I.ok.hd hc) D hz J' KA h1 h2 p1.isList p2.isList (by rcases hx with hx| hx;(left;simp;omega);(right;simp;omega)) λh' ext=>⟨rfl,I.KU (t':=s.toks) (its:=[z,TI,TO,i1,i2]) (λb o hb q=>?_) hf⟩;simp only[List.mem_cons,List.not_mem_nil,or_false,not_or]at hb;have⟨b1,b2,b3,b4,b5⟩:=hb;exact ext b o b1 b3 b4 b5 q
 self:=λ_ _ _ _ _ st h=>by have⟨⟨a,c,hz,_,_⟩,_⟩:=st;exact wpAny_pyIter_zip hz h
def tK(xs ys:List Dt):List Dt:=(xs.zip ys).map λp=>.tup [p.1,p.2]
def JU{xs ys:List Dt}{i:Nat}{d:Dt}(h:(tK xs ys)[i]? =some d):∃x y,xs[i]? =some x/\ys[i]? =some y/\d= .tup [x,y]:=by
 unfold tK at h;rw[aak]at h;cases e:(xs.zip ys)[i]? with
 | none=>rw[e]at h;cases h
 | some p=>
  rw[e]at h;cases h;have⟨h1,h2⟩:=List.getElem?_zip_eq_some.mp e;exact⟨p.1,p.2,h1,h2,rfl⟩
def Ae(xs ys:List Dt):(tK xs ys).length=min xs.length ys.length:=by unfold tK;rw[List.length_map,List.length_zip]
def KL{K:fI}{G:Hp}{L:List Addr}{a b:Addr}{xs ys:List Dt}{ok QN:Ms->Prop}(s:Src K a xs ok G L)(s':Src K b ys QN G L):Pq K (ZY K a b) (tK xs ys) (λM=>ok M/\QN M) G L where
 go:=λi G1 L1 M1 H1 d g l r k e=>by have⟨vs,hs,n⟩:=s.at_ G1 L1 M1 H1 g l r k.1;have⟨U1,UW,n'⟩:=s'.at_ G1 L1 M1 H1 g l r k.2;have⟨x,y,ex,ey,rfl⟩:=JU e;have⟨v,e1,n1⟩:=n.get ex;have⟨v',YJ,n1'⟩:=n'.get ey;refine⟨⟨vs,U1,v,v',hs,UW,e1,YJ⟩,λw H' xz=>?_⟩;have⟨p,x2,y2,hp,ev,eH,hx,hy⟩:=xz;subst ev eH;have e2:=hx vs hs;rw[e1]at e2;cases e2;have e3:=hy U1 UW;rw[YJ]at e3;cases e3;exact⟨_,r.QR hp,r.KO hp,qc (ds:=[x,y]) r hp ⟨_,_,rfl,n1,_,_,rfl,n1',rfl⟩⟩
 stop:=λi G1 L1 M1 H1 g l r k e=>by have⟨vs,hs,n⟩:=s.at_ G1 L1 M1 H1 g l r k.1;have⟨U1,UW,n'⟩:=s'.at_ G1 L1 M1 H1 g l r k.2;refine⟨vs,U1,hs,UW,?_⟩;rw[<-n.length,<-n'.length];rw[Ae]at e;omega
def Ys(t:DA):DK:=λρ M q x=>t ρ M (λds M1=>∃d d' xs ys ok QN,ds=[d,d']/\iz M1 d=some (xs,ok)/\iz M1 d'=some (ys,QN)/\q (tK xs ys) (λM=>ok M/\QN M) M1) x
def Hh{X:Cx}{R:St->XK}{elts:List Expr}{x1:Nat}{tp:Pos}{a a':Expr}{t:DA}{p pos:Pos}(hm:X.mg "zip"=none)(ha:JA X R [a,a'] t)(hg:Gl X "zip":=by rfl)(hs:starEach [a,a'] X.env=(false,eval a X.env)::starEach [a'] X.env:=by rfl)(fE:(backTo pos (starEach [a'] X.env)).any (·.1)=false:=by rfl):JK X R (.Tuple elts x1 tp) (.Call (.Name "zip" p) [a,a'] [] pos) (Ys t):=by
 intro δ s σ H Q I ⟨G,L,ρ,M,q,x,rl,n,ht,hx,hQ⟩;refine Call_ (pd I hg hm E5 (PyProof.Rows.callWith_type1 (bA (ha pos δ s σ H (MM X.K G L H _) I ⟨G,L,ρ,M,_,x,rl,n,ht,hx,λ_ _ f=>f⟩) λus s1 xz=>?_) hs fE));have⟨vs,H1,I1,rv,ds,G1,L1,M1,e1,r1,n1,d,d',xs,ys,ok,QN,ed,hl,NF,h1⟩:=xz;subst ed;have⟨v,v',rfl,n2,Z9⟩:=gF n1;have⟨b,ws,rfl,sq,sr,_⟩:=sR r1 n2 hl;have⟨b',ws',rfl,sq',sr',_⟩:=sR r1 Z9 NF;cases rv with
 | cons ru rv=>
  cases rv with
  | cons ru' rv=>
   cases rv;cases ru;cases ru';have⟨its,_,pl,_⟩:=I1.list sq;have⟨its',_,Zm,_⟩:=I1.list sq';have lt1:b < s1.heap.objs.size:=by have⟨o,q,_⟩:=pl.isList;exact aat q
   have lt2:b' < s1.heap.objs.size:=by have⟨o,q,_⟩:=Zm.isList;exact aat q
   refine call_zip_2 pl.isList Zm.isList λh' hz J' KA hi Ja hsz hk=>?_;have I2:Inv X δ σ H1 {s1 with heap:=h'}:=I1.kept (t':=s1.toks) hk;have D:ZipApart (s1.heap.objs.size+4) (s1.heap.objs.size+2) (s1.heap.objs.size+3) s1.heap.objs.size (s1.heap.objs.size+1) b b':=by have ne:∀i j:Nat,i≠j->s1.heap.objs.size+i≠s1.heap.objs.size+j:=λi j h z=>h (Nat.add_left_cancel z);have n1:∀i:Nat,b≠s1.heap.objs.size+i:=λi=>aaK (aaz lt1 (abB _ _));have n2:∀i:Nat,b'≠s1.heap.objs.size+i:=λi=>aaK (aaz lt2 (abB _ _));exact⟨ne 2 4 @_,ne 3 4 @_,ne 0 4 @_,ne 1 4 @_,ne 2 3 @_,ne 2 0 @_,ne 2 1 @_,ne 3 0 @_,ne 3 1 @_,ne 0 1 @_,n1 4,n1 3,n1 0,n1 1,n2 4,n2 3,n2 0,n2 1⟩
   refine wpAny_pyIter_zip (s:={s1 with heap:=h'}) hz ⟨s1.heap.objs.size+4,[s1.heap.objs.size+4,s1.heap.objs.size+2,s1.heap.objs.size+3,s1.heap.objs.size,s1.heap.objs.size+1],_,_,H1,rfl,I2,Jy D,⟨⟨_,_,hz,J',KA⟩,hi,Ja⟩,λc hc=>?_,hQ _ _ ⟨_,_,G1,L1,M1,e1,r1,KL sr sr',h1⟩⟩;have hc:s1.heap.objs.size<=c:=by
    simp only[List.mem_cons,List.not_mem_nil,or_false]at hc;rcases hc with rfl| rfl| rfl| rfl| rfl
    ·exact abB _ _
    ·exact abB _ _
    ·exact abB _ _
    ·exact aaj _
    ·exact abB _ _
   have f:=I1.A2 (H':=H1) hc (I1.aX.fresh hc);exact f
section
variable{X:Cx}{R:St->XK}{elt iter c:Expr}{x y:Str}{px py tp:Pos}{scope:Scope}{pos:Pos}{ti:DK}{tc:DT}{te:DE}{ys:List Str}{Θ:List Nat}{kk:Nat}
def zw(S:ag X scope [x] ys Θ)(hi:JK X R (.Name x px) iter ti)(ht:∀C s H fp,JT (Cx.comp X (x::ys) scope C s H fp) (λ_=>E0) c tc)(he:∀C s H fp,JE (Cx.comp X (x::ys) scope C s H fp) (λ_=>E0) elt te)(hc:X.calm=true:=by rfl)(hs:∀x,foldedSetIterable iter X.env x=pure x:=by intro _;rfl):JE X R (.ListComp elt [⟨.Name x px,iter,[c],0⟩] scope pos) (xr 1 ti (gN 0) tc te Θ):=Sd false S hi (dH S (i:=0) rfl) aA (c_ (Nat.zero_lt_succ 0)) (λC s H fp=>xq (ht C s H fp)) he hc hs λ_ _ _ _ h=>h
end
def dh{g:Dt->En->(En->Prop)->Prop}{tc:DT}{te:DE}{ρ0:En}{ok:Ms->Prop}{M:Ms}{k:List Dt->Ms->Prop}(ho:ok M)(b:Dt->Bool)(f:Dt->Dt):∀(xs acc:List Dt),(∀x∈xs,∀(q:DQ) (p:Ms->Prop),(b x=true->q (f x) M)->(b x=false->p M)->g x ρ0 λρ'=>tc ρ' M (λb' M1=>match b' with| true=>te ρ' M1 q ki| false=>p M1) ki)->
  k (acc++(xs.filter b).map f) M->g7 g tc te ρ0 ok xs acc M k
 | [],acc,_,h=>⟨ho,by simpa using h⟩
 | x::xs,acc,ht,h=>⟨ho,ht x List.mem_cons_self _ _ (λhb=>dh ho b f xs _ (λy hy=>ht y (List.mem_cons_of_mem _ hy)) (by simpa [hb] using h)) λhb=>dh ho b f xs _ (λy hy=>ht y (List.mem_cons_of_mem _ hy)) (by simpa [hb] using h)⟩
def FE(xs:List V)(k:Nat):tP xs (some (k:Int)) none=xs.drop k:=by
 unfold tP;rw[HT.qr,HT.yG];by_cases h:k<=xs.length
 ·rw[abW h,abO (by rw[abH];omega)]
 ·rw[Nat.min_eq_right (),List.drop_eq_nil_of_le (Nat.le_refl _),List.drop_eq_nil_of_le ()];simp
section
variable{κ:Type} [DecidableEq κ]
def jw(Η:List (κ×V))(k:κ):Option V:=(Η.find? λkv=>decide (kv.1=k)).map (·.2)
def iA(Η:List (κ×V))(k:κ)(v:V):List (κ×V):=
 if (Η.any λkv=>decide (kv.1=k))=true then Η.map (λkv=>if kv.1=k then (kv.1,v) else kv) else Η++[(k,v)]
def eC{p:κ×V}{r:List (κ×V)}{k:κ}(e:p.1=k):jw (p::r) k=some p.2:=by simp[jw,List.find?_cons,e]
def eG{p:κ×V}{r:List (κ×V)}{k:κ}(e:¬p.1=k):jw (p::r) k=jw r k:=by simp[jw,List.find?_cons,e]
def mV(k:κ):∀Η:List (κ×V),(Η.any λkv=>decide (kv.1=k))=(jw Η k).isSome
 | []=>rfl
 | p::r=>by
  rw[abK];by_cases e:p.1=k
  ·simp only[eC e,decide_eq_true e,Bool.true_or,Option.isSome_some]
  ·rw[eG e,aar e,Bool.false_or];exact mV k r
def u_(k j:κ)(y:V):∀Η:List (κ×V),jw Η k=none->jw (Η++[(k,y)]) j=if j=k then some y else jw Η j
 | [],_=>by
  by_cases e:k=j
  ·rw[aaq e.symm];exact eC (p:=(k,y)) e
  ·rw[aau (λz=>e z.symm)];exact eG (p:=(k,y)) e
 | p::r,hn=>by
  rw[List.cons_append];have hk:¬p.1=k:=λz=>by rw[eC z]at hn;cases hn
  rw[eG hk]at hn;have ih:=u_ k j y r hn;by_cases e:p.1=j
  ·rw[eC e,eC e,aau (λz=>hk (e.trans z))]
  ·rw[eG e,eG e,ih]
def kh(Η:List (κ×V))(k:κ)(v:V):(iA Η k v).length<=Η.length+1:=by
 unfold iA;split
 ·rw[aae];omega
 ·rw[aah,aaJ,List.length_nil];omega
def Hv{Η:List (κ×V)}{k:κ}(v:V)(h:jw Η k=none):iA Η k v=Η++[(k,v)]:=by unfold iA;rw[mV,h];exact aau @_
def j2.oN{o:Option V}{u:Option Value}(r:j2 o u):o.isSome=u.isSome:=by
 cases o with
 | none=>cases u with
  | none=>rfl
  | some _=>exact(show False from r).elim
 | some _=>cases u with
  | none=>exact(show False from r).elim
  | some _=>rfl
def KV.val{Η:List (κ×V)}{vs:List (κ×Value)}(r:KV Η vs)(k:κ):j2 (jw Η k) (valueAt vs k):=by
 unfold KV at r
 induction r with
 | nil=>exact True.intro
 | @cons p q ps qs h t ih=>
  have⟨h1,h2⟩:=h;by_cases e:p.1=k
  ·have e':q.1=k:=h1.symm.trans e;have b:valueAt (q::qs) k=some q.2:=by simp[valueAt,List.find?_cons,e']
   rw[eC e,b];exact h2
  ·have e':¬q.1=k:=λz=>e (h1.trans z);have b:valueAt (q::qs) k=valueAt qs k:=by simp[valueAt,List.find?_cons,e']
   rw[eG e,b];exact ih
def KV.any{Η:List (κ×V)}{vs:List (κ×Value)}(r:KV Η vs)(k:κ):(Η.any λkv=>decide (kv.1=k))=vs.any λkv=>decide (kv.1=k):=by
 unfold KV at r
 induction r with
 | nil=>rfl
 | cons h t ih=>rw[abK,abK,ih,h.1]
def KV.PN{Η:List (κ×V)}{vs:List (κ×Value)}(r:KV Η vs)(k:κ){y:V}{u:Value}(ry:aB y u):
  KV (Η.map λkv=>if kv.1=k then (kv.1,y) else kv) (vs.map λkv=>if kv.1=k then (kv.1,u) else kv):=by
 unfold KV at r⊢
 induction r with
 | nil=>exact .nil
 | @cons p q ps qs h t ih=>
  rw[aaU,aaU];refine .cons ?_ ih;have⟨h1,h2⟩:=h;by_cases e:p.1=k
  ·rw[aaq e,aaq (h1.symm.trans e)];exact⟨h1,ry⟩
  ·rw[aau e,aau (λz=>e (h1.trans z))];exact⟨h1,h2⟩
def KV.put{Η:List (κ×V)}{vs:List (κ×Value)}(r:KV Η vs)(k:κ){y:V}{u:Value}(ry:aB y u):KV (iA Η k y) (stored vs k u):=by
 unfold iA stored;rw[r.any k];by_cases e:(vs.any λkv=>decide (kv.1=k))=true
 ·rw[aaq e,aaq e];exact r.PN k ry
 ·rw[aau e,aau e];exact Paired.snoc r ⟨rfl,ry⟩
def KV.length{Η:List (κ×V)}{vs:List (κ×Value)}(r:KV Η vs):Η.length=vs.length:=Paired.length r
end
def uK{P:Program}{w:World}{k:Key}{u:Value}(r:aB (kV k) u):(bJ P w).is k u=true:=by
 cases k with
 | inl i=>have⟨t,e⟩:=(show∃t,u=Value.int i t from r);subst e;exact zp P w i t
 | inr x=>have⟨t,e⟩:=(show∃t,u=Value.str x t from r);subst e;exact Ar P w x t
def u7{P:Program}{w:World}:∀{ks:List Key} {us:List Value},ay (ks.map kV) us->ItemsAre (bJ P w) ks us
 | [],_,r=>by rw[List.map_nil]at r;cases r;exact .nil
 | k::ks,_,r=>by
  rw[aaU]at r;cases r with
  | cons h t=>exact .cons (uK h) (u7 t)
abbrev KT(H:Hp):List (List Key×V)->List (List Key×Addr×Value)->Prop:=Paired λp q=>p.1=q.1/\H q.2.1=some (.tup (p.1.map kV))/\aB p.2 q.2.2
def KT.val{H:Hp}{Η:List (List Key×V)}{xs:List (List Key×Addr×Value)}(r:KT H Η xs)(k:List Key):j2 (jw Η k) ((atKey xs k).map (·.2)):=by
 induction r with
 | nil=>exact True.intro
 | @cons p q ps qs h t ih=>
  have⟨h1,_,h2⟩:=h;by_cases e:p.1=k
  ·have e':q.1=k:=h1.symm.trans e;have b:atKey (q::qs) k=some q.2:=by simp[atKey,List.find?_cons,e']
   rw[eC e,b];exact h2
  ·have e':¬q.1=k:=λz=>e (h1.trans z);have b:atKey (q::qs) k=atKey qs k:=by simp[atKey,List.find?_cons,e']
   rw[eG e,b];exact ih
def KT.PN{H:Hp}{Η:List (List Key×V)}{xs:List (List Key×Addr×Value)}(r:KT H Η xs)(k:List Key){y:V}{u:Value}(ry:aB y u):
  KT H (Η.map λkv=>if kv.1=k then (kv.1,y) else kv) (xs.map (putAt k u)):=by
 induction r with
 | nil=>exact .nil
 | @cons p q ps qs h t ih=>
  rw[aaU,aaU];refine .cons ?_ ih;have⟨h1,h2,h3⟩:=h;unfold putAt;by_cases e:p.1=k
  ·rw[aaq e,aaq (h1.symm.trans e)];exact⟨h1,h2,ry⟩
  ·rw[aau e,aau (λz=>e (h1.trans z))];exact⟨h1,h2,h3⟩
def KT.put{H:Hp}{Η:List (List Key×V)}{xs:List (List Key×Addr×Value)}(r:KT H Η xs)(k:List Key){b:Addr}{y:V}{u:Value}(hb:H b=some (.tup (k.map kV)))(ry:aB y u):
  KT H (iA Η k y) (storedH xs k b u):=by
 have e:(Η.any λkv=>decide (kv.1=k))=(atKey xs k).isSome:=by rw[mV,(r.val k).oN,Option.isSome_map]
 unfold iA storedH;rw[e];by_cases q:(atKey xs k).isSome=true
 ·rw[aaq q,aaq q];exact r.PN k ry
 ·rw[aau q,aau q];exact Paired.snoc r ⟨rfl,hb,ry⟩
def KT.keeps{H H':Hp}{Η:List (List Key×V)}{xs:List (List Key×Addr×Value)}(r:KT H Η xs)(ht:∀b ys,H b=some (.tup ys)->H' b=some (.tup ys)):KT H' Η xs:=
 Paired.Pf r λ_ _ z=>⟨z.1,ht _ _ z.2.1,z.2.2⟩
section
variable{P:Program}{w:World}{H:Hp}{h:Heap}{a:Addr}
def Nn{u:HO}(ok:kZ P w H h)(e:Rd H a u):da P w H h a u:=e.ok ok
def pP{Η:List (Key×V)}(ok:kZ P w H h)(e:Rd H a (.dK Η)):Η.length<=sizeLine/\(a==sysModules)=false/\∃vs,KV Η vs/\h.DictOf (bJ P w) a vs:=
 show da P w H h a (.dK Η) from Nn ok e
def Ei{Η:List (Key×V)}(ok:kZ P w H h)(e:H a=some (.dK Η)):Η.length<=sizeLine/\(a==sysModules)=false/\∃vs,KV Η vs/\h.DictOf (bJ P w) a vs:=pP ok (.inl e)
def wy{ks:List Key}(ok:kZ P w H h)(e:H a=some (.tup (ks.map kV))):(tupleKind (bJ P w)).is h ks a:=by have⟨_,its,r,o,h1,h2,n,h3⟩:=(show da P w H h a (.tup (ks.map kV)) from ok a _ e);exact⟨o,its.toArray,n,h1,h2,h3,by simpa using u7 r⟩
def zy{Η:List (List Key×V)}(ok:kZ P w H h)(e:Rd H a (.dT Η)):Η.length<=sizeLine/\(a==sysModules)=false/\
  ∃xs,KT H Η xs/\h.DictOfH (tupleKind (bJ P w)) a xs:=by
 have⟨z,y,xs,r,o,es,ep,h1,h2,h3,h4,h5⟩:=(show da P w H h a (.dT Η) from Nn ok e);refine⟨z,y,xs,r,o,es,ep,h1,h2,h3,h4,λx hx=>?_,h5⟩;have all:∀{l:List (List Key×V)} {m:List (List Key×Addr×Value)},KT H l m->∀x∈m,(tupleKind (bJ P w)).is h x.1 x.2.1:=by
  intro l m q
  induction q with
  | nil=>intro x hx;exact nomatch hx
  | @cons p q ps qs hq t ih=>
   intro x hx;rcases aaD.mp hx with e| hx
   ·subst e;exact wy ok (by rw[<-hq.1];exact hq.2.1)
   ·exact ih x hx
 exact all r x hx
def Tc{Η:List (List Key×V)}(ok:kZ P w H h)(e:H a=some (.dT Η)):Η.length<=sizeLine/\(a==sysModules)=false/\
  ∃xs,KT H Η xs/\h.DictOfH (tupleKind (bJ P w)) a xs:=zy ok (.inl e)
end
def Fh(H:Hp)(a:Addr)(y:V)(r:Option V):Prop:=
 (∃Η k,Rd H a (.dK Η)/\y=kV k/\r=jw Η k)\/∃Η k b,Rd H a (.dT Η)/\y= .ref b/\H b=some (.tup (k.map kV))/\r=jw Η k
def Hm(H:Hp)(a:Addr)(y v:V)(H':Hp):Prop:=
 (∃Η k,H a=some (.dK Η)/\y=kV k/\Η.length < sizeLine/\H'=upd H a (.dK (iA Η k v)))\/
 ∃Η k b,H a=some (.dT Η)/\y= .ref b/\H b=some (.tup (k.map kV))/\Η.length < sizeLine/\H'=upd H a (.dT (iA Η k v))
def Hm.k{H:Hp}{a:Addr}{Η:List (Key×V)}{k:Key}{v:V}(e:H a=some (.dK Η))(hl:Η.length < sizeLine):Hm H a (kV k) v (upd H a (.dK (iA Η k v))):=.inl ⟨Η,k,e,rfl,hl,rfl⟩
section
variable{X:Cx}{δ:List (Addr×Obj)}{σ:St}{H:Hp}{s:Shared}{a:Addr}{y v:V}{u r:Value}{o:Option V}{A:Around}{E:Value->Shared->Prop}
def Inv.big(I:Inv X δ σ H s):sysModules < s.heap.objs.size:=by have h:mainGlobals < s.heap.objs.size:=(I.mod.glob.keeps I.bk).lt;exact Nat.lt_trans @_ h
def ER{Q:Value->Shared->Prop}(hu:A.units+1 < cLine)(I:Inv X δ σ H s)(g:Fh H a y (some v))(ry:aB y u)(h:∀w' s',Inv X δ σ H s'->aB v w'->Q w' s'):
  wpAny (model X.prog X.w) A (getItem (.ref a) u) Q E s:=by
 rcases g with ⟨Η,k,e,ey,l⟩| ⟨Η,k,b,e,ey,eb,l⟩
 ·subst ey;have⟨z,hd,vs,rel,dd⟩:=pP I.aX e;have⟨w',hw,EW⟩:=j2.some_of (v:=v) (o:=valueAt vs k) (by rw[l];exact rel.val k);exact wpAny_getItem_of (uK ry) dd.mapOf hw (h w' _ (I.tok _) EW)
 ·subst ey;cases(show u=Value.ref b from ry);have⟨z,hd,xs,rel,dd⟩:=zy I.aX e;have⟨w',hw,EW⟩:=j2.some_of (v:=v) (o:=(atKey xs k).map (·.2)) (by rw[l];exact rel.val k);have⟨p,hp,Wq⟩:=ab3.mp hw;refine wpAny_getItem_heap (tupleKind_room_in1 hu) (wy I.aX eb) dd hp ?_;rw[Wq];exact h w' _ (I.tok _) EW
def Yj{Q:Value->Shared->Prop}(hu:A.units+1 < cLine)(I:Inv X δ σ H s)(g:Fh H a y o)(ry:aB y u)(h:∀s',Inv X δ σ H s'->Q (.bool o.isSome) s'):
  wpAny (model X.prog X.w) A (compareOp .In u (.ref a)) Q E s:=by
 rcases g with ⟨Η,k,e,ey,l⟩| ⟨Η,k,b,e,ey,eb,l⟩
 ·subst ey;have⟨z,hd,vs,rel,dd⟩:=pP I.aX e;refine wpAny_in_of (uK ry) hd dd.mapOf ?_;rw[<-(rel.val k).oN,<-l];exact h _ (I.tok _)
 ·subst ey;cases(show u=Value.ref b from ry);have⟨z,hd,xs,rel,dd⟩:=zy I.aX e;refine wpAny_in_heap (tupleKind_room_in1 hu) (wy I.aX eb) hd dd ?_;have q:=(rel.val k).oN;rw[Option.isSome_map]at q;rw[<-q,<-l];exact h _ (I.tok _)
def qg{h':Heap}{t':Nat}{ob:HO}(I:Inv X δ σ H s)(mu:Qz (H a))(hs:Heap.SameBut a s.heap h')(he:∃q,h'.get? a=some q)(new:da X.prog X.w (upd H a ob) h' a ob):
  Inv X δ σ (upd H a ob) {s with heap:=h',toks:=t'}:=
 I.write (x:=a) (e:=a) mu (.inl rfl) (λb q hb z=>(hs.2 b hb).trans z) he new
def r_{P:Program}{w:World}{H':Hp}{h':Heap}{Η:List (Key×V)}{vs:List (Key×Value)}(z:Η.length<=sizeLine)(hd:(a==sysModules)=false)(rel:KV Η vs)(dd:h'.DictOf (bJ P w) a vs):
  da P w H' h' a (.dK Η):=⟨z,hd,vs,rel,dd⟩
def FI{H':Hp}{Q:Unit->Shared->Prop}(hu:A.units+1 < cLine)(I:Inv X δ σ H s)(g:Hm H a y v H')(ry:aB y u)(rv:aB v r)(h:∀s',Inv X δ σ H' s'->Q Unit.unit s'):
  wpAny (model X.prog X.w) A (setItem (.ref a) u r) Q E s:=by
 rcases g with ⟨Η,k,e,ey,l,eH⟩| ⟨Η,k,b,e,ey,eb,l,eH⟩
 ·subst ey eH;have⟨z,hd,vs,rel,dd⟩:=Ei I.aX e;have hz:vs.length<=sizeLine:=by rw[<-rel.length];exact z
  have hl:(iA Η k v).length<=sizeLine:=by have:=kh Η k v;omega
  refine wpAny_setItem_pairs (hsz:=hz) (uK ry) dd λh' Mv hs=>h _ ?_;have he:∃q,h'.get? a=some q:=let ⟨q,_,_,hq,_⟩:=Mv;⟨q,hq⟩
  exact qg I (by rw[e];exact True.intro) hs he (r_ hl hd (rel.put k rv) Mv)
 ·subst ey eH;cases(show u=Value.ref b from ry);have⟨z,hd,xs,rel,dd⟩:=Tc I.aX e;have hz:xs.length<=sizeLine:=by rw[<-Paired.length rel];exact z
  have hl:(iA Η k v).length<=sizeLine:=by have:=kh Η k v;omega
  refine wpAny_setItem_heap (hsz:=hz) (tupleKind_room_in1 hu) (wy I.aX eb) dd λh' Mv hs=>h _ ?_;have⟨q,es,ep,hq,h2,h3,h4,_,h5⟩:=Mv;refine qg I (by rw[e];exact True.intro) hs ⟨q,hq⟩ ⟨hl,hd,_,(rel.put k eb rv).keeps λc ys ec=>?_,q,es,ep,hq,h2,h3,h4,h5⟩;rw[Ζ (Td ec e nofun)];exact ec
end
section
variable{X:Cx}{δ:List (Addr×Obj)}{σ:St}{H:Hp}{s:Shared}{a:Addr}{Η:List (Key×V)}{k:Key}{u:Value}{A:Around}{E:Value->Shared->Prop}
def TB{Q:Value->Shared->Prop}(I:Inv X δ σ H s)(e:Rd H a (.dK Η))(h:∀t s',Inv X δ σ H s'->Q (.int Η.length t) s'):wpAny (model X.prog X.w) A (call (.builtin "len") [.ref a]) Q E s:=by have⟨z,hd,vs,rel,dd⟩:=pP I.aX e;refine call_len_dict hd dd (by rw[<-rel.length];rw[sizeLine_eq]at z;omega) ?_;rw[<-rel.length];exact h _ _ (I.tok _)
end
def HZ(i:Expr):Prop:=∀ov iv,subscripted i false ov iv=operate [ov,iv] (getItem ov iv)
def Du{prog:Program}{w:World}{A:Around}{E:Value->Shared->Prop}{s:Shared}{env:Env}{value slice:Expr}{pos:Pos}{T id:String}{Q:Value->Shared->Prop}
  (hl:typeLookup (.type T) "__getitem__"=pure (some (.builtin id))) (hs:HZ slice)
  (h:wpAny (model prog w) A (eval value env) (λo s₁=>wpAny (model prog w) A (eval slice env) (λi s₂=>s₂.TypeIs o T/\wpAny (model prog w) A (getItem o i) Q E s₂) E s₁) E s):
  wpAny (model prog w) A (eval (.Subscript value slice pos) env) Q E s:=by
 refine Subscript_ (ab8 h (λo s₁ h₁=>ab8 h₁ (λi s₂ h₂=>?_) λ_ _ x=>x) λ_ _ x=>x);have⟨hT,h₂⟩:=h₂;unfold subscriptTail;refine aaG ?_;rw[getitemInPython_of_ne hT.not_modules];refine aaG (wpAny_specialOf hT hl ?_);have fin:wpAny (model prog w) A (subscripted slice false o i) (λr s₃=>wpAny (model prog w) A (letTemporaryGo value o r >>= λ_=>pure r) Q E s₃) E s₂:=by rw[hs o i];exact wpAny_operating (ab8 h₂ (λr s₃ h₃=>aaG (wpAny_letTemporaryGo (abk h₃))) λ_ _ x=>x)
 first
  | exact abk (aaG fin)
  | exact aaG (abk (aaG fin))
  | exact aaG fin
def zP{X:Cx}{δ:List (Addr×Obj)}{σ:St}{H:Hp}{s:Shared}{a:Addr}{y:V}{o:Option V}(I:Inv X δ σ H s)(g:Fh H a y o):s.TypeIs (.ref a) "dict":=by
 rcases g with ⟨Η,k,e,_,_⟩| ⟨Η,k,b,e,_,_,_⟩
 ·have⟨_,_,vs,_,dd⟩:=pP I.aX e;exact dd.typeIs
 ·have⟨_,_,xs,_,dd⟩:=zy I.aX e;exact dd.typeIs
def TZ(td ty:TE):TE:=λσ H Q=>td σ H λx H1=>ty σ H1 λy H2=>∃a v,x= .ref a/\Fh H2 a y (some v)/\Q v H2
def S6(td ty tv:TE):TS:=λD σ H=>tv σ H λv H1=>td σ H1 λx H2=>ty σ H2 λy H3=>∃a H4,x= .ref a/\Hm H3 a y v H4/\D.nx σ H4
section
variable{X:Cx}{o i e value:Expr}{pos pos' mO:Pos}{td ty tv:TE}
def Mz(hu:X.A.units+1 < cLine)(ho:PE X o td)(hi:PE X i ty)(hs:HZ i):PE X (.Subscript o i pos) (TZ td ty):=by intro δ s σ H Q I h;refine Du PySem.F.slot_dict_getitem.lookup hs (bA (ho δ s σ H _ I h) fun u s1 ⟨x,H1,I1,rx,q1⟩=>bA (hi δ s1 σ H1 _ I1 q1) λiv s2 xz=>?_);have⟨y,H2,I2,ry,a,v,ex,g,q2⟩:=xz;subst ex;obtain rfl:u=Value.ref a:=rx;exact⟨zP I2 g,ER hu I2 g ry λw' s3 I3 EW=>⟨v,H2,I3,EW,q2⟩⟩
def MD(hu:X.A.units+1 < cLine)(ho:PE X o td)(hi:PE X i ty)(hv:PE X value tv)(hs:swapsWith value (some (.Subscript o i pos')) pos.line X.env=pure false):
  PS X (.Assign [.Subscript o i pos'] value pos) (S6 td ty tv):=by
 intro δ s σ H D I h;refine wpAny_Assign_Subscript (bA (hv δ s σ H _ I h) fun r s1 ⟨v,H1,I1,rv,q1⟩=>bA (ho δ s1 σ H1 _ I1 q1) fun u s2 ⟨x,H2,I2,rx,q2⟩=>bA (hi δ s2 σ H2 _ I2 q2) λiv s3 xz=>?_) hs;have⟨y,H3,I3,ry,a,H4,ex,g,q3⟩:=xz;subst ex;obtain rfl:u=Value.ref a:=rx;exact FI hu I3 g ry rv λs4 I4=>⟨σ,H4,I4,q3⟩
end
def Am{P:Program}{w:World}{H:Hp}(h:Heap)(hb:sysModules < h.objs.size):da P w H (h.push {cls:=.type "dict",data:=.dict #[]}) h.objs.size (.dK []):=
 ⟨ab5 _,beq_eq_false_iff_ne.mpr (Ne.symm (aaK hb)),[],.nil,Heap.DictOf.new h⟩
def PX:TE:=λ_ H Q=>∀p,H p=none->Q (.ref p) (upd H p (.dK []))
section
variable{X:Cx}{pos:Pos}
def GN:PE X (.Dict [] [] pos) PX:=λδ s σ H Q I h=>
 wpAny_Dict_empty ⟨.ref s.heap.objs.size,_,I.laid (a:=s.heap.objs.size) (o:=.dK []) (t':=s.toks) (λ_ _ q=>aam _ q) (aaj _) (Am s.heap I.big),rfl,h _ (I.aX.fresh (aaj _))⟩
end
def Bg:List (TE×TE)->St->Hp->(List (V×V)->Hp->Prop)->Prop
 | [],_,H,Q=>Q [] H
 | (tk,tv)::r,σ,H,Q=>tk σ H λx H1=>tv σ H1 λy H2=>Bg r σ H2 λps H3=>Q ((x,y)::ps) H3
abbrev VV:List (V×V)->List (Value×Value)->Prop:=Paired λp q=>aB p.1 q.1/\aB p.2 q.2
def U4(X:Cx)(pos:Pos)(keys:List (Option Expr))(values:List Expr)(ME:List (TE×TE)):Prop:=
 ∀(δ:List (Addr×Obj)) (s:Shared) (σ:St) (H:Hp) (Q:List (V×V)->Hp->Prop),Inv X δ σ H s->Bg ME σ H Q->
  wpAny (model X.prog X.w) X.A (evalPairs (pairTrees keys values X.env pos)) (λvs s'=>∃ps H',Inv X δ σ H' s'/\VV ps vs/\Q ps H') X.xe s
def Ln{X:Cx}{pos:Pos}:U4 X pos [] [] []:=λδ s σ H Q I h=>pairTrees_nil_walk ⟨[],H,I,.nil,h⟩
def zF{X:Cx}{pos:Pos}{k v:Expr}{ks:List (Option Expr)}{vs:List Expr}{tk tv:TE}{ME:List (TE×TE)}(hk:PE X k tk)(hv:PE X v tv)(hr:U4 X pos ks vs ME):
  U4 X pos (some k::ks) (v::vs) ((tk,tv)::ME):=λδ s σ H Q I h=>
 pairTrees_cons_walk (bA (hk δ s σ H _ I h) fun u s1 ⟨x,H1,I1,rx,q1⟩=>bA (hv δ s1 σ H1 _ I1 q1) fun w2 s2 ⟨y,H2,I2,ry,q2⟩=>
  bA (hr δ s2 σ H2 _ I2 q2) λws s3 ⟨ps,H3,I3,rel,q3⟩=>⟨(x,y)::ps,H3,I3,.cons ⟨rx,ry⟩ rel,q3⟩)
def iq(Η more:List (Key×V)):List (Key×V):=more.foldl (λacc kv=>iA acc kv.1 kv.2) Η
def KV.merge:∀{more:List (Key×V)} {rs:List (Key×Value)} {Η:List (Key×V)} {vs:List (Key×Value)},KV more rs->KV Η vs->KV (iq Η more) (merged vs rs):=by
 intro more rs Η vs r;unfold KV at r
 induction r generalizing Η vs with
 | nil=>intro q;exact q
 | @cons p q ps qs h t ih=>
  intro r0;have e:KV (iA Η p.1 p.2) (stored vs q.1 q.2):=by have:=r0.put p.1 h.2;rw[<-h.1];exact this
  exact ih e
def ij:∀(more Η:List (Key×V)),(iq Η more).length<=Η.length+more.length
 | [],Η=>by show Η.length<=Η.length+0;omega
 | p::r,Η=>by have h1:=ij r (iA Η p.1 p.2);have h2:=kh Η p.1 p.2;show(iq (iA Η p.1 p.2) r).length<=_;rw[aaJ];omega
def rS{P:Program}{w:World}:∀{Η:List (Key×V)} {ws:List (Value×Value)},VV (Η.map λkv=>(kV kv.1,kv.2)) ws->∃rs,Carries (bJ P w) ws rs/\KV Η rs
 | [],_,r=>by rw[List.map_nil]at r;cases r;exact⟨[],True.intro,.nil⟩
 | p::Η,_,r=>by
  rw[aaU]at r;cases r with
  | @cons a b as bs h t=>
   have⟨rs,c,q⟩:=rS (P:=P) (w:=w) t;have⟨b1,b2⟩:=b;exact⟨(p.1,b2)::rs,⟨uK h.1,rfl,c⟩,.cons ⟨rfl,h.2⟩ q⟩
def Sl(ME:List (TE×TE)):TE:=λσ H Q=>∀p,H p=none->Bg ME σ (upd H p (.dK [])) λps H2=>H2 p=some (.dK [])/\∃Η:List (Key×V),ps=Η.map (λkv=>(kV kv.1,kv.2))/\Η.length<=15/\Q (.ref p) (upd H2 p (.dK (iq [] Η)))
def Mp{X:Cx}{pos:Pos}{keys:List (Option Expr)}{values:List Expr}{ME:List (TE×TE)}(h:U4 X pos keys values ME)(Gn:keys.all (·.isSome)=true)(hl:keys.length=values.length)(h0:keys≠[])
  (h15:keys.length<=15):PE X (.Dict keys values pos) (Sl ME):=by
 intro δ s σ H Q I q;have hn:=I.aX.fresh (aaj s.heap.objs.size);have I1:=I.laid (a:=s.heap.objs.size) (o:=.dK []) (h':=s.heap.push {cls:=.type "dict",data:=.dict #[]}) (t':=s.toks) (λ_ _ q=>aam _ q) (aaj _) (Am s.heap I.big);refine wpAny_Dict_walk (knd:=bJ X.prog X.w) Gn hl h0 h15 (bA (h δ _ σ _ _ I1 (q _ hn)) λws s2 xz=>?_);have⟨ps,H2,I2,rel,e,Η,ep,lk,q2⟩:=xz;subst ep;have⟨rs,c,rk⟩:=rS (P:=X.prog) (w:=X.w) rel;have⟨z,hd,vs0,r0,dd⟩:=Ei I2.aX e;cases r0;refine⟨rs,c,dd,λh' Mv hs=>⟨.ref s.heap.objs.size,_,?_,rfl,q2⟩⟩;have hz:(iq [] Η).length<=sizeLine:=by have h1:=ij Η [];rw[List.length_nil]at h1;rw[sizeLine_eq];omega
 have he:∃q,h'.get? s.heap.objs.size=some q:=let ⟨q,_,_,hq,_⟩:=Mv;⟨q,hq⟩
 exact qg I2 (by rw[e];exact True.intro) hs he (r_ hz hd (rk.merge .nil) Mv)
structure M1(X:Cx)(o:Expr)(m:Str)(apos:Pos)(e:Expr)(bY:Pos):Prop where
 base:attributeBase o m X.env (eval o X.env)=eval o X.env
 few:((backTo bY (starEach [e] X.env)).all (λx=> !x.1)&&(backToKw bY (keywordEach [] X.env)).all (λx=>x.1.isSome)
  &&decide (([e]:List Expr).length+([]:List Keyword).length+(if ([]:List Keyword).isEmpty then 0 else 1) < 30))=true
 line:(apos.endLine==bY.line)=true
 trees:backTo bY (starEach [e] X.env)=[(false,eval e X.env)]
def Zl(H:Hp)(a:Addr):Prop:=(∃Η,Rd H a (.dK Η))\/∃Η,Rd H a (.dT Η)
def Og{X:Cx}{δ:List (Addr×Obj)}{σ:St}{H:Hp}{s:Shared}{a:Addr}(I:Inv X δ σ H s)(d:Zl H a):
  s.TypeIs (.ref a) "dict"/\(∀b,Value.ref a= .ref b->∃ob,s.heap.get? b=some ob/\ob.dict=none)/\(a==sysModules)=false:=by
 rcases d with ⟨Η,e⟩| ⟨Η,e⟩
 ·have⟨_,hd,vs,_,dd⟩:=pP I.aX e;refine⟨dd.typeIs,λb q=>?_,hd⟩;cases q;have⟨ob,_,_,h1,h2,_⟩:=dd;exact⟨ob,h1,h2.2.1⟩
 ·have⟨_,hd,xs,_,dd⟩:=zy I.aX e;refine⟨dd.typeIs,λb q=>?_,hd⟩;cases q;have⟨ob,_,_,h1,h2,_⟩:=dd;exact⟨ob,h1,h2.2.1⟩
section
variable{X:Cx}{δ:List (Addr×Obj)}{σ:St}{H:Hp}{s:Shared}{a:Addr}{Η:List (Key×V)}{A:Around}{E:Value->Shared->Prop}
def IV{Q:Value->Shared->Prop}(I:Inv X δ σ H s)(e:Rd H a (.dK Η))(h:∀p s',H p=none->Inv X δ σ (upd H p (.dK Η)) s'->Q (.ref p) s'):wpAny (model X.prog X.w) A (call (.type "dict") [.ref a]) Q E s:=by have⟨z,hd,vs,rel,dd⟩:=pP I.aX e;refine kt_call_dict hd dd (by rw[<-rel.length];exact z) λh' Mv hs=>?_;refine h _ _ (I.aX.fresh (aaj _)) (I.laid (a:=s.heap.objs.size) (o:=.dK Η) (t':=s.toks) (λb q hq=>?_) (aaj _) (r_ z (beq_eq_false_iff_ne.mpr (Ne.symm (aaK I.big))) rel Mv));exact(hs.2 b (aaK (aat hq))).trans (aam _ hq)
end
end L2
namespace Att
open PySem PySem.W PySem.Calls PyProof.Rows
end Att
namespace L2
open PySem PySem.Spec PyProof.Rows
end L2
/- THE Wa Me (shape;LID,My.* are S3):
  My.Adr:a structure of MI addresses VI W6 Rc names (classes,Fq);My.Txt K t:a structure (Prop) of MI equations p9 K;
  My.BM:{K} {implicit addresses ..} (e1:nsIn K mainGlobals "law"=some (some (.ref f))) (e2:K.lookup f=some ⟨oc,od,.func (fnOf "law" "law" params body scope dV kV doc pm an bz ct),sl⟩) (e3:codeIn K bz "law"=true) .. :∃t,My.Txt K t
set_option maxRecDepth 100000 in
set_option maxHeartbeats 0 in
def PySem.Challenge.cw_LID_holds : PySem.Challenge.rw_LID.Holds := by
 w_on;o_law;k_head;(case hw=>w_witness2)
 k_fill
 refine L2.xT (l:=PySem.Challenge.rw_LID) (n:=63) (k:=40) (x:="script") (CX:=fun w=>..) (sp:=fun _=>My.OI) rfl @_ rfl ⟨rfl,@_,@_⟩ (fun w h Y=>PySem.W.kIn_of Y) ?F ?S ?C
 case F=>
  intro w mg fa h KX G Ls;have T:∃t,My.Txt (L2.V2 KX) t:=by
   dsimp only[L2.V2]
   refine' My.BM ?e1 ?e2 ?e3 ..
   (case e1=>PySem.W.k_is)
   (case e2=>PySem.W.k_is)
   ..
  have⟨t,T⟩:=T;have e0:=Ls.symm.trans (PySem.W.mg_of KX G T.law);cases e0;exact⟨_,λs u=>.of_eq rfl,λbase kb nb=>My.A6 T kb nb⟩
 case S=>exactλw H a ns hl hO hS=>..
 case C=>exact ..
(MI tactic k_is has no namespace:write k_is) -/
namespace L2
open PySem PySem.Spec PyProof.Rows
section
variable{X:Cx}
def Fi:dY X (.builtin "len") (λxs H Q=>∃a Η,xs=[V.ref a]/\H a=some (.dK Η)/\Q (.int Η.length) H):=by intro δ s σ H xs us Q I r h;have⟨a,Η,rfl,ha,q⟩:=h;have⟨u,rfl,ru⟩:=kr r;cases ru;exact TB I (.inl ha) λt s' I'=>⟨.int Η.length,H,I',⟨t,rfl⟩,q⟩
end
variable{X:Cx}{G:Hp}{L:List Addr}{d:Dt}{v:V}{R:St->XK}{o e iter tg:Expr}{i k' n kk:Nat}{to te:DE}{ti:DK}{pos apos bY:Pos}{δ:List (Addr×Obj)}{σ:St}{s:Shared}{b:Bool}{M:Ms}{ds:List Dt}{vs:List V}{t:DA}{scope:Scope}{ys:List Str}{Θ:List Nat}{y:Str}{ks:List Key}{p a:Addr}{P:Program}{Η:List (Key×V)}
def B6:Dt->Option Key
 | .int i=>some (.inl i)
 | .str z=>some (.inr z)
 | _=>none
def eE(ks:List Key)(ds:List Dt)(k:Key):Option Dt:=((ks.zip ds).find? λp=>decide (p.1=k)).map (·.2)
def kz{K:fI}{k:Key}(h:B6 d=some k)(n:Den K G L d v):v=kV k:=by
 cases d with
 | int i=>cases h;exact n
 | str z=>cases h;exact n
 | _=>cases h
def oK{K:fI}{G:Hp}{L:List Addr}{k:Key}:∀{ks:List Key} {ds:List Dt} {vs:List V} {d:Dt},Τ K G L ds vs->eE ks ds k=some d->∃v,jw (ks.zip vs) k=some v/\Den K G L d v
 | [],_,_,_,_,h=>by cases h
 | _::_,[],_,_,_,h=>by cases h
 | c::ks,d0::ds,_,d,⟨v0,vs,e,n0,n⟩,h=>by
  subst e;rw[abz];by_cases hc:c=k
  ·have h':eE (c::ks) (d0::ds) k=some d0:=by unfold eE;rw[List.zip_cons_cons,List.find?_cons_of_pos (by simpa using hc)];rfl
   rw[h']at h;cases h;exact⟨v0,eC hc,n0⟩
  ·have h':eE (c::ks) (d0::ds) k=eE ks ds k:=by unfold eE;rw[List.zip_cons_cons,List.find?_cons_of_neg (by simpa using hc)]
   rw[h']at h;have⟨v,h1,h2⟩:=oK n h;exact⟨v,by rw[eG hc];exact h1,h2⟩
def Rx(to ti:DE):DE:=λρ M q x=>to ρ M (λd M1=>ti ρ M1 (λdi M2=>∃k ks ds key v,d= .loc k/\M2[k]? =some (.jm ks ds)/\B6 di=some key/\eE ks ds key=some v/\q v M2) x) x
def ve:∀(more acc:List (Key×V)),(∀p∈more,jw acc p.1=none)->(more.map (·.1)).Nodup->iq acc more=acc++more
 | [],acc,_,_=>by show acc=acc++[];rw[aaY]
 | p::more,acc,h,nd=>by
  show iq (iA acc p.1 p.2) more=_;rw[Hv p.2 (h p aad),ve more _ (λq hq=>?_) (abx.mp nd).2]
  ·simp
  ·have e:=u_ p.1 q.1 p.2 acc (h p aad);rw[show(acc++[(p.1,p.2)])=acc++[(p.1,p.2)] from rfl,e,aau]
   ·exact h q (aac _ hq)
   ·intro z;exact(abx.mp nd).1 (aan.mpr ⟨q,hq,z⟩)
section
variable{i:Expr}{ti:DE}{p:Pos}
def sX(hr:cx k' X.A)(ho:JE X R o to)(hi:JE X R i ti)(hs:HZ i:=by intro _ _;rfl):JE X R (.Subscript o i pos) (Rx to ti):=
 .of (Mz (GI hr) ho hi hs) λσ H G L ρ M q x rl n h hx=>by refine⟨G,L,ρ,M,_,x,rl,n,h,hx,λv H1 xz=>?_⟩;have⟨d1,G1,L1,M1,e1,r1,n1,h1⟩:=xz;refine⟨G1,L1,ρ,M1,_,x,r1,n.mono e1,h1,hx.on e1,λv2 H2 xz=>?_⟩;have⟨d2,G2,L2,M2,e2,r2,n2,k,ks,ds,key,y,ed,hm,hk,hg,h2⟩:=xz;subst ed;have⟨a,rfl,KH⟩:=n1;have Gz:=e2.l.get KH;have⟨_,vs,hH,hl,dn⟩:=r2.fZ k a _ Gz hm;have⟨u,hu,du⟩:=oK dn hg;refine⟨a,u,rfl,.inl ⟨_,key,.inl hH,kz hk n2,hu.symm⟩,fin_same (e1.trans e2) r2 du h2⟩
end
inductive Gw(K:fI)(H:Hp):Nat->V->V->Bool->Prop
 | flat {n:Nat} {x y:V} (h1:eK x=true) (h2:eK y=true):Gw K H n x y (vL x y)
 | tup {n:Nat} {a b:Addr} {xs ys:List V} {f:Nat->Bool} (h1:mL K H a xs) (h2:mL K H b ys) (h:∀j x y,xs[j]? =some x->ys[j]? =some y->Gw K H n x y (f j)):Gw K H (n+1) (.ref a) (.ref b) ((List.range (min xs.length ys.length)).all f&&xs.length==ys.length)
 | lst {n:Nat} {a b:Addr} {xs ys:List V} {f:Nat->Bool} (h1:gc K H a xs) (h2:gc K H b ys) (hl:xs.length=ys.length) (h:∀j x y,xs[j]? =some x->ys[j]? =some y->Gw K H n x y (f j)):Gw K H (n+1) (.ref a) (.ref b) ((List.range xs.length).all f)
 | len {n:Nat} {a b:Addr} {xs ys:List V} (h1:gc K H a xs) (h2:gc K H b ys) (hl:xs.length≠ys.length):Gw K H (n+1) (.ref a) (.ref b) false
def GS{x:V}(h:eK x=true):vL x x=true:=by cases x <;> first| rfl| (show(_==_)=true;simp)| cases h
section
variable{H:Hp}
def zt(I:Inv X δ σ H s){x y:V}(h:Gw X.K H n x y b):x=y->b=true:=by
 induction h with
 | flat h1 h2=>intro e;subst e;exact GS h1
 | @tup n a b xs ys f h1 h2 h ih=>
  intro e;cases e;cases I.kT h1 h2;rw[Nat.min_self,beq_self_eq_true,Bool.and_true];refine aa9.mpr λj hj=>?_;have hj:=aa5.mp hj;exact ih j _ _ (aaa hj) (aaa hj) rfl
 | @lst n a b xs ys f h1 h2 hl h ih=>
  intro e;cases e;cases I.cb h1 h2;refine aa9.mpr λj hj=>?_;have hj:=aa5.mp hj;exact ih j _ _ (aaa hj) (aaa hj) rfl
 | len h1 h2 hl=>
  intro e;cases e;cases I.cb h1 h2;exact aay rfl hl
def iG{xs:List V}{its:List Value}(r:ay xs its){j:Nat}(h:j < its.toArray.size):∃x,xs[j]? =some x/\aB x its.toArray[j]:=by
 have hj:j < its.length:=by simpa using h
 have hx:j < xs.length:=by rw[r.length];exact hj
 have⟨u,g,ru⟩:=r.get (aaa hx);rw[aaa hj]at g;cases g;exact⟨_,List.getElem?_eq_getElem hx,by simpa using ru⟩
def O6(I:Inv X δ σ H s){x y:V}(h:Gw X.K H n x y b):∀{A:Around} {u v:Value},aB x u->aB y v->A.units+n < cLine->SeqAt.EqAt A s u v b:=by
 induction h with
 | flat h1 h2=>exactλru rv _=>x6 ru rv h1 h2
 | @tup n a b xs ys f h1 h2 h ih=>
  intro A u v ru rv hu;cases ru;cases rv;by_cases e:a=b
  ·have:=zt I (.tup h1 h2 h) (aaM V.ref e);rw[this,e];exact SeqAt.EqAt.same _
  ·have⟨i1,v1,t1,_⟩:=I.tuple h1;have⟨i2,v2,t2,_⟩:=I.tuple h2
   have:=SeqAt.RcAt.tuples (A:=A) (e:=f) (show s.heap.IsTuple a i1.toArray from t1) (show s.heap.IsTuple b i2.toArray from t2) () (λj g1 g2=>by
    have⟨x,hx,rx⟩:=iG v1 g1;have⟨y,hy,ry⟩:=iG v2 g2
    exact ih j x y hx hy rx ry (by show A.units+1+n < cLine;omega))
   rw[aa0,aa0,<-v1.length,<-v2.length]at this;exact SeqAt.EqAt.of_refs e this
 | @lst n a b xs ys f h1 h2 hl h ih=>
  intro A u v ru rv hu;cases ru;cases rv;by_cases e:a=b
  ·have:=zt I (.lst h1 h2 hl h) (aaM V.ref e);rw[this,e];exact SeqAt.EqAt.same _
  ·have⟨i1,v1,t1,_⟩:=I.list h1;have⟨i2,v2,t2,_⟩:=I.list h2
   have:=SeqAt.RcAt.lists (A:=A) (e:=f) t1.isList t2.isList (by rw[aa0,aa0,<-v1.length,<-v2.length];exact hl) () (λj g1 g2=>by
    have⟨x,hx,rx⟩:=iG v1 g1;have⟨y,hy,ry⟩:=iG v2 g2
    exact ih j x y hx hy rx ry (by show A.units+1+n < cLine;omega))
   rw[aa0,<-v1.length]at this;exact SeqAt.EqAt.of_refs e this
 | @len n a b xs ys h1 h2 hl=>
  intro A u v ru rv hu;cases ru;cases rv;have e:a≠b:=λe=>by subst e;cases I.cb h1 h2;exact hl rfl
  have⟨i1,v1,t1,_⟩:=I.list h1;have⟨i2,v2,t2,_⟩:=I.list h2;exact SeqAt.EqAt.of_refs e (SeqAt.RcAt.lists_lengths t1.isList t2.isList (by rw[List.size_toArray,List.size_toArray,<-v1.length,<-v2.length];simpa using hl) ())
end
def tT(M:Ms):Dt->Option (List Dt)
 | .lst xs=>some xs
 | .hW ns=>some (ns.map .int)
 | .loc k=>match M[k]? with
  | some (.lst xs)=>some xs
  | _=>none
 | _=>none
inductive Fv(M:Ms):Nat->Dt->Dt->Bool->Prop
 | flat {n:Nat} {d e:Dt} {x y:V} (h1:vj d=some x) (h2:vj e=some y):Fv M n d e (vL x y)
 | tup {n:Nat} {ds es:List Dt} {f:Nat->Bool} (h:∀j d e,ds[j]? =some d->es[j]? =some e->Fv M n d e (f j)):Fv M (n+1) (.tup ds) (.tup es) ((List.range (min ds.length es.length)).all f&&ds.length==es.length)
 | lst {n:Nat} {d e:Dt} {ds es:List Dt} {f:Nat->Bool} (h1:tT M d=some ds) (h2:tT M e=some es) (hl:ds.length=es.length) (h:∀j d e,ds[j]? =some d->es[j]? =some e->Fv M n d e (f j)):Fv M (n+1) d e ((List.range ds.length).all f)
 | len {n:Nat} {d e:Dt} {ds es:List Dt} (h1:tT M d=some ds) (h2:tT M e=some es) (hl:ds.length≠es.length):Fv M (n+1) d e false
def fT{K:fI}{H:Hp}{xs:List Dt}(r:Rl K G L M H)(n:Den K G L d v)(h:tT M d=some xs):∃a vs,v= .ref a/\gc K H a vs/\Τ K G L xs vs:=by
 cases d with
 | lst ds=>cases h;have⟨a,vs,rfl,e,m⟩:=n;exact⟨a,vs,rfl,.of (r.sub _ _ e),m⟩
 | hW ns=>cases h;have⟨a,rfl,e⟩:=n;exact⟨a,_,rfl,r.sub.seq e,iL⟩
 | loc k=>
  have⟨a,rfl,e⟩:=n;have h:(match M[k]? with| some (.lst xs)=>some xs| _=>none)=some xs:=h;split at h
  ·rename_i ys hm;cases h;have⟨_,vs,e1,m1⟩:=r.fZ k a _ e hm;exact⟨a,vs,rfl,.of e1,m1⟩
  ·cases h
 | _=>cases h
def Τ.back{K:fI}(h:Τ K G L ds vs)(e:vs[i]? =some v):∃d,ds[i]? =some d/\Den K G L d v:=by
 have hi:i < ds.length:=by rw[h.length];exact(aaf.mp e).1
 have⟨v',e',n⟩:=h.get (aaa hi);rw[e]at e';cases e';exact⟨_,aaa hi,n⟩
def RO{K:fI}{H:Hp}(r:Rl K G L M H){e:Dt}(h:Fv M n d e b):∀{v u:V},Den K G L d v->Den K G L e u->Gw K H n v u b:=by
 induction h with
 | flat h1 h2=>
  intro v u n1 n2;have⟨rfl,f1⟩:=ni h1 n1;have⟨rfl,f2⟩:=ni h2 n2;exact .flat f1 f2
 | @tup n ds es f h ih=>
  intro v u n1 n2;have⟨a,vs,rfl,e1,m1⟩:=n1;have⟨b,us,rfl,e2,m2⟩:=n2;rw[m1.length,m2.length];refine .tup (.of (r.sub _ _ e1)) (.of (r.sub _ _ e2)) λj x y hx hy=>?_;have⟨d,hd,dn⟩:=m1.back hx;have⟨e,he,en⟩:=m2.back hy;exact ih j d e hd he dn en
 | @lst n d e ds es f h1 h2 hl h ih=>
  intro v u n1 n2;have⟨a,vs,rfl,s1,m1⟩:=fT r n1 h1;have⟨b,us,rfl,s2,m2⟩:=fT r n2 h2;rw[m1.length];refine .lst s1 s2 (by rw[<-m1.length,<-m2.length];exact hl) λj x y hx hy=>?_;have⟨d,hd,dn⟩:=m1.back hx;have⟨e,he,en⟩:=m2.back hy;exact ih j d e hd he dn en
 | @len n d e ds es h1 h2 hl=>
  intro v u n1 n2;have⟨a,vs,rfl,s1,m1⟩:=fT r n1 h1;have⟨b,us,rfl,s2,m2⟩:=fT r n2 h2;exact .len s1 s2 (by rw[<-m1.length,<-m2.length];exact hl)
section
variable{a b l u:Expr}{ta tb tl tu:DE}{p p2:Pos}
def WA{A:Around}{k:Nat}(hr:cx k A)(hn:n<=64):A.units+n < cLine:=abf (Nat.add_le_add_left hn _) hr.units
def FJ(xs:List V)(k:Nat):tP xs none (some (k:Int))=xs.take k:=by
 unfold tP;rw[HT.qr,HT.yG,acx,Nat.sub_zero];by_cases h:k<=xs.length
 ·rw[abW h]
 ·rw[Nat.min_eq_right (),abO (aaj _),abO ()]
def LC(te tl:DE):DE:=λρ M q x=>te ρ M (λd M1=>tl ρ M1 (λdi M2=>∃ds n,tT M2 d=some ds/\di= .int (n:Nat)/\q (.loc M2.length) (M2++[.lst (ds.drop n)])) x) x
def ky(he:JE X R e te)(hl:JE X R l tl):JE X R (.Subscript e (.Slice (some l) none none p2) pos) (LC te tl):=
 .of (sY vY he (qe hl) Dk) λσ H G L ρ M q x rl n h hx=>by refine⟨G,L,ρ,M,_,x,rl,n,h,hx,λv H1 xz=>?_⟩;have⟨d1,G1,L1,M1,e1,r1,n1,h1⟩:=xz;refine⟨G1,L1,ρ,M1,_,x,r1,n.mono e1,h1,hx.on e1,λv2 H2 xz=>?_⟩;have⟨d2,G2,L2,M2,e2,r2,n2,ds,k,ed,ei,h2⟩:=xz;subst ei;have⟨a,vs,rfl,sq,m⟩:=fT r2 (Den.mono e2.g e2.l _ _ n1) ed;have n2:v2= .int k:=n2;subst n2;refine⟨k,rfl,a,vs,rfl,sq,λp hp=>?_⟩;rw[FE];exact kG (e1.trans e2) r2 hp (Τ.of (rY k m.pair)) h2
end
open PySem PySem.SeqAt
section
variable{elt c:Expr}{x z:Str}{px pz tp:Pos}{tc:DT}
def xa{py gM:Pos}(hN:X.N.Nodup)(BU:X.N[i]? =some y)(hy:Loc X.env.scope y)(S:ag X scope [x] ys Θ)(hi:JK X R (.Name x px) iter ti)(ht:∀C s H fp,JT (Cx.comp X (x::ys) scope C s H fp) (λ_=>E0) c tc)(he:∀C s H fp,JE (Cx.comp X (x::ys) scope C s H fp) (λ_=>E0) elt te)(hc:X.calm=true:=by rfl)(BR:swapsWith (.ListComp elt [⟨.Name x px,iter,[c],0⟩] scope pos) (some (.Name y py)) gM.line X.env=pure true:=by rfl)(hs:∀x,foldedSetIterable iter X.env x=pure x:=by intro _;rfl)(hf:X.fn y=true\/X.env.scope.names.lookup y=some .local:=by first| exact .inl rfl| exact .inr rfl| assumption):JS X R (.Assign [.Name y py] (.ListComp elt [⟨.Name x px,iter,[c],0⟩] scope pos) gM) (tJ i (xr 1 ti (gN 0) tc te Θ)):=Qy false S hi (dH S (i:=0) rfl) aA (c_ (Nat.zero_lt_succ 0)) (λC s H fp=>xq (ht C s H fp)) he hc hs hN BU hy BR hf λ_ _ _ _ h=>h
def tN{py gM:Pos}(hN:X.N.Nodup)(BU:X.N[i]? =some y)(hy:Loc X.env.scope y)(S:ag X scope [x,z] ys Θ)(hi:JK X R (.Tuple [.Name x px,.Name z pz] kk tp) iter ti)(ht:∀C s H fp,JT (Cx.comp X (x::z::ys) scope C s H fp) (λ_=>E0) c tc)(he:∀C s H fp,JE (Cx.comp X (x::z::ys) scope C s H fp) (λ_=>E0) elt te)(hc:X.calm=true:=by rfl)(BR:swapsWith (.ListComp elt [⟨.Tuple [.Name x px,.Name z pz] kk tp,iter,[c],0⟩] scope pos) (some (.Name y py)) gM.line X.env=pure true:=by rfl)(hs:∀x,foldedSetIterable iter X.env x=pure x:=by intro _;rfl)(hf:X.fn y=true\/X.env.scope.names.lookup y=some .local:=by first| exact .inl rfl| exact .inr rfl| assumption):JS X R (.Assign [.Name y py] (.ListComp elt [⟨.Tuple [.Name x px,.Name z pz] kk tp,iter,[c],0⟩] scope pos) gM) (tJ i (KS 2 ti (g2 0 1) tc te Θ)):=Qy true S hi (ye hc S) mJ (nP (Nat.zero_lt_succ 1) (abA 1)) (λC s H fp=>xq (ht C s H fp)) he hc hs hN BU hy BR hf λ_ _ _ _ h=>h
end
def Gk(M:Ms):Dt->Option (List Dt)
 | .lst xs=>some xs
 | .loc k=>match M[k]? with
  | some (.lst xs)=>some xs
  | _=>none
 | _=>none
def yq{K:fI}{H:Hp}{xs:List Dt}(r:Rl K G L M H)(n:Den K G L d v)(h:Gk M d=some xs):∃a vs,v= .ref a/\H a=some (.lst vs)/\Τ K G L xs vs:=by
 cases d with
 | lst ds=>cases h;have⟨a,vs,rfl,e,m⟩:=n;exact⟨a,vs,rfl,r.sub _ _ e,m⟩
 | loc k=>
  have⟨a,rfl,e⟩:=n;have h:(match M[k]? with| some (.lst xs)=>some xs| _=>none)=some xs:=h;split at h
  ·rename_i ys hm;cases h;have⟨_,vs,e1,m1⟩:=r.fZ k a _ e hm;exact⟨a,vs,rfl,e1,m1⟩
  ·cases h
 | _=>cases h
def Ni:Dt->Dt->Ms->DQ->Prop:=λd e M q=>∃xs ys,Gk M d=some xs/\Gk M e=some ys/\xs.length+ys.length<=sizeLine/\q (.lst (xs++ys)) M
def T4{K:fI}:pS K Pu Ni:=by intro G0 L0 H0 G L M H v1 v2 d1 d2 q e r n1 n2 ⟨xs,ys,h1,h2,hz,hq⟩;have⟨p1,w1,rfl,e1,m1⟩:=yq r n1 h1;have⟨p2,w2,rfl,e2,m2⟩:=yq r n2 h2;refine⟨p1,p2,w1,w2,rfl,rfl,e1,e2,by rw[<-m1.length,<-m2.length];exact hz,λp hp=>?_⟩;exact kF e r hp (qd r hp (m1.app m2)) hq
section
variable{a b:Expr}{ta tb:DE}
def jF(ja:JE X R a ta)(jb:JE X R b tb):JE X R (.BinOp a .Add b pos) (jO Ni ta tb):=vO Jl T4 ja jb
end
section
variable{l:Expr}{tl:DE}{p2:Pos}
def PL(te tl:DE):DE:=λρ M q x=>te ρ M (λd M1=>tl ρ M1 (λdi M2=>∃ds n,tT M2 d=some ds/\di= .int (n:Nat)/\q (.loc M2.length) (M2++[.lst (ds.take n)])) x) x
def DR(he:JE X R e te)(hl:JE X R l tl):JE X R (.Subscript e (.Slice none (some l) none p2) pos) (PL te tl):=
 .of (sY vY he Dk (qe hl)) λσ H G L ρ M q x rl n h hx=>by refine⟨G,L,ρ,M,_,x,rl,n,h,hx,λv H1 xz=>?_⟩;have⟨d1,G1,L1,M1,e1,r1,n1,h1⟩:=xz;refine⟨G1,L1,ρ,M1,_,x,r1,n.mono e1,h1,hx.on e1,λv2 H2 xz=>?_⟩;have⟨d2,G2,L2,M2,e2,r2,n2,ds,k,ed,ei,h2⟩:=xz;subst ei;have⟨a,vs,rfl,sq,m⟩:=fT r2 (Den.mono e2.g e2.l _ _ n1) ed;have n2:v2= .int k:=n2;subst n2;refine⟨k,rfl,a,vs,rfl,sq,λp hp=>?_⟩;rw[FJ];exact kG (e1.trans e2) r2 hp (Τ.of (sW k m.pair)) h2
end
def ux(g:Dt->En->(En->Prop)->Prop)(te:DE)(ρ0:En)(ok:Ms->Prop):List Dt->List Dt->Ms->(List Dt->Ms->Prop)->Prop
 | [],acc,M,k=>ok M/\k acc M
 | x::xs,acc,M,k=>ok M/\g x ρ0 λρ'=>te ρ' M (λd M2=>ux g te ρ0 ok xs (acc++[d]) M2 k) ki
def yd(n:Nat)(ti:DK)(g:Dt->En->(En->Prop)->Prop)(te:DE)(Θ:List Nat):DE:=λρ M q x=>ti ρ M (λxs ok M1=>xs.length<=sizeLine/\ux g te (List.replicate n none++mX Θ ρ) ok xs [] M1 (λys M2=>q (.lst ys) M2)) x
def wq{g:Dt->En->(En->Prop)->Prop}{te:DE}{cs:En}{ok:Ms->Prop}:∀xs,ux g te cs ok xs=g7 g tw te cs ok xs
 | []=>rfl
 | x::xs=>funext λacc=>funext λM=>funext λk=>by show(ok M/\g x cs λρ'=>te ρ' M (λd M1=>ux g te cs ok xs (acc++[d]) M1 k) ki)=(ok M/\g x cs λρ'=>te ρ' M (λd M1=>g7 g tw te cs ok xs (acc++[d]) M1 k) ki);rw[wq xs]
section
variable{elt:Expr}{x:Str}{px py tp:Pos}
def LJ(S:ag X scope [x,y] ys Θ)(hi:JK X R (.Tuple [.Name x px,.Name y py] kk tp) iter ti)(he:∀C s H fp,JE (Cx.comp X (x::y::ys) scope C s H fp) (λ_=>E0) elt te)(hc:X.calm=true:=by rfl)(hs:∀x,foldedSetIterable iter X.env x=pure x:=by intro _;rfl):JE X R (.ListComp elt [⟨.Tuple [.Name x px,.Name y py] kk tp,iter,[],0⟩] scope pos) (yd 2 ti (g2 0 1) te Θ):=Sd false S hi (ye hc S) mJ (nP (Nat.zero_lt_succ 1) (Nat.lt_succ_self 1)) (λ_ _ _ _=>hJ) he hc hs λρ M q x h=>by unfold yd at h;simp only[wq]at h;exact h
end
def uF{g:Dt->En->(En->Prop)->Prop}{te:DE}{ρ0:En}{ok:Ms->Prop}{M:Ms}{k:List Dt->Ms->Prop}(ho:ok M)(f:Dt->Dt):∀(xs acc:List Dt),(∀x∈xs,∀q:DQ,q (f x) M->g x ρ0 λρ'=>te ρ' M q ki)->k (acc++xs.map f) M->ux g te ρ0 ok xs acc M k
 | [],acc,_,h=>⟨ho,by simpa using h⟩
 | x::xs,acc,ht,h=>⟨ho,ht x List.mem_cons_self _ (uF ho f xs _ (λy hy=>ht y (List.mem_cons_of_mem _ hy)) (by simpa using h))⟩
def ED(xs:List V)(a b:Nat):tP xs (some (a:Int)) (some (b:Int))=(xs.drop a).take (b - a):=by
 unfold tP;rw[HT.qr,HT.qr];by_cases ha:a<=xs.length
 ·rw[abW ha];by_cases hb:b<=xs.length
  ·rw[abW hb]
  ·rw[Nat.min_eq_right (),abO (by rw[abH];omega),abO (by rw[abH];omega)]
 ·have h1:min a xs.length=xs.length:=Nat.min_eq_right ();rw[h1,List.drop_of_length_le (aaj xs.length),List.drop_of_length_le (show xs.length<=a by omega)];simp
section
variable{l u a b:Expr}{tl tu ta tb:DE}{p2:Pos}
def T_(te tl tu:DE):DE:=λρ M q x=>te ρ M (λd M1=>tl ρ M1 (λdi M2=>∃n:Nat,di= .int n/\tu ρ M2 (λdu M3=>∃ds m,tT M3 d=some ds/\du= .int (m:Nat)/\q (.loc M3.length) (M3++[.lst ((ds.drop n).take (m - n))])) x) x) x
def Eu(he:JE X R e te)(hl:JE X R l tl)(hu:JE X R u tu):JE X R (.Subscript e (.Slice (some l) (some u) none p2) pos) (T_ te tl tu):=
 .of (sY vY he (qe hl) (qe hu)) λσ H G L ρ M q x rl n h hx=>by refine⟨G,L,ρ,M,_,x,rl,n,h,hx,λv H1 xz=>?_⟩;have⟨d1,G1,L1,M1,e1,r1,n1,h1⟩:=xz;refine⟨G1,L1,ρ,M1,_,x,r1,n.mono e1,h1,hx.on e1,λv2 H2 xz=>?_⟩;have⟨d2,G2,L2,M2,e2,r2,n2,k,ek,h2⟩:=xz;subst ek;have n2:v2= .int k:=n2;subst n2;refine⟨k,rfl,G2,L2,ρ,M2,_,x,r2,(n.mono e1).mono e2,h2,(hx.on e1).on e2,λv3 H3 xz=>?_⟩;have⟨d3,G3,L3,M3,e3,r3,n3,ds,m,ed,em,h3⟩:=xz;subst em;have KQ:=e2.trans e3;have⟨a,vs,rfl,sq,dn⟩:=fT r3 (Den.mono KQ.g KQ.l _ _ n1) ed;have n3:v3= .int m:=n3;subst n3;refine⟨m,rfl,a,vs,rfl,sq,λp hp=>?_⟩;rw[ED];exact kG (e1.trans KQ) r3 hp (Τ.of (sW (m - k) (rY k dn.pair))) h3
def Nw:Dt->Dt->Ms->DQ->Prop:=λd e M q=>∃xs k,Gk M d=some xs/\e= .int k/\ -(2 ^ 63)<=k/\k < 2 ^ 63/\xs.length * k.toNat<=sizeLine/\q (.loc M.length) (M++[.lst (List.replicate k.toNat xs).flatten])
def Tp{K:fI}:pS K PU Nw:=by intro G0 L0 H0 G L M H v1 v2 d1 d2 q e r n1 n2 ⟨xs,k,h1,h2,a,b,hz,hq⟩;have⟨p1,w1,rfl,e1,m1⟩:=yq r n1 h1;subst h2;have n2:v2= .int k:=n2;subst n2;refine⟨p1,k,w1,rfl,rfl,e1,a,b,by rw[<-m1.length];exact hz,λp hp=>?_⟩;exact kG e r hp (Τ.of (vJ m1.pair k.toNat)) hq
def B2(ja:JE X R a ta)(jb:JE X R b tb):JE X R (.BinOp a .Mult b pos) (jO Nw ta tb):=vO Kn Tp ja jb
end
def Lm(ks:List Key)(k:Key):Bool:=ks.any λc=>decide (c=k)
def sG{k:Key}:∀{ks:List Key} {vs:List V},ks.length=vs.length->(jw (ks.zip vs) k).isSome=Lm ks k
 | [],[],_=>rfl
 | c::ks,v::vs,h=>by
  have h:ks.length=vs.length:=by simpa using h
  rw[abz];by_cases e:c=k
  ·rw[eC e];subst e;simp[Lm]
  ·rw[eG e,sG h];unfold Lm;rw[abK,aar e,Bool.false_or]
section
variable{i a b:Expr}{ti ta tb:DE}{p:Pos}
def CF:JE X R (.Dict [] [] pos) (λ_ M q _=>q (.loc M.length) (M++[.jm [] []])):=
 .of GN λσ H G L ρ M q x rl n h hx=>by intro p hp;exact⟨.loc M.length,G,L++[p],_,rl.Uo hp,rl.KD (m:=.jm [] []) hp ⟨[],ah,rfl,rfl⟩,⟨p,rfl,by rw[<-rl.len,List.getElem?_append_right (Nat.le_refl _)];simp⟩,h⟩
def Rv:Dt->Dt->Ms->DQ->Prop:=λdi d M q=>∃k ks ds key,d= .loc k/\M[k]? =some (.jm ks ds)/\B6 di=some key/\q (.bl (Lm ks key)) M
def Qe(hu:X.A.units+1 < cLine):jQ X (compareOp .In) (λy x H Q=>∃a o,x=V.ref a/\Fh H a y o/\Q (.bl o.isSome) H):=by intro δ s σ H x y u v Q I rx ry ⟨a,o,ex,g,q⟩;subst ex;obtain rfl:v=Value.ref a:=ry;exact Yj hu I g rx λs3 I3=>⟨.bl o.isSome,H,I3,rfl,q⟩
def WT{K:fI}:pS K (λy x H Q=>∃a o,x=V.ref a/\Fh H a y o/\Q (.bl o.isSome) H) Rv:=by intro G0 L0 H0 G L M H v1 v2 d1 d2 q e r n1 n2 ⟨k,ks,ds,key,ed,hm,hk,h⟩;subst ed;have⟨a,rfl,KH⟩:=n2;have⟨_,vs,hH,hl,dn⟩:=r.fZ k a _ KH hm;refine⟨a,_,rfl,.inl ⟨_,key,.inl hH,kz hk n1,rfl⟩,?_⟩;have Ir:ks.length=vs.length:=hl.trans dn.length;rw[sG Ir];exact cy e r h
def HK(hr:cx k' X.A)(ja:JE X R a ta)(jb:JE X R b tb)(hm:behindInMarks .In b=false:=by rfl):JT X R (.Compare a [.In] [b] pos) (mQ (jO Rv ta tb)):=ip (Qe (GI hr)) WT ja jb hm
end
def gz(ks:List Key)(k:Key):List Key:=if Lm ks k=true then ks else ks++[k]
def k7{α:Type}(k:Key)(v:α):List Key->List α->List α
 | c::ks,x::xs=>(if c=k then v else x)::k7 k v ks xs
 | _,_=>[]
def eT{α:Type}(ks:List Key)(k:Key)(xs:List α)(v:α):List α:=if Lm ks k=true then k7 k v ks xs else xs++[v]
def pq{α:Type}{k:Key}{v:α}:∀{ks:List Key} {xs:List α},ks.length=xs.length->(k7 k v ks xs).length=ks.length
 | [],[],_=>rfl
 | _::ks,_::xs,h=>by
  have h:ks.length=xs.length:=by simpa using h
  show(k7 k v ks xs).length+1=ks.length+1;rw[pq h]
def uG{k:Key}{v:V}:∀{ks:List Key} {vs:List V},ks.length=vs.length->(ks.zip vs).map (λkv=>if kv.1=k then (kv.1,v) else kv)=ks.zip (k7 k v ks vs)
 | [],[],_=>rfl
 | c::ks,x::vs,h=>by
  have h:ks.length=vs.length:=by simpa using h
  rw[abz,aaU,uG h];show _=(c,if c=k then v else x)::ks.zip (k7 k v ks vs)
  congr 1
  show(if c=k then (c,v) else (c,x))=_;split <;> rfl
def oy{K:fI}{G:Hp}{L:List Addr}{k:Key}{d:Dt}{v:V}(n:Den K G L d v):∀{ks:List Key} {ds:List Dt} {vs:List V},Τ K G L ds vs->ks.length=ds.length->Τ K G L (k7 k d ks ds) (k7 k v ks vs)
 | [],[],_,h,_=>by cases h;rfl
 | c::ks,x::ds,_,⟨y,vs,e,n0,ns⟩,hl=>by
  subst e;have hl:ks.length=ds.length:=by simpa using hl
  refine⟨_,_,rfl,?_,oy n ns hl⟩;show Den K G L (if c=k then d else x) (if c=k then v else y);split
  ·exact n
  ·exact n0
def Jq{k:Key}(h:ks.length=vs.length):iA (ks.zip vs) k v=(gz ks k).zip (eT ks k vs v):=by
 unfold iA gz eT;rw[mV,sG h];split
 ·exact uG h
 ·rw[List.zip_append h];rfl
def pk(to ti tv:DE):DS:=λDn ρ M=>tv ρ M (λy M1=>to ρ M1 (λd M2=>ti ρ M2 (λdi M3=>∃k ks ds key,d= .loc k/\M3[k]? =some (.jm ks ds)/\B6 di=some key/\ks.length < 1000/\Dn.nx ρ (M3.set k (.jm (gz ks key) (eT ks key ds y)))) Dn.x) Dn.x) Dn.x
section
variable{i value:Expr}{ti tv:DE}{pos':Pos}
def qm(hr:cx k' X.A)(ho:JE X R o to)(hi:JE X R i ti)(hv:JE X R value tv)(hs:swapsWith value (some (.Subscript o i pos')) pos.line X.env=pure false:=by rfl):JS X R (.Assign [.Subscript o i pos'] value pos) (pk to ti tv):=
 .of (MD (GI hr) ho hi hv hs) λσ H G L ρ M Dn rl n h hx=>by
  refine⟨G,L,ρ,M,_,_,rl,n,h,hx,λv H1 xz=>?_⟩;have⟨dv,G1,L1,M1,e1,r1,n1,h1⟩:=xz;refine⟨G1,L1,ρ,M1,_,_,r1,n.mono e1,h1,hx.on e1,λov H2 xz=>?_⟩;have⟨d,G2,L2,M2,e2,r2,n2,h2⟩:=xz;refine⟨G2,L2,ρ,M2,_,_,r2,(n.mono e1).mono e2,h2,(hx.on e1).on e2,λiv H3 xz=>?_⟩;have⟨di,G3,L3,M3,e3,r3,n3,k,ks,ds,key,ed,hm,hk,hlen,h3⟩:=xz;subst ed;have⟨a,rfl,EN⟩:=n2;have vx:=e3.l.get EN;have⟨_,vs,hH,hl,dn⟩:=r3.fZ k a _ vx hm;have KQ:=e2.trans e3;have UJ:=Den.mono KQ.g KQ.l _ _ n1;have Ir:ks.length=vs.length:=hl.trans dn.length;obtain rfl:iv=kV key:=kz hk n3;have z:(ks.zip vs).length < sizeLine:=by rw[abV];exact abf (Nat.min_le_left _ _) (Nat.lt_trans hlen @_)
  refine⟨a,_,rfl,Hm.k hH z,ρ,G3,L3,_,((e1.trans e2).trans e3).trans (r3.Es vx),r3.setM (m:=.jm (gz ks key) (eT ks key ds dv)) vx ⟨eT ks key vs v,by rw[ah,Jq Ir],?_,?_⟩,(((n.mono e1).mono e2).mono e3).mono (r3.Es (o:=.own a) vx),h3⟩
  ·unfold gz eT;split
   ·rw[pq hl]
   ·rw[aah,aah,hl];rfl
  ·unfold eT;split
   ·exact oy UJ dn hl
   ·exact dn.app ⟨_,_,rfl,UJ,rfl⟩
end
section
variable{i f a b v1 v2:Expr}{ti ta tb tx t1 t2:DE}{p:Pos}
def xP:dY X (.type "dict") (λxs H Q=>∃a Η,xs=[V.ref a]/\Rd H a (.dK Η)/\∀p,H p=none->Q (.ref p) (upd H p (.dK Η))):=by
 intro δ s σ H xs us Q I r ⟨a,Η,ex,e,q⟩;subst ex;cases r with
 | cons r1 r2=>
  cases r2;cases r1;exact IV I e λp s' hp I'=>⟨.ref p,_,I',rfl,q p hp⟩
def GP:List Dt->Ms->DQ->Prop
 | [d],M,q=>∃k ks ds,d= .loc k/\M[k]? =some (.jm ks ds)/\q (.loc M.length) (M++[.jm ks ds])
 | _,_,_=>False
def S8{K:fI}:Gi K (λxs H Q=>∃a Η,xs=[V.ref a]/\Rd H a (.dK Η)/\∀p,H p=none->Q (.ref p) (upd H p (.dK Η))) GP:=by
 intro G0 L0 H0 G L M H vs ds q e r n h;unfold GP at h;split at h
 ·rename_i d;have⟨v,rfl,n1⟩:=aW n;have⟨k,ks,ds,ed,hm,h⟩:=h;subst ed;have⟨a,rfl,hk⟩:=n1;have⟨_,vs,hH,hl,dn⟩:=r.fZ k a _ hk hm;refine⟨a,_,rfl,.inl hH,λp hp=>?_⟩;exact⟨.loc M.length,G,L++[p],_,e.trans (r.Uo hp),r.KD (m:=.jm ks ds) hp ⟨vs,ah,hl,Τ.mono (.refl _) ⟨[p],rfl⟩ _ _ dn⟩,⟨p,rfl,by rw[<-r.len,List.getElem?_append_right (Nat.le_refl _)];simp⟩,h⟩
 ·exact h.elim
def Cv:bootBuiltins "dict"=some (.type "dict"):=by decide+kernel
def NZ(hm:X.mg "dict"=none)(ha:JA X R [e] t)(hg:Gl X "dict":=by rfl)(he:starEach [e] X.env=(false,eval e X.env)::starEach [] X.env:=by rfl)(fE:(backTo pos (starEach [] X.env)).any (·.1)=false:=by rfl):JE X R (.Call (.Name "dict" p) [e] [] pos) (D4 GP t):=
 qL xP S8 hm Cv ha hg @_ @_ he fE
end
section
variable{f v1 v2:Expr}{tx t1 t2:DE}
def LM{K:fI}{G1:Hp}{L1:List Addr}{H1:Hp}{H:Hp}{q:DQ}(e:Ex G1 L1 H1 G L H)(r:Rl K G L M H)(Na:H1 p=none)(hg:G p=none)(hl:p∉L)(h:H p=some (.dK (ks.zip vs)))(hk:ks.length=ds.length)(n:Τ K G L ds vs)(k:q (.loc M.length) (M++[.jm ks ds])):Fin K G1 L1 H1 q (.ref p) H:=by
 refine⟨.loc M.length,G,L++[p],M++[.jm ks ds],⟨e.g,e.l.trans ⟨[p],rfl⟩,e.fr,e.out,λb hb=>?_,e.CV⟩,⟨r.sub,by rw[List.length_append,List.length_append,r.len];rfl,List.nodup_append.mpr ⟨r.nd,by simp,λa ha b hb=>?_⟩,λk a m h1 h2=>?_⟩,⟨p,rfl,by rw[<-r.len,List.getElem?_append_right (Nat.le_refl _)];simp⟩,k⟩
 ·rcases aaR.mp hb with z| z
  ·exact e.new b z
  ·have e:b=p:=by simpa using z
   right;rw[e];exact Na
 ·have e:b=p:=by simpa using hb
  rw[e];exactλz=>hl (z▸ha)
 ·by_cases tY:k < L.length
  ·rw[aas tY]at h1;rw[aas (by rw[<-r.len];exact tY)]at h2;have⟨q1,q2⟩:=r.fZ k a m h1 h2;exact⟨q1,q2.mono (.refl _) ⟨[p],rfl⟩ rfl⟩
  ·have e:k=L.length:=by have:=(aaf.mp h1).1;rw[aah]at this;simp at this;omega
   rw[e,aax (aaj _)]at h1;rw[e,r.len,aax (aaj _)]at h2;simp at h1 h2;subst h1 h2;exact⟨hg,vs,h,hk,Τ.mono (.refl _) ⟨[p],rfl⟩ _ _ n⟩
end
def HP{α β:Type}{F:α->β->Prop}:∀{xs:List α} {ys:List β},Paired F xs ys->∀{i:Nat} {x:α},xs[i]? =some x->∃y,ys[i]? =some y/\F x y
 | _,_,.nil,i,x,h=>by simp at h
 | _,_,.cons r t,0,x,h=>by obtain rfl:=aao h;exact⟨_,rfl,r⟩
 | _,_,.cons r t,i+1,x,h=>by have⟨y,e,f⟩:=HP t (show _=some x by simpa using h);exact⟨y,by simpa using e,f⟩
def Sa(td te:TE):TE:=λσ H Q=>td σ H λx H1=>∃a,x= .ref a/\Zl H1 a/\te σ H1 λy H2=>∃b Η more,y= .ref b/\a≠b/\H2 a=some (.dK Η)/\Rd H2 b (.dK more)/\Η.length+more.length<=sizeLine/\Q .aY (upd H2 a (.dK (iq Η more)))
section
variable{td te:TE}
def L_(ho:PE X o td)(he:PE X e te)(m:M1 X o "update" apos e bY):PE X (.Call (.Attribute o "update" apos) [e] [] bY) (Sa td te):=by
 intro δ s σ H Q I h;refine wpAny_Call_method m.base m.few m.line PySem.F.plainAttrs_dict PySem.F.slot_dict_update PySem.F.type_dict_update (bA (ho δ s σ H _ I h) λu s1 xz=>?_);have⟨x,H1,I1,rx,a,ex,d,q1⟩:=xz;subst ex;obtain rfl:u=Value.ref a:=rx;have⟨t1,t2,_⟩:=Og I1 d;refine⟨t1,t2,?_⟩;rw[m.trees];refine Calls.callWith_builtin rfl (Calls.evalArgs_plain (Calls.spliced_cons (bA (he δ s1 σ H1 _ I1 q1) fun iv s2 ⟨y,H2,I2,ry,b,Η,more,ey,mM,hA,hB,hz,q2⟩=>Calls.spliced_nil ?_)));subst ey;obtain rfl:iv=Value.ref b:=ry;have⟨z1,d1,vs,r1,Y3⟩:=Ei I2.aX hA;have⟨z2,d2,rs,r2,Vc⟩:=pP I2.aX hB;refine call_meetsIn PySem.F.slot_dict_update Y3.typeIs PySem.F.entry_dict_update (PySem.F.args_dict_update_2 _ _) (meets_dict_update (bJ X.prog X.w) a b mM d2) ⟨vs,rs,Y3,Vc,by rw[<-r1.length,<-r2.length];exact hz,λh' hm _ hs=>?_⟩;have hex:∃q,h'.get? a=some q:=let ⟨q,_,_,hq,_⟩:=hm;⟨q,hq⟩
 exact⟨.aY,_,qg (t':=s2.toks) I2 (by rw[hA];exact True.intro) hs hex (r_ (aaw (ij more Η) hz) d1 (KV.merge r2 r1) hm),rfl,q2⟩
end
section
variable{l k a b:Expr}{tl tk ta tb:DE}{p2:Pos}
def pK(ks:List Key):List Key->List Key
 | []=>ks
 | k::r=>pK (gz ks k) r
def sD(ks:List Key)(ds:List Dt):List Key->List Dt->List Dt
 | k::r,d::zZ=>sD (gz ks k) (eT ks k ds d) r zZ
 | _,_=>ds
def OY{α:Type}{k:Key}{xs:List α}{v:α}(h:ks.length=xs.length):(gz ks k).length=(eT ks k xs v).length:=by
 unfold gz eT;split
 ·rw[pq h]
 ·rw[aah,aah,h];rfl
def Ph{K:fI}{k:Key}(n:Den K G L d v)(h:Τ K G L ds vs)(hl:ks.length=ds.length):Τ K G L (eT ks k ds d) (eT ks k vs v):=by
 unfold eT;split
 ·exact oy n h hl
 ·exact h.app ⟨_,_,rfl,n,rfl⟩
def Ed{K:fI}{G:Hp}{L:List Addr}:∀{va:List Key} {zZ:List Dt} {GB:List V} {ks:List Key} {ds:List Dt} {vs:List V},va.length=zZ.length->Τ K G L zZ GB->ks.length=ds.length->Τ K G L ds vs->
  ∃us,iq (ks.zip vs) (va.zip GB)=(pK ks va).zip us/\(pK ks va).length=(sD ks ds va zZ).length/\Τ K G L (sD ks ds va zZ) us
 | [],[],_,ks,ds,vs,_,h2,hl,h=>by cases h2;exact⟨vs,rfl,hl,h⟩
 | k::va,d::zZ,_,ks,ds,vs,Ir,⟨v,GB,e,n0,ns⟩,hl,h=>by
  subst e;have Ir:va.length=zZ.length:=by simpa using Ir
  have⟨us,e1,e2,e3⟩:=Ed (ks:=gz ks k) (ds:=eT ks k ds d) (vs:=eT ks k vs v) Ir ns (OY hl) (Ph n0 h hl);refine⟨us,?_,e2,e3⟩;rw[abz];show iq (iA (ks.zip vs) k v) (va.zip GB)=(pK (gz ks k) va).zip us;rw[Jq (hl.trans h.length),e1]
def DJ(to te:DE):DE:=λρ M q x=>to ρ M (λd M1=>(∃k ks ds,d= .loc k/\M1[k]? =some (.jm ks ds))/\te ρ M1 (λd2 M2=>∃k k2 ks ds va zZ,d= .loc k/\d2= .loc k2/\k≠k2/\M2[k]? =some (.jm ks ds)/\M2[k2]? =some (.jm va zZ)/\ks.length+va.length<=1000/\q .aY (M2.set k (.jm (pK ks va) (sD ks ds va zZ)))) x) x
def CM(ho:JE X R o to)(he:JE X R e te)(m:M1 X o "update" apos e bY:=by exact⟨rfl,rfl,rfl,rfl⟩):JE X R (.Call (.Attribute o "update" apos) [e] [] bY) (DJ to te):=
 .of (L_ ho he m) λσ H G L ρ M q x rl n h hx=>by
  refine⟨G,L,ρ,M,_,x,rl,n,h,hx,λv H1 xz=>?_⟩;have⟨d1,G1,L1,M1,e1,r1,n1,⟨k0,ks0,ds0,ed0,WN⟩,h1⟩:=xz;subst ed0;have⟨a,rfl,hk⟩:=n1;have⟨_,vs0,hH0,_,_⟩:=r1.fZ k0 a _ hk WN;refine⟨a,rfl,.inl ⟨_,.inl hH0⟩,G1,L1,ρ,M1,_,x,r1,n.mono e1,h1,hx.on e1,λv2 H2 xz=>?_⟩;have⟨d2,G2,L2,M2,e2,r2,n2,k,k2,ks,ds,va,zZ,ed,AE,mM,hm,Sf,hz,h3⟩:=xz;cases ed;subst AE;have vx:=e2.l.get hk;have⟨b,rfl,YO⟩:=n2;have⟨_,vs,hH,hl,dn⟩:=r2.fZ k0 a _ vx hm;have⟨_,GB,UT,Ir,QF⟩:=r2.fZ k2 b _ YO Sf;have z1:(ks.zip vs).length<=ks.length:=by rw[abV];exact Nat.min_le_left _ _
  have z2:(va.zip GB).length<=va.length:=by rw[abV];exact Nat.min_le_left _ _
  have sz:(1000:Nat)<=sizeLine:=@_
  have⟨us,u1,u2,u3⟩:=Ed Ir QF hl dn;have ab:a≠b:=λz=>by subst z;have i1:=(aaf.mp vx).1;have:=(List.getElem?_inj (l:=L2) i1 r2.nd).mp (vx.trans YO.symm);exact mM this
  refine⟨b,_,_,rfl,ab,hH,.inl UT,(),?_⟩;exact⟨.aY,G2,L2,_,(e1.trans e2).trans (r2.Es vx),r2.setM (m:=.jm (pK ks va) (sD ks ds va zZ)) vx ⟨us,by rw[ah,u1],u2,u3⟩,rfl,h3⟩
end
def Ie(P:Program)(w:World)(a:Addr)(Η:List (Key×V))(ep:Nat)(h:Heap):Prop:=Η.length<=sizeLine/\(a==sysModules)=false/\∃vs,KV Η vs/\h.DictAt (bJ P w) a vs ep
def CD(P:Program)(w:World)(a:Addr)(Η:List (Key×V))(ep:Nat):HO:=.ext (Ie P w a Η ep)
section
variable{P':Program}{w w':World}{H:Hp}{h:Heap}{ep:Nat}
def Eg(ok:kZ P w H h)(e:H a=some (CD P' w' a Η ep)):Ie P' w' a Η ep h:=(ok a _ e).1
def P6(x:Ie P' w' a Η ep h):da P w H h a (CD P' w' a Η ep):=by
 refine⟨x,?_,λh1 h2 y k=>?_⟩
 ·have⟨_,_,vs,_,o,es,e,_⟩:=x;exact⟨o,e⟩
 ·have⟨z,hd,vs,r,o,es,e,c⟩:=y;exact⟨z,hd,vs,r,o,es,k _ e,c⟩
end
section
variable{H:Hp}{ep:Nat}
def Inv.Qi(I:Inv X δ σ H s)(mu:Qz (H a))(x:Ie X.prog X.w a Η ep s.heap):Inv X δ σ (upd H a (CD X.prog X.w a Η ep)) s:=by
 have he:∃u,s.heap.get? a=some u:=let ⟨_,_,_,_,o,_,e,_⟩:=x;⟨o,e⟩
 exact I.write (x:=a) (e:=a) (h':=s.heap) (t':=s.toks) mu (.inl rfl) (λb u _ q=>q) he (P6 x)
def Inv.walkOut(I:Inv X δ σ H s)(e:H a=some (CD X.prog X.w a Η ep)):Inv X δ σ (upd H a (.dK Η)) s:=by
 have⟨z,hd,vs,r,dd⟩:=Eg I.aX e;have he:∃u,s.heap.get? a=some u:=let ⟨o,_,e,_⟩:=dd;⟨o,e⟩
 exact I.write (x:=a) (e:=a) (h':=s.heap) (t':=s.toks) (by rw[e];exact True.intro) (.inl rfl) (λb u _ q=>q) he (r_ z hd r dd.dictOf)
def R7{w:World}{k:Key}{u:Value}(h:(bJ P w).is k u=true):aB (kV k) u:=by
 rcases bt h with ⟨i,t,rfl,rfl⟩| ⟨x,t,rfl,rfl⟩
 ·exact⟨t,rfl⟩
 ·exact⟨t,rfl⟩
end
def Xi(P:Program)(w:World)(a:Addr)(Η:List (Key×V))(ep:Nat):It:=
 ⟨λi H=>H a=some (CD P w a Η ep)/\i < Η.length,λi H x H'=>H'=H/\∃kv,Η[i]? =some kv/\x=kV kv.1,λi H=>H a=some (CD P w a Η ep)/\Η.length<=i⟩
def Fs{w:World}{K:fI}(a it:Addr)(Η:List (Key×V))(ep:Nat):Turn P w K tg (Xi P w a Η ep) [it] it (λi h=>h.IsKeyIter it a i Η.length ep) where
 mem:=by simp
 obj:=λi h st b hb=>by
  have e:b=it:=by simpa using hb
  subst e;have⟨o,e,c,d⟩:=st;exact⟨o,e,λv z=>by rw[d]at z;cases z⟩
 keep:=λi h h' st k=>by have⟨o,e,r⟩:=st;exact⟨o,k it (by simp) o e,r⟩
 item:=by
  intro X hP hw hK hc i δ s σ H E I hf st hg;subst hP hw hK;have⟨hq,hi⟩:=hg;have⟨z,hd,vs,rel,dd⟩:=Eg I.aX hq;have⟨f0,f1,f2,f3,f4,f5⟩:=hf it (by simp);have hx:Η[i]? =some Η[i]:=aaa hi;have⟨q,QD,r1,r2⟩:=HP rel hx;have⟨k,v⟩:=q;have Wb:s.heap.IsKeyIter it a i vs.length ep:=by rw[<-rel.length];exact st
  refine wpAny_pyNext_dict_item Wb dd QD λkey h' hk xi sb=>?_;have xi:h'.IsKeyIter it a (i+1) Η.length ep:=by rw[rel.length];exact xi
  have I1:Inv X δ σ H {s with heap:=h'}:=I.turned (t':=s.toks) (λb o hb e=>(sb.2 b hb).trans e) f0 f1 f3 f4 f5;have⟨o,e,c,d⟩:=id xi;exact⟨key,rfl,vm (s:={s with heap:=h'}) e c d @_ ⟨kV k,H,I1,R7 hk,⟨rfl,Η[i],hx,by rw[r1]⟩,xi,λb hb=>(hf b hb).1⟩⟩
 done:=by
  intro X hP hw hK hc i δ s σ H E I hf st hg;subst hP hw hK;have⟨hq,hi⟩:=hg;have⟨z,hd,vs,rel,dd⟩:=Eg I.aX hq;have⟨f0,f1,f2,f3,f4,f5⟩:=hf it (by simp);have Wb:s.heap.IsKeyIter it a i vs.length ep:=by rw[<-rel.length];exact st
  exact wpAny_pyNext_dict_end (I.ok.hd hc) Wb dd (List.getElem?_eq_none (by rw[<-rel.length];exact hi)) λh' eb=>⟨rfl,I.turned (t':=s.toks) (λb o hb e=>eb b o hb e) f0 f1 f3 f4 f5⟩
 self:=λ_ _ _ _ _ st h=>wpAny_pyIter_keyiter st h
section
variable{H:Hp}{Q:It->Hp->Prop}{E:Value->Shared->Prop}
def MC(I:Inv X δ σ H s)(e:H a=some (.dK Η))(q:∀ep,Q (Xi X.prog X.w a Η ep) (upd H a (CD X.prog X.w a Η ep))):wpAny (model X.prog X.w) X.A (pyIter (.ref a)) (Kw X δ σ tg Q) E s:=by
 have⟨z,hd,vs,rel,dd⟩:=Ei I.aX e;have⟨ep,dd⟩:=dd.dictAt;refine wpAny_pyIter_dict hd dd ?_;have I1:=I.Qi (by rw[e];exact True.intro) (show Ie X.prog X.w a Η ep s.heap from⟨z,hd,vs,rel,dd⟩);refine⟨s.heap.objs.size,[s.heap.objs.size],_,_,_,rfl,I1.kept (t':=s.toks) λb o e=>aam _ e,Fs a _ Η ep,⟨_,aaS _ rfl,rfl,by rw[rel.length];rfl⟩,λb hb=>?_,q ep⟩;have e:b=s.heap.objs.size:=by simpa using hb
 subst e;exact I1.A2 (aaj _) (I1.aX.fresh (aaj _))
end
def Zq(P:Program)(w:World)(D:yw):St->Hp->Prop:=λσ H=>∃a Η ep,H a=some (CD P w a Η ep)/\D.nx σ (upd H a (.dK Η))
section
variable{st:Stmt}{t:TS}{i:Expr}{td ty:TE}
def FW(h:PS X st t):PS X st (λD σ H=>t {D with nx:=Zq X.prog X.w D} σ H):=by
 intro δ s σ H D I h';refine bA (h δ s σ H _ I h') λf s' sp=>?_;cases f with
 | next=>
  have⟨σ',H',I',a,Η,ep,e,q⟩:=sp;exact⟨σ',_,I'.walkOut e,q⟩
 | brk=>exact sp
 | cont=>exact sp
 | ret u=>exact sp
def ON(P:Program)(w:World)(td ty:TE):TE:=λσ H Q=>td σ H λx H1=>ty σ H1 λy H2=>∃a Η ep k v,x= .ref a/\H2 a=some (CD P w a Η ep)/\y=kV k/\jw Η k=some v/\Q v H2
def Jn(ho:PE X o td)(hi:PE X i ty)(hs:HZ i):PE X (.Subscript o i pos) (ON X.prog X.w td ty):=by intro δ s σ H Q I h;refine Du PySem.F.slot_dict_getitem.lookup hs (bA (ho δ s σ H _ I h) fun u s1 ⟨x,H1,I1,rx,q1⟩=>bA (hi δ s1 σ H1 _ I1 q1) λiv s2 xz=>?_);have⟨y,H2,I2,ry,a,Η,ep,k,v,ex,e,ey,l,q2⟩:=xz;subst ex ey;obtain rfl:u=Value.ref a:=rx;have⟨z,hd,vs,rel,dd⟩:=Eg I2.aX e;have dd:=dd.dictOf;have⟨w',hw,EW⟩:=j2.some_of (v:=v) (o:=valueAt vs k) (by rw[<-l];exact rel.val k);exact⟨dd.typeIs,wpAny_getItem_of (uK ry) dd.mapOf hw ⟨v,H2,I2.tok _,EW,q2⟩⟩
end
def HM:Key->Dt
 | .inl i=>.int i
 | .inr x=>.str x
def Lh{K:fI}{G:Hp}{L:List Addr}:∀k:Key,Den K G L (HM k) (kV k)
 | .inl _=>rfl
 | .inr _=>rfl
def qR{K:fI}{G:Hp}{L:List Addr}:∀is:List Int,Τ K G L (is.map Dt.int) (is.map V.int)
 | []=>rfl
 | _::is=>⟨_,_,rfl,rfl,qR is⟩
def An{K:fI}{G:Hp}{L:List Addr}:∀{is:List Int} {vs:List V},Τ K G L (is.map Dt.int) vs->vs=is.map V.int
 | [],vs,h=>h
 | i::is,vs,h=>by have⟨v,r,rfl,h1,h2⟩:=h;have h1:v= .int i:=h1;rw[h1,An h2];rfl
def K4(P:Program)(w:World)(ks:List Key)(is:List Int)(ep:Nat):Addr->HO:=λa=>CD P w a (ks.zip (is.map V.int)) ep
def tZ(g:Dt->En->(En->Prop)->Prop)(tb:DS)(Dn:lh)(k:Nat)(u:Addr->HO)(m:MO):List Key->En->Ms->Prop
 | [],ρ,M=>M[k]? =some (.raw u)/\Dn.nx ρ (M.set k m)
 | x::xs,ρ,M=>M[k]? =some (.raw u)/\g (HM x) ρ λρ'=>tb {Dn with nx:=tZ g tb Dn k u m xs,ct:=tZ g tb Dn k u m xs,bk:=λρ M=>M[k]? =some (.raw u)/\Dn.nx ρ (M.set k m)} ρ' M
def TH(P:Program)(w:World)(te:DE)(g:Dt->En->(En->Prop)->Prop)(tb:DS):DS:=λDn ρ M=>te ρ M (λd M1=>∃k ks is,d= .loc k/\M1[k]? =some (.jm ks (is.map Dt.int))/\∀ep,tZ g tb Dn k (K4 P w ks is ep) (.jm ks (is.map Dt.int)) ks ρ (M1.set k (.raw (K4 P w ks is ep)))) Dn.x
def N7(P:Program)(w:World)(t:TE):TI:=λσ H R=>t σ H λv H1=>∃a Η,v= .ref a/\H1 a=some (.dK Η)/\∀ep,R (Xi P w a Η ep) (upd H1 a (CD P w a Η ep))
def LU{t:TE}(h:PE X e t):PI X tg e (N7 X.prog X.w t):=by intro δ s σ H R I ht;refine bA (h δ s σ H _ I ht) λu s1 xz=>?_;have⟨v,H1,I1,rv,a,Η,ev,ha,q⟩:=xz;subst ev;obtain rfl:u=Value.ref a:=rv;exact MC I1 ha q
section
variable{i:Expr}{body:List Stmt}{ti:DE}{gg:TG}{g:Dt->En->(En->Prop)->Prop}{tb:DS}
def MH(hi:JE X R iter te)(hg:PG X tg gg)(gd:GD X.K gg g)(hb:CW X R body tb)(hp:PassesOwn (model X.prog X.w) X.A X.env X.xe:=by first| exact PassesOwn.never| exact PassesOwn.leaving)(hc:X.calm=true:=by rfl)(hs:∀x,foldedSetIterable iter X.env x=pure x:=by intro _;rfl):
  JS X R (.For tg iter body [] pos) (TH X.prog X.w te g tb):=.of (FW (A3 hp hc (LU hi) hg hb hs)) λσ H G L ρ M Dn rl n h hx=>by
 refine⟨G,L,ρ,M,_,_,rl,n,h,hx,λv H1 xz=>?_⟩;have⟨d,G1,L1,M1,e1,r1,n1,k,ks,is,ed,hk,h1⟩:=xz;subst ed;have⟨a,rfl,EN⟩:=n1;have⟨hGa,vs,hH,hl,dn⟩:=r1.fZ k a _ EN hk;have hvs:=An dn;subst hvs;rw[aae]at hl;refine⟨a,_,rfl,hH,λep=>?_⟩;have h1:=h1 ep;generalize hu:K4 X.prog X.w ks is ep=u at h1;have Up:CD X.prog X.w a (ks.zip (is.map V.int)) ep=u a:=by rw[<-hu];rfl
 have r2:Rl X.K G1 L1 (M1.set k (.raw u)) (upd H1 a (CD X.prog X.w a (ks.zip (is.map V.int)) ep)):=r1.setM (m:=.raw u) EN (show upd H1 a _ a=some (u a) by rw[ah,Up]);have e2:Ex G1 L1 H1 G1 L1 (upd H1 a (CD X.prog X.w a (ks.zip (is.map V.int)) ep)):=r1.Es EN;have zl:(ks.zip (is.map V.int)).length=ks.length:=by rw[abV,aae];omega
 generalize UT:upd H1 a (CD X.prog X.w a (ks.zip (is.map V.int)) ep)=H2 at r2 e2;have Jk:=e1.trans e2;have out:∀{G':Hp} {L':List Addr} {H':Hp} {M':Ms} {ρ':En} {σ':St},Ex G1 L1 H2 G' L' H'->Rl X.K G' L' M' H'->ly X.K G' L' ρ' σ'->M'[k]? =some (.raw u)->Dn.nx ρ' (M'.set k (.jm ks (is.map Dt.int)))->Zq X.prog X.w (tW X.K G L H Dn) σ' H':=λ{G' L' H' M' ρ' σ'} e' r' n' hm Q9=>by have A7:=e'.l.get EN;have RY:H' a=some (u a):=(r'.fZ k a _ A7 hm).2;refine⟨a,ks.zip (is.map V.int),ep,by rw[Up];exact RY,ρ',G',L',_,(Jk.trans e').trans (r'.Es A7),r'.setM (m:=.jm ks (is.map Dt.int)) A7 ⟨is.map V.int,ah,by rw[aae];exact hl,qR is⟩,n'.mono (r'.Es (o:=.own a) A7),Q9⟩
 refine⟨λi m σ' H'=>m+i=ks.length/\eR X.K G1 L1 H2 (λρ' M'=>tZ g tb Dn k u (.jm ks (is.map Dt.int)) (ks.drop i) ρ' M') σ' H',⟨ks.length,rfl,ρ,G1,L1,_,.refl _ _ _,r2,n.mono e1,by rw[acx];exact h1⟩,?_⟩;rintro i m σ' H' ⟨hm,ρ',G',L',M',e',r',n',h'⟩;have A7:=e'.l.get EN;by_cases hi:i < ks.length
 ·right;rw[abr hi]at h';have⟨Mq,h'⟩:=h';have RY:H' a=some (u a):=(r'.fZ k a _ A7 Mq).2;refine⟨⟨by rw[Up];exact RY,()⟩,eR X.K G1 L1 H2 (λρ' M'=>tZ g tb Dn k u (.jm ks (is.map Dt.int)) (ks.drop (i+1)) ρ' M'),λσ2 H3 f=>⟨m - 1,(),(),f⟩,λv H3 hy=>?_⟩;have⟨rfl,kv,Y',rfl⟩:=hy;have KH:kv.1=ks[i]:=by rw[List.getElem?_zip_eq_some]at Y';have:=Y'.1;rw[aaa hi]at this;exact(aao this).symm
  rw[KH];refine gd G' L' M' H3 _ _ ρ' σ' _ _ r' (Lh _) n' h' λρ3 σ3 n3 h3=>?_;refine⟨G',L',ρ3,M',_,r',n3,h3,hx.on (Jk.trans e'),⟨λ_ _ f=>eR.back e' f,λ_ _ f=>Fin.back (Jk.trans e') f,λσ4 H4 f=>?_,λ_ _ f=>eR.back e' f⟩⟩;have⟨ρ4,G4,L4,M4,e4,r4,n4,hm4,h4⟩:=f;exact out (e'.trans e4) r4 n4 hm4 h4
 ·left;rw[ab2 ()]at h';have RY:H' a=some (u a):=(r'.fZ k a _ A7 h'.1).2;exact⟨⟨by rw[Up];exact RY,()⟩,out e' r' n' h'.1 h'.2⟩
def Qu(P:Program)(w:World)(to ti:DE):DE:=λρ M q x=>to ρ M (λd M1=>ti ρ M1 (λdi M2=>∃k ks is ep key j,d= .loc k/\M2[k]? =some (.raw (K4 P w ks is ep))/\B6 di=some key/\eE ks (is.map Dt.int) key=some (.int j)/\q (.int j) M2) x) x
def Lp(ho:JE X R o to)(hi:JE X R i ti)(hs:HZ i:=by intro _ _;rfl):JE X R (.Subscript o i pos) (Qu X.prog X.w to ti):=
 .of (Jn ho hi hs) λσ H G L ρ M q x rl n h hx=>by refine⟨G,L,ρ,M,_,x,rl,n,h,hx,λv H1 xz=>?_⟩;have⟨d1,G1,L1,M1,e1,r1,n1,h1⟩:=xz;refine⟨G1,L1,ρ,M1,_,x,r1,n.mono e1,h1,hx.on e1,λv2 H2 xz=>?_⟩;have⟨d2,G2,L2,M2,e2,r2,n2,k,ks,is,ep,key,j,ed,hm,hk,hg,h2⟩:=xz;subst ed;have⟨a,rfl,KH⟩:=n1;have Gz:=e2.l.get KH;have hH:H2 a=some (K4 X.prog X.w ks is ep a):=(r2.fZ k a _ Gz hm).2;obtain rfl:v2=kV key:=kz hk n2;have⟨v,hv,dv⟩:=oK (K:=X.K) (G:=G2) (L:=L2) (qR is) hg;exact⟨a,_,ep,key,v,rfl,hH,rfl,hv,_,G2,L2,M2,e1.trans e2,r2,dv,h2⟩
end
section
variable{k1 v1 k2 v2:Expr}{s1 t1 s2 t2:DE}
structure Gu(K:fI)(G0:Hp)(L0:List Addr)(H0:Hp)(p:Addr)(G:Hp)(L:List Addr)(M:Ms)(H:Hp):Prop where
 ex:Ex G0 L0 (upd H0 p (.dK [])) G L H
 rl:Rl K G L M H
 at_:H p=some (.dK [])
 g:G p=none
 l:p∉L
def Gu.on{K:fI}{G0:Hp}{L0:List Addr}{H0:Hp}{H:Hp}(a:Gu K G0 L0 H0 p G L M H){G':Hp}{L':List Addr}{M':Ms}{H':Hp}(e:Ex G L H G' L' H')(r:Rl K G' L' M' H'):Gu K G0 L0 H0 p G' L' M' H':=
 ⟨a.ex.trans e,r,e.out _ _ a.at_ a.l,e.fr _ a.g (by rw[a.at_];simp),λz=>(e.new _ z).elim a.l λq=>by rw[a.at_]at q;cases q⟩
def Rf{K:fI}{H:Hp}(rl:Rl K G L M H)(hp:H p=none):Ex G L H G L (upd H p (.dK []))/\Gu K G L H p G L M (upd H p (.dK [])):=by
 have gn:G p=none:=rl.sub.free hp;have ln:p∉L:=rl.Pa hp;have e0:Ex G L H G L (upd H p (.dK [])):=⟨.refl _,.refl _,λ_ h _=>h,λb u h1 _=>by rw[Ζ (λz=>by rw[z,hp]at h1;cases h1)];exact h1,λ_ h=>.inl h,λb h=>by rw[Ζ (λz=>h (by rw[z];exact hp))];exact h⟩
 have r0:Rl K G L M (upd H p (.dK [])):=⟨λb u e=>by rw[Ζ (λz=>by rw[z,gn]at e;cases e)];exact rl.sub b u e,rl.len,rl.nd,λi a m h1 h2=>by
  have⟨q1,q2⟩:=rl.fZ i a m h1 h2
  exact⟨q1,q2.mono (.refl _) (.refl _) (Ζ λz=>q2.there (by rw[z];exact hp))⟩⟩
 exact⟨e0,.refl _ _ _,r0,ah,gn,ln⟩
def Gu.fin{K:fI}{G0:Hp}{L0:List Addr}{H0:Hp}{H:Hp}{q:DQ}(a:Gu K G0 L0 H0 p G L M H)(e0:Ex G0 L0 H0 G0 L0 (upd H0 p (.dK [])))(hp:H0 p=none)(hk:ks.length=ds.length)(n:Τ K G L ds vs)(k:q (.loc M.length) (M++[.jm ks ds])):Fin K G0 L0 H0 q (.ref p) (upd H p (.dK (ks.zip vs))):=by
 have e:=e0.trans a.ex;have gne:∀{b:Addr} {w:HO},G b=some w->b≠p:=λe z=>by rw[z,a.g]at e;cases e
 refine LM (G:=G) (L:=L) (M:=M) (ks:=ks) (ds:=ds) (vs:=vs) ⟨e.g,e.l,e.fr,λb w h1 h2=>?_,e.new,λb h=>?_⟩ ⟨λb w e=>?_,a.rl.len,a.rl.nd,λi c m h1 h2=>?_⟩ hp a.g a.l ah hk n k
 ·rw[Ζ (λz=>by rw[z,hp]at h1;cases h1)];exact e.out b w h1 h2
 ·by_cases hb:b=p
  ·rw[hb,ah];simp
  ·rw[Ζ hb];exact e.CV b h
 ·rw[Ζ (gne e)];exact a.rl.sub b w e
 ·have⟨q1,q2⟩:=a.rl.fZ i c m h1 h2;exact⟨q1,q2.mono (.refl _) (.refl _) (Ζ λz=>a.l (by rw[<-z];exact aai h1))⟩
def I0(s1 t1 s2 t2:DE):DE:=λρ M q x=>s1 ρ M (λc1 M1=>t1 ρ M1 (λd1 M2=>s2 ρ M2 (λc2 M3=>t2 ρ M3 (λd2 M4=>∃y1 y2,B6 c1=some y1/\B6 c2=some y2/\y1≠y2/\q (.loc M4.length) (M4++[.jm [y1,y2] [d1,d2]])) x) x) x) x
def HR(KH:JE X R k1 s1)(hv1:JE X R v1 t1)(Gz:JE X R k2 s2)(hv2:JE X R v2 t2):JE X R (.Dict [some k1,some k2] [v1,v2] pos) (I0 s1 t1 s2 t2):=
 .of (Mp (zF KH hv1 (zF Gz hv2 Ln)) rfl rfl (by simp) (by show 2<=15;decide)) λσ H G L ρ M q x rl n h hx=>by intro p hp;have⟨e0,a0⟩:=Rf rl hp;refine⟨G,L,ρ,M,_,x,a0.rl,n,h,hx.on e0,λu1 H1 xz=>?_⟩;have⟨c1,G1,L1,M1,e1,r1,n1,h1⟩:=xz;have a1:=a0.on e1 r1;have x1:=e0.trans e1;refine⟨G1,L1,ρ,M1,_,x,r1,n.mono x1,h1,hx.on x1,λu2 H2 xz=>?_⟩;have⟨d1,G2,L2,M2,e2,r2,n2,h2⟩:=xz;have a2:=a1.on e2 r2;have x2:=x1.trans e2;refine⟨G2,L2,ρ,M2,_,x,r2,n.mono x2,h2,hx.on x2,λu3 H3 xz=>?_⟩;have⟨c2,G3,L3,M3,e3,r3,n3,h3⟩:=xz;have a3:=a2.on e3 r3;have x3:=x2.trans e3;refine⟨G3,L3,ρ,M3,_,x,r3,n.mono x3,h3,hx.on x3,λu4 H4 xz=>?_⟩;have⟨d2,G4,L4,M4,e4,r4,n4,y1,y2,hy1,UO,mM,h4⟩:=xz;have a4:=a3.on e4 r4;obtain rfl:u1=kV y1:=kz hy1 n1;obtain rfl:u3=kV y2:=kz UO n3;refine⟨a4.at_,[(y1,u2),(y2,u4)],rfl,by show 2<=15;decide,?_⟩;rw[ve _ [] (λ_ _=>rfl) (by simp[mM]),List.nil_append];have Pw:=e3.trans e4;exact a4.fin (ks:=[y1,y2]) (ds:=[d1,d2]) (vs:=[u2,u4]) e0 hp rfl ⟨_,_,rfl,Den.mono Pw.g Pw.l _ _ n2,_,_,rfl,n4,rfl⟩ h4
end
def JX:List Dt->Ms->DQ->Prop
 | [d],M,q=>∃k ks ds,d= .loc k/\M[k]? =some (.jm ks ds)/\q (.int ks.length) M
 | _,_,_=>False
def T'{K:fI}:Gi K (λxs H Q=>∃a Η,xs=[V.ref a]/\H a=some (.dK Η)/\Q (.int Η.length) H) JX:=by
 intro G0 L0 H0 G L M H vs ds q e r n h;unfold JX at h;split at h
 ·have⟨k,ks,ds,rfl,hm,h⟩:=h;have⟨v,rfl,n1⟩:=aW n;have⟨a,rfl,hk⟩:=n1;have⟨_,vs,hH,hl,dn⟩:=r.fZ k a _ hk hm;refine⟨a,_,rfl,hH,.int ks.length,G,L,M,e,r,?_,h⟩;show V.int _=V.int _;rw[abV,<-dn.length,<-hl,Nat.min_self]
 ·exact h.elim
section
variable{p:Pos}
def Km(hm:X.mg "len"=none)(ha:JA X R [e] t)(hg:Gl X "len":=by rfl)(he:starEach [e] X.env=(false,eval e X.env)::starEach [] X.env:=by rfl)(fE:(backTo pos (starEach [] X.env)).any (·.1)=false:=by rfl):JE X R (.Call (.Name "len" p) [e] [] pos) (D4 JX t):=
 iX Fi T' hm PySem.boot_len ha hg @_ @_ he fE
end
section
variable{elt:Expr}{x z:Str}{px pz tp:Pos}
def yO{py gM:Pos}(hN:X.N.Nodup)(BU:X.N[i]? =some y)(hy:Loc X.env.scope y)(S:ag X scope [x,z] ys Θ)(hi:JK X R (.Tuple [.Name x px,.Name z pz] kk tp) iter ti)(he:∀C s H fp,JE (Cx.comp X (x::z::ys) scope C s H fp) (λ_=>E0) elt te)(hc:X.calm=true:=by rfl)(BR:swapsWith (.ListComp elt [⟨.Tuple [.Name x px,.Name z pz] kk tp,iter,[],0⟩] scope pos) (some (.Name y py)) gM.line X.env=pure true:=by rfl)(hs:∀x,foldedSetIterable iter X.env x=pure x:=by intro _;rfl)(hf:X.fn y=true\/X.env.scope.names.lookup y=some .local:=by first| exact .inl rfl| exact .inr rfl| assumption):JS X R (.Assign [.Name y py] (.ListComp elt [⟨.Tuple [.Name x px,.Name z pz] kk tp,iter,[],0⟩] scope pos) gM) (tJ i (yd 2 ti (g2 0 1) te Θ)):=Qy false S hi (ye hc S) mJ (nP (Nat.zero_lt_succ 1) (Nat.lt_succ_self 1)) (λ_ _ _ _=>hJ) he hc hs hN BU hy BR hf λρ M q x h=>by unfold yd at h;simp only[wq]at h;exact h
end
section
variable{H:Hp}
def El(I:Inv X δ σ H s){xs ys:List V}(h:mL X.K H a xs)(h':gc X.K H a ys):False:=by have⟨_,_,⟨o,n,e,c,_⟩,_⟩:=I.list h';have⟨_,_,⟨o2,e2,c2,_⟩,_⟩:=I.tuple h;rw[e]at e2;cases e2;rw[c]at c2;exact aay (Value.type.inj c2) @_
def Jp(I:Inv X δ σ H s){x y:V}(h:Gw X.K H n x y b):∀{b':Bool},Gw X.K H n x y b'->b=b':=by
 induction h with
 | flat h1 h2=>
  intro b' h';cases h' with
  | flat=>rfl
  | tup=>cases h1
  | lst=>cases h1
  | len=>cases h1
 | @tup n a b xs ys f h1 h2 h ih=>
  intro b' h';cases h' with
  | flat nu=>cases nu
  | @tup _ _ _ xs' ys' f' nu Mn h'=>
   cases I.kT h1 nu;cases I.kT h2 Mn
   congr 1
   rw[ab4,aa9,aa9];have key:∀j∈List.range (min xs.length ys.length),f j=f' j:=λj hj=>by
    have hj:=aa5.mp hj;have l1:j < xs.length:=()
    have l2:j < ys.length:=()
    exact ih j _ _ (aaa l1) (aaa l2) (h' j _ _ (aaa l1) (aaa l2))
   exact⟨λz j hj=>by rw[<-key j hj];exact z j hj,λz j hj=>by rw[key j hj];exact z j hj⟩
  | lst nu=>exact(El I h1 nu).elim
  | len nu=>exact(El I h1 nu).elim
 | @lst n a b xs ys f h1 h2 hl h ih=>
  intro b' h';cases h' with
  | flat nu=>cases nu
  | tup nu=>exact(El I nu h1).elim
  | @lst _ _ _ xs' ys' f' nu Mn NF h'=>
   cases I.cb h1 nu;cases I.cb h2 Mn;rw[ab4,aa9,aa9];have key:∀j∈List.range xs.length,f j=f' j:=λj hj=>by
    have l1:=aa5.mp hj;have l2:j < ys.length:=()
    exact ih j _ _ (aaa l1) (aaa l2) (h' j _ _ (aaa l1) (aaa l2))
   exact⟨λz j hj=>by rw[<-key j hj];exact z j hj,λz j hj=>by rw[key j hj];exact z j hj⟩
  | len nu Mn NF=>
   cases I.cb h1 nu;cases I.cb h2 Mn;exact aay hl NF
 | len h1 h2 hl=>
  intro b' h';cases h' with
  | flat nu=>cases nu
  | tup nu=>exact(El I nu h1).elim
  | lst nu Mn NF=>
   cases I.cb h1 nu;cases I.cb h2 Mn;exact aay NF hl
  | len=>rfl
end
def JM(K:fI)(n:Nat):V->List V->Hp->VK->Prop:=λx vs H Q=>∃p xs y,∃f:Nat->Bool,∃j:Nat,x= .ref p/\vs=[y]/\gc K H p xs/\(∀i z,xs[i]? =some z->Gw K H n z y (f i))/\j < xs.length/\f j=true/\(∀i,i < j->f i=false)/\Q (.int (j:Int)) H
def IP(hu:X.A.units+(n+1) < cLine):ZP X "list.index" (JM X.K n):=by
 intro δ s σ H x vs v us Q I rx rv h;have⟨p,xs,y,f,j,rfl,rfl,hq,hf,hj,ft,ff,q⟩:=h;cases rx;have⟨u,rfl,ru⟩:=rv.one;have⟨its,r,pl,hz⟩:=I.list hq;have⟨⟨cls,dd,data,sl⟩,nn,ho,hc,ZD,hd⟩:=id pl;simp only at hc hd;subst hc hd
 classical
 have hu':X.A.in1.units+n < cLine:=by show X.A.units+1+n < cLine;omega
 have lz:its.toArray.size=xs.length:=by rw[aa0,<-r.length]
 have aap:sizeLine < 2 ^ 63 - 1:=@_
 have uq:∀i i' (z:V),xs[i]? =some z->xs[i']? =some z->f i=f i':=λi i' z h1 h2=>Jp I (hf i z h1) (hf i' z h2);have ev:∀(m:Nat) (hm:m < its.toArray.size),decide (∃i z,xs[i]? =some z/\aB z its.toArray[m]/\f i=true)=f m:=λm hm=>by
  have⟨z,hz,rz⟩:=iG r hm;by_cases c:∃i z,xs[i]? =some z/\aB z its.toArray[m]/\f i=true
  ·rw[aaE c];have⟨i,z',h1,h2,h3⟩:=c;cases rz.inj h2;rw[uq m i z hz h1,h3]
  ·rw[aar c];cases e:f m with
   | false=>rfl
   | true=>exact aay ⟨m,z,hz,rz,e⟩ c
 refine call_meets F.slot_list_index ⟨_,ho,rfl⟩ F.entry_list_index (F.args_list_index_2 _ _) (SeqAt.list_indexAt p its.toArray nn dd sl u (λw=>decide (∃i z,xs[i]? =some z/\aB z w/\f i=true)) j () () ((ev j ()).trans ft) (λm hm h=>(ev m hm).trans (ff m h))) ⟨ho,λw hw=>?_,.int (j:Int),H,I.tok _,⟨_,rfl⟩,q⟩;have⟨m,hm,rfl⟩:=Array.mem_iff_getElem.mp hw;have⟨z,hz,rz⟩:=iG r hm;have:=ev m hm;exact this▸O6 I (hf m z hz) rz ru hu'
section
def Hy(n:Nat)(to:DE)(t:DA):DE:=λρ M q x=>to ρ M (λd M1=>(∃xs,tT M1 d=some xs)/\t ρ M1 (λds M2=>∃y xs,∃f:Nat->Bool,∃j:Nat,ds=[y]/\tT M2 d=some xs/\(∀i z,xs[i]? =some z->Fv M2 n z y (f i))/\j < xs.length/\f j=true/\(∀i,i < j->f i=false)/\q (.int (j:Int)) M2) x) x
def K9(n:Nat)(hr:cx k' X.A)(ho:JE X R o to)(ha:JA X R [e] t)(hn:n+1<=64:=by decide)(zb:attributeBase o "index" X.env (eval o X.env)=eval o X.env:=by rfl)
  (Jx:((backTo bY (starEach [e] X.env)).all (λx=> !x.1)&&(backToKw bY (keywordEach [] X.env)).all (λx=>x.1.isSome)
   &&decide (([e]:List Expr).length+([]:List Keyword).length+(if ([]:List Keyword).isEmpty then 0 else 1) < 30))=true:=by rfl)
  (yQ:(apos.endLine==bY.line)=true:=by rfl) (hs:starEach [e] X.env=(false,eval e X.env)::starEach [] X.env:=by rfl) (sd:(backTo bY (starEach [] X.env)).any (·.1)=false:=by rfl):
  JE X R (.Call (.Attribute o "index" apos) [e] [] bY) (Hy n to t):=
 .of (Nz PySem.F.plainAttrs_list PySem.F.slot_list_index PySem.F.type_list_index (r:=JM X.K n) (IP (WA hr hn)) ho ha zb Jx yQ hs sd) λσ H G L ρ M q x rl n h hx=>by refine⟨G,L,ρ,M,_,x,rl,n,h,hx,λv H1 xz=>?_⟩;have⟨d1,G1,L1,M1,e1,r1,n1,⟨xs,hm⟩,h1⟩:=xz;have⟨a,vs,rfl,sq,m⟩:=fT r1 n1 hm;refine⟨.inl ⟨rfl,vs,sq⟩,G1,L1,ρ,M1,_,x,r1,n.mono e1,h1,hx.on e1,λus H2 xz=>?_⟩;have⟨ds,G2,L2,M2,e2,r2,n2,y,xs',f,j,ed,Sf,hf,hj,ft,ff,h2⟩:=xz;subst ed;have⟨u,rfl,n3⟩:=aW n2;have⟨a2,GB,ea,UZ,m2⟩:=fT r2 (Den.mono e2.g e2.l _ _ n1) Sf;cases ea;refine⟨a,GB,u,f,j,rfl,rfl,UZ,λi z hz=>?_,by rw[<-m2.length];exact hj,ft,ff,.int (j:Int),G2,L2,_,e1.trans e2,r2,rfl,h2⟩;have⟨d,hd,dn⟩:=m2.back hz;exact RO r2 (hf i d hd) dn n3
end
section
def Rr:V->V->Hp->VK->Prop:=λo i H Q=>∃p xs,∃j:Nat,∃x,o= .ref p/\i= .int (j:Int)/\H p=some (.lst xs)/\xs[j]? =some x/\Q x H
def IB:Ru X Rr:=by
 intro δ s σ H o i ov iv Q I ro ri h;have⟨p,xs,j,x,rfl,rfl,hp,hx,q⟩:=h;cases ro;have⟨t,rfl⟩:=ri;have⟨its,r,pl,hz⟩:=I.list (gc.of hp);have⟨u,g,ru⟩:=r.get hx;have jl:=(aaf.mp hx).1;have h63:sizeLine < 2 ^ 63:=@_
 exact wpAny_getItem_list pl.isList () () (by rw[Int.toNat_natCast];simpa using g) ⟨x,H,I,ru,q⟩
end
section
variable{i value:Expr}{ti tv:DE}{mO:Pos}
def A5(to ti tv:DE):DS:=λDn ρ M=>to ρ M (λd M1=>ti ρ M1 (λdi M2=>∃k,∃j:Nat,∃xs v,d= .loc k/\di= .int (j:Int)/\M2[k]? =some (.lst xs)/\xs[j]? =some (.int v)/\tv ρ M2 (λdy M3=>∃y xs',dy= .int y/\M3[k]? =some (.lst xs')/\j < xs'.length/\Dn.nx ρ (M3.set k (.lst (xs'.set j (.int (v+y)))))) Dn.x) Dn.x) Dn.x
def rF(ho:JE X R o to)(hi:JE X R i ti)(hv:JE X R value tv)
  (ha:∀ov iv new,augStore i ov iv new=(do holding [new,ov,iv] (setItem ov iv new);release [new,ov,iv] [];pure .next):=by intros;rfl):JS X R (.AugAssign (.Subscript o i mO) .Add value pos) (A5 to ti tv):=
 .of (K_ ho hi IB hv OK Ay ha) λσ H G L ρ M Dn rl n h hx=>by refine⟨G,L,ρ,M,_,_,rl,n,h,hx,λov H1 xz=>?_⟩;have⟨d,G1,L1,M1,e1,r1,n1,h1⟩:=xz;refine⟨G1,L1,ρ,M1,_,_,r1,n.mono e1,h1,hx.on e1,λiv H2 xz=>?_⟩;have⟨di,G2,L2,M2,e2,r2,n2,k,j,xs,v,ed,ei,hm,hj,h2⟩:=xz;subst ed ei;have⟨a,rfl,hk⟩:=n1;have n2:iv= .int (j:Int):=n2;subst n2;have Gz:=e2.l.get hk;have⟨_,vs,hH,dn⟩:=r2.fZ k a _ Gz hm;have⟨u,hu,du⟩:=dn.get hj;have du:u= .int v:=du;subst du;refine⟨a,vs,j,.int v,rfl,rfl,hH,hu,G2,L2,ρ,M2,_,_,r2,(n.mono e1).mono e2,h2,(hx.on e1).on e2,λyv H3 xz=>?_⟩;have⟨dy,G3,L3,M3,e3,r3,n3,y,xs',ey,hm3,jl,h3⟩:=xz;subst ey;have n3:yv= .int y:=n3;subst n3;have vx:=e3.l.get Gz;have⟨_,vs3,Vl,YM⟩:=r3.fZ k a _ vx hm3;refine⟨v,y,rfl,rfl,a,vs3,(j:Int),j,rfl,rfl,Vl,by rw[<-YM.length];exact(by unfold GC;rw[if_pos (),if_pos (),Int.toNat_natCast]),ρ,G3,L3,_,((e1.trans e2).trans e3).trans (r3.Es vx),r3.setM (m:=.lst (xs'.set j (.int (v+y)))) vx ⟨_,ah,.of (xJ (show Den X.K G3 L3 (.int (v+y)) (.int (v+y)) from rfl) j YM.pair)⟩,(((n.mono e1).mono e2).mono e3).mono (r3.Es (o:=.own a) vx),h3⟩
end
def M9(i j k l:Nat)(t:DE):DS:=λDn ρ M=>t ρ M (λd M1=>match d with
 | .tup [a,b,c,e]=>Dn.nx ((((ρ.set i (some a)).set j (some b)).set k (some c)).set l (some e)) M1
 | _=>False) Dn.x
section
variable{j k l:Nat}
def KJ(he:JE X R e te)(hg:PG X tg (E_ X.K 4 (iR (fm i) (iR (fm j) (iR (fm k) (iR (fm l) Fo))))))(hs:swapsWithSole [tg] e pos.line X.env=pure false:=by rfl)(hw:swappedStores [tg] e X.env=pure none:=by rfl)
  (h1:(assignEach [tg] X.env).map (·.2)=[assign tg X.env]:=by rfl):JS X R (.Assign [tg] e pos) (M9 i j k l te):=.of (CG he hg hs hw h1) λσ H G L ρ M Dn rl n h hx=>by
 refine⟨G,L,ρ,M,_,_,rl,n,h,hx,λv H1 xz=>?_⟩;have⟨d1,G1,L1,M1,e1,r1,n1,h1⟩:=xz
 (try dsimp only at h1)
 split at h1
 ·rename_i a b c e';have⟨p,vs,rfl,ee,m⟩:=n1;have⟨v1,r',rfl,m1,m'⟩:=m;have⟨v2,r'',rfl,m2,m''⟩:=m';have⟨v3,v4,rfl,m3,m4⟩:=gF m'';exact⟨p,_,rfl,.inl (.inl (r1.sub _ _ ee)),rfl,v1,_,rfl,v2,_,rfl,v3,_,rfl,v4,_,rfl,rfl,_,G1,L1,M1,e1,r1,((((n.mono e1).set i m1).set j m2).set k m3).set l m4,h1⟩
 ·exact h1.elim
end
end L2
namespace Fr0
variable{b t:Int}
def g(a b:Int):Int:=(Int.gcd a b:Nat)
def zG{a:Int}(h:b≠0):0 < g a b:=by have:=Int.gcd_pos_of_ne_zero_right a h;unfold g;omega
def Iv{a:Int}(h:0<=a):g a 0=a:=by unfold g;rw[Int.gcd_zero_right];omega
def IK{a:Int}(hb:0 < b):g b (a.fmod b)=g a b:=by
 unfold g;rw[abP a (aag hb),Int.gcd_comm a b]
 congr 1
 refine Int.gcd_right_eq_iff.mpr λc hc=>?_;rw[Int.emod_def];constructor
 ·intro h;have:=Int.dvd_add h (Int.dvd_mul_of_dvd_left (c:=a / b) hc);rwa[Int.sub_add_cancel]at this
 ·intro h;exact Int.dvd_sub h (Int.dvd_mul_of_dvd_left (c:=a / b) hc)
def Nj(a b:Int):g (if a < 0 then -a else a) (if b < 0 then -b else b)=g a b:=by unfold g;split <;> split <;> simp
def dv(t b:Int):Int:=if b < 0 then -(g t b) else g t b
def ax(t b:Int):Int×Int:=(t.fdiv (dv t b),b.fdiv (dv t b))
def Dr(h:b≠0):dv t b≠0:=by have:=zG (a:=t) h;unfold dv;split <;> omega
def Ai{k p:Int}(h:k≠0):(k * p).fdiv k=p:=by rw[abl];exact Int.mul_fdiv_cancel p h
def J4(h:b≠0):∃p q:Int,t=dv t b * p/\b=dv t b * q/\0 < q/\Int.gcd p q=1:=by
 have hg:=zG (a:=t) h;have h0:0 < Int.gcd t b:=Int.gcd_pos_of_ne_zero_right t h;have⟨p,hp⟩:=Int.gcd_dvd_left t b;have⟨q,hq⟩:=Int.gcd_dvd_right t b;have hc:Int.gcd p q=1:=by
  have e:=Int.gcd_ediv_gcd_ediv_gcd h0;have n0:(Int.gcd t b:Int)≠0:=()
  have e1:t / (Int.gcd t b:Int)=p:=by
   conv=>lhs;arg 1;rw[hp]
   exact abn p n0
  have e2:b / (Int.gcd t b:Int)=q:=by
   conv=>lhs;arg 1;rw[hq]
   exact abn q n0
  rwa[e1,e2]at e
 have xj:t=g t b * p:=hp;have ku:b=g t b * q:=hq;by_cases hb:b < 0
 ·have hd:dv t b= -(g t b):=by unfold dv;rw[if_pos hb]
  refine⟨-p,-q,?_,?_,?_,?_⟩
  ·rw[hd,Int.neg_mul_neg];exact xj
  ·rw[hd,Int.neg_mul_neg];exact ku
  ·have:g t b * q < 0:=by rw[<-ku];exact hb
   by_cases q0:0<=q
   ·exact aay (abt (aag hg) q0) ()
   ·omega
  ·simpa using hc
 ·have hd:dv t b=g t b:=by unfold dv;rw[if_neg hb]
  refine⟨p,q,by rw[hd];exact xj,by rw[hd];exact ku,?_,hc⟩;have:0 < g t b * q:=by rw[<-ku];omega
  exact Int.pos_of_mul_pos_right this hg
def f_  (h : b ≠ 0) : ∃p q : Int,ax t b = (p,q) /\ 0 < q /\ Int.gcd p q = 1 /\ t = dv t b * p /\ b = dv t b * q :=by
  obtain⟨p,q,hp,hq,h0,hc⟩ :=J4 (t :=t) h;have n0 :=Dr (t :=t) h;refine⟨p,q,?_,h0,hc,hp,hq⟩;unfold ax
  have e1 : t.fdiv (dv t b) = p := by conv => lhs; arg 1; rw [hp]
                                      exact Ai n0
  have e2 : b.fdiv (dv t b) = q := by conv => lhs; arg 1; rw [hq]
                                      exact Ai n0
  rw[e1,e2]
def cD(h:b≠0):t * (ax t b).2=b * (ax t b).1:=by
 have⟨p,q,e,_,_,hp,hq⟩:=f_ (t:=t) h;rw[e];show t * q=b * p
 calc t * q=dv t b * p * q:=by rw[<-hp]
  _=dv t b * q * p:=by rw[Int.mul_assoc,abl p q,<-Int.mul_assoc]
  _=b * p:=by rw[<-hq]
def b_(h:b≠0):0 < (ax t b).2:=by have⟨p,q,e,h0,_⟩:=f_ (t:=t) h;rw[e];exact h0
def zf(h:b≠0):Int.gcd (ax t b).1 (ax t b).2=1:=by have⟨p,q,e,_,hc,_⟩:=f_ (t:=t) h;rw[e];exact hc
def pA{k m n:Int}(h:k∣m * n)(hc:Int.gcd k m=1):k∣n:=by have:=(Int.dvd_gcd_mul_iff_dvd_mul (k:=k) (n:=m) (m:=n)).mpr h;rw[hc]at this;simpa using this
def B8{p q p' q':Int}(hq:0 < q)(ku:0 < q')(h:Int.gcd p q=1)(h':Int.gcd p' q'=1)(e:p * q'=p' * q):p=p'/\q=q':=by
 have d1:q∣q':=by have:q∣p * q':=⟨p',by rw[e,abl]⟩;exact pA this (by rw[Int.gcd_comm];exact h)
 have d2:q'∣q:=by have:q'∣p' * q:=⟨p,by rw[<-e,abl]⟩;exact pA this (by rw[Int.gcd_comm];exact h')
 have eq:q=q':=Int.le_antisymm (abZ ku d1) (abZ hq d2);subst eq;exact⟨Int.eq_of_mul_eq_mul_right () e,rfl⟩
def xC{p q:Int}(h:b≠0)(hq:0 < q)(hc:Int.gcd p q=1)(e:t * q=b * p):ax t b=(p,q):=by
 have h1:=cD (t:=t) h;have h2:=b_ (t:=t) h;have h3:=zf (t:=t) h;have h4:(ax t b).1 * q=p * (ax t b).2:=by
  have:b * ((ax t b).1 * q)=b * (p * (ax t b).2):=by rw[<-Int.mul_assoc,<-h1,Int.mul_right_comm,e,Int.mul_assoc]
  exact aaQ h this
 have:=B8 h2 hq h3 hc h4;exact Prod.ext this.1 this.2
def FG{p q:Int}(hq:0 < q)(hc:Int.gcd p q=1):ax p q=(p,q):=xC () hq hc (abl _ _)
def wg(h:b≠0):(dv t b).natAbs<=b.natAbs:=by
 have e:(dv t b).natAbs=Int.gcd t b:=by unfold dv g;split <;> omega
 rw[e];exact Int.gcd_le_natAbs_right t h
def qE  (h : b ≠ 0) : (ax t b).1.natAbs <= t.natAbs :=by
  obtain⟨p,q,e,_,_,hp,_⟩ :=f_ (t :=t) h;have n0 :=Dr (t :=t) h;rw[e];show p.natAbs <= t.natAbs
  have : t.natAbs = (dv t b).natAbs * p.natAbs := by conv => lhs; rw [hp]
                                                     exact abw _ _
  rw[this];exact Nat.le_mul_of_pos_left _ ()
def rB  (h : b ≠ 0) : (ax t b).2.natAbs <= b.natAbs :=by
  obtain⟨p,q,e,_,_,_,hq⟩ :=f_ (t :=t) h;have n0 :=Dr (t :=t) h;rw[e];show q.natAbs <= b.natAbs
  have : b.natAbs = (dv t b).natAbs * q.natAbs := by conv => lhs; rw [hq]
                                                     exact abw _ _
  rw[this];exact Nat.le_mul_of_pos_left _ ()
def MA(h:0 < b):ax t b=(t.fdiv (g t b),b.fdiv (g t b)):=by unfold ax dv;rw[aau ()]
end Fr0
namespace Tx
open PySem PySem.NumText
end Tx
namespace Bz
variable{f:Nat->Int}{n i a m:Nat}{μ ρ:List Nat}{d B:Int}
abbrev Row:=Nat->Int
variable{γ:List Row}{A W:Nat->Row}{w:Row}
abbrev Fn:=List Nat->Int
def Lx(x:Row):Fn->Fn
 | _,[]=>0
 | F,c::cs=>x c * F cs - Lx x (λt=>F (c::t)) cs
def BX(x:Row):∀(cs:List Nat) (F G:Fn),Lx x (λt=>F t+G t) cs=Lx x F cs+Lx x G cs
 | [],F,G=>by simp[Lx]
 | c::cs,F,G=>by have:=BX x cs (λt=>F (c::t)) (λt=>G (c::t));simp only[Lx];rw[this];grind
def lR(x:Row)(k:Int):∀(cs:List Nat) (F:Fn),Lx x (λt=>k * F t) cs=k * Lx x F cs
 | [],F=>by simp[Lx]
 | c::cs,F=>by have:=lR x k cs (λt=>F (c::t));simp only[Lx];rw[this];grind
def Kg(x:Row)(cs:List Nat)(F G:Fn):Lx x (λt=>F t - G t) cs=Lx x F cs - Lx x G cs:=by
 have h1:=BX x cs F (λt=>(-1) * G t);have h2:=lR x (-1) cs G;have e:(λt=>F t - G t)=λt=>F t+(-1) * G t:=by funext t;grind
 rw[e,h1,h2];grind
def DO(x:Row):∀(cs:List Nat),Lx x (λ_=>0) cs=0
 | []=>rfl
 | c::cs=>by simp only[Lx];rw[DO x cs];simp
def wj(x y:Row):∀(cs:List Nat) (F:Fn),Lx x (Lx y F) cs= - Lx y (Lx x F) cs
 | [],F=>rfl
 | c::cs,F=>by have ih:=wj x y cs (λt=>F (c::t));have e1:(λt=>Lx y F (c::t))=λt=>y c * F t - Lx y (λu=>F (c::u)) t:=rfl;have e2:(λt=>Lx x F (c::t))=λt=>x c * F t - Lx x (λu=>F (c::u)) t:=rfl;show x c * Lx y F cs - Lx x (λt=>Lx y F (c::t)) cs= -(y c * Lx x F cs - Lx y (λt=>Lx x F (c::t)) cs);rw[e1,e2,Kg,Kg,lR,lR,ih];grind
def K1(x:Row)(cs:List Nat)(F:Fn):Lx x (Lx x F) cs=0:=by have:=wj x x cs F;omega
def xk(x:Row)(d:Nat):∀(cs:List Nat) (F:Fn),Lx x F (cs++[d])=Lx x (λt=>F (t++[d])) cs+(-1) ^ cs.length * (x d * F cs)
 | [],F=>by simp[Lx]
 | c::cs,F=>by have:=xk x d cs (λt=>F (c::t));show x c * F (cs++[d]) - Lx x (λt=>F (c::t)) (cs++[d])=_;rw[this];show _=(x c * F (cs++[d]) - Lx x (λt=>F (c::(t++[d]))) cs)+(-1) ^ (cs.length+1) * (x d * F (c::cs));have e:(λt=>F (c::(t++[d])))=λt=>(λu=>F (c::u)) (t++[d]):=rfl;rw[e,abG];grind
def zI(x:Row){F G:Fn}{n:Nat}:∀(cs:List Nat),(∀t,t.length+1=cs.length->F t=G t)->Lx x F cs=Lx x G cs:=by
 intro cs
 induction cs generalizing F G with
 | nil=>intro _;rfl
 | cons c cs ih=>
  intro h;simp only[Lx];rw[h cs (by simp),ih (F:=λt=>F (c::t)) (G:=λt=>G (c::t)) λt ht=>h (c::t) (by simp;omega)]
def ω(f:Nat->Int):Nat->Int
 | 0=>0
 | n+1=>ω f n+f n
def gD(f g:Nat->Int):∀n,ω (λi=>f i+g i) n=ω f n+ω g n
 | 0=>rfl
 | n+1=>by simp only[ω];rw[gD f g n];omega
def Κ(k:Int)(f:Nat->Int):∀n,ω (λi=>k * f i) n=k * ω f n
 | 0=>by simp[ω]
 | n+1=>by simp only[ω];rw[Κ k f n,Int.mul_add]
def υ{f g:Nat->Int}:∀{n:Nat},(∀i,i < n->f i=g i)->ω f n=ω g n
 | 0,_=>rfl
 | n+1,h=>by simp only[ω];rw[υ λi hi=>h i (),h n ()]
def iS(h:∀i,i < n->f i=0):ω f n=0:=by
 rw[υ h];clear h
 induction n with
 | zero=>rfl
 | succ n ih=>simp only[ω];rw[ih];rfl
def iK{j:Nat}(hj:j < n)(h:∀i,i < n->i≠j->f i=0):ω f n=f j:=by
 induction n with
 | zero=>omega
 | succ n ih=>
  simp only[ω];by_cases e:j=n
  ·subst e;rw[iS λi hi=>h i () ()];omega
  ·rw[ih () λi hi mM=>h i () mM,h n () ()];omega
def mE(f:Nat->Int):∀n,ω f (n+1)=f 0+ω (λi=>f (i+1)) n
 | 0=>by simp[ω]
 | n+1=>by have:=mE f n;rw[show ω f (n+1+1)=ω f (n+1)+f (n+1) from rfl,this];simp only[ω];omega
def dq(f:Nat->Nat->Int)(m:Nat):∀n,ω (λi=>ω (f i) m) n=ω (λj=>ω (λi=>f i j) n) m
 | 0=>by rw[show ω (λi=>ω (f i) m) 0=0 from rfl];exact(iS λ_ _=>rfl).symm
 | n+1=>by rw[show ω (λi=>ω (f i) m) (n+1)=ω (λi=>ω (f i) m) n+ω (f n) m from rfl,dq f m n,<-gD];rfl
def xp(x:Row):∀(cs:List Nat) (F:Fn),Lx x F cs=ω (λp=>(-1) ^ p * (x (cs.getD p 0) * F (cs.eraseIdx p))) cs.length
 | [],F=>rfl
 | c::cs,F=>by
  have ih:=xp x cs (λt=>F (c::t));show x c * F cs - Lx x (λt=>F (c::t)) cs=_;rw[aaJ,mE,ih];have e:ω (λp=>(-1) ^ (p+1) * (x ((c::cs).getD (p+1) 0) * F ((c::cs).eraseIdx (p+1)))) cs.length= -1 * ω (λp=>(-1) ^ p * (x (cs.getD p 0) * F (c::cs.eraseIdx p))) cs.length:=by rw[<-Κ];refine υ λp _=>?_;simp only[List.getD_cons_succ,List.eraseIdx_cons_succ];rw[Int.pow_succ];grind
  rw[e];simp only[List.getD_cons_zero,List.eraseIdx_cons_zero,Int.pow_zero];omega
def F0:Fn:=λcs=>if cs=[] then 1 else 0
def D:List Row->Fn
 | []=>F0
 | x::xs=>Lx x (D xs)
def nB(y:Row):∀(xs ys:List Row) (cs:List Nat),D (xs++y::ys) cs=(-1) ^ xs.length * D (y::(xs++ys)) cs
 | [],ys,cs=>by simp
 | x::xs,ys,cs=>by
  show Lx x (D (xs++y::ys)) cs=_;have e:D (xs++y::ys)=λt=>(-1) ^ xs.length * D (y::(xs++ys)) t:=by funext t;exact nB y xs ys t
  rw[e,lR];show(-1) ^ xs.length * Lx x (Lx y (D (xs++ys))) cs=(-1) ^ (xs.length+1) * Lx y (Lx x (D (xs++ys))) cs;rw[wj x y,Int.pow_succ];grind
def TL(y:Row)(xs ys zs:List Row)(cs:List Nat):D (xs++y::(ys++y::zs)) cs=0:=by
 rw[nB];have e:D (y::(xs++(ys++y::zs))) cs=Lx y (λt=>D (xs++(ys++y::zs)) t) cs:=rfl;have e2:(λt=>D (xs++(ys++y::zs)) t)=λt=>(-1) ^ (xs++ys).length * Lx y (D (xs++ys++zs)) t:=by
  funext t
  rw[<-aaI,nB];rfl
 rw[e,e2,lR,K1];simp
def eV(γ:List Row)(μ:List Nat)(p k:Nat):Int:=(-1) ^ (p+k) * D (γ.eraseIdx k) (μ.eraseIdx p)
def zr:Row:=λ_=>0
def Qg(n:Nat):((-1:Int) ^ n) * (-1) ^ n=1:=by
 induction n with
 | zero=>rfl
 | succ n ih=>rw[Int.pow_succ];grind
def Hf{α:Type}:∀{l:List α} {k:Nat} (h:k < l.length),l=l.take k++l[k]::l.drop (k+1):=by intro l k h;rw[List.getElem_cons_drop,List.take_append_drop]
def Gv{α:Type}{l:List α}{k:Nat}(hi:i < l.length)(mM:i≠k):l[i]∈l.eraseIdx k:=by rw[List.mem_eraseIdx_iff_getElem];exact⟨i,hi,mM,rfl⟩
def PA{k:Nat}(hl:μ.length=γ.length)(hi:i < γ.length)(hk:k < γ.length):ω (λp=>γ.getD i zr (μ.getD p 0) * eV γ μ p k) γ.length=if i=k then D γ μ else 0:=by
 have gi:γ.getD i zr=γ[i]:=by rw[aab,aaa hi];rfl
 have e:ω (λp=>γ.getD i zr (μ.getD p 0) * eV γ μ p k) γ.length=(-1) ^ k * D (γ.getD i zr::γ.eraseIdx k) μ:=by show _=(-1) ^ k * Lx (γ.getD i zr) (D (γ.eraseIdx k)) μ;rw[xp,<-Κ,hl];refine υ λp _=>?_;unfold eV;rw[Int.pow_add];grind
 rw[e,gi];by_cases h:i=k
 ·subst h;rw[aaq rfl];have s:=Hf hi;have f:=nB γ[i] (γ.take i) (γ.drop (i+1)) μ;rw[<-s,ab1,abW ()]at f;rw[f,List.eraseIdx_eq_take_drop_succ]
 ·rw[aau h];have⟨ys,zs,e2⟩:=List.append_of_mem (Gv hi h);rw[e2];have:=TL γ[i] [] ys zs μ;rw[show D (γ[i]::(ys++γ[i]::zs)) μ=0 from this];simp
def w8(x:Row)(g:Nat->Int)(F:Nat->Fn)(cs:List Nat):∀n,Lx x (λt=>ω (λk=>g k * F k t) n) cs=ω (λk=>g k * Lx x (F k) cs) n
 | 0=>DO x cs
 | n+1=>by have:=BX x cs (λt=>ω (λk=>g k * F k t) n) (λt=>g n * F n t);show Lx x (λt=>ω (λk=>g k * F k t) n+g n * F n t) cs=_;rw[this,w8 x g F cs n,lR];rfl
def NR(c:Nat):∀(γ:List Row) (t:List Nat),D γ (t++[c])=ω (λk=>(-1) ^ (t.length+k) * (γ.getD k zr c * D (γ.eraseIdx k) t)) γ.length
 | [],t=>by show F0 (t++[c])=0;unfold F0;simp
 | x::xs,t=>by
  show Lx x (D xs) (t++[c])=_;rw[xk,aaJ,mE];have e:Lx x (λu=>D xs (u++[c])) t=ω (λk=>(-1) ^ (t.length+(k+1)) * ((x::xs).getD (k+1) zr c * D ((x::xs).eraseIdx (k+1)) t)) xs.length:=by
   have e1:Lx x (λu=>D xs (u++[c])) t=Lx x (λu=>ω (λk=>((-1) ^ (t.length+(k+1)) * xs.getD k zr c) * D (xs.eraseIdx k) u) xs.length) t:=by refine zI x (n:=0) t λu hu=>?_;rw[NR c xs u];refine υ λk _=>?_;rw[<-hu,show u.length+1+(k+1)=u.length+k+1+1 by omega,Int.pow_succ,Int.pow_succ];grind
   rw[e1,w8 x (λk=>(-1) ^ (t.length+(k+1)) * xs.getD k zr c) (λk=>D (xs.eraseIdx k))];refine υ λk _=>?_;simp only[List.getD_cons_succ,List.eraseIdx_cons_succ];show _=(-1) ^ (t.length+(k+1)) * (xs.getD k zr c * Lx x (D (xs.eraseIdx k)) t);grind
  rw[e];simp only[List.getD_cons_zero,List.eraseIdx_cons_zero,Nat.add_zero];omega
def HG{y:Row}{c:Nat}(hl:μ.length=γ.length):D (γ++[y]) (μ++[c])=y c * D γ μ - ω (λp=>y (μ.getD p 0) * ω (λk=>eV γ μ p k * γ.getD k zr c) γ.length) γ.length:=by
 rw[nB,aaY];show(-1) ^ γ.length * Lx y (D γ) (μ++[c])=_;rw[xk];have e1:Lx y (λt=>D γ (t++[c])) μ= - ((-1) ^ γ.length * ω (λp=>y (μ.getD p 0) * ω (λk=>eV γ μ p k * γ.getD k zr c) γ.length) γ.length):=by
  have e2:Lx y (λt=>D γ (t++[c])) μ=Lx y (λt=>ω (λk=>(-((-1) ^ (γ.length+k) * γ.getD k zr c)) * D (γ.eraseIdx k) t) γ.length) μ:=by refine zI y (n:=0) μ λt ht=>?_;rw[NR c γ t];refine υ λk _=>?_;rw[<-hl,<-ht,show t.length+1+k=t.length+k+1 by omega,Int.pow_succ];grind
  rw[e2,w8 y (λk=> -((-1) ^ (γ.length+k) * γ.getD k zr c)) (λk=>D (γ.eraseIdx k))];have e3:ω (λk=> -((-1) ^ (γ.length+k) * γ.getD k zr c) * Lx y (D (γ.eraseIdx k)) μ) γ.length=ω (λk=>ω (λp=> -((-1) ^ γ.length) * (y (μ.getD p 0) * (eV γ μ p k * γ.getD k zr c))) γ.length) γ.length:=by refine υ λk _=>?_;rw[xp,<-Κ,hl];refine υ λp _=>?_;unfold eV;rw[Int.pow_add,Int.pow_add];grind
  rw[e3,dq];have e4:ω (λp=>ω (λk=> -((-1) ^ γ.length) * (y (μ.getD p 0) * (eV γ μ p k * γ.getD k zr c))) γ.length) γ.length=ω (λp=> -((-1) ^ γ.length) * (y (μ.getD p 0) * ω (λk=>eV γ μ p k * γ.getD k zr c) γ.length)) γ.length:=by refine υ λp _=>?_;rw[Κ,Κ]
  rw[e4,Κ];grind
 rw[e1,hl];have s:=Qg γ.length;generalize ((-1:Int) ^ γ.length)=z at *
 generalize ω _ γ.length=q;grind
def IH{v:Nat->Int}{e:Int}{k:Nat}(hl:μ.length=γ.length)(hi:i < γ.length)(hk:k < γ.length)
  (h:∀p,p < γ.length->ω (λj=>v j * γ.getD j zr (μ.getD p 0)) γ.length=if i=p then e else 0):v k * D γ μ=e * eV γ μ i k:=by
 have a:ω (λp=>ω (λj=>v j * γ.getD j zr (μ.getD p 0)) γ.length * eV γ μ p k) γ.length=e * eV γ μ i k:=by rw[iK hi λp hp mM=>by rw[h p hp,if_neg (Ne.symm mM)];simp];rw[h i hi,aaq rfl]
 have b:ω (λp=>ω (λj=>v j * γ.getD j zr (μ.getD p 0)) γ.length * eV γ μ p k) γ.length=ω (λj=>v j * ω (λp=>γ.getD j zr (μ.getD p 0) * eV γ μ p k) γ.length) γ.length:=by
  have e1:ω (λp=>ω (λj=>v j * γ.getD j zr (μ.getD p 0)) γ.length * eV γ μ p k) γ.length=ω (λp=>ω (λj=>v j * (γ.getD j zr (μ.getD p 0) * eV γ μ p k)) γ.length) γ.length:=by refine υ λp _=>?_;rw[abl,<-Κ];refine υ λj _=>?_;grind
  rw[e1,dq];refine υ λj _=>?_;rw[<-Κ]
 rw[<-a,b,iK hk λj hj mM=>by rw[PA hl hj hk,if_neg mM];simp];rw[PA hl hk hk,aaq rfl]
def ind(a k:Nat):Int:=if a=k then 1 else 0
def rv(A:Nat->Row)(n:Nat)(w:Row)(x:Nat):Int:=ω (λk=>w k * A k x) n
def nG(h:a < n):ω (λk=>ind a k * f k) n=f a:=by rw[iK h λi _ mM=>by unfold ind;rw[if_neg (Ne.symm mM)];simp];unfold ind;rw[if_pos rfl];simp
def wm{u v:Row}{a b:Int}(h:∀k,w k=a * u k - b * v k)(x:Nat):rv A n w x=a * rv A n u x - b * rv A n v x:=by
 unfold rv;have e:ω (λk=>w k * A k x) n=ω (λk=>a * (u k * A k x)+(-b) * (v k * A k x)) n:=υ λk _=>by rw[h k];grind
 rw[e,gD,Κ,Κ];grind
def IT{r:Nat}{g:Nat->Int}{u:Nat->Row}(h:∀k,w k=ω (λj=>g j * u j k) r)(x:Nat):rv A n w x=ω (λj=>g j * rv A n (u j) x) r:=by
 unfold rv;have e:ω (λk=>w k * A k x) n=ω (λk=>ω (λj=>g j * (u j k * A k x)) r) n:=υ λk _=>by rw[h k,abl,<-Κ];exact υ λj _=>by grind
 rw[e,dq];exact υ λj _=>Κ _ _ _
def CA(h:a < n)(x:Nat):rv A n (ind a) x=A a x:=by unfold rv;exact nG (f:=λk=>A k x) h
structure St(A:Nat->Row)(n:Nat)(ρ μ:List Nat)(q:Nat->Nat)(d:Int)(W:Nat->Row):Prop where
 lc:μ.length=ρ.length
 rn:ρ.length<=n
 K2:∀i,i < n->q i < n
 zH:∀j,j < ρ.length->ρ.getD j 0 < n
 det:D (ρ.map A) μ=d
 wp:∀i,i < ρ.length->∀k,W i k=ω (λj=>eV (ρ.map A) μ i j * ind (ρ.getD j 0) k) ρ.length
 wn:∀i,ρ.length<=i->i < n->∀k,W i k=d * ind (q i) k - ω (λp=>A (q i) (μ.getD p 0) * W p k) ρ.length
 one:∀i p,i < ρ.length->p < ρ.length->rv A n (W i) (μ.getD p 0)=if i=p then d else 0
section
variable{q:Nat->Nat}
def tG{j:Nat}(h:j < ρ.length):(ρ.map A).getD j zr=A (ρ.getD j 0):=by rw[aab,aak,aaa h,aab,aaa h];rfl
def St.QG(s:St A n ρ μ q d W)(hi:i < ρ.length)(x:Nat):rv A n (W i) x=ω (λj=>eV (ρ.map A) μ i j * A (ρ.getD j 0) x) ρ.length:=by rw[IT (u:=λj=>ind (ρ.getD j 0)) (s.wp i hi)];exact υ λj hj=>by rw[CA (s.zH j hj)]
def St.P8(s:St A n ρ μ q d W)(h1:ρ.length<=i)(hi:i < n)(x:Nat):rv A n (W i) x=d * A (q i) x - ω (λp=>A (q i) (μ.getD p 0) * rv A n (W p) x) ρ.length:=by
 have h:∀k,W i k=d * ind (q i) k - 1 * ω (λp=>A (q i) (μ.getD p 0) * W p k) ρ.length:=λk=>by rw[s.wn i h1 hi k];omega
 rw[wm h x,CA (s.K2 i hi),IT (w:=λk=>ω (λp=>A (q i) (μ.getD p 0) * W p k) ρ.length) (u:=W) (λk=>rfl)];omega
def St.zero(s:St A n ρ μ q d W){p:Nat}(h1:ρ.length<=i)(hi:i < n)(hp:p < ρ.length):rv A n (W i) (μ.getD p 0)=0:=by
 rw[s.P8 h1 hi];have e:ω (λp'=>A (q i) (μ.getD p' 0) * rv A n (W p') (μ.getD p 0)) ρ.length=A (q i) (μ.getD p 0) * d:=by rw[iK hp λp' xj mM=>by rw[s.one p' p xj hp,if_neg mM];simp];rw[s.one p p hp hp,aaq rfl]
 rw[e];grind
def St.head(s:St A n ρ μ q d W)(hr:ρ.length < n)(c:Nat):D ((ρ++[q ρ.length]).map A) (μ++[c])=rv A n (W ρ.length) c:=by
 rw[aa2,s.P8 (aaj _) hr];show D (ρ.map A++[A (q ρ.length)]) (μ++[c])=_;rw[HG (by rw[aae];exact s.lc),s.det,aae,abl]
 congr 1
 refine υ λp hp=>?_;rw[s.QG hp]
 congr 1
 exact υ λk hk=>by rw[tG hk]
def nj{j:Nat}{l:List Nat}(h:j < l.length):(l++[a]).getD j 0=l.getD j 0:=by rw[aab,aas h,<-aab]
def mT{l:List Nat}:(l++[a]).getD l.length 0=a:=by simp
def mix(f:Nat->Int)(s:St A n ρ μ q d W)(a L:Int)(g:Nat->Int):
  ω (λj=>(if j < ρ.length then a * g j+L * ω (λp=>A (q ρ.length) (μ.getD p 0) * eV (ρ.map A) μ p j) ρ.length else -(L * d)) * f ((ρ++[q ρ.length]).getD j 0)) (ρ.length+1)
  =a * ω (λj=>g j * f (ρ.getD j 0)) ρ.length - L * (d * f (q ρ.length) - ω (λp=>A (q ρ.length) (μ.getD p 0) * ω (λj=>eV (ρ.map A) μ p j * f (ρ.getD j 0)) ρ.length) ρ.length):=by
 rw[show∀F:Nat->Int,ω F (ρ.length+1)=ω F ρ.length+F ρ.length fromλ_=>rfl,mT,aau (abJ _)]
 have e:ω (λj=>(if j < ρ.length then a * g j+L * ω (λp=>A (q ρ.length) (μ.getD p 0) * eV (ρ.map A) μ p j) ρ.length else -(L * d)) * f ((ρ++[q ρ.length]).getD j 0)) ρ.length
   =ω (λj=>a * (g j * f (ρ.getD j 0))+L * ω (λp=>A (q ρ.length) (μ.getD p 0) * (eV (ρ.map A) μ p j * f (ρ.getD j 0))) ρ.length) ρ.length:=by
  refine υ λj hj=>?_;rw[aaq hj,nj hj];have e2:ω (λp=>A (q ρ.length) (μ.getD p 0) * (eV (ρ.map A) μ p j * f (ρ.getD j 0))) ρ.length=f (ρ.getD j 0) * ω (λp=>A (q ρ.length) (μ.getD p 0) * eV (ρ.map A) μ p j) ρ.length:=by rw[<-Κ];exact υ λp _=>by grind
  rw[e2];grind
 rw[e,gD,Κ,Κ,dq (λj p=>A (q ρ.length) (μ.getD p 0) * (eV (ρ.map A) μ p j * f (ρ.getD j 0)))]
 have e3:ω (λp=>ω (λj=>A (q ρ.length) (μ.getD p 0) * (eV (ρ.map A) μ p j * f (ρ.getD j 0))) ρ.length) ρ.length=ω (λp=>A (q ρ.length) (μ.getD p 0) * ω (λj=>eV (ρ.map A) μ p j * f (ρ.getD j 0)) ρ.length) ρ.length:=
  υ λp _=>Κ _ _ _
 rw[e3];grind
def St.step(s:St A n ρ μ q d W)(hr:ρ.length < n)(c:Nat)(d0:d≠0)(h0:rv A n (W ρ.length) c≠0):
  ∃W':Nat->Row,St A n (ρ++[q ρ.length]) (μ++[c]) q (rv A n (W ρ.length) c) W'/\(∀k,W' ρ.length k=W ρ.length k)/\
   ∀i,i < n->i≠ρ.length->∀k,d * W' i k=rv A n (W ρ.length) c * W i k - rv A n (W i) c * W ρ.length k:=by
 have hd:=s.head hr c;generalize hE:rv A n (W ρ.length) c=E at *
 have lr:((ρ++[q ρ.length]).map A).length=ρ.length+1:=by simp
 have Zi:(μ++[c]).length=((ρ++[q ρ.length]).map A).length:=by rw[lr];simp[s.lc]
 have cg:∀p,p < ρ.length->(μ++[c]).getD p 0=μ.getD p 0:=λp hp=>nj (by rw[s.lc];exact hp);have cl:(μ++[c]).getD ρ.length 0=c:=by rw[<-s.lc];exact mT
 have rg:∀j,j < ρ.length+1->((ρ++[q ρ.length]).map A).getD j zr=A ((ρ++[q ρ.length]).getD j 0):=λj hj=>tG (by simp;omega);have head:∀j,j < ρ.length+1->(if j < ρ.length then (0:Int) * 0+(-1) * ω (λp=>A (q ρ.length) (μ.getD p 0) * eV (ρ.map A) μ p j) ρ.length else -((-1) * d))=eV ((ρ++[q ρ.length]).map A) (μ++[c]) ρ.length j:=λj hj=>by
  have:=IH (γ:=(ρ++[q ρ.length]).map A) (μ:=μ++[c]) (v:=λj=>if j < ρ.length then (0:Int) * 0+(-1) * ω (λp=>A (q ρ.length) (μ.getD p 0) * eV (ρ.map A) μ p j) ρ.length else -((-1) * d)) (e:=E) (i:=ρ.length) (k:=j) Zi (by rw[lr];omega) (by rw[lr];exact hj) (λp hp=>by
   rw[lr]at hp⊢;have e1:=mix (λa=>A a ((μ++[c]).getD p 0)) s 0 (-1) (λ_=>0);have e2:ω (λj=>(if j < ρ.length then (0:Int) * 0+(-1) * ω (λp=>A (q ρ.length) (μ.getD p 0) * eV (ρ.map A) μ p j) ρ.length else -((-1) * d)) * ((ρ++[q ρ.length]).map A).getD j zr ((μ++[c]).getD p 0)) (ρ.length+1)=_:=(υ λj hj=>by rw[rg j hj]).trans e1;rw[e2];have e3:d * A (q ρ.length) ((μ++[c]).getD p 0) - ω (λp'=>A (q ρ.length) (μ.getD p' 0) * ω (λj=>eV (ρ.map A) μ p' j * A (ρ.getD j 0) ((μ++[c]).getD p 0)) ρ.length) ρ.length=rv A n (W ρ.length) ((μ++[c]).getD p 0):=by
    rw[s.P8 (aaj _) hr]
    congr 1
    exact υ λp' xj=>by rw[s.QG xj]
   rw[e3];by_cases Fw:p < ρ.length
   ·rw[cg p Fw,s.zero (Nat.le_refl _) hr Fw,if_neg ()];simp
   ·have:p=ρ.length:=()
    subst this
    rw[cl,hE,aaq rfl];omega)
  rw[hd]at this;refine aaQ h0 ?_;rw[<-this];grind
 have hk:∀k,W ρ.length k=ω (λj=>eV ((ρ++[q ρ.length]).map A) (μ++[c]) ρ.length j * ind ((ρ++[q ρ.length]).getD j 0) k) (ρ.length+1):=λk=>by
  have e1:=mix (λa=>ind a k) s 0 (-1) (λ_=>0);have e2:ω (λj=>eV ((ρ++[q ρ.length]).map A) (μ++[c]) ρ.length j * ind ((ρ++[q ρ.length]).getD j 0) k) (ρ.length+1)=_:=(υ λj hj=>by rw[<-head j hj]).trans e1;rw[e2,s.wn _ (aaj _) hr k];have e3:ω (λp=>A (q ρ.length) (μ.getD p 0) * W p k) ρ.length=ω (λp=>A (q ρ.length) (μ.getD p 0) * ω (λj=>eV (ρ.map A) μ p j * ind (ρ.getD j 0) k) ρ.length) ρ.length:=υ λp hp=>by rw[s.wp p hp k]
  rw[e3];omega
 have above:∀i,i < ρ.length->∀j,j < ρ.length+1->(if j < ρ.length then E * eV (ρ.map A) μ i j+rv A n (W i) c * ω (λp=>A (q ρ.length) (μ.getD p 0) * eV (ρ.map A) μ p j) ρ.length else -(rv A n (W i) c * d))=d * eV ((ρ++[q ρ.length]).map A) (μ++[c]) i j:=λi hi j hj=>by
  have:=IH (γ:=(ρ++[q ρ.length]).map A) (μ:=μ++[c]) (v:=λj=>if j < ρ.length then E * eV (ρ.map A) μ i j+rv A n (W i) c * ω (λp=>A (q ρ.length) (μ.getD p 0) * eV (ρ.map A) μ p j) ρ.length else -(rv A n (W i) c * d)) (e:=d * E) (i:=i) (k:=j) Zi (by rw[lr];omega) (by rw[lr];exact hj) (λp hp=>by
   rw[lr]at hp⊢;have e1:=mix (λa=>A a ((μ++[c]).getD p 0)) s E (rv A n (W i) c) (λj=>eV (ρ.map A) μ i j);have e2:ω (λj=>(if j < ρ.length then E * eV (ρ.map A) μ i j+rv A n (W i) c * ω (λp=>A (q ρ.length) (μ.getD p 0) * eV (ρ.map A) μ p j) ρ.length else -(rv A n (W i) c * d)) * ((ρ++[q ρ.length]).map A).getD j zr ((μ++[c]).getD p 0)) (ρ.length+1)=_:=(υ λj hj=>by rw[rg j hj]).trans e1;rw[e2];have e3:d * A (q ρ.length) ((μ++[c]).getD p 0) - ω (λp'=>A (q ρ.length) (μ.getD p' 0) * ω (λj=>eV (ρ.map A) μ p' j * A (ρ.getD j 0) ((μ++[c]).getD p 0)) ρ.length) ρ.length=rv A n (W ρ.length) ((μ++[c]).getD p 0):=by
    rw[s.P8 (aaj _) hr]
    congr 1
    exact υ λp' xj=>by rw[s.QG xj]
   rw[e3,<-s.QG hi];by_cases Fw:p < ρ.length
   ·rw[cg p Fw,s.zero (aaj _) hr Fw,s.one i p hi Fw];split <;> grind
   ·have:p=ρ.length:=()
    subst this
    rw[cl,hE,if_neg ()];grind)
  rw[hd]at this;refine aaQ h0 ?_;rw[Int.mul_comm,this];grind
 have Z4:∀i,i < ρ.length->∀k,d * ω (λj=>eV ((ρ++[q ρ.length]).map A) (μ++[c]) i j * ind ((ρ++[q ρ.length]).getD j 0) k) (ρ.length+1)=E * W i k - rv A n (W i) c * W ρ.length k:=λi hi k=>by
  have e1:=mix (λa=>ind a k) s E (rv A n (W i) c) (λj=>eV (ρ.map A) μ i j);have e2:d * ω (λj=>eV ((ρ++[q ρ.length]).map A) (μ++[c]) i j * ind ((ρ++[q ρ.length]).getD j 0) k) (ρ.length+1)=_:=((Κ _ _ _).symm.trans (υ λj hj=>by rw[above i hi j hj];grind)).trans e1;rw[e2,s.wn _ (aaj _) hr k,s.wp i hi k];have e3:ω (λp=>A (q ρ.length) (μ.getD p 0) * W p k) ρ.length=ω (λp=>A (q ρ.length) (μ.getD p 0) * ω (λj=>eV (ρ.map A) μ p j * ind (ρ.getD j 0) k) ρ.length) ρ.length:=υ λp hp=>by rw[s.wp p hp k]
  rw[e3]
 let V:Nat->Row:=λi k=>if i=ρ.length then W ρ.length k else ω (λj=>eV ((ρ++[q ρ.length]).map A) (μ++[c]) i j * ind ((ρ++[q ρ.length]).getD j 0) k) (ρ.length+1)
 let W':Nat->Row:=λi k=>if i < ρ.length+1 then V i k else E * ind (q i) k - ω (λp=>A (q i) ((μ++[c]).getD p 0) * V p k) (ρ.length+1)
 have Wr:∀k,W' ρ.length k=W ρ.length k:=λk=>by show(if ρ.length < ρ.length+1 then (if ρ.length=ρ.length then W ρ.length k else _) else _)=_;rw[aaq (abA _),aaq rfl]
 have Wi:∀i,i < ρ.length->∀k,W' i k=ω (λj=>eV ((ρ++[q ρ.length]).map A) (μ++[c]) i j * ind ((ρ++[q ρ.length]).getD j 0) k) (ρ.length+1):=λi hi k=>by show(if i < ρ.length+1 then (if i=ρ.length then _ else _) else _)=_;rw[aaq (),aau ()]
 have WV:∀p,p < ρ.length+1->∀k,W' p k=V p k:=λp hp k=>by show(if p < ρ.length+1 then V p k else _)=_;rw[aaq hp]
 have Wn:∀i,ρ.length+1<=i->∀k,W' i k=E * ind (q i) k - ω (λp=>A (q i) ((μ++[c]).getD p 0) * W' p k) (ρ.length+1):=λi hi k=>by
  show(if i < ρ.length+1 then V i k else _)=_;rw[aau ()]
  congr 1
  exact υ λp hp=>by rw[WV p hp]
 have H:∀i,i < n->i≠ρ.length->∀k,d * W' i k=E * W i k - rv A n (W i) c * W ρ.length k:=λi hi mM k=>by
  by_cases vV:i < ρ.length
  ·rw[Wi i vV k];exact Z4 i vV k
  ·rw[Wn i () k,s.wn i () hi k,s.P8 () hi c];rw[show∀F:Nat->Int,ω F (ρ.length+1)=ω F ρ.length+F ρ.length fromλ_=>rfl,cl,Wr];have e1:d * ω (λp=>A (q i) ((μ++[c]).getD p 0) * W' p k) ρ.length=ω (λp=>E * (A (q i) (μ.getD p 0) * W p k)+(-(W ρ.length k)) * (A (q i) (μ.getD p 0) * rv A n (W p) c)) ρ.length:=by rw[<-Κ];refine υ λp hp=>?_;have:=Z4 p hp k;rw[cg p hp,Wi p hp k];grind
   rw[gD,Κ,Κ]at e1;grind
 refine⟨W',⟨by simp[s.lc],by simp;omega,s.K2,λj hj=>?_,hd,λi hi k=>?_,λi h1 hi k=>?_,λi p hi hp=>?_⟩,Wr,H⟩
 ·by_cases YK:j < ρ.length
  ·rw[nj YK];exact s.zH j YK
  ·have:j=ρ.length:=by simp at hj;omega
   rw[this,mT];exact s.K2 _ hr
 ·rw[show(ρ++[q ρ.length]).length=ρ.length+1 by simp]at hi⊢;by_cases vV:i < ρ.length
  ·exact Wi i vV k
  ·have:i=ρ.length:=()
   subst this;rw[Wr k];exact hk k
 ·rw[show(ρ++[q ρ.length]).length=ρ.length+1 by simp]at h1⊢;exact Wn i h1 k
 ·rw[show(ρ++[q ρ.length]).length=ρ.length+1 by simp]at hi hp;have hrr:∀x,rv A n (W' ρ.length) x=rv A n (W ρ.length) x:=λx=>by unfold rv;exact υ λk _=>by rw[Wr k]
  by_cases vV:i < ρ.length
  ·have Xe:d * rv A n (W' i) ((μ++[c]).getD p 0)=E * rv A n (W i) ((μ++[c]).getD p 0) - rv A n (W i) c * rv A n (W ρ.length) ((μ++[c]).getD p 0):=by have:=wm (A:=A) (n:=n) (w:=λk=>d * W' i k) (u:=W i) (v:=W ρ.length) (a:=E) (b:=rv A n (W i) c) (λk=>H i () () k) ((μ++[c]).getD p 0);rw[<-this];unfold rv;rw[<-Κ];exact υ λk _=>by grind
   refine aaQ d0 ?_;rw[Xe];by_cases Fw:p < ρ.length
   ·rw[cg p Fw,s.zero (aaj _) hr Fw,s.one i p vV Fw];split <;> grind
   ·have:p=ρ.length:=()
    subst this;rw[cl,hE,if_neg ()];grind
  ·have:i=ρ.length:=()
   subst this;rw[hrr];by_cases Fw:p < ρ.length
   ·rw[cg p Fw,s.zero (aaj _) hr Fw,aau ()]
   ·have:p=ρ.length:=()
    subst this;rw[cl,hE,aaq rfl]
end
def St.start:St A n [] [] id 1 (λi=>ind i) where
 lc:=rfl
 rn:=ab5 _
 K2:=λ_ h=>h
 zH:=λ_ h=>aay h (abN _)
 det:=rfl
 wp:=λ_ h=>aay h (abN _)
 wn:=λi _ _ k=>by show ind i k=1 * ind i k - 0;omega
 one:=λ_ _ h=>aay h (abN _)
def St.perm{q:Nat->Nat}(s:St A n ρ μ q d W){π:Nat->Nat}(h1:∀i,i < ρ.length->π i=i)(h2:∀i,ρ.length<=i->i < n->ρ.length<=π i/\π i < n):St A n ρ μ (λi=>q (π i)) d (λi=>W (π i)) where
 lc:=s.lc
 rn:=s.rn
 K2:=λi hi=>s.K2 _ (by
  by_cases h:i < ρ.length
  ·rw[h1 i h];exact hi
  ·exact(h2 i () hi).2)
 zH:=s.zH
 det:=s.det
 wp:=λi hi k=>by show W (π i) k=_;rw[h1 i hi];exact s.wp i hi k
 wn:=λi hi hn k=>by
  have⟨a,b⟩:=h2 i hi hn;have:=s.wn (π i) a b k;rw[this]
  congr 1
  exact υ λp hp=>by rw[h1 p hp]
 one:=λi p hi hp=>by show rv A n (W (π i)) _=_;rw[h1 i hi];exact s.one i p hi hp
def Ab(x B:Int):Prop:= -B<=x/\x<=B
def Ab.mul{x y C:Int}(h:Ab x B)(h':Ab y C):Ab (x * y) (B * C):=by
 have⟨a,b⟩:=h;have⟨c,d⟩:=h';have B0:0<=B:=()
 have C0:0<=C:=()
 have hb:x.natAbs<=B.natAbs:=()
 have hc:y.natAbs<=C.natAbs:=()
 have hm:=Nat.mul_le_mul hb hc;rw[<-abw,<-abw]at hm;have p:=abt B0 C0;exact⟨(),()⟩
def Ab.add{x y C:Int}(h:Ab x B)(h':Ab y C):Ab (x+y) (B+C):=⟨by have:=h.1;have:=h'.1;omega,by have:=h.2;have:=h'.2;omega⟩
def Ab.sub{x y C:Int}(h:Ab x B)(h':Ab y C):Ab (x - y) (B+C):=⟨by have:=h.1;have:=h'.2;omega,by have:=h.2;have:=h'.1;omega⟩
def Ab.mono{x C:Int}(h:Ab x B)(h':B<=C):Ab x C:=⟨by have:=h.1;omega,by have:=h.2;omega⟩
def Ab.sum{f:Nat->Int}{B:Int}:∀{n:Nat},(∀i,i < n->Ab (f i) B)->Ab (ω f n) (n * B)
 | 0,_=>⟨by simp[ω],by simp[ω]⟩
 | n+1,h=>by
  have i:=Ab.sum (n:=n) λi hi=>h i ();have:=Ab.add i (h n ());have e:(n:Int) * B+B=((n+1:Nat):Int) * B:=by rw[show((n+1:Nat):Int)=(n:Int)+1 from rfl,Int.add_mul,Int.one_mul]
  rw[e]at this;exact this
def Ab.pow{k:Nat}{x:Int}(h:Ab x B):Ab ((-1) ^ k * x) B:=by
 rcases(by induction k with
  | zero=>exact .inl rfl
  | succ k ih=>rw[Int.pow_succ];rcases ih with e| e <;> rw[e] <;> simp:((-1:Int) ^ k=1\/(-1:Int) ^ k= -1)) with e| e
 ·rw[e,Int.one_mul];exact h
 ·rw[e];have⟨a,b⟩:=h;exact⟨(),()⟩
def Ab.det{B:Int}(B0:1<=B):∀(γ:List Row) (μ:List Nat),(∀x∈γ,∀c∈μ,Ab (x c) B)->μ.length<=12->Ab (D γ μ) ((12 * B) ^ γ.length)
 | [],μ,_,_=>by
  show Ab (F0 μ) ((12 * B) ^ 0);rw[acA];unfold F0;split
  ·exact⟨@_,@_⟩
  ·exact⟨@_,@_⟩
 | x::γ,μ,h,hl=>by
  show Ab (Lx x (D γ) μ) _;rw[xp,aaJ,abG];have P0:(0:Int)<=(12 * B) ^ γ.length:=ace ();have each:∀p,p < μ.length->Ab ((-1) ^ p * (x (μ.getD p 0) * D γ (μ.eraseIdx p))) (B * (12 * B) ^ γ.length):=λp hp=>by
   refine Ab.pow (Ab.mul ?_ (Ab.det B0 γ (μ.eraseIdx p) (λy hy c hc=>h y (aac _ hy) c (acn hc)) ?_))
   ·rw[aab,aaa hp];exact h x aad _ (aal hp)
   ·rw[List.length_eraseIdx];split <;> omega
  refine(Ab.sum each).mono ?_;have Q0:0<=B * (12 * B) ^ γ.length:=abt () P0;have:=aaF (show(μ.length:Int)<=12 by omega) Q0;refine aaL this ?_;have e:12 * (B * (12 * B) ^ γ.length)=(12 * B) ^ γ.length * (12 * B):=by grind
  omega
section
variable{q:Nat->Nat}
structure Bd(A:Nat->Row)(n m:Nat)(B:Int):Prop where
 b1:1<=B
 ab:∀k x,k < n->x < m->Ab (A k x) B
def top(B:Int)(r:Nat):Int:=(12 * B) ^ (r+3)
def xu{b:Nat}(h:1<=B)(Vh:a<=b):(12 * B) ^ a<=(12 * B) ^ b:=by
 have⟨c,rfl⟩:=Nat.exists_eq_add_of_le Vh;rw[Int.pow_add];have p:(1:Int)<=(12 * B) ^ c:=by have:0 < (12 * B) ^ c:=Int.pow_pos ();omega
 have q:(0:Int)<=(12 * B) ^ a:=ace ();have:=aaX p q;omega
def St.abs(s:St A n ρ μ q d W)(b:Bd A n m B)(hc:∀c∈μ,c < m)(hr:ρ.length<=12):
  (∀i k,i < n->Ab (W i k) (top B ρ.length))/\(∀i x,i < n->x < m->Ab (rv A n (W i) x) (top B ρ.length))/\Ab d (top B ρ.length):=by
 have B0:=b.b1;have mem:∀j,j < ρ.length->ρ.getD j 0∈ρ:=λj hj=>by rw[aab,aaa hj];exact aal hj
 have ρn:∀a∈ρ,a < n:=λa ha=>by have⟨j,hj,e⟩:=aba ha;have:=s.zH j hj;rw[aab,aaa hj]at this;rw[<-e];exact this
 have ent:∀x∈ρ.map A,∀c∈μ,Ab (x c) B:=λx hx c AH=>by have⟨a,ha,rfl⟩:=aan.mp hx;exact b.ab a c (ρn a ha) (hc c AH)
 have cl:μ.length<=12:=by rw[s.lc];exact hr
 have hd:Ab d ((12 * B) ^ ρ.length):=by have:=Ab.det B0 (ρ.map A) μ ent cl;rw[s.det,aae]at this;exact this
 have UQ:∀p k,Ab (eV (ρ.map A) μ p k) ((12 * B) ^ ρ.length):=λp k=>by
  unfold eV;refine Ab.pow ((Ab.det B0 _ _ (λx hx c AH=>ent x (acn hx) c (acn AH)) ?_).mono (xu B0 ?_))
  ·rw[List.length_eraseIdx];split <;> omega
  ·rw[List.length_eraseIdx,aae];split <;> omega
 have i1:∀a k,Ab (ind a k) 1:=λa k=>by unfold ind;split <;> exact⟨@_,@_⟩
 have P0:(0:Int)<=(12 * B) ^ ρ.length:=ace ();have LI:∀{C:Int},0<=C->(ρ.length:Int) * C<=12 * C:=λh=>aaF () h;have c1:12 * (12 * B) ^ ρ.length<=(12 * B) ^ (ρ.length+1):=by rw[abG];have:=aaX (show(12:Int)<=12 * B by omega) P0;omega
 have wp:∀i k,i < ρ.length->Ab (W i k) ((12 * B) ^ (ρ.length+1)):=λi k hi=>by rw[s.wp i hi k];refine(Ab.sum (B:=(12 * B) ^ ρ.length) λj hj=>?_).mono (aaL (LI P0) c1);have:=Ab.mul (UQ i j) (i1 (ρ.getD j 0) k);rw[Int.mul_one]at this;exact this
 have rp:∀i x,i < ρ.length->x < m->Ab (rv A n (W i) x) ((12 * B) ^ (ρ.length+1)):=λi x hi hx=>by
  rw[s.QG hi];have Q0:0<=(12 * B) ^ ρ.length * B:=abt P0 ();refine(Ab.sum (B:=(12 * B) ^ ρ.length * B) λj hj=>Ab.mul (UQ i j) (b.ab _ x (s.zH j hj) hx)).mono (aaL (LI Q0) ?_);rw[abG];have:12 * ((12 * B) ^ ρ.length * B)=(12 * B) ^ ρ.length * (12 * B):=by grind
  omega
 have S0:(0:Int)<=(12 * B) ^ (ρ.length+1):=ace ();have T0:(0:Int)<=(12 * B) ^ (ρ.length+2):=ace ();have c2:12 * (B * (12 * B) ^ (ρ.length+1))=(12 * B) ^ (ρ.length+2):=by rw[show ρ.length+2=ρ.length+1+1 from rfl,Int.pow_succ];grind
 have c3:(12 * B) ^ (ρ.length+2)+(12 * B) ^ (ρ.length+2)<=top B ρ.length:=by unfold top;have e:(12 * B) ^ (ρ.length+3)=(12 * B) ^ (ρ.length+2) * (12 * B):=abG _ _;rw[e];have:=aaX (show(2:Int)<=12 * B by omega) T0;omega
 have c4:(12 * B) ^ (ρ.length+1)<=(12 * B) ^ (ρ.length+2):=xu B0 ();have c5:(12 * B) ^ ρ.length<=(12 * B) ^ (ρ.length+2):=xu B0 ();have c6:(12 * B) ^ ρ.length * B<=(12 * B) ^ (ρ.length+2):=by refine aaL ?_ c4;rw[abG];exact aaX () P0
 have U0:0<=B * (12 * B) ^ (ρ.length+1):=abt () S0;have Sg:∀p,p < ρ.length->μ.getD p 0 < m:=λp hp=>by
  have xj:p < μ.length:=by rw[s.lc];exact hp
  rw[aab,aaa xj];exact hc _ (aal xj)
 refine⟨λi k hi=>?_,λi x hi hx=>?_,hd.mono ()⟩
 ·by_cases vV:i < ρ.length
  ·exact(wp i k vV).mono ()
  ·rw[s.wn i () hi k];have a1:=Ab.mul hd (i1 (q i) k);rw[Int.mul_one]at a1;refine(Ab.sub a1 (Ab.sum (B:=B * (12 * B) ^ (ρ.length+1)) λp hp=>Ab.mul (b.ab (q i) _ (s.K2 i hi) (Sg p hp)) (wp p k hp))).mono ?_;have:=LI U0;omega
 ·by_cases vV:i < ρ.length
  ·exact(rp i x vV hx).mono ()
  ·rw[s.P8 () hi];refine(Ab.sub (Ab.mul hd (b.ab (q i) x (s.K2 i hi) hx)) (Ab.sum (B:=B * (12 * B) ^ (ρ.length+1)) λp hp=>Ab.mul (b.ab (q i) _ (s.K2 i hi) (Sg p hp)) (rp p x hp hx))).mono ?_;have:=LI U0;omega
end
def dc(n i:Nat):List Int:=(List.range n).map (ind i)
def j6(ls:List (List Int))(f k:Nat):List (List Int):=ls.take f++[ls.getD k []]++(ls.drop f).take (k - f)++ls.drop (k+1)
def c8(l h:List Int)(c:Nat)(d:Int):List Int:=(l.zip h).map λp=>(h.getD c 0 * p.1 - l.getD c 0 * p.2).fdiv d
def az(A:Nat->Row)(n m:Nat)(w:Row):List Int:=(List.range m).map (λx=>rv A n w x)++(List.range n).map w
def Φ(A:Nat->Row)(n m:Nat)(W:Nat->Row):List (List Int):=(List.range n).map λi=>az A n m (W i)
def arr(γ:List (List Int)):Nat->Row:=λk x=>(γ.getD k []).getD x 0
def eI:(az A n m w).length=m+n:=by unfold az;simp
def g8{x:Nat}(h:x < m):(az A n m w).getD x 0=rv A n w x:=by unfold az;rw[List.getD_eq_getElem?_getD,List.getElem?_append_left (by simpa using h),List.getElem?_map,List.getElem?_range h];rfl
def jE(h:i < n):(Φ A n m W).getD i []=az A n m (W i):=by unfold Φ;rw[aab,aak,aaO h];rfl
def dj:(Φ A n m W).length=n:=by unfold Φ;simp
def CB{u:Row}(h:∀k,w k=u k):az A n m w=az A n m u:=by have:w=u:=funext h;rw[this]
def zg{γ:List (List Int)}(hl:∀r∈γ,r.length=m):(List.range γ.length).map (λi=>γ.getD i []++dc γ.length i)=Φ (arr γ) γ.length m (λi=>ind i):=by
 unfold Φ;apply abi;intro i hi;have hi:=aa5.mp hi;unfold az dc
 congr 1
 have g:γ.getD i []=γ[i]:=by rw[aab,aaa hi];rfl
 have ml:=hl γ[i] (aal hi);apply abp
 ·rw[g,ml];simp
 ·intro x h1 h2;simp only[List.getElem_map,List.getElem_range];rw[CA hi];unfold arr;rw[aab (l:=γ.getD i []),aaa h1];rfl
def iT(r k i:Nat):Nat:=if i < r then i else if i=r then k else if i<=k then i - 1 else i
def yy{r k:Nat}(hr:r<=k)(hk:k < n):j6 (Φ A n m W) r k=Φ A n m (λi=>W (iT r k i)):=by
 unfold j6;rw[jE hk];unfold Φ;apply List.ext_getElem?;intro i;rw[aak];simp only[List.append_assoc];by_cases h1:i < r
 ·rw[List.getElem?_append_left (by simp;omega),List.getElem?_take_of_lt h1,List.getElem?_map];rw[aaO ()];have:iT r k i=i:=by unfold iT;rw[if_pos h1]
  simp[this]
 ·rw[List.getElem?_append_right (by simp;omega)];have lt:((List.map (λi=>az A n m (W i)) (List.range n)).take r).length=r:=by simp;omega
  rw[lt];by_cases h2:i=r
  ·subst h2;rw[Nat.sub_self,List.getElem?_append_left (by simp)];rw[aaO ()];have:iT i k i=k:=by unfold iT;rw[if_neg (Nat.lt_irrefl _),if_pos rfl]
   simp[this]
  ·rw[List.getElem?_append_right (by simp;omega)];show(_++_)[i - r - 1]? =_;have l2:((List.map (λi=>az A n m (W i)) (List.range n)).drop r|>.take (k - r)).length=k - r:=by simp;omega
   by_cases h3:i<=k
   ·rw[aas (by rw[l2];omega),acm (),List.getElem?_drop,aak,aaO (),aaO ()];have:iT r k i=i - 1:=by unfold iT;rw[if_neg h1,if_neg h2,if_pos h3]
    simp only[Option.map_some,this];rw[show r+(i - r - 1)=i - 1 by omega]
   ·rw[aax (by rw[l2];omega),l2,List.getElem?_drop,aak];rw[show k+1+(i - r - 1 - (k - r))=i by omega];by_cases h4:i < n
    ·rw[aaO h4];have:iT r k i=i:=by unfold iT;rw[if_neg h1,if_neg h2,if_neg h3]
     simp[this]
    ·rw[List.getElem?_eq_none (by simpa using h4)];rfl
def rj{a b:Int}(h:d≠0)(e:d * b=a):a.fdiv d=b:=by rw[<-e];exact Int.mul_fdiv_cancel_left b h
def sU{c:Nat}{u v:Row}(hc:c < m)(d0:d≠0)(h:∀k,d * v k=rv A n u c * w k - rv A n w c * u k):c8 (az A n m w) (az A n m u) c d=az A n m v:=by
 have hr:∀x,d * rv A n v x=rv A n u c * rv A n w x - rv A n w c * rv A n u x:=λx=>by have:=wm (A:=A) (n:=n) (w:=λk=>d * v k) (u:=w) (v:=u) (a:=rv A n u c) (b:=rv A n w c) h x;rw[<-this];unfold rv;rw[<-Κ];exact υ λk _=>by grind
 unfold c8;rw[g8 hc,g8 hc];unfold az;rw[List.zip_append (by simp),List.map_append]
 congr 1
 ·apply abp
  ·simp
  ·intro x h1 h2;simp only[List.getElem_map,List.getElem_zip,List.getElem_range];exact rj d0 (hr x)
 ·apply abp
  ·simp
  ·intro x h1 h2;simp only[List.getElem_map,List.getElem_zip,List.getElem_range];exact rj d0 (h x)
structure Turn(A:Nat->Row)(n:Nat)(col:Nat)(ρ μ:List Nat)(q:Nat->Nat)(d:Int)(W:Nat->Row):Prop where
 st:St A n ρ μ q d W
 d0:d≠0
 cl:∀c∈μ,c < col
 PZ:∀i,i < ρ.length->q i=ρ.getD i 0
 N_:∀k,k < n->∃i,i < n/\q i=k
 zero:∀i,ρ.length<=i->i < n->∀x,x < col->rv A n (W i) x=0
 all:μ=List.range col\/∃x,x < col/\x∉μ
def Turn.start:Turn A n 0 [] [] id 1 (λi=>ind i) where
 st:=St.start
 d0:=@_
 cl:=λ_ h=>nomatch h
 PZ:=λ_ h=>aay h (abN _)
 N_:=λk h=>⟨k,h,rfl⟩
 zero:=λ_ _ _ _ h=>aay h (abN _)
 all:=.inl rfl
section
variable{col:Nat}{q:Nat->Nat}
def Turn.skip(t:Turn A n col ρ μ q d W)(h:∀i,ρ.length<=i->i < n->rv A n (W i) col=0):Turn A n (col+1) ρ μ q d W where
 st:=t.st
 d0:=t.d0
 cl:=λc hc=>abE (t.cl c hc)
 PZ:=t.PZ
 N_:=t.N_
 zero:=λi h1 h2 x hx=>by
  by_cases e:x=col
  ·rw[e];exact h i h1 h2
  ·exact t.zero i h1 h2 x ()
 all:=.inr ⟨col,abA _,λz=>aay (t.cl col z) (abJ _)⟩
def Turn.move(t:Turn A n col ρ μ q d W){k:Nat}(h1:ρ.length<=k)(h2:k < n):Turn A n col ρ μ (λi=>q (iT ρ.length k i)) d (λi=>W (iT ρ.length k i)) where
 st:=t.st.perm (λi hi=>by unfold iT;rw[if_pos hi]) λi a b=>by unfold iT;split <;> (try split) <;> (try split) <;> omega
 d0:=t.d0
 cl:=t.cl
 PZ:=λi hi=>by show q (iT ρ.length k i)=_;rw[show iT ρ.length k i=i by unfold iT;rw[if_pos hi]];exact t.PZ i hi
 N_:=λj hj=>by
  have⟨i,hi,e⟩:=t.N_ j hj;by_cases a:i < ρ.length
  ·exact⟨i,hi,by show q (iT ρ.length k i)=j;rw[show iT ρ.length k i=i by unfold iT;rw[if_pos a]];exact e⟩
  ·by_cases b:i=k
   ·exact⟨ρ.length,(),by show q (iT ρ.length k ρ.length)=j;rw[show iT ρ.length k ρ.length=k by unfold iT;rw[if_neg (Nat.lt_irrefl _),if_pos rfl],<-b];exact e⟩
   ·by_cases c:i < k
    ·exact⟨i+1,(),by show q (iT ρ.length k (i+1))=j;rw[show iT ρ.length k (i+1)=i by unfold iT;rw[if_neg (),if_neg (),if_pos ()];omega];exact e⟩
    ·exact⟨i,hi,by show q (iT ρ.length k i)=j;rw[show iT ρ.length k i=i by unfold iT;rw[if_neg a,if_neg (),if_neg ()]];exact e⟩
 zero:=λi a b x hx=>by
  have:ρ.length<=iT ρ.length k i/\iT ρ.length k i < n:=by unfold iT;split <;> (try split) <;> (try split) <;> omega
  exact t.zero _ this.1 this.2 x hx
 all:=t.all
def Turn.step(t:Turn A n col ρ μ q d W)(hr:ρ.length < n)(hm:col < m)(h0:rv A n (W ρ.length) col≠0):
  ∃W',Turn A n (col+1) (ρ++[q ρ.length]) (μ++[col]) q (rv A n (W ρ.length) col) W'/\
   ((Φ A n m W).take ρ.length).map (λl=>c8 l (az A n m (W ρ.length)) col d)++[az A n m (W ρ.length)]++((Φ A n m W).drop (ρ.length+1)).map (λl=>c8 l (az A n m (W ρ.length)) col d)=Φ A n m W':=by
 have⟨W',s',e1,e2⟩:=t.st.step hr col t.d0 h0;refine⟨W',⟨s',h0,λc hc=>?_,λi hi=>?_,t.N_,λi a b x hx=>?_,?_⟩,?_⟩
 ·rcases aaR.mp hc with z| z
  ·exact abE (t.cl c z)
  ·have:c=col:=by simpa using z
   omega
 ·by_cases vV:i < ρ.length
  ·rw[nj vV];exact t.PZ i vV
  ·have:i=ρ.length:=by simp at hi;omega
   rw[this,mT]
 ·rw[show(ρ++[q ρ.length]).length=ρ.length+1 by simp]at a;have Xe:d * rv A n (W' i) x=rv A n (W ρ.length) col * rv A n (W i) x - rv A n (W i) col * rv A n (W ρ.length) x:=by have:=wm (A:=A) (n:=n) (w:=λk=>d * W' i k) (u:=W i) (v:=W ρ.length) (λk=>e2 i b () k) x;rw[<-this];unfold rv;rw[<-Κ];exact υ λk _=>by grind
  refine aaQ t.d0 ?_;rw[Xe];by_cases e:x=col
  ·subst e;grind
  ·rw[t.zero i () b x (),t.zero ρ.length (Nat.le_refl _) hr x ()];simp
 ·rcases t.all with z| ⟨x,a,b⟩
  ·left;rw[z,List.range_succ]
  ·refine .inr ⟨x,(),λz=>?_⟩;rcases aaR.mp z with z| z
   ·exact b z
   ·have:x=col:=by simpa using z
    omega
 ·unfold Φ;rw[<-List.map_take,<-aca,aaN,aaN];apply List.ext_getElem?;intro i;simp only[List.append_assoc];have lt:(List.map ((λl=>c8 l (az A n m (W ρ.length)) col d) ∘ λi=>az A n m (W i)) ((List.range n).take ρ.length)).length=ρ.length:=by simp;omega
  by_cases h1:i < ρ.length
  ·rw[aas (by rw[lt];exact h1),aak,aak,acm h1,aaO ()];show some (c8 (az A n m (W i)) (az A n m (W ρ.length)) col d)=some _;rw[sU hm t.d0 (e2 i () ())]
  ·rw[aax (by rw[lt];omega),lt,aak];by_cases h2:i=ρ.length
   ·subst h2;rw[abX,aaO hr];show some (az A n m (W ρ.length))=some (az A n m (W' ρ.length));rw[CB e1]
   ·rw[List.getElem?_append_right (by simp;omega)];show(List.map _ ((List.range n).drop (ρ.length+1)))[i - ρ.length - 1]? =_;rw[aak,List.getElem?_drop,show ρ.length+1+(i - ρ.length - 1)=i by omega];by_cases h4:i < n
    ·rw[aaO h4];show some (c8 (az A n m (W i)) (az A n m (W ρ.length)) col d)=some _;rw[sU hm t.d0 (e2 i h4 h2)]
    ·rw[List.getElem?_eq_none (by simpa using h4)];rfl
end
section
variable{col:Nat}{q:Nat->Nat}
def Turn.back(t:Turn A n col ρ μ q d W){k y:Nat}(hk:k < n)(hy:y < col):d * A k y=ω (λp=>A k (μ.getD p 0) * rv A n (W p) y) ρ.length:=by
 have⟨i,hi,e⟩:=t.N_ k hk;have s:=t.st;by_cases vV:i < ρ.length
 ·have ek:k=ρ.getD i 0:=by rw[<-e];exact t.PZ i vV
  have lr:(ρ.map A).length=ρ.length:=aae _;have e1:ω (λp=>A k (μ.getD p 0) * rv A n (W p) y) ρ.length=ω (λp=>ω (λj=>(A k (μ.getD p 0) * eV (ρ.map A) μ p j) * A (ρ.getD j 0) y) ρ.length) ρ.length:=υ λp hp=>by rw[s.QG hp,<-Κ];exact υ λj _=>by grind
  have e2:ω (λp=>ω (λj=>(A k (μ.getD p 0) * eV (ρ.map A) μ p j) * A (ρ.getD j 0) y) ρ.length) ρ.length=ω (λj=>A (ρ.getD j 0) y * ω (λp=>(ρ.map A).getD i zr (μ.getD p 0) * eV (ρ.map A) μ p j) ρ.length) ρ.length:=by rw[dq];refine υ λj _=>?_;rw[<-Κ];refine υ λp _=>?_;rw[tG vV,<-ek];grind
  rw[e1,e2];have pa:∀j,j < ρ.length->ω (λp=>(ρ.map A).getD i zr (μ.getD p 0) * eV (ρ.map A) μ p j) ρ.length=if i=j then d else 0:=λj hj=>by have:=PA (γ:=ρ.map A) (μ:=μ) (i:=i) (k:=j) (by rw[lr];exact s.lc) (by rw[lr];exact vV) (by rw[lr];exact hj);rw[lr,s.det]at this;exact this
  rw[iK vV λj hj mM=>by rw[pa j hj,if_neg (Ne.symm mM)];simp];rw[pa i vV,if_pos rfl,ek];grind
 ·have:=s.P8 () hi y;rw[t.zero i () hi y hy,e]at this;omega
def Turn.kernel(t:Turn A n col ρ μ q d W){x:Nat}(hx:x < col)(hf:x∉μ):∃z:Row,z x= -d/\∀k,k < n->ω (λy=>A k y * z y) col=0:=by
 have s:=t.st;have cm:∀i,i < ρ.length->μ.getD i 0∈μ:=λi hi=>by
  have Ja:i < μ.length:=by rw[s.lc];exact hi
  rw[aab,aaa Ja];exact aal Ja
 refine⟨λy=>ω (λi=>rv A n (W i) x * ind (μ.getD i 0) y) ρ.length - d * ind x y,?_,λk hk=>?_⟩
 ·have e1:ω (λi=>rv A n (W i) x * ind (μ.getD i 0) x) ρ.length=0:=iS λi hi=>by unfold ind;rw[if_neg λz=>hf (by rw[<-z];exact cm i hi)];simp
  show ω (λi=>rv A n (W i) x * ind (μ.getD i 0) x) ρ.length - d * ind x x= -d;rw[e1];unfold ind;rw[if_pos rfl];omega
 ·have gen:∀f:Row,ω (λy=>f y * (ω (λi=>rv A n (W i) x * ind (μ.getD i 0) y) ρ.length - d * ind x y)) col=ω (λi=>rv A n (W i) x * f (μ.getD i 0)) ρ.length - d * f x:=λf=>by
   have e1:ω (λy=>f y * (ω (λi=>rv A n (W i) x * ind (μ.getD i 0) y) ρ.length - d * ind x y)) col=ω (λy=>ω (λi=>rv A n (W i) x * (ind (μ.getD i 0) y * f y)) ρ.length+(-d) * (ind x y * f y)) col:=υ λy _=>by
    have:ω (λi=>rv A n (W i) x * (ind (μ.getD i 0) y * f y)) ρ.length=f y * ω (λi=>rv A n (W i) x * ind (μ.getD i 0) y) ρ.length:=by rw[<-Κ];exact υ λi _=>by grind
    rw[this];grind
   rw[e1,gD,Κ,nG (f:=f) hx,dq];have e2:ω (λi=>ω (λy=>rv A n (W i) x * (ind (μ.getD i 0) y * f y)) col) ρ.length=ω (λi=>rv A n (W i) x * f (μ.getD i 0)) ρ.length:=υ λi hi=>by rw[Κ,nG (f:=f) (t.cl _ (cm i hi))]
   rw[e2];grind
  refine aaQ t.d0 ?_;rw[Int.mul_zero,gen (A k),Int.mul_sub];have b1:=t.back hk hx;have e3:ω (λi=>rv A n (W i) x * A k (μ.getD i 0)) ρ.length=d * A k x:=by rw[b1];exact υ λi _=>abl _ _
  rw[e3];grind
def Oh(A:Nat->Row)(n u:Nat)(z:Row)(N:Int):Prop:=∀k,k < n->ω (λx=>A k x * z x) u=N * A k u
def Oh.line{u:Nat}{z:Row}{N:Int}(h:Oh A n u z N)(w:Row):ω (λx=>rv A n w x * z x) u=N * rv A n w u:=by
 unfold rv;have e1:ω (λx=>ω (λk=>w k * A k x) n * z x) u=ω (λx=>ω (λk=>w k * (A k x * z x)) n) u:=υ λx _=>by rw[abl,<-Κ];exact υ λk _=>by grind
 rw[e1,dq,<-Κ];refine υ λk hk=>?_;rw[Κ,h k hk];grind
def Turn.rest(t:Turn A n col ρ μ q d W){z:Row}{N:Int}(hs:Oh A n col z N)(hN:N≠0)(h1:ρ.length<=i)(hi:i < n):rv A n (W i) col=0:=by
 have:=hs.line (W i);rw[iS λx hx=>by rw[t.zero i h1 hi x hx];simp]at this;rcases Int.mul_eq_zero.mp this.symm with e| e
 ·exact aay e hN
 ·exact e
def Turn.told(t:Turn A n col ρ μ q d W)(hc:μ=List.range col){z:Row}{N:Int}(hs:Oh A n col z N)(hi:i < col):d * z i=N * rv A n (W i) col:=by
 have s:=t.st;have hl:ρ.length=col:=by rw[<-s.lc,hc,aa8]
 have g:∀p,p < col->μ.getD p 0=p:=λp hp=>by rw[hc,aab,aaO hp];rfl
 rw[<-hs.line (W i)]
 rw[iK hi λx hx mM=>by
  have:=s.one i x (by rw[hl];exact hi) (by rw[hl];exact hx);rw[g x hx,aau (Ne.symm mM)]at this
  rw[this];simp]
 have:=s.one i i (by rw[hl];exact hi) (by rw[hl];exact hi);rw[g i hi,aaq rfl]at this;rw[this]
end
def Turn.exists{A:Nat->Row}{n:Nat}:∀col:Nat,∃ρ μ q d W,Turn A n col ρ μ q d W
 | 0=>⟨_,_,_,_,_,Turn.start⟩
 | col+1=>by
  have⟨ρ,μ,q,d,W,t⟩:=Turn.exists (A:=A) (n:=n) col;by_cases h:∃k,ρ.length<=k/\k < n/\rv A n (W k) col≠0
  ·have⟨k,h1,h2,h3⟩:=h;have t':=t.move h1 h2;have e:iT ρ.length k ρ.length=k:=by unfold iT;rw[if_neg (Nat.lt_irrefl _),if_pos rfl]
   have⟨W',t2,_⟩:=t'.step (m:=col+1) () () (by show rv A n (W (iT ρ.length k ρ.length)) col≠0;rw[e];exact h3);exact⟨_,_,_,_,_,t2⟩
  ·refine⟨_,_,_,_,_,t.skip λi h1 h2=>?_⟩;by_cases e:rv A n (W i) col=0
   ·exact e
   ·exact aay ⟨i,h1,h2,e⟩ h
section
variable{col:Nat}{q:Nat->Nat}
def KC(A:Nat->Row)(n:Nat)(W:Nat->Row)(μ:List Nat)(s k:Nat):Row:=λy=>ω (λi=>rv A n (W i) s * ind (μ.getD i 0) y) k
def Turn.MG(t:Turn A n col ρ μ q d W){x:Nat}(hx:x < col):∀k,k < n->ω (λy=>A k y * (KC A n W μ x μ.length y - d * ind x y)) col=0:=λk hk=>by
 have s:=t.st;have cm:∀i,i < ρ.length->μ.getD i 0∈μ:=λi hi=>by
  have Ja:i < μ.length:=by rw[s.lc];exact hi
  rw[aab,aaa Ja];exact aal Ja
 unfold KC;rw[s.lc];have gen:∀f:Row,ω (λy=>f y * (ω (λi=>rv A n (W i) x * ind (μ.getD i 0) y) ρ.length - d * ind x y)) col=ω (λi=>rv A n (W i) x * f (μ.getD i 0)) ρ.length - d * f x:=λf=>by
  have e1:ω (λy=>f y * (ω (λi=>rv A n (W i) x * ind (μ.getD i 0) y) ρ.length - d * ind x y)) col=ω (λy=>ω (λi=>rv A n (W i) x * (ind (μ.getD i 0) y * f y)) ρ.length+(-d) * (ind x y * f y)) col:=υ λy _=>by
   have:ω (λi=>rv A n (W i) x * (ind (μ.getD i 0) y * f y)) ρ.length=f y * ω (λi=>rv A n (W i) x * ind (μ.getD i 0) y) ρ.length:=by rw[<-Κ];exact υ λi _=>by grind
   rw[this];grind
  rw[e1,gD,Κ,nG (f:=f) hx,dq];have e2:ω (λi=>ω (λy=>rv A n (W i) x * (ind (μ.getD i 0) y * f y)) col) ρ.length=ω (λi=>rv A n (W i) x * f (μ.getD i 0)) ρ.length:=υ λi hi=>by rw[Κ,nG (f:=f) (t.cl _ (cm i hi))]
  rw[e2];grind
 refine aaQ t.d0 ?_;rw[Int.mul_zero,gen (A k),Int.mul_sub];have b1:=t.back hk hx;have e3:ω (λi=>rv A n (W i) x * A k (μ.getD i 0)) ρ.length=d * A k x:=by rw[b1];exact υ λi _=>abl _ _
 rw[e3];grind
def Turn.Tt(t:Turn A n col ρ μ q d W)(h:∀i,ρ.length<=i->i < n->rv A n (W i) col=0):Oh A n col (KC A n W μ col μ.length) d:=λk hk=>by
 have:=(t.skip h).MG (x:=col) () k hk;have e:ω (λy=>A k y * (KC A n W μ col μ.length y - d * ind col y)) (col+1)=ω (λy=>A k y * (KC A n W μ col μ.length y - d * ind col y)) col+A k col * (KC A n W μ col μ.length col - d * ind col col):=rfl;have e1:ω (λy=>A k y * (KC A n W μ col μ.length y - d * ind col y)) col=ω (λy=>A k y * KC A n W μ col μ.length y) col:=υ λy hy=>by
  have:ind col y=0:=by unfold ind;rw[if_neg ()]
  rw[this];grind
 have e2:KC A n W μ col μ.length col=0:=iS λi hi=>by
  have hm:μ.getD i 0∈μ:=by rw[aab,aaa hi];exact aal hi
  have:ind (μ.getD i 0) col=0:=by unfold ind;rw[if_neg (by have:=t.cl _ hm;omega)]
  rw[this,Int.mul_zero]
 have e3:ind col col=1:=by unfold ind;rw[if_pos rfl]
 rw[e,e1,e2,e3]at this;have:A k col * (0 - d * 1)= -(d * A k col):=by grind
 omega
def St.VH(s:St A n ρ μ q d W)(b:Bd A n m B)(hc:∀c∈μ,c < m)(hr:ρ.length<=12):Ab d ((12 * B) ^ ρ.length):=by
 have ρn:∀a∈ρ,a < n:=λa ha=>by have⟨j,hj,e⟩:=aba ha;have:=s.zH j hj;rw[aab,aaa hj]at this;rw[<-e];exact this
 have:=Ab.det b.b1 (ρ.map A) μ (λx hx c AH=>by
  have⟨a,ha,rfl⟩:=aan.mp hx
  exact b.ab a c (ρn a ha) (hc c AH)) (by rw[s.lc];exact hr)
 rw[s.det,aae]at this;exact this
end
end Bz
seal L2.JE L2.JT L2.JW L2.JA L2.JS L2.CW L2.JI L2.JK
local macro_rules| `(tactic| walk_at "vc")=>`(tactic| dsimp only[L2.gN,L2.Ub,L2.Tn,L2.SU,L2.Qf,L2.NN,L2.YU,L2.SQ,L2.tJ,L2.Ag,L2.NJ,L2.D4,L2.jO,L2.Uu,L2.xR,L2.dC,L2.Oe,L2.GU,L2.Tg,L2.Rg,L2.mQ,L2.RS,L2.Zo,L2.Q1,L2.QV,L2.Z6,L2.Zk,L2.oq,List.map_cons,List.map_nil,List.length_cons,List.length_nil,List.cons_append,List.nil_append,List.replicate,List.getElem?_cons_zero,List.getElem?_cons_succ,List.set_cons_zero,List.set_cons_succ,Nat.reduceSub,Nat.reduceAdd,Nat.zero_add])
namespace Pg
open PySem L2
variable{f bG iN cX bF:Addr}{fd bB iM cU bD:FuncData}{i n m j p:Nat}{M:Ms}{d:Dt}{xs ds:List Dt}{b t E C B:Int}{ns:List Str}{A W:Nat->Bz.Row}{S:Sp}{gs:List Nat}
def top(i:Nat):Stmt:=PySem.Challenge.pw_chanceduel_k45_whole_whatever_the_hand_d.main.body.getD i (.Pass ⟨0,0,0,0⟩)
def cls(i j:Nat):Stmt:=match top i with
 | .ClassDef _ _ _ b _ _ _ _ _ _ _=>b.getD j (.Pass ⟨0,0,0,0⟩)
 | _=>.Pass ⟨0,0,0,0⟩
abbrev gJ:Stmt:=top 9
abbrev oI:Stmt:=top 10
abbrev Cd:Stmt:=top 12
abbrev B9:Stmt:=top 13
abbrev AR:Stmt:=top 14
abbrev rK:Stmt:=top 19
abbrev ph:Stmt:=top 20
abbrev ia:Stmt:=top 21
abbrev iV:Stmt:=top 22
abbrev lM:Stmt:=top 23
abbrev tq:Stmt:=top 24
abbrev lN:Stmt:=top 25
abbrev lP:Stmt:=top 29
abbrev nZ:Stmt:=top 31
abbrev Bm:Stmt:=top 32
abbrev i8:Stmt:=top 35
abbrev h_:Stmt:=top 36
abbrev j8:Stmt:=top 37
abbrev iU:Stmt:=top 38
abbrev sZ:Stmt:=top 39
abbrev mx:Stmt:=top 40
abbrev oz:Stmt:=top 42
abbrev oW:Stmt:=top 44
abbrev my:Stmt:=top 45
abbrev nY:Stmt:=top 46
abbrev oH:Stmt:=top 47
abbrev wX:Stmt:=top 48
abbrev jP:Stmt:=top 50
abbrev tD:Stmt:=top 51
abbrev mh:Stmt:=top 52
abbrev Ii:Stmt:=top 53
abbrev mI:Stmt:=top 55
abbrev ma:Stmt:=top 56
abbrev mG:Stmt:=top 57
abbrev mB:Stmt:=top 58
abbrev lS:Stmt:=top 59
abbrev md:Stmt:=top 60
abbrev q_:Stmt:=top 61
abbrev qY:Stmt:=top 62
abbrev qJ:Stmt:=top 63
abbrev vK:Stmt:=top 65
abbrev mw:Stmt:=top 66
abbrev rJ:Stmt:=top 67
abbrev lQ:Stmt:=top 68
abbrev wB:Stmt:=top 69
abbrev oQ:Stmt:=top 70
abbrev qN:Stmt:=top 71
abbrev oV:Stmt:=top 72
abbrev lI:Stmt:=top 73
abbrev rR:Stmt:=top 74
abbrev s_:Stmt:=top 75
abbrev rN:Stmt:=top 76
abbrev Qt:Stmt:=top 77
abbrev me:Stmt:=cls 33 0
abbrev lT:Stmt:=cls 33 1
abbrev j9:Stmt:=cls 33 2
abbrev lX:Stmt:=cls 33 3
abbrev jJ:Stmt:=cls 33 4
abbrev lZ:Stmt:=cls 33 6
open PySem L2 Fr0 Tx
structure Ev(K:fI)(mg:Str->Option Value)(Cm:Addr):Prop where
 bW:mg "len"=none
 qM:mg "abs"=none
 iW:mg "isinstance"=none
 Dd:mg "int"=none
 AW:mg "bool"=none
 Hn:mg "str"=none
 ya:mg "tuple"=none
 mC:mg "list"=none
 bI:mg "range"=none
 cB:mg "enumerate"=none
 yM:mg "any"=none
 yS:mg "all"=none
 rP:mg "sum"=none
 Aj:mg "zip"=none
 vZ:mg "dict"=none
 CT:mg "min"=none
 ib:PySem.W.kitOne K (.type "int") (.type "bool")=some false
 kis:PySem.W.kitOne K (.type "int") (.type "str")=some false
 kts:PySem.W.kitOne K (.type "tuple") (.type "str")=some false
 kti:PySem.W.kitOne K (.type "tuple") (.type "int")=some false
 kls:PySem.W.kitOne K (.type "list") (.type "str")=some false
 kli:PySem.W.kitOne K (.type "list") (.type "int")=some false
 Uv:PySem.W.kitOne K (.type "tuple") (.type "list")=some false
 klt:PySem.W.kitOne K (.type "list") (.type "tuple")=some false
 fB:Fy K Cm
 de:hX K Cm "kept_rows"
 ir:hX K Cm "kept_share"
 Cg:∃a o its n,mg "HANDS"=some (.ref a)/\K.lookup a=some o/\o.cls= .type "tuple"/\o.data= .seq its n/\its.size<=sizeLine/\Paired (λ(z:Str) (u:Value)=>∃tk,u= .str z tk) ["one","other"] its.toList
 pI:∃tk,mg "MOST_DOORS"=some (.int 6 tk)
 i5:∃tk,mg "MOST_BOTTOM"=some (.int 1000000 tk)
 mZ:∃tk,mg "MOST_PLACES"=some (.int 12 tk)
 gp:∃tk,mg "MOST_SHARE_BOTTOM"=some (.int 1000 tk)
section
variable{P:Program}{w:World}{K:fI}{mg:Str->Option Value}{base:Heap}{Cm:Addr}
def JV:DF:=λds M q _=>match ds with
 | [.int a,.int b]=>q (.int (g a b)) M
 | _=>False
def bL:Γ ["one","other","great","small","rest"] ["one","other"] (χ gJ):=.of rfl
def oh(F:dE K "common_divisor" "common_divisor" gJ f fd)(E:Ev K mg Cm):aw P w K mg base (cP P w) 1 f fd ["one","other"] (dw K JV):=by
 refine F.eF bL (λds M q x h=>?_) (λbz A outer s H E' hr=>⟨_,(ζ (ψ 2 bL.nd (Ee E.qM (Ν (jv 0) η)))
   (ζ (ψ 3 bL.nd (Ee E.qM (Ν (jv 1) η)))
   (ζ (jK (rV hr (jv 3) ο) (ζ (ψ 4 bL.nd (cQ (jv 2) (jv 3)))
   (ζ (ψ 2 bL.nd (jv 3))
   (θ (ψ 3 bL.nd (jv 4))))))
   (θ (Δ (jv 2)))))),λds M q x h=>?_⟩)
 ·unfold JV at h;split at h;· rfl
  ·exact h.elim
 ·unfold JV at h;split at h
  ·rename_i a b;refine⟨λm ρ M'=>M'=M/\∃(x y:Int) (r:Option Dt),ρ=[some (.int a),some (.int b),some (.int x),some (.int y),r]/\0<=x/\0<=y/\g x y=g a b/\m=y.toNat,⟨_,rfl,_,_,_,rfl,by split <;> omega,by split <;> omega,Nj a b,rfl⟩,?_⟩;rintro m ρ M' ⟨rfl,x,y,r,rfl,hx,hy,e,rfl⟩;refine⟨λhb=>?_,λhb=>?_⟩
   ·have Lq:y≠0:=by simpa using hb
    refine⟨_,λρ' M2 h2=>h2,?_⟩;refine⟨(),(x % y).toNat,?_,rfl,y,x % y,_,rfl,hy,abj _ Lq,?_,rfl⟩
    ·have:=abg x (show 0 < y by omega);have:=abj x Lq;omega
    ·rw[<-abP x hy,IK ()];exact e
   ·have Lq:y=0:=by simpa using hb
    subst Lq;rw[Iv hx]at e;subst e;exact h
  ·exact h.elim
def EO{i j:Int}(h:fj j)(l:i.natAbs<=j.natAbs):fj i:=abf l h
def u9:DF:=λds M q _=>match ds with
 | [.int t,.int b]=>fj b/\(b=0->False)/\(b≠0->q (.tup [.int (ax t b).1,.int (ax t b).2]) M)
 | _=>False
def lF:Γ ["top","bottom","divisor"] ["top","bottom"] (χ oI):=.of rfl
def Ac(F:dE K "fraction" "fraction" oI f fd)(E:Ev K mg Cm){gO:Addr}{gP:FuncData}(bN:aE P w K mg base 1 "common_divisor" ["one","other"] JV gO gP):aw P w K mg base (cP P w) 2 f fd ["top","bottom"] (dw K u9):=by
 refine F.eF lF (λds M q x h=>?_) (λbz A outer s H E' hr=>⟨_,(ζ (aH (dz hr (jv 1) ο) (θ gI) Μ)
   (ζ (ψ 2 lF.nd (ao bN hr ξ (Ν (jv 0) (Ν (jv 1) η))))
   (ζ (ko (aH (pL (jv 1) ο) (θ (ψ 2 lF.nd (MT (jv 2)))) Μ))
   (θ (Δ (cY (ι (Cu (jv 0) (jv 2)) (ι (Cu (jv 1) (jv 2)) η cz) cz))))))),λds M q x h=>?_⟩)
 ·unfold u9 at h;split at h;· rfl
  ·exact h.elim
 ·unfold u9 at h;split at h
  ·rename_i t b;have⟨hB,h0,h1⟩:=h;refine⟨λhb=>?_,λhb=>?_⟩
   ·exact h0 (by simpa using hb)
   ·have T8:b≠0:=by simpa using hb
    refine⟨λρ M'=>M'=M/\ρ=[some (.int t),some (.int b),some (.int (dv t b))],⟨λhn=>?_,λhn=>?_⟩,?_⟩
    ·have NX:b < 0:=by simpa using hn
     exact⟨rfl,by unfold dv;rw[if_pos NX];rfl⟩
    ·have NX:¬b < 0:=by simpa using hn
     exact⟨rfl,by unfold dv;rw[if_neg NX];rfl⟩
    ·rintro ρ M' ⟨rfl,rfl⟩;have hd:=Dr (t:=t) T8;have Zx:fj (dv t b):=EO hB (wg T8);exact⟨⟨hd,Zx⟩,⟨hd,Zx⟩,gV,h1 T8⟩
  ·exact h.elim
abbrev Fr:=Int×Int
def av(p:Fr):Dt:=.tup [.int p.1,.int p.2]
def cH(p:Fr):Bool:=decide ((if p.1 < 0 then -p.1 else p.1)<=10 ^ 30)&&decide (p.2<=1000000)
def qW:DF:=λds M q _=>∃p,ds=[av p]/\q (.bl (cH p)) M
def FV:Γ ["pay"] ["pay"] (χ rK):=.of rfl
def Cw(F:dE K "fits_pay" "fits_pay" rK f fd)(E:Ev K mg Cm):aw P w K mg base (cP P w) 1 f fd ["pay"] (dw K qW):=by
 refine F.eF FV (λds M q x h=>?_) (λbz A outer s H E' hr=>⟨_,(θ (Δ (jH (Br (Ee E.qM (ι (Ε (jv 0) ο) η b8)) (ny ο ο)) (jZ (Br (Ε (jv 0) ο) (rM E.i5)))))),λds M q x h=>?_⟩)
 ·have⟨p,rfl,_⟩:=h;rfl
 ·have⟨p,rfl,h⟩:=h;refine⟨⟨@_,@_,@_⟩,λh1=>?_,λh1=>?_⟩
  ·have e:cH p=decide (p.2<=1000000):=by unfold cH;rw[show decide ((if p.1 < 0 then -p.1 else p.1)<=10 ^ 30)=true from h1];rfl
   rw[e]at h;exact h
  ·have e:cH p=false:=by unfold cH;rw[show decide ((if p.1 < 0 then -p.1 else p.1)<=10 ^ 30)=false from h1];rfl
   rw[e]at h;exact h
def qu{ok:Ms->Prop}(h:iz M d=some (xs,ok)):ok M:=by
 cases d with
 | lst ds=>cases h;trivial
 | hW ns=>cases h;trivial
 | loc k=>
  have h:(match M[k]? with| some (.lst xs)=>some (xs,λM':Ms=>M'[k]? =some (.lst xs))| _=>none)=some (xs,ok):=h;split at h
  ·rename_i ys hm;cases h;exact hm
  ·cases h
 | _=>cases h
def nh{ok:Ms->Prop}(h:iz M d=some (xs,ok)):j1 M d=some (xs,ok):=by
 cases d with
 | lst ds=>cases h;rfl
 | hW ns=>cases h;rfl
 | loc k=>exact h
 | _=>cases h
def aZ{ρ:En}{ok:Ms->Prop}{q:List Dt->(Ms->Prop)->Ms->Prop}{x:DX}(hv:ρ[i]? =some (some d))(hl:iz M d=some (xs,ok))(h:q xs ok M):eS (xR i) ρ M q x:=by unfold eS xR;rw[hv];show(match j1 M d with| some (xs,ok)=>q xs ok M| none=>False);rw[nh hl];exact h
def bg{n:Int}{k:Nat}(h:n.natAbs < 2 ^ k)(hk:k<=8000:=by decide):fj n:=aaz h (abI @_ hk)
def aJ(t:Int)(p:Fr)(size:Int):Bool:=decide (0<=t)&&(decide (t < size)&&cH p)
def uB:DF:=λds M q _=>∃t p r size,ds=[.tup (.int t::av p::r),.int size]/\q (.bl (aJ t p size)) M
def CP:Γ ["door","size"] ["door","size"] (χ ph):=.of rfl
def zm(F:dE K "fits_door" "fits_door" ph f fd)(E:Ev K mg Cm){rC:Addr}{sy:FuncData}(fX:aE P w K mg base 1 "fits_pay" ["pay"] qW rC sy):aw P w K mg base (cP P w) 2 f fd ["door","size"] (dw K uB):=by
 refine F.eF CP (λds M q x h=>?_) (λbz A outer s H E' hr=>⟨_,(θ (Δ (jH (Br ο (Ε (jv 0) ο)) (jH (Kj (Ε (jv 0) ο) (jv 1)) (jZ (ao fX hr ξ (ι (Ε (jv 0) ο) η b8))))))),λds M q x h=>?_⟩)
 ·have⟨t,p,r,size,rfl,_⟩:=h;rfl
 ·have⟨t,p,r,size,rfl,h⟩:=h;walk_at "vc";refine Β rfl cf ?_;refine⟨λh1=>?_,λh1=>?_⟩
  ·refine Β rfl cf ⟨λh2=>?_,λh2=>?_⟩
   ·refine Β rfl (Υ (j:=1) rfl) ⟨p,rfl,?_⟩;have e:aJ t p size=cH p:=by unfold aJ;rw[h1,h2];rfl
    rw[<-e];exact h
   ·have e:aJ t p size=false:=by unfold aJ;rw[h1,h2];rfl
    rw[<-e];exact h
  ·have e:aJ t p size=false:=by unfold aJ;rw[h1];rfl
   rw[<-e];exact h
abbrev aO:=Int×Fr×List Fr
def dD(d:aO):Dt:=.tup (.int d.1::av d.2.1::d.2.2.map av)
def Ξ(ds:List aO)(size:Int):Bool:=decide (1<=ds.length)&&decide (ds.length<=6)&&ds.all λd=>aJ d.1 d.2.1 size
def qQ:DF:=λas M q _=>∃d size ds ok,as=[d,.int size]/\iz M d=some (ds.map dD,ok)/\ds.length<=100/\q (.bl (Ξ ds size)) M
def pF:Γ ["doors","size"] ["doors","size"] (χ lM):=.of rfl
def wH(F:dE K "fits_doors" "fits_doors" lM f fd)(E:Ev K mg Cm){EB:Addr}{FC:FuncData}(lU:aE P w K mg base 2 "fits_door" ["door","size"] uB EB FC):aw P w K mg base (cP P w) 3 f fd ["doors","size"] (dw K qQ):=by
 refine F.eF pF (λds M q x h=>?_) (λbz A outer s H E' hr=>⟨_,(ζ (aH (JW.jt (tj (pL (cZ E.bW (Ν (jv 0) η)) ο) (oJ (pw (cZ E.bW (Ν (jv 0) η)) (rM E.pI))))) (θ (Δ L6)) Μ)
   (θ (Δ (MW E.yS (ι (gZ (ys:=["size"]) (Θ:=[1]) (.of pF rfl rfl rfl) (aR (jv 0)) (λC s H fp=>(ao lU hr (fk (P:=P) (w:=w)) (Ν (jv 0) (Ν (jv 1) η))))) η))))),λds M q x h=>?_⟩)
 ·have⟨d,size,ds,ok,rfl,_⟩:=h;rfl
 ·have⟨d,size,ds,ok,rfl,hl,hz,h⟩:=h;have hs:=j3 hl;walk_at "vc";refine aF hs ⟨λh1=>?_,λh1=>?_⟩
  ·refine⟨λ_=>?_,nofun⟩;have e:Ξ ds size=false:=by
    have:(ds.length:Int) < 1:=by simpa using h1
    unfold Ξ;rw[aar ()];rfl
   rw[<-e];exact h
  ·have h1:¬(ds.length:Int) < 1:=by simpa using h1
   refine aF hs ⟨λh2=>?_,λh2=>?_⟩
   ·have e:Ξ ds size=false:=by
     have:6 < (ds.length:Int):=by simpa using h2
     unfold Ξ;rw[aar (p:=ds.length<=6) (),Bool.and_false];rfl
    rw[<-e];exact h
   ·have h2:¬6 < (ds.length:Int):=by simpa using h2
    refine aZ rfl hl ⟨by rw[aae];exact aaw hz @_,?_⟩;refine dt (f:=λd=>.bl (match d with| .tup (.int t:: .tup [.int a,.int b]::_)=>aJ t (a,b) size| _=>false)) (qu hl) (λx hx q hq=>?_) ?_
    ·have⟨y,_,rfl⟩:=aan.mp hx;exact⟨y.1,y.2.1,y.2.2.map av,size,rfl,hq⟩
    ·refine⟨ds.map λd=>aJ d.1 d.2.1 size,?_,?_⟩
     ·rw[aaN,aaH,aaN];rfl
     ·have e:Ξ ds size=(ds.map λd=>aJ d.1 d.2.1 size).all id:=by unfold Ξ;rw[aaE (show 1<=ds.length by omega),aaE (show ds.length<=6 by omega),List.all_map];rfl
      rw[<-e];exact h
def a_(cs:List Fr):Int:=cs.foldl (λb c=>b * c.2 / g b c.2) 1
def ng{c:Int}(hb:0 < b)(hc:0 < c):0 < b * c / g b c/\b * c / g b c<=b * c/\0 < g b c/\g b c<=c:=by
 have hg:0 < g b c:=zG ();have hbc:0 < b * c:=abv hb hc;have hd:g b c∣c:=Int.gcd_dvd_right ..;have hle:g b c<=c:=abZ hc hd;have h1:c<=b * c:=by have:=aaF (show 1<=b by omega) (show 0<=c by omega);simpa using this
 refine⟨Int.ediv_pos_of_pos_of_dvd hbc () (Int.dvd_mul_of_dvd_right hd),?_,hg,hle⟩;exact ach _ ()
def Oy(cs:List Fr):Prop:=cs.length<=12/\∀c∈cs,0 < c.2/\c.2 < 2 ^ 200/\c.1.natAbs < 2 ^ 200
def OkB(cs:List Fr):Prop:=cs.length<=13/\∀c∈cs,0 < c.2/\c.2 < 2 ^ 200
def oZ:∀(cs:List Fr) (b:Int) (k:Nat),0 < b->b<=2 ^ (200 * k)->(∀c∈cs,0 < c.2/\c.2 < 2 ^ 200)->0 < cs.foldl (λb c=>b * c.2 / g b c.2) b/\cs.foldl (λb c=>b * c.2 / g b c.2) b<=2 ^ (200 * (k+cs.length))
 | [],b,k,h0,h1,_=>⟨h0,h1⟩
 | c::cs,b,k,h0,h1,hc=>by
  have⟨c0,c1⟩:=hc c aad;have⟨s0,s1,_⟩:=ng h0 c0;have FL:b * c.2 / g b c.2<=2 ^ (200 * (k+1)):=by refine aaL s1 ?_;rw[show 200 * (k+1)=200 * k+200 by omega,Int.pow_add];exact acy h1 (aag c1) (aag c0) (aag (Int.pow_pos @_))
  have:=oZ cs _ (k+1) s0 FL λd hd=>hc d (aac _ hd);rw[abM,aaJ,show k+(cs.length+1)=k+1+cs.length by omega];exact this
def Sn{n:Int}{k:Nat}(h0:0<=n)(h:n<=2 ^ k)(hk:k < 8000):fj n:=by
 refine bg (k:=k+1) ?_ hk;have:(n.natAbs:Int) < ((2 ^ (k+1):Nat):Int):=by rw[abm h0,ab6,abG];have:(0:Int) < 2 ^ k:=Int.pow_pos @_;show n < 2 ^ k * 2;omega
 exact abL.mp this
def fb:∀(cs:List Fr) (b:Int),0 < b->(∀c∈cs,0 < c.2)->0 < cs.foldl (λb c=>b * c.2 / g b c.2) b
 | [],_,h0,_=>h0
 | c::cs,b,h0,hc=>fb cs _ (ng h0 (hc c aad)).1 λd hd=>hc d (aac _ hd)
def BA{n:Int}{k:Nat}(h0:0<=n)(h:n < 2 ^ k)(hk:k<=8000):fj n:=by
 refine bg (k:=k) ?_ hk;have:(n.natAbs:Int) < ((2 ^ k:Nat):Int):=by rw[abm h0,ab6];exact h
 exact abL.mp this
def ik:DF:=λds M q _=>∃cs:List Fr,ds=[.lst (cs.map av)]/\OkB cs/\q (.int (a_ cs)) M
def eP:Γ ["chances","bottom","chance"] ["chances"] (χ ia):=.of rfl
def pY(F:dE K "common_bottom" "common_bottom" ia f fd)(E:Ev K mg Cm){gO:Addr}{gP:FuncData}(bN:aE P w K mg base 1 "common_divisor" ["one","other"] JV gO gP):aw P w K mg base (cP P w) 2 f fd ["chances"] (dw K ik):=by
 refine F.eF eP (λds M q x h=>?_) (λbz A outer s H E' hr=>⟨_,(ζ (ψ 1 eP.nd ο)
   (ζ (b6 (aR (jv 0)) (ae (i:=2) eP.nd rfl (Or.inl rfl)) aA (θ (ψ 1 eP.nd (eJ (aP (jv 1) (Ε (jv 2) ο)) (ao bN hr ξ (Ν (jv 1) (ι (Ε (jv 2) ο) η b8)))))))
   (θ (Δ (jv 1))))),λds M q x h=>?_⟩)
 ·have⟨cs,rfl,_⟩:=h;rfl
 ·have⟨cs,rfl,⟨hz,hc⟩,h⟩:=h;walk_at "vc";refine aZ (i:=0) rfl rfl ?_;refine aV (λxs ρ M'=>M'=M/\∃eB rest r,cs=eB++rest/\xs=rest.map av/\ρ=[some (.lst (cs.map av)),some (.int (a_ eB)),r]) (λ_ _ _ _=>trivial) (λx xs ρ M' hj fH=>?_) (λρ M' hj=>?_) _ _ _ ⟨rfl,[],cs,none,rfl,rfl,rfl⟩
  ·have⟨rfl,eB,rest,r,e,ex,rfl⟩:=hj;cases rest with
   | nil=>cases ex
   | cons c rest=>
    cases ex;have hd:∀d∈eB,0 < d.2/\d.2 < 2 ^ 200:=λd hd=>by have⟨a,b⟩:=hc d (by rw[e];exact List.mem_append_left _ hd);exact⟨a,b⟩
    have⟨c0,c1⟩:=hc c (by rw[e];exact aaA _ aad);have⟨b0,b1⟩:=oZ eB 1 0 @_ @_ hd;have hl:eB.length<=13:=by have:=aaM List.length e;rw[aah]at this;omega
    have⟨s0,s1,g0,g1⟩:=ng b0 c0;refine⟨⟨Sn (aag b0) b1 (),BA (aag c0) c1 @_⟩,⟨g0,BA (aag g0) (abh g1 c1) @_⟩,?_⟩;refine fH _ _ ⟨rfl,eB++[c],rest,some (av c),by rw[e];simp,rfl,?_⟩;have e2:a_ (eB++[c])=a_ eB * c.2 / g (a_ eB) c.2:=by unfold a_;rw[List.foldl_append];rfl
    rw[e2];rfl
  ·have⟨rfl,eB,rest,r,e,ex,rfl⟩:=hj;cases rest with
   | nil=>rw[aaY]at e;subst e;exact h
   | cons c rest=>cases ex
def Χ(cs:List Fr):Bool:= !(cs.any λc=>decide (c.1<=0))&&(decide ((cs.map λc=>c.1 * (a_ cs / c.2)).sum=a_ cs)&&decide (a_ cs<=1000000))
def nJ:DF:=λds M q _=>∃cs:List Fr,ds=[.lst (cs.map av)]/\Oy cs/\q (.bl (Χ cs)) M
def dI:Γ ["chances","bottom","whole"] ["chances"] (χ iV):=.of rfl
def sv(F:dE K "fits_chances" "fits_chances" iV f fd)(E:Ev K mg Cm){h9:Addr}{iy:FuncData}(cj:aE P w K mg base 2 "common_bottom" ["chances"] ik h9 iy):aw P w K mg base (cP P w) 3 f fd ["chances"] (dw K nJ):=by
 refine F.eF dI (λds M q x h=>?_) (λbz A outer s H E' hr=>⟨_,(ζ (aH (gG (NB E.yM (ι (gZ (ys:=[]) (Θ:=[]) (.of dI rfl rfl rfl) (aR (jv 0)) (λC s H fp=>(Br (Ε (jv 0) ο) ο))) η))) (θ (Δ L6)) Μ)
   (ζ (ψ 1 dI.nd (ao cj hr ξ (Ν (jv 0) η)))
   (ζ (ψ 2 dI.nd (DZ E.rP (ι (gZ (ys:=["bottom"]) (Θ:=[1]) (.of dI rfl rfl rfl) (aR (jv 0)) (λC s H fp=>(aP (Ε (jv 0) ο) (eJ (jv 1) (Ε (jv 0) ο))))) η)))
   (θ (Δ (jH (LO hr (jv 2) (jv 1)) (jZ (Br (jv 1) (rM E.i5))))))))),λds M q x h=>?_⟩)
 ·have⟨cs,rfl,_⟩:=h;rfl
 ·have⟨cs,rfl,Gp,h⟩:=h;have⟨hz,hc⟩:=id Gp;have ZJ:(cs.map av).length<=sizeLine:=by rw[aae];exact aaw hz @_
  have⟨b0,b1⟩:=oZ cs 1 0 @_ @_ λc h=>⟨(hc c h).1,(hc c h).2.1⟩;walk_at "vc";refine aZ (i:=0) rfl rfl ⟨ZJ,?_⟩;refine dt (f:=λd=>.bl (match d with| .tup [.int a,.int b]=>decide (a<=0)| _=>false)) trivial (λx hx q hq=>?_) ?_
  ·have⟨y,_,rfl⟩:=aan.mp hx;exact hq
  ·refine⟨cs.map λc=>decide (c.1<=0),by rw[aaN,aaH,aaN];rfl,λ_ z=>(nomatch z),λ_ z=>(nomatch z),?_⟩;have ea:(cs.map λc=>decide (c.1<=0)).any id=cs.any λc=>decide (c.1<=0):=by rw[List.any_map];rfl
   rw[ea];refine⟨λh1=>?_,λh1=>?_⟩
   ·have e:Χ cs=false:=by unfold Χ;rw[h1];rfl
    rw[<-e];exact h
   ·refine⟨cs,rfl,⟨(),λc h=>⟨(hc c h).1,(hc c h).2.1⟩⟩,?_⟩;walk_at "vc";refine aZ (i:=0) rfl rfl ⟨ZJ,?_⟩;refine dt (f:=λd=>.int (match d with| .tup [.int a,.int b]=>a * (a_ cs / b)| _=>0)) trivial (λx hx q hq=>?_) ?_
    ·have⟨y,hy,rfl⟩:=aan.mp hx;have⟨y0,y1,y2⟩:=hc y hy;refine⟨⟨y0,BA (aag y0) y1 @_⟩,⟨bg y2,?_⟩,hq⟩;refine Sn (k:=200 * (0+cs.length)) (acs (aag b0) (aag y0)) (aaL (ach _ (aag b0)) b1) ()
    ·refine⟨cs.map λc=>c.1 * (a_ cs / c.2),by rw[aaN,aaH,aaN];rfl,⟨_,_,rfl⟩,?_⟩;refine⟨λh2=>?_,λh2=>?_⟩
     ·have e:Χ cs=decide (a_ cs<=1000000):=by unfold Χ;rw[h1,h2];rfl
      rw[e]at h;exact h
     ·have e:Χ cs=false:=by unfold Χ;rw[h1,h2];rfl
      rw[<-e];exact h
inductive Rw where
 | fin (p:Fr)
 | τ (k:Str) (ds:List aO)
def ν(d:aO):Fr:=d.2.2.headD (0,1)
def fK:Rw->Prop
 | .fin p=>0 < p.2
 | .τ k ds=>k≠"end"/\ds.length<=12/\(k="chance"->(∀d∈ds,d.2.2=[ν d])/\Oy (ds.map ν))/\∀d∈ds,d.2.2.length<=1/\0 < d.2.1.2
def jk(M:Ms)(d:Dt):Rw->Prop
 | .fin p=>d= .tup [.str "end",av p]
 | .τ k ds=>∃e ok,d= .tup [.str k,e]/\iz M e=some (ds.map dD,ok)
def Ι:Rw->Dt
 | .fin p=>.tup [.str "end",av p]
 | .τ k ds=>.tup [.str k,.lst (ds.map dD)]
def x_(M:Ms)(r:Rw):jk M (Ι r) r:=by
 cases r with
 | fin p=>rfl
 | τ k ds=>exact⟨_,_,rfl,rfl⟩
def oU(p:Fr):(av p).under n:=⟨trivial,trivial,trivial⟩
def Dj{n:Nat}:∀(ps:List Fr),Dt.bj n (ps.map av)
 | []=>trivial
 | p::ps=>⟨oU p,Dj ps⟩
def OW(d:aO):(dD d).under n:=⟨trivial,oU _,Dj _⟩
def fQ{n:Nat}:∀(ds:List aO),Dt.bj n (ds.map dD)
 | []=>trivial
 | d::ds=>⟨OW d,fQ ds⟩
def Ef(r:Rw):(Ι r).under n:=by
 cases r with
 | fin p=>exact⟨trivial,oU p,trivial⟩
 | τ k ds=>exact⟨trivial,fQ ds,trivial⟩
def jT{n:Nat}:∀(rs:List Rw),Dt.bj n (rs.map Ι)
 | []=>trivial
 | r::rs=>⟨Ef r,jT rs⟩
def Ο(k:Str):Bool:=k=="one"|| k=="other"
def fN(r:Rw)(size:Int):Bool:=match r with
 | .fin p=>cH p
 | .τ k ds=>if Ο k then Ξ ds size else if k="chance" then Ξ ds size&&Χ (ds.map ν) else false
def Hg{j:Int}{ρ:En}{ok:Ms->Prop}{q:List Dt->(Ms->Prop)->Ms->Prop}{x:DX}(hv:ρ[i]? =some (some (.tup ds)))(hj:iH ds j=some d)(hl:iz M d=some (xs,ok))(h:q xs ok M):eS (jO cR (xR i) (dC (.int j))) ρ M q x:=by unfold eS jO xR;rw[hv];show cR (.tup ds) (.int j) M (λd M1=>match j1 M1 d with| some (xs,ok)=>q xs ok M1| none=>False);refine Β rfl hj ?_;show(match j1 M d with| some (xs,ok)=>q xs ok M| none=>False);rw[nh hl];exact h
def zj{k:Str}:QS (.str k) [.str "one",.str "other"]=Ο k:=by show((("one":Str)==k)|| ((("other":Str)==k)|| false))=(k=="one"|| k=="other");rw[Bool.or_false,BEq.comm (a:=("one":Str)),BEq.comm (a:=("other":Str))]
def zM:DF:=λas M q _=>∃d r size,as=[d,.int size]/\jk M d r/\fK r/\q (.bl (fN r size)) M
def om:Γ ["row","size","kind"] ["row","size"] (χ tq):=.of rfl
def AU   (F:dE K "fits_row" "fits_row" tq f fd) (E:Ev K mg Cm) {rC:Addr} {sy:FuncData} (fX:aE P w K mg base 1 "fits_pay" ["pay"] qW rC sy) {AX:Addr} {A':FuncData} (gR:aE P w K mg base 3 "fits_doors" ["doors","size"] qQ AX A') {xh:Addr} {w_:FuncData} (ic:aE P w K mg base 3 "fits_chances" ["chances"] nJ xh w_):aw P w K mg base (cP P w) 4 f fd ["row","size"] (dw K zM):=by
 refine F.eF om (λds M q x h=>?_) (λbz A outer s H E' hr=>⟨_,(ζ (ψ 2 om.nd (Ε (jv 0) ο))
   (ζ (aH (dz hr (jv 2) eY) (θ (Δ (ao fX hr ξ (ι (Ε (jv 0) ο) η b8)))) Μ)
   (ζ (aH (BP (jv 2) (MX E.Cg)) (θ (Δ (ao gR hr ξ (ι (Ε (jv 0) ο) (Ν (jv 1) η) b8)))) Μ)
   (ζ (aH (dz hr (jv 2) eY) (θ (Δ (jH (ao gR hr ξ (ι (Ε (jv 0) ο) (Ν (jv 1) η) b8)) (jZ (ao ic hr ξ (ι (gZ (ys:=[]) (Θ:=[]) (.of om rfl rfl rfl) (aR (Ε (jv 0) ο)) (λC s H fp=>(Ε (jv 0) ο))) η)))))) Μ)
   (θ (Δ L6)))))),λds M q x h=>?_⟩)
 ·have⟨d,r,size,rfl,_⟩:=h;rfl
 ·have⟨d,r,size,rfl,ra,ro,h⟩:=h;cases r with
  | fin p=>
   have ra:d= .tup [.str "end",av p]:=ra;subst ra;exact⟨λ_=>⟨p,rfl,h⟩,nofun⟩
  | τ k ds=>
   have⟨e,ok,rfl,hl⟩:=ra;have⟨hk,hz,AB,_⟩:=ro;refine⟨λz=>aay (aav z) hk,λ_=>?_⟩;refine⟨.str k,[.str "one",.str "other"],[.str "one",.str "other"],rfl,rfl,rfl,?_⟩;rw[zj];refine⟨λh1=>?_,λh1=>?_⟩
   ·refine⟨e,size,ds,ok,rfl,hl,(),?_⟩;have e1:fN (.τ k ds) size=Ξ ds size:=by show(if Ο k then _ else _)=_;rw[aaq h1]
    rw[<-e1];exact h
   ·have e1:fN (.τ k ds) size=if k="chance" then Ξ ds size&&Χ (ds.map ν) else false:=by show(if Ο k then _ else _)=_;rw[aau (by rw[h1];decide)]
    rw[e1]at h;refine⟨λh2=>?_,λh2=>?_⟩
    ·have h2:k="chance":=aav h2;rw[aaq h2]at h;have⟨wt,Gp⟩:=AB h2;refine⟨e,size,ds,ok,rfl,hl,(),λh3=>?_,λh3=>?_⟩
     ·rw[h3,Bool.true_and]at h;show eS _ _ _ _ _;refine Hg (i:=0) (j:=1) (ds:=[.str k,e]) rfl (Υ (j:=1) rfl) hl ⟨by rw[aae];exact aaw hz @_,?_⟩;refine dt (f:=λd=>match d with| .tup [_,_,c]=>c| _=>.aY) (qu hl) (λx hx q hq=>?_) ?_
      ·have⟨y,hy,rfl⟩:=aan.mp hx;have ey:dD y= .tup [.int y.1,av y.2.1,av (ν y)]:=by unfold dD;rw[wt y hy];rfl
       rw[ey]at hq⊢;exact hq
      ·refine⟨ds.map ν,?_,Gp,h⟩;rw[aaH,aaN,aaN];have:∀y∈ds,((λd=>match d with| Dt.tup [_,_,c]=>c| _=>Dt.aY) ∘ dD) y=(av ∘ ν) y:=λy hy=>by
        have ey:dD y= .tup [.int y.1,av y.2.1,av (ν y)]:=by unfold dD;rw[wt y hy];rfl
        show(match dD y with| Dt.tup [_,_,c]=>c| _=>Dt.aY)=av (ν y);rw[ey]
       rw[abi this]
     ·rw[h3,Bool.false_and]at h;exact h
    ·have h2:k≠"chance":=aa1 h2;rw[aau h2]at h;exact h
def lJ:DF:=λas M q _=>∃d r,as=[d]/\jk M d r/\fK r/\match r with
 | .fin p=>q (.tup [.str "end",av p]) M
 | .τ k ds=>q (.tup [.str k,.loc M.length]) (M++[.lst (ds.map dD)])
def yV:Γ ["row"] ["row"] (χ lN):=.of rfl
def wM(F:dE K "copied_row" "copied_row" lN f fd)(E:Ev K mg Cm):aw P w K mg base (cP P w) 1 f fd ["row"] (dw K lJ):=by
 refine F.eF yV (λds M q x h=>?_) (λbz A outer s H E' hr=>⟨_,(ζ (aH (dz hr (Ε (jv 0) ο) eY) (θ (Δ (cY (ι (Ε (jv 0) ο) (ι (Ε (jv 0) ο) η b8) b8)))) Μ)
   (θ (Δ (cY (ι (Ε (jv 0) ο) (ι (wL E.mC (ι (Ε (jv 0) ο) η b8)) η bC) b8))))),λds M q x h=>?_⟩)
 ·have⟨d,r,rfl,_⟩:=h;rfl
 ·have⟨d,r,rfl,ra,ro,h⟩:=h;cases r with
  | fin p=>
   have ra:d= .tup [.str "end",av p]:=ra;subst ra;exact⟨λ_=>⟨gV,h⟩,nofun⟩
  | τ k ds=>
   have⟨e,ok,rfl,hl⟩:=ra;refine⟨λz=>aay (aav z) ro.1,λ_=>?_⟩;show(match hZ M e with| some xs=>_| none=>False);rw[j3 hl];exact⟨gV,h⟩
def iQ(p:Fr):Bool:=decide (0<=p.1)&&(decide (p.1 < p.2)&&decide (p.2<=1000))
def rA:DF:=λas M q _=>∃p,as=[av p]/\q (.bl (iQ p)) M
def yF:Γ ["share"] ["share"] (χ lP):=.of rfl
def wV(F:dE K "fits_share" "fits_share" lP f fd)(E:Ev K mg Cm):aw P w K mg base (cP P w) 1 f fd ["share"] (dw K rA):=by
 refine F.eF yF (λds M q x h=>?_) (λbz A outer s H E' hr=>⟨_,(θ (Δ (jH (Br ο (Ε (jv 0) ο)) (jH (Kj (Ε (jv 0) ο) (Ε (jv 0) ο)) (jZ (Br (Ε (jv 0) ο) (rM E.gp))))))),λds M q x h=>?_⟩)
 ·have⟨p,rfl,_⟩:=h;rfl
 ·have⟨p,rfl,h⟩:=h;unfold iQ at h;refine⟨λh1=>⟨λh2=>?_,λh2=>?_⟩,λh1=>?_⟩
  ·rw[show decide (0<=p.1)=true from h1,show decide (p.1 < p.2)=true from h2]at h;exact h
  ·rw[show decide (0<=p.1)=true from h1,show decide (p.1 < p.2)=false from h2]at h;exact h
  ·rw[show decide (0<=p.1)=false from h1]at h;exact h
def MN{c S:Int}(hb:b∣S)(hc:c∣S)(T8:0 < b)(hc0:0 < c):b * c / g b c∣S/\b∣b * c / g b c/\c∣b * c / g b c:=by
 have e:b * c / g b c=(Int.lcm b c:Nat):=by
  have h:=Int.gcd_mul_lcm b c;have hg:0 < g b c:=zG ();have h2:((Int.gcd b c:Nat):Int) * ((Int.lcm b c:Nat):Int)=b * c:=by rw[<-Int.natCast_mul,h,Int.natCast_mul,abm (aag T8),abm (aag hc0)]
  rw[<-h2];exact Int.mul_ediv_cancel_left _ (by unfold g at hg;omega)
 rw[e];exact⟨Int.coe_lcm_dvd hb hc,Int.dvd_lcm_left ..,Int.dvd_lcm_right ..⟩
def fq:∀(cs:List Fr) (b S:Int),0 < b->b∣S->(∀c∈cs,0 < c.2/\c.2∣S)->cs.foldl (λb c=>b * c.2 / g b c.2) b∣S/\b∣cs.foldl (λb c=>b * c.2 / g b c.2) b/\∀c∈cs,c.2∣cs.foldl (λb c=>b * c.2 / g b c.2) b
 | [],b,S,_,h,_=>⟨h,Int.dvd_refl b,λc hc=>nomatch hc⟩
 | c::cs,b,S,h0,h,hc=>by
  have⟨c0,cS⟩:=hc c aad;have⟨d1,d2,d3⟩:=MN h cS h0 c0;have⟨i1,i2,i3⟩:=fq cs _ S (ng h0 c0).1 d1 λx hx=>hc x (aac _ hx);rw[abM];refine⟨i1,Int.dvd_trans d2 i2,λx hx=>?_⟩;rcases aaD.mp hx with rfl| hx
  ·exact Int.dvd_trans d3 i2
  ·exact i3 x hx
def pQ(m:Int)(f:Int->Int):∀(ws:List Int),(ws.map λw=>m * f w).sum=m * (ws.map f).sum
 | []=>by simp
 | w::ws=>by simp only[List.map_cons,List.sum_cons];rw[pQ m f ws,Int.mul_add]
def HW(h:0 < b):(ax t b).2∣b:=by have⟨p,q,e,_,_,_,eb⟩:=f_ (t:=t) (show b≠0 by omega);rw[e];exact⟨dv t b,by show b=q * dv t b;rw[abl];exact eb⟩
def zC(ht:0 < t)(h:0 < b):0 < (ax t b).1:=by have hc:=cD (t:=t) (show b≠0 by omega);have hp:=b_ (t:=t) (show b≠0 by omega);have h1:0 < t * (ax t b).2:=abv ht hp;rw[hc]at h1;exact Int.pos_of_mul_pos_right h1 h|> λz=>z
def AQ{ws:List Int}{S:Int}(hS:ws.sum=S)(hw:∀w∈ws,0 < w)(hn:ws≠[])(hS1:S<=1000000)(hz:ws.length<=12):Χ (ws.map λw=>ax w S)=true/\Oy (ws.map λw=>ax w S):=by
 have pos:∀{l:List Int},(∀w∈l,0 < w)->0<=l.sum/\(l≠[]->0 < l.sum)/\∀w∈l,w<=l.sum:=by
  intro l
  induction l with
  | nil=>exactλ_=>⟨by simp,λz=>absurd rfl z,λw hw=>nomatch hw⟩
  | cons a l ih=>
   intro h;have⟨i1,i2,i3⟩:=ih λw hw=>h w (aac _ hw);have:=h a aad;rw[List.sum_cons];refine⟨(),λ_=>(),λw hw=>?_⟩;rcases aaD.mp hw with rfl| hw
   ·omega
   ·have:=i3 w hw;omega
 have⟨_,p2,p3⟩:=pos hw;have S0:0 < S:=by rw[<-hS];exact p2 hn
 have QM:S≠0:=()
 have hd:∀c∈ws.map (λw=>ax w S),0 < c.2/\c.2∣S:=λc hc=>by have⟨w,_,rfl⟩:=aan.mp hc;exact⟨b_ QM,HW S0⟩
 have⟨⟨m,hm⟩,_,hB⟩:=fq (ws.map λw=>ax w S) 1 S @_ (Int.one_dvd _) hd;have B0:0 < a_ (ws.map λw=>ax w S):=by refine(fb (ws.map λw=>ax w S) 1 @_ λc hc=>(hd c hc).1)
 generalize V8:a_ (ws.map λw=>ax w S)=B at *
 have hm:S=B * m:=by rw[<-V8];exact hm
 have m0:0 < m:=by
  rcases Int.lt_trichotomy m 0 with h| h| h
  ·have:=acf B0 h;omega
  ·rw[h,Int.mul_zero]at hm;omega
  ·exact h
 have key:((ws.map λw=>ax w S).map λc=>c.1 * (B / c.2)).sum=B:=by
  have e1:∀w∈ws,m * ((ax w S).1 * (B / (ax w S).2))=w:=λw hw=>by
   have hb:(ax w S).2∣B:=by rw[<-V8];exact hB _ (aan.mpr ⟨w,hw,rfl⟩)
   have⟨k,hk⟩:=hb;have q0:=b_ (t:=w) QM;have e2:B / (ax w S).2=k:=by rw[hk];exact abn _ ()
   have hc:=cD (t:=w) QM;rw[e2];have XX:S=(ax w S).2 * k * m:=by rw[<-hk];exact hm
   generalize (ax w S).1=x at *
   generalize (ax w S).2=y at *
   have e4:S * x=y * (m * (x * k)):=by rw[XX];simp only[Int.mul_assoc,Int.mul_comm,Int.mul_left_comm]
   have e3:y * (m * (x * k))=y * w:=by rw[<-e4,<-hc,abl]
   exact aaQ () e3
  have e5:m * ((ws.map λw=>ax w S).map λc=>c.1 * (B / c.2)).sum=m * B:=by rw[aaN];show m * (ws.map λw=>(ax w S).1 * (B / (ax w S).2)).sum=m * B;rw[<-pQ,abi e1,List.map_id',hS,hm,abl]
  exact aaQ () e5
 refine⟨?_,⟨by rw[aae];exact hz,λc hc=>?_⟩⟩
 ·unfold Χ;rw[V8,key];have ha:((ws.map λw=>ax w S).any λc=>decide (c.1<=0))=false:=by rw[List.any_eq_false];intro c hc;have⟨w,UK,rfl⟩:=aan.mp hc;have:=zC (hw w UK) S0;simpa using this
  have hle:B<=S:=by have:=aaX (show 1<=m by omega) (aag B0);rw[Int.mul_one,<-hm]at this;exact this
  rw[ha,aaE rfl,aaE (show B<=1000000 by omega)];rfl
 ·have⟨w,UK,rfl⟩:=aan.mp hc;have q0:=b_ (t:=w) QM;have l1:=qE (t:=w) QM;have l2:=rB (t:=w) QM;have:=p3 w UK;have w0:=hw w UK;have big:(1000000:Int) < 2 ^ 200:=@_
  have aek:1000000 < 2 ^ 200:=@_
  exact⟨q0,(),()⟩
def cW{α:Type}{te:DE}{cs:En}{ok:Ms->Prop}{F:Dt->α->Prop}{f:α->Dt}{M:Ms}{k:List Dt->Ms->Prop}(ho:ok M)(ht:∀x a,F x a->∀q:DQ,q (f a) M->te (some x::cs) M q ki):∀{xs:List Dt} {as:List α} {acc:List Dt},Paired F xs as->k (acc++as.map f) M->pJ te cs ok xs acc M k
 | _,_,acc,.nil,h=>⟨ho,by simpa using h⟩
 | _,_,acc,.cons r t,h=>⟨ho,ht _ _ r _ (cW ho ht t (by simpa using h))⟩
def zK{k:Nat}{C C':Addr}{ns':List Str}{xs':List Dt}{e:Dt}{ys:List Dt}{ok:Ms->Prop}(hk:M[k]? =some (.ins C ns xs))(h:iz M e=some (ys,ok)):iz (M.set k (.ins C' ns' xs')) e=some (ys,ok):=by
 cases e with
 | lst ds=>exact h
 | hW ns=>exact h
 | loc j=>
  have h:(match M[j]? with| some (.lst xs)=>some (xs,λM':Ms=>M'[j]? =some (.lst xs))| _=>none)=some (ys,ok):=h;have ne:k≠j:=λz=>by subst z;rw[hk]at h;cases h
  show(match (M.set k (.ins C' ns' xs'))[j]? with| some (.lst xs)=>some (xs,λM':Ms=>M'[j]? =some (.lst xs))| _=>none)=some (ys,ok);rw[abq ne];exact h
 | _=>cases h
def Fu{k:Nat}{C C':Addr}{ns':List Str}{xs':List Dt}{r:Rw}(hk:M[k]? =some (.ins C ns xs))(h:jk M d r):jk (M.set k (.ins C' ns' xs')) d r:=by
 cases r with
 | fin p=>exact h
 | τ k' ds=>
  have⟨e,ok,h1,h2⟩:=h;exact⟨e,ok,h1,zK hk h2⟩
def EJ{C:Addr}{f:Str}{ρ:En}{v:Dt}{ok:Ms->Prop}{q:List Dt->(Ms->Prop)->Ms->Prop}{x:DX}(hv:ρ[i]? =some (some d))(ho:Mh C M d ns ds)(hf:(ns.zip ds).lookup f=some v)(hl:iz M v=some (xs,ok))(h:q xs ok M):eS (O3 C f (xR i)) ρ M q x:=by unfold eS O3 xR;rw[hv];refine⟨ns,ds,v,ho,hf,?_⟩;show(match j1 M v with| some (xs,ok)=>q xs ok M| none=>False);rw[nh hl];exact h
def ar(C:Addr)(ε:Fr)(γ:List Rw):Dt:=.obj C ["kept_share","kept_rows"] [av ε,.lst (γ.map Ι)]
def Hu(Cm:Addr):DF:=λas M q _=>∃k d ε ds γ ok,as=[.loc k,av ε,d]/\M[k]? =some (.ins Cm [] [])/\iz M d=some (ds,ok)/\Paired (jk M) ds γ/\iQ ε=true/\1<=γ.length/\γ.length<=12/\
 (∀r∈γ,fK r/\fN r γ.length=true)/\q .aY (M.set k (.ins Cm ["kept_share","kept_rows"] [av ε,.lst (γ.map Ι)]))
def gT:Γ ["self","share","rows","place","row"] ["self","share","rows"] (χ me):=.of rfl
def v_(F:dE K "__init__" "Floor.__init__" me f fd)(E:Ev K mg Cm){BQ:Addr}{Cs:FuncData}(jR:aE P w K mg base 1 "fits_share" ["share"] rA BQ Cs){Kc:Addr}{Iu:FuncData}(pe:aE P w K mg base 4 "fits_row" ["row","size"] zM Kc Iu){lO:Addr}{mF:FuncData}(dZ:aE P w K mg base 1 "copied_row" ["row"] lJ lO mF):aw P w K mg base (cP P w) 5 f fd ["self","share","rows"] (dw K (Hu Cm)):=by
 refine F.eF gT (λds M q x h=>?_) (λbz A outer s H E' hr=>⟨_,(ζ (aH (BJ (gG (ao jR hr ξ (Ν (jv 1) η)))) (θ gI) Μ)
   (ζ (aH (JW.jt (tj (pL (cZ E.bW (Ν (jv 2) η)) ο) (oJ (pw (cZ E.bW (Ν (jv 2) η)) (rM E.mZ))))) (θ gI) Μ)
   (ζ (b6 (mU E.cB (Ν (jv 2) η)) (lV rfl (bf (ae (i:=3) gT.nd rfl (Or.inl rfl)) (bf (ae (i:=4) gT.nd rfl (Or.inl rfl)) i7))) mJ (θ (aH (BJ (gG (ao pe hr ξ (Ν (jv 4) (ι (cZ E.bW (Ν (jv 2) η)) η bC))))) (θ gI) Μ)))
   (ζ (C_ E.fB E.ir (jv 0) (jv 1))
   (θ (C_ E.fB E.de (jv 0) (gZ (ys:=[]) (Θ:=[]) (.of gT rfl rfl rfl) (aR (jv 2)) (λC s H fp=>(cK (ao dZ hr (fk (P:=P) (w:=w)) (Ν (jv 0) η))))))))))),λds M q x h=>?_⟩)
 ·have⟨k,d,ε,ds,γ,ok,rfl,_⟩:=h;rfl
 ·have⟨k,d,ε,ds,γ,ok,rfl,hk,hl,hp,hs,h1,h12,sQ,h⟩:=h;have hlen:ds.length=γ.length:=Paired.length hp;walk_at "vc";refine⟨ε,rfl,λz=>?_,λ_=>?_⟩
  ·rw[hs]at z;exact nomatch z
  have TJ:=j3 hl;refine aF TJ ⟨λz=>?_,λ_=>?_⟩
  ·have:(ds.length:Int) < 1:=by simpa using z
   omega
  refine aF TJ ⟨λz=>?_,λ_=>?_⟩
  ·have:12 < (ds.length:Int):=by simpa using z
   omega
  refine⟨d,ds,ok,rfl,hl,?_⟩;refine aV (λxs ρ M'=>M'=M/\∃n Kx DH a b,xs=gY n Kx/\Paired (jk M) Kx DH/\(∀r∈DH,r∈γ)/\ρ=[some (.loc k),some (av ε),some d,a,b]) (λxs ρ M' hj=>by have⟨rfl,_⟩:=hj;exact qu hl) (λx xs ρ M' hj fH=>?_) (λρ M' hj=>?_) _ _ _ ⟨rfl,0,ds,γ,none,none,rfl,hp,λ_ h=>h,rfl⟩
  ·have⟨rfl,n,Kx,DH,a,b,ex,xj,UG,rfl⟩:=hj;cases xj with
   | nil=>cases ex
   | cons ra t=>
    rename_i d1 r1 ds1 Q6;cases ex;refine aF TJ ⟨d1,r1,ds.length,rfl,ra,(sQ r1 (UG r1 aad)).1,λz=>?_,λ_=>?_⟩
    ·rw[hlen,(sQ r1 (UG r1 aad)).2]at z;exact nomatch z
    ·exact fH _ _ ⟨rfl,n+1,ds1,Q6,_,_,rfl,t,λr hr=>UG r (aac _ hr),rfl⟩
  ·have⟨rfl,n,Kx,DH,a,b,ex,xj,UG,rfl⟩:=hj;have hkl:k < M'.length:=(aaf.mp hk).1;refine⟨k,[],[],rfl,hk,(nofun),@_,?_⟩;have Xw:=zK (C':=Cm) (ns':=["kept_share"]) (xs':=[av ε]) hk hl;dsimp only[M8,List.nil_append];show eS _ _ _ _ _;refine aZ (i:=2) rfl Xw ⟨by rw[hlen];exact aaw h12 @_,?_⟩;have Wq:Paired (λx a=>jk (M'.set k (.ins Cm ["kept_share"] [av ε])) x a/\fK a) ds γ:=by
    have:∀{xs:List Dt} {rs:List Rw},Paired (jk M') xs rs->(∀r∈rs,fK r)->Paired (λx a=>jk (M'.set k (.ins Cm ["kept_share"] [av ε])) x a/\fK a) xs rs:=by
     intro xs rs hp
     induction hp with
     | nil=>exactλ_=>.nil
     | cons r t ih=>exactλh=>.cons ⟨Fu hk r,h _ aad⟩ (ih λy hy=>h y (aac _ hy))
    exact this hp λr hr=>(sQ r hr).1
   refine cW (f:=Ι) (qu Xw) (λx a ha q' hq=>?ht) Wq ?fin
   case ht=>
    have⟨ha,ho⟩:=ha;refine⟨x,a,rfl,ha,ho,?_⟩;cases a with
    | fin p=>exact KY ⟨trivial,oU p,trivial⟩ hq
    | τ k2 zZ=>exact ie (.tup (.cons (.old trivial) (.cons (.yu (Nat.le_refl _) (by simp) (fP.old (fQ zZ))) .nil))) hq
   case fin=>
    refine⟨k,["kept_share"],[av ε],rfl,by rw[abb hkl],@_,@_,?_⟩;rw[List.set_set];exact h
def kindOf:Rw->Str
 | .fin _=>"end"
 | .τ k _=>k
def aq:Rw->List aO
 | .fin _=>[]
 | .τ _ ds=>ds
def nA:Nat->List Rw->List Dt
 | _,[]=>[]
 | n,.fin p::r=>.tup [.str "end",av p]::nA n r
 | n,.τ k _::r=>.tup [.str k,.loc n]::nA (n+1) r
def lj:List Rw->Ms
 | []=>[]
 | .fin _::r=>lj r
 | .τ _ ds::r=>.lst (ds.map dD)::lj r
def m_{γ:List Rw}{r:Rw}(h:γ[i]? =some r):(γ.map Ι)[i]? =some (Ι r):=by rw[aak,h];rfl
def OZ{r:Rw}:∃e,Ι r= .tup [.str (kindOf r),e]:=by
 cases r with
 | fin p=>exact⟨_,rfl⟩
 | τ k ds=>exact⟨_,rfl⟩
def r8(C:Addr):DF:=λas M q _=>∃ε γ,as=[ar C ε γ]/\q (.int γ.length) M
def zQ:Γ ["self"] ["self"] (χ lT):=.of rfl
def vM(F:dE K "size" "Floor.size" lT f fd)(E:Ev K mg Cm):aw P w K mg base (cP P w) 1 f fd ["self"] (dw K (r8 Cm)):=by
 refine F.eF zQ (λds M q x h=>?_) (λbz A outer s H E' hr=>⟨_,(θ (Δ (cZ E.bW (ι (yI E.fB E.de (jv 0)) η)))),λds M q x h=>?_⟩)
 ·have⟨ε,γ,rfl,_⟩:=h;rfl
 ·have⟨ε,γ,rfl,h⟩:=h;refine⟨_,_,_,.inl rfl,rfl,?_⟩;show gH [.lst (γ.map Ι)] M _;refine aF (xs:=γ.map Ι) rfl ?_;rw[aae];exact h
def HE(C:Addr):DF:=λas M q _=>∃ε γ,as=[ar C ε γ]/\q (av ε) M
def w6:Γ ["self"] ["self"] (χ j9):=.of rfl
def uj(F:dE K "share" "Floor.share" j9 f fd)(E:Ev K mg Cm):aw P w K mg base (cP P w) 1 f fd ["self"] (dw K (HE Cm)):=by
 refine F.eF w6 (λds M q x h=>?_) (λbz A outer s H E' hr=>⟨_,(θ (Δ (yI E.fB E.ir (jv 0)))),λds M q x h=>?_⟩)
 ·have⟨ε,γ,rfl,_⟩:=h;rfl
 ·have⟨ε,γ,rfl,h⟩:=h;exact⟨_,_,_,.inl rfl,rfl,h⟩
def rO(C:Addr):DF:=λas M q _=>∃ε γ i r,as=[ar C ε γ,.int (i:Nat)]/\γ[i]? =some r/\q (.str (kindOf r)) M
def zo:Γ ["self","place"] ["self","place"] (χ lX):=.of rfl
def x8(F:dE K "kind" "Floor.kind" lX f fd)(E:Ev K mg Cm):aw P w K mg base (cP P w) 1 f fd ["self","place"] (dw K (rO Cm)):=by
 refine F.eF zo (λds M q x h=>?_) (λbz A outer s H E' hr=>⟨_,(θ (Δ (Ε (Ε (yI E.fB E.de (jv 0)) (jv 1)) ο))),λds M q x h=>?_⟩)
 ·have⟨ε,γ,i,r,rfl,_⟩:=h;rfl
 ·have⟨ε,γ,i,r,rfl,hi,h⟩:=h;refine⟨_,_,_,.inl rfl,rfl,?_⟩;walk_at "vc";refine Β (xs:=γ.map Ι) rfl (Υ (m_ hi)) ?_;have⟨e,er⟩:=OZ (r:=r);rw[er];exact h
def qF(C:Addr):DF:=λas M q _=>∃ε γ i r,as=[ar C ε γ,.int (i:Nat)]/\γ[i]? =some r/\fK r/\q (.loc M.length) (M++[.lst ((aq r).map dD)])
def yj:Γ ["self","place"] ["self","place"] (χ jJ):=.of rfl
def tL(F:dE K "doors" "Floor.doors" jJ f fd)(E:Ev K mg Cm)(af:fG P w K mg base 1 Cm "kind" ["self","place"] (rO Cm) bG bB):aw P w K mg base (cP P w) 2 f fd ["self","place"] (dw K (qF Cm)):=by
 refine F.eF yj (λds M q x h=>?_) (λbz A outer s H E' hr=>⟨_,(ζ (aH (dz hr (gh af hr ξ (jv 0) (Ν (jv 1) η)) eY) (θ (Δ (oY η))) Μ)
   (θ (Δ (wL E.mC (ι (Ε (Ε (yI E.fB E.de (jv 0)) (jv 1)) ο) η b8))))),λds M q x h=>?_⟩)
 ·have⟨ε,γ,i,r,rfl,_⟩:=h;rfl
 ·have⟨ε,γ,i,r,rfl,hi,ro,h⟩:=h;refine⟨⟨_,_,.inl rfl,rfl⟩,ε,γ,i,r,rfl,hi,?_⟩;cases r with
  | fin p=>exact⟨λ_=>⟨@_,h⟩,nofun⟩
  | τ k ds=>
   refine⟨λz=>aay (aav z) ro.1,λ_=>?_⟩;refine⟨_,_,_,.inl rfl,rfl,?_⟩;walk_at "vc";refine Β (xs:=γ.map Ι) rfl (Υ (m_ hi)) ?_;exact h
def qV{te:DE}{cs:En}{k:List Dt->Ms->Prop} (ht:∀r M (q:DQ),fK r->(match r with
  | .fin p=>q (.tup [.str "end",av p]) M
  | .τ k ds=>q (.tup [.str k,.loc M.length]) (M++[.lst (ds.map dD)]))->te (some (Ι r)::cs) M q ki):∀(γ:List Rw) (acc:List Dt) (M:Ms),(∀r∈γ,fK r)->k (acc++nA M.length γ) (M++lj γ)->pJ te cs (λ_=>True) (γ.map Ι) acc M k
 | [],acc,M,_,h=>⟨trivial,by simpa [nA,lj] using h⟩
 | r::γ,acc,M,ho,h=>by
  refine⟨trivial,ht r M _ (ho r aad) ?_⟩;cases r with
  | fin p=>
   refine qV ht γ _ M (λr hr=>ho r (aac _ hr)) ?_;simpa [nA,lj] using h
  | τ k' ds=>
   refine qV ht γ _ _ (λr hr=>ho r (aac _ hr)) ?_;simpa [nA,lj] using h
def NO(C:Addr):DF:=λas M q _=>∃ε γ,as=[ar C ε γ]/\γ.length<=12/\(∀r∈γ,fK r)/\q (.loc (M.length+(lj γ).length)) (M++lj γ++[.lst (nA M.length γ)])
def pE:Γ ["self"] ["self"] (χ lZ):=.of rfl
def wF(F:dE K "rows" "Floor.rows" lZ f fd)(E:Ev K mg Cm){lO:Addr}{mF:FuncData}(dZ:aE P w K mg base 1 "copied_row" ["row"] lJ lO mF):aw P w K mg base (cP P w) 2 f fd ["self"] (dw K (NO Cm)):=by
 refine F.eF pE (λds M q x h=>?_) (λbz A outer s H E' hr=>⟨_,(θ (Δ (HB (ys:=[]) (Θ:=[]) (.of pE rfl rfl rfl) (aR (yI E.fB E.de (jv 0))) (λC s H fp=>(ao dZ hr (fk (P:=P) (w:=w)) (Ν (jv 0) η)))))),λds M q x h=>?_⟩)
 ·have⟨ε,γ,rfl,_⟩:=h;rfl
 ·have⟨ε,γ,rfl,hz,ho,h⟩:=h;walk_at "vc";refine EJ (i:=0) (d:=ar Cm ε γ) rfl (.inl rfl) rfl rfl ⟨by rw[aae];exact aaw hz @_,?_⟩;refine qV (λr M q hr hq=>⟨Ι r,r,rfl,x_ M r,hr,by cases r <;> exact hq⟩) γ [] M ho ?_;rw[aaH,aah];exact h
def gK{α:Type}(f:α->Dt):∀(xs ys:List α),(∀x∈xs,x∈ys)->Paired (λx a=>x=f a/\a∈ys) (xs.map f) xs
 | [],_,_=>.nil
 | x::xs,ys,h=>.cons ⟨rfl,h x aad⟩ (gK f xs ys λy hy=>h y (aac _ hy))
def dF{q:DQ}(u:Dt.bj M.length ds)(h:q (.lst ds) M):pZ M q (.loc M.length) (M++[.lst ds]):=ie (.yu (aaj _) (by rw[abX];rfl) (fP.old u)) h
def C2{q:DQ}(u:Dt.bj M.length ds)(h:q (.lst ds) M):C7 [.lst ds] M (pZ M q):=by show pZ M q (.loc M.length) (M++[.lst ds]);exact dF u h
def pM{d:aO}{q:DQ}(h:q (.int d.1) M):cR (dD d) (.int 0) M q:=Β (xs:=.int d.1::av d.2.1::d.2.2.map av) rfl cf h
def zx{k:Str}{e:Dt}{q:DQ}(h:q e M):cR (.tup [.str k,e]) (.int 1) M q:=Β (xs:=[.str k,e]) rfl (Υ (j:=1) rfl) h
def eL{g:Dt->En->(En->Prop)->Prop}{tb:DS}{Dn:lh}(J:List Dt->En->Ms->Prop)
  (step:∀x xs ρ M,J (x::xs) ρ M->(∀ρ M,J xs ρ M->yk g tb Dn xs ρ M)->g x ρ λρ'=>tb {Dn with nx:=yk g tb Dn xs,ct:=yk g tb Dn xs,bk:=Dn.nx} ρ' M)
  (fin:∀ρ M,J [] ρ M->Dn.nx ρ M):∀(xs:List Dt) (ρ:En) (M:Ms),J xs ρ M->yk g tb Dn xs ρ M
 | [],ρ,M,h=>fin _ _ h
 | x::xs,ρ,M,h=>step x xs ρ M h λρ' M' h'=>eL J step fin xs ρ' M' h'
def d8{lo:Int}{x:Dt}(h:x::xs=cw lo n):∃m,n=m+1/\x= .int lo/\xs=cw (lo+1) m:=by
 cases n with
 | zero=>exact nomatch h
 | succ m=>
  unfold cw at h;rw[abC,aaU,aaN]at h;cases h;refine⟨m,rfl,by simp,?_⟩;unfold cw;apply abi;intro k _;show Dt.int (lo+((k+1:Nat):Int))=Dt.int (lo+1+(k:Int))
  congr 1
  omega
def gy{lo:Int}{x:Dt}(h:x∈cw lo n):∃k:Nat,k < n/\x= .int (lo+k):=by unfold cw at h;have⟨k,hk,rfl⟩:=aan.mp h;exact⟨k,aa5.mp hk,rfl⟩
def c9{lo:Int}:(cw lo n).length=n:=by unfold cw;simp
def sV{α:Type}{te:DE}{cs:En}{M:Ms}{f:α->Dt}(G:α->Prop){k:List Dt->Ms->Prop}:∀(xs:List Dt) (acc:List α),(∀a∈acc,G a)->(∀x∈xs,∀q:DQ,(∀a,G a->q (f a) M)->te (some x::cs) M q ki)->
  (∀as:List α,as.length=acc.length+xs.length->(∀a∈as,G a)->k (as.map f) M)->vf te cs xs (acc.map f) M k
 | [],acc,ha,_,h=>h acc (by simp) ha
 | x::xs,acc,ha,ht,h=>ht x aad _ λa hg=>by
  have e:acc.map f++[f a]=(acc++[a]).map f:=by simp
  rw[e];refine sV G xs (acc++[a]) (λb hb=>?_) (λy hy=>ht y (List.mem_cons_of_mem _ hy)) λas hl hg'=>h as (by rw[hl];simp;omega) hg';rcases aaR.mp hb with hb| hb
  ·exact ha b hb
  ·have:b=a:=by simpa using hb
   rw[this];exact hg
def kI{n:Nat}:∀(xs:List Int),Dt.bj n (xs.map Dt.int)
 | []=>trivial
 | _::xs=>⟨trivial,kI xs⟩
def Ij{m:Int}:∀{l:List Int},(∀w∈l,w<=m)->l.sum<=l.length * m
 | [],_=>by simp
 | a::l,h=>by have i:=Ij (l:=l) λw hw=>h w (aac _ hw);have:=h a aad;rw[List.sum_cons,aaJ,Int.natCast_add,Int.add_mul];omega
def qj(eA:Int)(r:Rw):Prop:=fK r/\fN r eA=true
def LF{k:Str}{ds:List aO}{eA:Int}(hk:Ο k=true)(hz:1<=ds.length)(Yo:ds.length<=6)(hd:∀d∈ds,aJ d.1 d.2.1 eA=true)(hs:∀d∈ds,d.2.2=[]/\0 < d.2.1.2):qj eA (.τ k ds):=by
 have fd:Ξ ds eA=true:=by unfold Ξ;rw[aaE hz,aaE Yo,aa9.mpr hd];rfl
 have ne:k≠"end"/\k≠"chance":=by refine⟨λz=>?_,λz=>?_⟩ <;> (subst z;exact aay hk @_)
 refine⟨⟨ne.1,(),λz=>aay z ne.2,λd h=>⟨by rw[(hs d h).1];exact ab5 _,(hs d h).2⟩⟩,?_⟩;show(if Ο k then _ else _)=true;rw[aaq hk];exact fd
def EF{ds:List aO}{eA:Int}(hz:1<=ds.length)(Yo:ds.length<=6)(hd:∀d∈ds,aJ d.1 d.2.1 eA=true)(h1:∀d∈ds,d.2.2=[ν d])(hc:Χ (ds.map ν)=true)(ho:Oy (ds.map ν))(hp:∀d∈ds,0 < d.2.1.2):qj eA (.τ "chance" ds):=by
 have fd:Ξ ds eA=true:=by unfold Ξ;rw[aaE hz,aaE Yo,aa9.mpr hd];rfl
 refine⟨⟨@_,(),λ_=>⟨h1,ho⟩,λd h=>⟨by rw[h1 d h];exact aaj _,hp d h⟩⟩,?_⟩;have e:fN (.τ "chance" ds) eA=(Ξ ds eA&&Χ (ds.map ν)):=by dsimp only[fN];rw[aau @_,aaq rfl]
 rw[e,fd,hc];rfl
def LZ{eA:Int}{p:Fr}(h0:0<=t)(h1:t < eA)(hp:cH p=true):aJ t p eA=true:=by unfold aJ;rw[aaE h0,aaE h1,hp];rfl
def Li(h1:1<=m)(h6:m<=6):0 < (1000000:Int) / m/\(m:Int) * (1000000 / m)<=1000000:=by
 have:m=1\/m=2\/m=3\/m=4\/m=5\/m=6:=()
 rcases this with rfl| rfl| rfl| rfl| rfl| rfl <;> decide
def jj{xs:List Int}(h:j < xs.length):iH (xs.map Dt.int) (j:Int)=some (.int xs[j]):=Υ (by rw[aak,aaa h];rfl)
def C9:∀{l:List Int},(∀w∈l,0 < w)->l≠[]->0 < l.sum
 | [],_,z=>aay rfl z
 | [a],h,_=>by have:=h a List.mem_cons_self;simpa using this
 | a::b::l,h,_=>by have i:=C9 (l:=b::l) (λw hw=>h w (List.mem_cons_of_mem _ hw)) (by simp);have:=h a aad;rw[List.sum_cons];omega
def Sz(k:Nat)(p:Fr):Prop:=p.1.natAbs < 2 ^ k/\0 < p.2/\p.2.natAbs < 2 ^ k
def e6(p q:Fr):Fr:=ax (p.1 * q.1) (p.2 * q.2)
def dW(p q:Fr):Bool:=decide (p.1 * q.2 < q.1 * p.2)
def w4{k k':Nat}{p:Fr}(h:Sz k p)(hk:k<=k'):Sz k' p:=
 ⟨aaz h.1 (abI @_ hk),h.2.1,aaz h.2.2 (abI @_ hk)⟩
def eX{a b k l:Nat}(h:a < 2 ^ k)(h':b < 2 ^ l):a * b < 2 ^ (k+l):=by rw[Nat.pow_add];exact Nat.mul_lt_mul'' h h'
def Bi{p q:Fr}{k l:Nat}(hp:Sz k p)(hq:Sz l q):(p.1 * q.1).natAbs < 2 ^ (k+l)/\(p.2 * q.2).natAbs < 2 ^ (k+l)/\0 < p.2 * q.2:=by have a:=eX hp.1 hq.1;have c:=eX hp.2.2 hq.2.2;exact⟨by rw[abw];exact a,by rw[abw];exact c,abv hp.2.1 hq.2.1⟩
def iZ{p:Fr}{k:Nat}(h:Sz k p)(hk:k<=8000):fj p.1:=bg h.1 hk
def fV{p:Fr}{k:Nat}(h:Sz k p)(hk:k<=8000):fj p.2:=bg h.2.2 hk
def qX{p:Fr}{q:DQ}(h:q (.int p.1) M):cR (av p) (.int 0) M q:=Β (xs:=[.int p.1,.int p.2]) rfl cf h
def tF{p:Fr}{q:DQ}(h:q (.int p.2) M):cR (av p) (.int 1) M q:=Β (xs:=[.int p.1,.int p.2]) rfl (Υ (j:=1) rfl) h
def Ks:DF:=λas M q _=>∃p r k l,as=[av p,av r]/\Sz k p/\Sz l r/\k+l+1<=8000/\q (av (e6 p r)) M
def Mw:Γ ["one","other"] ["one","other"] (χ B9):=.of rfl
def Hi(F:dE K "times" "times" B9 f fd)(E:Ev K mg Cm)(cF:aE P w K mg base 2 "fraction" ["top","bottom"] u9 iN iM):aw P w K mg base (cP P w) 3 f fd ["one","other"] (dw K Ks):=by
 refine F.eF Mw (λds M q x h=>?_) (λbz A outer s H E' hr=>⟨_,(θ (Δ (ao cF hr ξ (ι (aP (Ε (jv 0) ο) (Ε (jv 1) ο)) (ι (aP (Ε (jv 0) ο) (Ε (jv 1) ο)) η cz) cz)))),λds M q x h=>?_⟩)
 ·have⟨p,r,k,l,rfl,_⟩:=h;rfl
 ·have⟨p,r,k,l,rfl,hp,vh,hk,h⟩:=h;have⟨a,b,c⟩:=Bi hp vh;refine⟨⟨iZ hp (),iZ vh ()⟩,⟨fV hp (),fV vh ()⟩,bg b (),λz=>aay z (),λ_=>h⟩
def iu(p q:Fr):Fr:=ax (p.1 * q.2 - q.1 * p.2) (p.2 * q.2)
def BL{p q:Fr}{k l:Nat}(hp:Sz k p)(hq:Sz l q):(p.1 * q.2 - q.1 * p.2).natAbs < 2 ^ (k+l+1)/\(p.2 * q.2).natAbs < 2 ^ (k+l+1)/\0 < p.2 * q.2:=by
 have a:=eX hp.1 hq.2.2;have b:=eX hq.1 hp.2.2;have c:=eX hp.2.2 hq.2.2;rw[Nat.add_comm l k]at b;have e:(2:Nat) ^ (k+l+1)=2 ^ (k+l)+2 ^ (k+l):=by rw[Nat.pow_succ];omega
 have hn:(p.1 * q.2 - q.1 * p.2).natAbs<=(p.1 * q.2).natAbs+(q.1 * p.2).natAbs:=()
 rw[abw,abw]at hn;refine⟨by rw[e];omega,?_,abv hp.2.1 hq.2.1⟩;rw[abw,e];omega
def Jd:DF:=λas M q _=>∃p r k l,as=[av p,av r]/\Sz k p/\Sz l r/\k+l+1<=8000/\q (av (iu p r)) M
def KG:Γ ["one","other"] ["one","other"] (χ Cd):=.of rfl
def GO(F:dE K "minus" "minus" Cd f fd)(E:Ev K mg Cm)(cF:aE P w K mg base 2 "fraction" ["top","bottom"] u9 iN iM):aw P w K mg base (cP P w) 3 f fd ["one","other"] (dw K Jd):=by
 refine F.eF KG (λds M q x h=>?_) (λbz A outer s H E' hr=>⟨_,(θ (Δ (ao cF hr ξ (ι (sN (aP (Ε (jv 0) ο) (Ε (jv 1) ο)) (aP (Ε (jv 1) ο) (Ε (jv 0) ο))) (ι (aP (Ε (jv 0) ο) (Ε (jv 1) ο)) η cz) cz)))),λds M q x h=>?_⟩)
 ·have⟨p,r,k,l,rfl,_⟩:=h;rfl
 ·have⟨p,r,k,l,rfl,hp,vh,hk,h⟩:=h;have⟨a,b,c⟩:=BL hp vh;refine⟨⟨iZ hp (),fV vh ()⟩,⟨iZ vh (),fV hp ()⟩,⟨fV hp (),fV vh ()⟩,bg b hk,λz=>aay z (),λ_=>h⟩
def jI(B:Int)(c:Fr):Int:=c.1 * (B / c.2)
structure wk(cs:List Fr):Prop where
 pos:∀c∈cs,0 < jI (a_ cs) c
 sum:(cs.map (jI (a_ cs))).sum=a_ cs
 b0:0 < a_ cs
 b1:a_ cs<=1000000
 ne:cs≠[]
 Gp:Oy cs
def RR{cs:List Fr}(h:Χ cs=true)(o:Oy cs)(n:cs≠[]):wk cs:=by
 unfold Χ at h;rw[aaC,aaC,aaZ,aaZ,Bool.not_eq_true']at h;have⟨h1,h2,h3⟩:=h;have B0:0 < a_ cs:=fb cs 1 @_ λc hc=>(o.2 c hc).1;have⟨_,_,hB⟩:=fq cs 1 0 @_ (abT _) λc hc=>⟨(o.2 c hc).1,abT _⟩;refine⟨λc hc=>?_,h2,B0,h3,n,o⟩;have c1:0 < c.1:=by have:=List.any_eq_false.mp h1 c hc;simpa using this
 exact abv c1 (Int.ediv_pos_of_pos_of_dvd B0 (aag (o.2 c hc).1) (hB c hc))
def val(p:Fr):Rat:=(p.1:Rat) / (p.2:Rat)
structure Red(p:Fr):Prop where
 pos:0 < p.2
 low:Int.gcd p.1 p.2=1
def bq(h:b≠0):(b:Rat)≠0:=λz=>h (Rat.intCast_eq_zero_iff.mp z)
def MP{a c d:Int}(h:a * b=c * d):(a:Rat) * b=c * d:=by rw[<-aa3,<-aa3,h]
def sS(h:b≠0):Red (ax t b):=⟨b_ h,zf h⟩
def nv(h:b≠0):val (ax t b)=(t:Rat) / (b:Rat):=by
 have hq:=b_ (t:=t) h;have hx:=MP (cD (t:=t) h);have h1:=bq h;have h2:=bq (show(ax t b).2≠0 by omega);unfold val;generalize ((ax t b).1:Rat)=x at *
 generalize ((ax t b).2:Rat)=y at *
 generalize (t:Rat)=t' at *
 generalize (b:Rat)=b' at *
 grind
def kW{p q:Fr}(hp:Red p)(hq:Red q)(h:val p=val q):p=q:=by
 have h1:=bq (show p.2≠0 by have:=hp.pos;omega);have h2:=bq (show q.2≠0 by have:=hq.pos;omega);have e:p.1 * q.2=p.2 * q.1:=by
  unfold val at h;have e1:(p.1:Rat) * (q.2:Rat)=(p.2:Rat) * (q.1:Rat):=by
   generalize (p.1:Rat)=a at *
   generalize (p.2:Rat)=b at *
   generalize (q.1:Rat)=c at *
   generalize (q.2:Rat)=d at *
   grind
  rw[<-aa3,<-aa3]at e1;exact Rat.intCast_inj.mp e1
 have a:=xC (show p.2≠0 by have:=hp.pos;omega) hq.pos hq.low e;have b:=FG hp.pos hp.low;rw[<-Prod.eta p,<-b,a]
def FZ{p q:Fr}(hp:0 < p.2)(hq:0 < q.2):val (e6 p q)=val p * val q:=by
 unfold e6;rw[nv (acB (abv hp hq))];have h1:=bq (show p.2≠0 by omega);have h2:=bq (show q.2≠0 by omega);rw[aa3,aa3];unfold val;generalize (p.1:Rat)=a at *
 generalize (p.2:Rat)=b at *
 generalize (q.1:Rat)=c at *
 generalize (q.2:Rat)=d at *
 grind
def nM(p:Fr)(E:Int):Prop:=∃N,p.1 * E=N * p.2
def vi{N:Int}(h:b≠0)(e:t * E=N * b):nM (ax t b) E:=by
 have hx:=cD (t:=t) h;generalize hf:ax t b=f at *
 have⟨x,y⟩:=f;refine⟨N,?_⟩;show x * E=N * y;have hx:t * y=b * x:=hx;have:b * (x * E)=b * (N * y):=by grind
 exact aaQ h this
def F_(p:Fr):nM p p.2:=⟨p.1,rfl⟩
def Bk{p q:Fr}{F:Int}(hp:0 < p.2)(hq:0 < q.2)(h:nM p E)(h':nM q F):nM (e6 p q) (E * F):=by have⟨N,e⟩:=h;have⟨N',e'⟩:=h';unfold e6;exact vi (N:=N * N') (Int.ne_of_gt (Int.mul_pos hp hq)) (by grind)
def vR{p:Fr}(hp:Red p)(h:nM p E):p.2∣E:=by
 have⟨N,e⟩:=h;have d:p.2∣p.1 * E:=⟨N,by rw[e,abl]⟩;have d2:p.2.natAbs∣p.1.natAbs * E.natAbs:=by rw[<-abw];exact Int.natAbs_dvd_natAbs.mpr d
 have co:Nat.Coprime p.2.natAbs p.1.natAbs:=by have:=hp.low;unfold Int.gcd at this;rw[Nat.coprime_comm];exact this
 exact Int.natAbs_dvd_natAbs.mp (co.dvd_of_dvd_mul_left d2)
def uJ(p:Fr)(C:Int):Prop:=p.1<=p.2 * C/\ -(p.2 * C)<=p.1
def JB(h:0 < b)(h1:t<=b * C)(h2: -(b * C)<=t):uJ (ax t b) C:=by
 have hx:=cD (t:=t) (show b≠0 by omega);have hq:=b_ (t:=t) (show b≠0 by omega);generalize hf:ax t b=f at *
 have⟨x,y⟩:=f;have hx:t * y=b * x:=hx;have hq:0 < y:=hq;constructor
 ·show x<=y * C;have:=aaF h1 (aag hq);rw[hx]at this;have e:b * C * y=b * (y * C):=by grind
  rw[e]at this;exact acg this h
 ·show -(y * C)<=x;have:=aaF h2 (aag hq);rw[hx]at this;have e: -(b * C) * y=b * (-(y * C)):=by grind
  rw[e]at this;exact acg this h
def fL{a c:Int}(h:a<=b)(hc:0<=c):a * c<=b * c:=aaF h hc
def lL(c:Fr):Prop:=0<=c.1/\c.1<=c.2
def Bo{c s:Fr}(hc:0 < c.2)(hs:0 < s.2)(u:lL c)(v:lL s):lL (e6 c s):=by
 unfold e6;have hx:=cD (t:=c.1 * s.1) (acB (abv hc hs));have hq:=b_ (t:=c.1 * s.1) (acB (abv hc hs));have t0:0<=c.1 * s.1:=abt u.1 v.1
 have t1:c.1 * s.1<=c.2 * s.2:=aaL (fL u.2 v.1) (by
  have:=fL v.2 (aag hc)
  rw[abl c.2 s.1,abl c.2 s.2];exact this)
 have bp:=abv hc hs;generalize c.1 * s.1=t at *
 generalize c.2 * s.2=b at *
 generalize hf:ax t b=f at *
 have⟨x,y⟩:=f;have hx:t * y=b * x:=hx;have hq:0 < y:=hq;constructor
 ·show 0<=x;rcases acC x 0 with z| z
  ·have:=acf bp z;have:=abt t0 (aag hq);omega
  ·exact z
 ·show x<=y;have:=fL t1 (aag hq);rw[hx]at this;exact acg this bp
def Ss{p:Fr}{k:Nat}(r:Red p)(h:nM p E)(e0:0 < E)(e1:E < 2 ^ k)(a:uJ p C)(c0:0<=C)(c1:C < 2 ^ m):Sz (k+m) p:=by
 have d:=abZ e0 (vR r h);have rp:=r.pos;have b1:p.2.natAbs < 2 ^ k:=by
  have:(p.2.natAbs:Int) < ((2 ^ k:Nat):Int):=by rw[abm (aag rp)];exact abh d (by exact_mod_cast e1)
  exact abL.mp this
 have b2:C.natAbs < 2 ^ m:=by
  have:(C.natAbs:Int) < ((2 ^ m:Nat):Int):=by
   rw[abm c0]
   exact_mod_cast c1
  exact abL.mp this
 have b3:=eX b1 b2;refine⟨?_,rp,aaz b1 (abI @_ (abB _ _))⟩;refine abf ?_ b3;rw[<-abw];have q0:0<=p.2 * C:=abt (aag rp) c0;have:=a.1;have:=a.2;omega
def R0{cs:List Fr}(h:j < cs.length):iH (cs.map av) (j:Int)=some (av cs[j]):=Υ (by rw[aak,aaa h];rfl)
def RD{ds:List aO}(h:j < ds.length):iH (ds.map dD) (j:Int)=some (dD ds[j]):=Υ (by rw[aak,aaa h];rfl)
structure Sk(ε:Fr)(γ:List Rw):Prop where
 sh:iQ ε=true
 len:γ.length<=12
 row:∀r∈γ,fK r/\fN r γ.length=true
structure Tz(γ:List Rw)(k:Str)(ds:List aO):Prop where
 ro:fK (.τ k ds)
 l1:1<=ds.length
 l6:ds.length<=6
 kd:Ο k=true\/(Ο k=false/\k="chance"/\wk (ds.map ν))
 to:∀d∈ds,0<=d.1/\d.1 < γ.length
 py:∀d∈ds,cH d.2.1=true/\0 < d.2.1.2
def b9{ε:Fr}{γ:List Rw}{k:Str}{ds:List aO}(f:Sk ε γ)(h:Rw.τ k ds∈γ):Tz γ k ds:=by
 have⟨ro,h2⟩:=f.row _ h;have h2:(if Ο k then Ξ ds γ.length else if k="chance" then Ξ ds γ.length&&Χ (ds.map ν) else false)=true:=h2;have key:Ξ ds γ.length=true/\(Ο k=true\/(Ο k=false/\k="chance"/\Χ (ds.map ν)=true)):=by
  by_cases hk:Ο k=true
  ·rw[aaq hk]at h2;exact⟨h2,.inl hk⟩
  ·rw[aau hk]at h2;by_cases hc:k="chance"
   ·rw[if_pos hc,Bool.and_eq_true]at h2;exact⟨h2.1,.inr ⟨by simpa using hk,hc,h2.2⟩⟩
   ·rw[aau hc]at h2;cases h2
 have⟨fd,hk⟩:=key;unfold Ξ at fd;rw[aaC,aaC,aaZ,aaZ]at fd;have⟨⟨d1,d6⟩,fa⟩:=fd;have each:∀d∈ds,0<=d.1/\d.1 < γ.length/\cH d.2.1=true:=λd hd=>by have h3:=aa9.mp fa d hd;unfold aJ at h3;rw[aaC,aaC,aaZ,aaZ]at h3;exact⟨h3.1,h3.2.1,h3.2.2⟩
 refine⟨ro,d1,d6,?_,λd hd=>⟨(each d hd).1,(each d hd).2.1⟩,λd hd=>⟨(each d hd).2.2,(ro.2.2.2 d hd).2⟩⟩;rcases hk with hk| ⟨hk,hc,hf⟩
 ·exact .inl hk
 ·refine .inr ⟨hk,hc,RR hf (ro.2.2.1 hc).2 λz=>?_⟩;have:=aaM List.length z;rw[aae]at this;have:ds.length=0:=this;omega
def LW{α:Type}(xs:List α)(a:α)(f:α->Dt):(cw 0 xs.length).map (λx=>match x with| .int j=>f (xs.getD j.toNat a)| _=>.aY)=xs.map f:=by
 unfold cw;rw[aaN];apply abp
 ·simp
 ·intro i h1 h2;simp only[List.getElem_map,List.getElem_range,Function.comp];rw[show(0+(i:Int)).toNat=i by omega];have hi:i < xs.length:=by simpa using h2
  rw[aab,aaa hi];rfl
abbrev d0:aO:=(0,(0,1),[])
def rX(h:p < n):GC n (p:Int)=some p:=by unfold GC;rw[aaq (),aaq (),aaW]
def IZ(h:Gk M d=some xs):hZ M d=some xs:=by cases d <;> first| exact h| cases h
def aN{o:MO}:(M++[o])[M.length]? =some o:=by simp
def v7{k:Nat}(h:M[k]? =some (MO.lst xs)):Gk M (.loc k)=some xs:=by show(match M[k]? with| some (MO.lst xs)=>some xs| _=>none)=some xs;rw[h]
def dM{a c:MO}:(M++[a]).set M.length c=M++[c]:=by simp[List.set_append]
def Oc{E:Ms}{o:MO}:(M++o::E)[M.length]? =some o:=by simp
def Mg{E:Ms}{o c:MO}:(M++o::E).set M.length c=M++c::E:=by simp[List.set_append]
abbrev cG(l:List Int):Dt:=.lst (l.map Dt.int)
abbrev ju(ls:List (List Int)):Dt:=.lst (ls.map cG)
def DN{ls:List (List Int)}(h:j < ls.length):iH (ls.map cG) (j:Int)=some (cG ls[j]):=Υ (by rw[aak,aaa h];rfl)
def ji{n:Nat}:∀(ls:List (List Int)),Dt.bj n (ls.map cG)
 | []=>trivial
 | l::ls=>⟨kI l,ji ls⟩
abbrev dc:=Bz.dc
def yT(h:i < n):((List.replicate (n:Int).toNat [Dt.int 0]).flatten).set i (Dt.int 1)=(dc n i).map Dt.int:=by
 have e:(List.replicate (n:Int).toNat [Dt.int 0]).flatten=List.replicate n (Dt.int 0):=by
  rw[show((n:Int)).toNat=n by omega];clear h
  induction n with
  | zero=>rfl
  | succ n ih=>rw[abo,abD,ih];rfl
 rw[e];unfold dc Bz.dc;apply abp
 ·simp
 ·intro j h1 h2;rw[List.getElem_set];simp only[List.getElem_replicate,List.getElem_map,List.getElem_range,Bz.ind];split <;> rfl
def MU:DF:=λas M q _=>∃γ:List (List Int),as=[ju γ]/\γ.length<=12/\(∀r∈γ,r.length<=13)/\∀E,q (.loc M.length) (M++MO.lst (((List.range γ.length).map λi=>γ.getD i []++dc γ.length i).map cG)::E)
def dJ:Γ ["rows","told","number","row","weights"] ["rows"] (χ i8):=.of rfl
def rh(F:dE K "with_weights" "with_weights" i8 f fd)(E:Ev K mg Cm):aw P w K mg base (cP P w) 1 f fd ["rows"] (dw K MU):=by
 refine F.eF dJ (λds M q x h=>?_) (λbz A outer s H E' hr=>⟨_,(ζ (ψ 1 dJ.nd (oY η))
   (ζ (b6 (mU E.cB (Ν (jv 0) η)) (lV rfl (bf (ae (i:=2) dJ.nd rfl (Or.inl rfl)) (bf (ae (i:=3) dJ.nd rfl (Or.inl rfl)) i7))) mJ (ζ (ψ 4 dJ.nd (B2 (fh 3 (d:=.lst [.int 0]) (by rfl)) (cZ E.bW (Ν (jv 0) η))))
   (ζ (jN (jv 4) (jv 2) ο)
   (θ (fg (iB (jv 1) (ι (jF (jv 3) (jv 4)) η cz)))))))
   (θ (Δ (jv 1))))),λds M q x h=>?_⟩)
 ·have⟨γ,rfl,_⟩:=h;rfl
 ·have⟨γ,rfl,r12,Z_,h⟩:=h;refine⟨@_,?_⟩;refine⟨ju γ,γ.map cG,λ_=>True,rfl,rfl,?_⟩;refine aV (λxs ρ M'=>∃(k:Nat) (rest:List (List Int)) (E:Ms) (o1 o2 o3:Option Dt),xs=gY k (rest.map cG)/\γ.drop k=rest/\k<=γ.length/\M'=M++MO.lst (((List.range k).map λi=>γ.getD i []++dc γ.length i).map cG)::E/\ρ=[some (ju γ),some (.loc M.length),o1,o2,o3]) (λxs ρ M' hj=>trivial) (λx xs ρ M' hj fH=>?_) (λρ M' hj=>?_) _ _ _ ⟨0,γ,[],none,none,none,rfl,rfl,ab5 _,rfl,rfl⟩
  ·have⟨k,rest,E,o1,o2,o3,ex,hd,hk,rfl,rfl⟩:=hj;cases rest with
   | nil=>cases ex
   | cons r rest=>
    cases ex;have tY:k < γ.length:=by
     rcases Nat.lt_or_ge k γ.length with z| z
     ·exact z
     ·rw[List.drop_of_length_le z]at hd;cases hd
    have rk:γ[k]=r:=by have:=abr tY;rw[hd]at this;exact(List.cons.inj this).1.symm
    have rg:γ.getD k []=r:=by rw[aab,aaa tY,rk];rfl
    have aey:=Z_ r (by rw[<-rk];exact aal tY);have FX:γ.drop (k+1)=rest:=by have:=abr tY;rw[hd]at this;exact(List.cons.inj this).2.symm
    dsimp only[g2];walk_at "vc";refine(aF (d:=ju γ) (xs:=γ.map cG) rfl ?_:gH [ju γ] _ _);rw[aae];refine⟨[.int 0],γ.length,rfl,rfl,(),(),?_,?_⟩
    ·show 1 * ((γ.length:Int)).toNat<=sizeLine;exact aaw (show _<=12 by omega) @_
    generalize hM2:M++MO.lst (((List.range k).map λi=>γ.getD i []++dc γ.length i).map cG)::E=M2;refine⟨M2.length,k,_,k,rfl,rfl,aN,?_,?_⟩
    ·have:((List.replicate (γ.length:Int).toNat [Dt.int 0]).flatten).length=γ.length:=by have:=aaM List.length (yT tY);rw[aa6,aae]at this;rw[this];unfold dc Bz.dc;simp
     rw[this];exact rX tY
    rw[dM,yT tY];subst hM2;have eM:(M++MO.lst (((List.range k).map λi=>γ.getD i []++dc γ.length i).map cG)::E)++[MO.lst ((dc γ.length k).map Dt.int)]=M++MO.lst (((List.range k).map λi=>γ.getD i []++dc γ.length i).map cG)::(E++[MO.lst ((dc γ.length k).map Dt.int)]):=by simp
    have Zr:((M++MO.lst (((List.range k).map λi=>γ.getD i []++dc γ.length i).map cG)::E)++[MO.lst ((dc γ.length k).map Dt.int)])[M.length]? =some (.lst (((List.range k).map λi=>γ.getD i []++dc γ.length i).map cG)):=by rw[eM];exact Oc
    refine⟨⟨M.length,_,rfl,Zr⟩,r.map Dt.int,(dc γ.length k).map Dt.int,rfl,v7 aN,?_,M.length,_,_,rfl,rfl,Zr,?_,?_⟩
    ·rw[aae,aae];unfold dc Bz.dc;rw[aae,aa8];exact aaw (show _<=30 by omega) @_
    ·rw[aae,aae,aa8];exact abf (show k<=12 by omega) @_
    rw[eM,Mg];refine fH _ _ ⟨k+1,rest,E++[MO.lst ((dc γ.length k).map Dt.int)],_,_,_,rfl,FX,tY,?_,rfl⟩;rw[List.range_succ,aa2,aa2];simp only[List.map_cons,List.map_nil];rw[rg,<-aa2]
  ·have⟨k,rest,E,o1,o2,o3,ex,hd,hk,rfl,rfl⟩:=hj;cases rest with
   | cons r rest=>cases ex
   | nil=>
    have:k=γ.length:=by have:=aaM List.length hd;rw[abH]at this;simp at this;omega
    subst this;exact h E
def RJ:DF:=λas M q _=>∃(ls:List (List Int)) (f c:Nat),as=[ju ls,.int (f:Int),.int (c:Int)]/\f<=ls.length/\ls.length<=12/\(∀l∈ls,c < l.length)/\
 ((∀(k:Nat),f<=k->k < ls.length->(ls.getD k []).getD c 0=0)->q .aY M)/\
 (∀(k:Nat),f<=k->k < ls.length->(ls.getD k []).getD c 0≠0->q (.int (k:Int)) M)
def jX:Γ ["lines","first","column","number"] ["lines","first","column"] (χ h_):=.of rfl
def pW(F:dE K "number_of_head" "number_of_head" h_ f fd)(E:Ev K mg Cm):aw P w K mg base (cP P w) 1 f fd ["lines","first","column"] (dw K RJ):=by
 refine F.eF jX (λds M q x h=>?_) (λbz A outer s H E' hr=>⟨_,(ζ (kg (EE E.bI (Ν (jv 1) (ι (cZ E.bW (Ν (jv 0) η)) η bC))) (ae (i:=3) jX.nd rfl (Or.inl rfl)) aA (θ (aH (rV hr (Ε (Ε (jv 0) (jv 3)) (jv 2)) ο) (θ (Δ (jv 3))) Μ)))
   (θ (Δ yi))),λds M q x h=>?_⟩)
 ·have⟨ls,f,c,rfl,_⟩:=h;rfl
 ·have⟨ls,f,c,rfl,hf,tI,hc,h1,h2⟩:=h;walk_at "vc";dsimp only[AV];walk_at "vc";refine(aF (d:=ju ls) (xs:=ls.map cG) rfl ?_:gH [ju ls] _ _);rw[aae];refine⟨⟨(),(),(),()⟩,?_⟩;refine eL (λzs ρ M'=>M'=M/\∃(n k:Nat) (o:Option Dt),zs=cw k n/\f<=k/\k+n=ls.length/\(∀j,f<=j->j < k->(ls.getD j []).getD c 0=0)/\ρ=[some (ju ls),some (.int (f:Int)),some (.int (c:Int)),o]) (λx zs ρ M' hj fH=>?_) (λρ M' hj=>?_) _ _ _ ⟨rfl,ls.length - f,f,none,?_,aaj _,(),λj a b=>aay a (),rfl⟩
  ·have⟨rfl,n,k,o,ex,hk,hn,hz,rfl⟩:=hj;have⟨m,rfl,rfl,rfl⟩:=d8 ex;have kl:k < ls.length:=()
   have hl:=hc _ (aal kl);have e1:(ls.getD k []).getD c 0=(ls[k])[c]:=by rw[aab,aab,aaa kl];show((ls[k])[c]?).getD 0=_;rw[aaa hl];rfl
   walk_at "vc";refine(Β (d:=ju ls) rfl (DN kl) ?_:cR (ju ls) (.int (k:Int)) _ _);refine(Β (d:=cG ls[k]) rfl (jj hl) ?_:cR (cG ls[k]) (.int (c:Int)) _ _);refine⟨λz=>?_,λz=>?_⟩
   ·have z:(!decide ((ls[k])[c]=0))=true:=z;refine h2 k hk kl ?_;rw[e1];intro y;rw[aaE y]at z;exact nomatch z
   ·have z:(!decide ((ls[k])[c]=0))=false:=z;have z0:(ls[k])[c]=0:=by
     rcases Decidable.em ((ls[k])[c]=0) with y| y
     ·exact y
     ·rw[aar y]at z;exact nomatch z
    refine fH _ _ ⟨rfl,m,k+1,_,by simp,(),(),λj a b=>?_,rfl⟩;by_cases e:j=k
    ·rw[e,e1];exact z0
    ·exact hz j a ()
  ·have⟨rfl,n,k,o,ex,hk,hn,hz,rfl⟩:=hj;have ZW:n=0:=by have:=aaM List.length ex;unfold cw at this;simpa using this.symm
   exact h1 λj a b=>hz j a ()
  ·rw[show((ls.length:Int) - (f:Int)).toNat=ls.length - f by omega]
abbrev j6:=Bz.j6
def Ip:DF:=λas M q _=>∃(ls:List (List Int)) (f k:Nat),as=[ju ls,.int (f:Int),.int (k:Int)]/\f<=k/\k < ls.length/\ls.length<=12/\q (ju (j6 ls f k)) M
def xI:Γ ["lines","first","number"] ["lines","first","number"] (χ j8):=.of rfl
def tQ(F:dE K "moved_ahead" "moved_ahead" j8 f fd)(E:Ev K mg Cm):aw P w K mg base (cP P w) 1 f fd ["lines","first","number"] (dw K Ip):=by
 refine F.eF xI (λds M q x h=>?_) (λbz A outer s H E' hr=>⟨_,(θ (Δ (jF (jF (jF (cK (DR (jv 0) (jv 1))) (nc (ι (Ε (jv 0) (jv 2)) η b8))) (cK (Eu (jv 0) (jv 1) (jv 2)))) (cK (ky (jv 0) (cJ (jv 2) ο)))))),λds M q x h=>?_⟩)
 ·have⟨ls,f,k,rfl,_⟩:=h;rfl
 ·have⟨ls,f,k,rfl,hf,hk,tI,h⟩:=h;have gk:ls.getD k []=ls[k]:=by rw[aab,aaa hk];rfl
  have sz:∀{n:Nat},n<=40->n<=sizeLine:=λh=>aaw h @_;refine⟨ls.map cG,f,rfl,rfl,?_⟩;rw[<-List.map_take];refine dF (ji _) ?_;walk_at "vc";refine(Β (d:=ju ls) rfl (DN hk) ?_:cR (ju ls) (.int (k:Int)) _ _);refine⟨sz (by show 1<=40;decide),(ls.take f).map cG,[cG ls[k]],rfl,rfl,sz (by simp;omega),?_⟩;refine⟨f,rfl,ls.map cG,k,rfl,rfl,?_⟩;rw[<-aca,<-List.map_take];refine dF (ji _) ?_;refine⟨(ls.take f).map cG++[cG ls[k]],((ls.drop f).take (k - f)).map cG,rfl,rfl,sz (by simp;omega),?_⟩;refine⟨ls.map cG,k+1,rfl,rfl,?_⟩;rw[<-aca];refine dF (ji _) ?_;refine⟨(ls.take f).map cG++[cG ls[k]]++((ls.drop f).take (k - f)).map cG,(ls.drop (k+1)).map cG,rfl,rfl,sz (by simp;omega),?_⟩;unfold j6 Bz.j6 at h;rw[gk]at h;have e:(ls.take f).map cG++[cG ls[k]]++((ls.drop f).take (k - f)).map cG++(ls.drop (k+1)).map cG=(ls.take f++[ls[k]]++(ls.drop f).take (k - f)++ls.drop (k+1)).map cG:=by rw[aa2,aa2,aa2];rfl
  rw[e];exact h
abbrev c8:=Bz.c8
def Cc:DF:=λas M q _=>∃(l h:List Int) (c:Nat) (d:Int),as=[cG l,cG h,.int (c:Int),.int d]/\l.length=h.length/\h.length<=30/\c < h.length/\(∀x∈l,fj x)/\(∀x∈h,fj x)/\d≠0/\fj d/\q (cG (c8 l h c d)) M
def lx:Γ ["line","head","column","divisor"] ["line","head","column","divisor"] (χ iU):=.of rfl
def qI(F:dE K "cleared_line" "cleared_line" iU f fd)(E:Ev K mg Cm):aw P w K mg base (cP P w) 1 f fd ["line","head","column","divisor"] (dw K Cc):=by
 refine F.eF lx (λds M q x h=>?_) (λbz A outer s H E' hr=>⟨_,(θ (Δ (LJ (ys:=["divisor","head","column","line"]) (Θ:=[3,1,2,0]) (.of lx rfl rfl rfl) (Hh E.Aj (Ν (jv 0) (Ν (jv 1) η))) (λC s H fp=>(Cu (sN (aP (Ε (jv 3) (jv 4)) (jv 0)) (aP (Ε (jv 5) (jv 4)) (jv 1))) (jv 2)))))),λds M q x h=>?_⟩)
 ·have⟨l,h',c,d,rfl,_⟩:=h;rfl
 ·have⟨l,hd,c,d,rfl,hl,h30,hc,bl,bh,d0,bd,h⟩:=h;have cl:c < l.length:=()
  have g1:hd.getD c 0=hd[c]:=by rw[aab,aaa hc];rfl
  have S_:l.getD c 0=l[c]:=by rw[aab,aaa cl];rfl
  refine⟨cG l,cG hd,l.map Dt.int,hd.map Dt.int,λ_=>True,λ_=>True,rfl,rfl,rfl,?_⟩;have ez:tK (l.map Dt.int) (hd.map Dt.int)=(l.zip hd).map λp=>.tup [.int p.1,.int p.2]:=by unfold tK;rw[List.zip_map,aaN];rfl
  rw[ez];refine⟨?_,?_⟩
  ·rw[aae,abV];exact aaw (show _<=30 by omega) @_
  refine uF ⟨trivial,trivial⟩ (λx=>match x with| .tup [.int a,.int b]=>.int ((hd.getD c 0 * a - l.getD c 0 * b).fdiv d)| _=>.aY) _ _ (λx hx q' hq=>?_) ?_
  ·have⟨p,hp,rfl⟩:=aan.mp hx;have hq:q' (.int ((hd.getD c 0 * p.1 - l.getD c 0 * p.2).fdiv d)) M:=hq;have p1:=bl p.1 (acr hp).1;have p2:=bh p.2 (acr hp).2;rw[g1,S_]at hq;have key:cR (cG hd) (.int (c:Int)) M (λx M1=>IG x (.int p.1) M1 λy M2=>cR (cG l) (.int (c:Int)) M2 λz M3=>IG z (.int p.2) M3 λu M4=>Hs y u M4 λv M5=>CY v (.int d) M5 q'):=by refine Β (d:=cG hd) rfl (jj hc) ⟨⟨bh _ (aal hc),p1⟩,?_⟩;refine Β (d:=cG l) rfl (jj cl) ⟨⟨bl _ (aal cl),p2⟩,?_⟩;exact⟨⟨d0,bd⟩,hq⟩
   exact key
  ·rw[aaH,aaN];unfold c8 Bz.c8 at h;rw[show cG ((l.zip hd).map λp=>(hd.getD c 0 * p.1 - l.getD c 0 * p.2).fdiv d)= .lst ((l.zip hd).map λp=>Dt.int ((hd.getD c 0 * p.1 - l.getD c 0 * p.2).fdiv d)) by show Dt.lst _=_;rw[aaN];rfl]at h;exact h
def yD{a b:Int}(h0:0<=a)(h:a<=b):∀n:Nat,a ^ n<=b ^ n
 | 0=>by rw[acA,acA];exact acv _
 | n+1=>by rw[abG,abG];exact acy (yD h0 h n) h h0 (ace ())
def BD{x:Int}{r:Nat}(h:Bz.Ab x (Bz.top B r))(h1:1<=B)(hB:B<=2 ^ 450)(hr:r<=12):fj x:=by
 have e1:Bz.top B r<=(12 * B) ^ 15:=Bz.xu h1 ();have e2:(12 * B) ^ 15<=(12 * 2 ^ 450) ^ 15:=yD () () 15;have e3:((12 * 2 ^ 450) ^ 15:Int) < ((2 ^ 8000:Nat):Int):=@_
 have:(x.natAbs:Int) < ((2 ^ 8000:Nat):Int):=by have⟨a,b⟩:=h;omega
 exact abL.mp this
section
variable{col:Nat}{ρ μ:List Nat}{qq:Nat->Nat}{d:Int}
def yK(t:Bz.Turn A n col ρ μ qq d W)(b:Bz.Bd A n m B)(hB:B<=2 ^ 450)(hm:col<=m)(hr:ρ.length<=12):(∀i,i < n->∀x∈Bz.az A n m (W i),fj x)/\fj d:=by
 have⟨a1,a2,a3⟩:=t.st.abs b (λc hc=>aaz (t.cl c hc) hm) hr;refine⟨λi hi x hx=>?_,BD a3 b.b1 hB hr⟩;unfold Bz.az at hx;rcases aaR.mp hx with z| z
 ·have⟨y,hy,rfl⟩:=aan.mp z;exact BD (a2 i y hi (aa5.mp hy)) b.b1 hB hr
 ·have⟨y,hy,rfl⟩:=aan.mp z;exact BD (a1 i y hi) b.b1 hB hr
end
def bH(n:Nat):Dt:=.int n
def qk{n:Nat}:∀(l:List Nat),Dt.bj n (l.map bH)
 | []=>trivial
 | _::l=>⟨trivial,qk l⟩
def uC{l:List Int}(h:l∈Bz.Φ A n m W):∃i,i < n/\l=Bz.az A n m (W i):=by unfold Bz.Φ at h;have⟨i,hi,e⟩:=aan.mp h;exact⟨i,aa5.mp hi,e.symm⟩
def qK{α:Type}(a:α):∀u:Nat,(List.replicate u [a]).flatten=List.replicate u a
 | 0=>rfl
 | u+1=>by rw[abo,abD,qK a u];rfl
structure AO(γ:List (List Int))(u:Nat)(B:Int):Prop where
 n1:1<=γ.length
 GF:γ.length<=12
 QI:u<=12
 ml:∀r∈γ,r.length=u+1
 bd:Bz.Bd (Bz.arr γ) γ.length (u+1) B
 SD:B<=2 ^ 450
def z7:DF:=λas M q _=>∃(γ:List (List Int)) (u:Nat) (B:Int),as=[ju γ,.int (u:Int)]/\AO γ u B/\
 ∀ρ μ qq d W,Bz.Turn (Bz.arr γ) γ.length u ρ μ qq d W->q (.tup [ju (Bz.Φ (Bz.arr γ) γ.length (u+1) W),.loc M.length]) (M++[.lst (μ.map bH)])
def aT:Γ ["rows","unknowns","lines","columns","divisor","column","rank","number","head","above","below"] ["rows","unknowns"] (χ sZ):=.of rfl
def AG(F:dE K "cleared" "cleared" sZ f fd)(E:Ev K mg Cm){vN:Addr}{wG:FuncData}(h8:aE P w K mg base 1 "with_weights" ["rows"] MU vN wG){ur:Addr}{um:FuncData}(gL:aE P w K mg base 1 "number_of_head" ["lines","first","column"] RJ ur um){yB:Addr}{zk:FuncData}(jh:aE P w K mg base 1 "moved_ahead" ["lines","first","number"] Ip yB zk){xG:Addr}{wJ:FuncData}(fc:aE P w K mg base 1 "cleared_line" ["line","head","column","divisor"] Cc xG wJ):aw P w K mg base (cP P w) 2 f fd ["rows","unknowns"] (dw K z7):=by
 refine F.eF aT (λds M q x h=>?_) (λbz A outer s H E' hr=>⟨_,(ζ (ψ 2 aT.nd (cK (ao h8 hr ξ (Ν (jv 0) η))))
   (ζ (ψ 3 aT.nd (oY η))
   (ζ (ψ 4 aT.nd ο)
   (ζ (kg (bO E.bI (Ν (jv 1) η)) (ae (i:=5) aT.nd rfl (Or.inr rfl)) aA (ζ (ψ 6 aT.nd (cZ E.bW (Ν (jv 3) η)))
   (ζ (ψ 7 aT.nd (ao gL hr ξ (Ν (jv 2) (Ν (jv 6) (Ν (jv 5) η)))))
   (ζ (aH (BN (jv 7) yi) (θ Au) Μ)
   (ζ (ψ 2 aT.nd (ao jh hr ξ (Ν (jv 2) (Ν (jv 6) (Ν (jv 7) η)))))
   (ζ (ψ 8 aT.nd (Ε (jv 2) (jv 6)))
   (ζ (fD (i:=9) aT.nd rfl (Or.inl rfl) (ys:=["head","column","divisor"]) (Θ:=[8,5,4]) (.of aT rfl rfl rfl) (aR (cK (DR (jv 2) (jv 6)))) (λC s H fp=>(ao fc hr (fk (P:=P) (w:=w)) (Ν (jv 0) (Ν (jv 1) (Ν (jv 2) (Ν (jv 3) η)))))))
   (ζ (fD (i:=10) aT.nd rfl (Or.inl rfl) (ys:=["head","column","divisor"]) (Θ:=[8,5,4]) (.of aT rfl rfl rfl) (aR (cK (ky (jv 2) (cJ (jv 6) ο)))) (λC s H fp=>(ao fc hr (fk (P:=P) (w:=w)) (Ν (jv 0) (Ν (jv 1) (Ν (jv 2) (Ν (jv 3) η)))))))
   (ζ (ψ 2 aT.nd (jF (jF (jv 9) (nc (Ν (jv 8) η))) (jv 10)))
   (ζ (ψ 4 aT.nd (Ε (jv 8) (jv 5)))
   (θ (fg (iB (jv 3) (Ν (jv 5) η))))))))))))))
   (θ (Δ (cY (Ν (jv 2) (Ν (jv 3) η))))))))),λds M q x h=>?_⟩)
 ·have⟨γ,u,B,rfl,_⟩:=h;rfl
 ·have⟨γ,u,B,rfl,ro,h⟩:=h;have n1:=ro.n1;have GF:=ro.GF;have QI:=ro.QI;refine⟨γ,rfl,GF,λr vh=>by rw[ro.ml r vh];omega,λE0'=>?_⟩;rw[Bz.zg ro.ml];refine ie (d':=ju (Bz.Φ (Bz.arr γ) γ.length (u+1) λi=>Bz.ind i)) (.yu (Nat.le_refl _) (by simp) (fP.old (ji _))) ?_;generalize hA:Bz.arr γ=A at *
  generalize hn:γ.length=n at *
  refine⟨@_,?_⟩;walk_at "vc";refine⟨⟨(),()⟩,?_⟩;refine eL (λzs ρ' M'=>∃(c k:Nat) (ρ μ:List Nat) (qq:Nat->Nat) (d:Int) (W:Nat->Bz.Row) (o1 o2 o3 o4 o5 o6:Option Dt),zs=cw k c/\k+c=u/\Bz.Turn A n k ρ μ qq d W/\M'=M++[MO.lst (μ.map bH)]/\ρ'=[some (ju γ),some (.int (u:Int)),some (ju (Bz.Φ A n (u+1) W)),some (.loc M.length),some (.int d),o1,o2,o3,o4,o5,o6]) (λx zs ρ' M' hj fH=>?_) (λρ' M' hj=>?_) _ _ _ ⟨u,0,[],[],id,1,_,none,none,none,none,none,none,by simp,by simp,Bz.Turn.start,rfl,rfl⟩
  ·have⟨c,k,ρ,μ,qq,d,W,o1,o2,o3,o4,o5,o6,ex,hkc,t,rfl,rfl⟩:=hj;have⟨m,rfl,rfl,rfl⟩:=d8 ex;have lc:μ.length=ρ.length:=t.st.lc;have rn:ρ.length<=n:=t.st.rn;have hs1:hZ (M++[MO.lst (μ.map bH)]) (.loc M.length)=some (μ.map bH):=IZ (v7 aN);walk_at "vc";refine(aF (d:=.loc M.length) hs1 ?_:gH [.loc M.length] _ _);rw[aae,lc];refine⟨Bz.Φ A n (u+1) W,ρ.length,k,rfl,by rw[Bz.dj];exact rn,by rw[Bz.dj];exact GF,λl hl=>?_,λhz=>?_,λk' h1 h2 h0=>?_⟩
   ·have⟨i,_,rfl⟩:=uC hl;rw[Bz.eI];omega
   ·refine⟨λ_=>?_,nofun⟩;refine fH _ _ ⟨m,k+1,ρ,μ,qq,d,W,_,_,_,_,_,_,by simp,(),t.skip λi a b=>?_,rfl,rfl⟩;have:=hz i a (by rw[Bz.dj];exact b);rw[Bz.jE b,Bz.g8 ()]at this;exact this
   ·rw[Bz.dj]at h2;rw[Bz.jE h2,Bz.g8 (show k < u+1 by omega)]at h0;refine⟨nofun,λ_=>?_⟩;refine⟨Bz.Φ A n (u+1) W,ρ.length,k',rfl,h1,by rw[Bz.dj];exact h2,by rw[Bz.dj];exact GF,?_⟩;rw[show j6 (Bz.Φ A n (u+1) W) ρ.length k'=_ from Bz.yy h1 h2];have t1:=t.move h1 h2;have QA:ρ.length < n:=()
    have Z2:Bz.rv A n (W (Bz.iT ρ.length k' ρ.length)) k≠0:=by
     have:Bz.iT ρ.length k' ρ.length=k':=by unfold Bz.iT;rw[if_neg (Nat.lt_irrefl _),if_pos rfl]
     rw[this];exact h0
    clear h0 h1 h2 t;generalize hW1:(λi=>W (Bz.iT ρ.length k' i))=W1 at *
    generalize Q5:(λi=>qq (Bz.iT ρ.length k' i))=q1 at *
    have e1:W (Bz.iT ρ.length k' ρ.length)=W1 ρ.length:=by rw[<-hW1]
    rw[e1]at Z2;have⟨bl,bd⟩:=yK t1 (m:=u+1) (by subst hA hn;exact ro.bd) ro.SD () ();have⟨W',t2,el⟩:=t1.step (m:=u+1) QA () Z2;have Oz:(Bz.Φ A n (u+1) W1).length=n:=Bz.dj;have hdg:(Bz.Φ A n (u+1) W1)[ρ.length]'(by rw[Oz];exact QA)=Bz.az A n (u+1) (W1 ρ.length):=by have:=Bz.jE (A:=A) (m:=u+1) (W:=W1) QA;rw[aab,aaa (by rw[Oz];exact QA)]at this;exact this
    have Zd:∀l∈Bz.Φ A n (u+1) W1,∀q':DQ,q' (cG (c8 l (Bz.az A n (u+1) (W1 ρ.length)) k d)) (M++[MO.lst (μ.map bH)])->Cc [cG l,cG (Bz.az A n (u+1) (W1 ρ.length)),.int (k:Int),.int d] (M++[MO.lst (μ.map bH)]) q' (λC fs M'=>ki [] C fs M'):=λl hl q' ku=>by have⟨i,hi,rfl⟩:=uC hl;exact⟨_,_,k,d,rfl,by rw[Bz.eI,Bz.eI],by rw[Bz.eI];omega,by rw[Bz.eI];omega,bl i hi,bl _ QA,t1.d0,bd,ku⟩
    walk_at "vc";refine(Β (d:=ju (Bz.Φ A n (u+1) W1)) rfl (DN (by rw[Oz];exact QA)) ?_:cR (ju (Bz.Φ A n (u+1) W1)) (.int (ρ.length:Int)) _ _);rw[hdg];have sz:∀{z:Nat},z<=40->z<=sizeLine:=λh=>aaw h @_;refine⟨(Bz.Φ A n (u+1) W1).map cG,ρ.length,rfl,rfl,?_⟩;rw[<-List.map_take];refine dF (ji _) ⟨sz (by rw[aae,ab1];omega),?_⟩;refine cW (F:=λx a=>x=cG a/\a∈Bz.Φ A n (u+1) W1) (f:=λl=>cG (c8 l (Bz.az A n (u+1) (W1 ρ.length)) k d)) trivial (λx a ha q' ku=>by have⟨rfl,ha⟩:=ha;exact Zd a ha q' ku) (gK cG _ _ λ_ h=>List.mem_of_mem_take h) ?_;rw[aaH];refine⟨(Bz.Φ A n (u+1) W1).map cG,ρ.length+1,rfl,rfl,?_⟩;rw[<-aca];refine dF (ji _) ⟨sz (by rw[aae,abH];omega),?_⟩;refine cW (F:=λx a=>x=cG a/\a∈Bz.Φ A n (u+1) W1) (f:=λl=>cG (c8 l (Bz.az A n (u+1) (W1 ρ.length)) k d)) trivial (λx a ha q' ku=>by have⟨rfl,ha⟩:=ha;exact Zd a ha q' ku) (gK cG _ _ λ_ h=>List.mem_of_mem_drop h) ?_;rw[aaH];refine⟨by show 1<=sizeLine;decide,_,_,rfl,rfl,sz (by simp;omega),_,_,rfl,rfl,sz (by simp;omega),?_⟩;have ek:k < (Bz.az A n (u+1) (W1 ρ.length)).length:=by rw[Bz.eI];omega
    have ev:(Bz.az A n (u+1) (W1 ρ.length))[k]=Bz.rv A n (W1 ρ.length) k:=by have:=Bz.g8 (A:=A) (n:=n) (m:=u+1) (x:=k) (w:=W1 ρ.length) ();rw[aab,aaa ek]at this;exact this
    refine Β (d:=cG (Bz.az A n (u+1) (W1 ρ.length))) rfl (jj ek) ?_;rw[ev];refine⟨⟨M.length,_,rfl,aN⟩,M.length,_,_,rfl,rfl,aN,?_,?_⟩
    ·rw[aae,lc];exact abf (show _<=12 by omega) @_
    rw[dM];have ee:=aaM (List.map cG) el;rw[aa2,aa2,aaN,aaN]at ee;refine fH _ _ ⟨m,k+1,ρ++[q1 ρ.length],μ++[k],q1,_,W',some (.int (k:Int)),some (.int (ρ.length:Int)),some (.int (k':Int)),some (cG (Bz.az A n (u+1) (W1 ρ.length))),some (.lst (((Bz.Φ A n (u+1) W1).take ρ.length).map λl=>cG (c8 l (Bz.az A n (u+1) (W1 ρ.length)) k d))),some (.lst (((Bz.Φ A n (u+1) W1).drop (ρ.length+1)).map λl=>cG (c8 l (Bz.az A n (u+1) (W1 ρ.length)) k d))),by simp,(),t2,by simp[bH],?_⟩;show _=[some (ju γ),some (Dt.int (u:Int)),some (Dt.lst ((Bz.Φ A n (u+1) W').map cG)),some (Dt.loc M.length),some (Dt.int _),_,_,_,_,_,_];rw[<-ee];rfl
  ·have⟨c,k,ρ,μ,qq,d,W,o1,o2,o3,o4,o5,o6,ex,hkc,t,rfl,rfl⟩:=hj;have ZW:c=0:=by have:=aaM List.length ex;unfold cw at this;simpa using this.symm
   have:k=u:=()
   subst this;exact⟨gV,h _ _ _ _ _ t⟩
def NL:DF:=λas M q _=>∃(γ:List (List Int)) (u:Nat) (B:Int) (ρ μ:List Nat) (qq:Nat->Nat) (d:Int) (W:Nat->Bz.Row),as=[ju (Bz.Φ (Bz.arr γ) γ.length (u+1) W),.lst (μ.map bH),.int (u:Int),.int (u:Int)]/\AO γ u B/\Bz.Turn (Bz.arr γ) γ.length u ρ μ qq d W/\μ=List.range u/\
 q (.loc M.length) (M++[.lst ((List.range u).map λi=>av (ax (Bz.rv (Bz.arr γ) γ.length (W i) u) d))])
def g_:Γ ["lines","columns","unknowns","source","told","line","column"] ["lines","columns","unknowns","source"] (χ mx):=.of rfl
def wc(F:dE K "quotients" "quotients" mx f fd)(E:Ev K mg Cm)(cF:aE P w K mg base 2 "fraction" ["top","bottom"] u9 iN iM):aw P w K mg base (cP P w) 3 f fd ["lines","columns","unknowns","source"] (dw K NL):=by
 refine F.eF g_ (λds M q x h=>?_) (λbz A outer s H E' hr=>⟨_,(ζ (ψ 4 g_.nd (B2 (fh 3 (d:=.lst [.tup [.int 0,.int 1]]) (by rfl)) (jv 2)))
   (ζ (b6 (Hh E.Aj (Ν (jv 0) (Ν (jv 1) η))) (lV rfl (bf (ae (i:=5) g_.nd rfl (Or.inl rfl)) (bf (ae (i:=6) g_.nd rfl (Or.inl rfl)) i7))) mJ (θ (jN (jv 4) (jv 6) (ao cF hr ξ (ι (Ε (jv 5) (jv 3)) (ι (Ε (jv 5) (jv 6)) η b8) b8)))))
   (θ (Δ (jv 4))))),λds M q x h=>?_⟩)
 ·have⟨γ,u,B,ρ,μ,qq,d,W,rfl,_⟩:=h;rfl
 ·have⟨γ,u,B,ρ,μ,qq,d,W,rfl,ro,t,hc,h⟩:=h;have QI:=ro.QI;have GF:=ro.GF;have hl:ρ.length=u:=by rw[<-t.st.lc,hc,aa8]
  have un:u<=γ.length:=by rw[<-hl];exact t.st.rn
  have⟨bl,bd⟩:=yK t (m:=u+1) ro.bd ro.SD () ();have d0:=t.d0;have one:∀i,i < u->Bz.rv (Bz.arr γ) γ.length (W i) i=d:=λi hi=>by have:=t.st.one i i () ();rw[aaq rfl,hc,aab,aaO hi]at this;exact this
  generalize hA:Bz.arr γ=A at *
  generalize hn:γ.length=n at *
  let tl:Nat->List Dt:=λk=>(List.range u).map λi=>if i < k then av (ax (Bz.rv A n (W i) u) d) else av (0,1)
  have t0:(List.replicate (u:Int).toNat [av (0,1)]).flatten=tl 0:=by
   show _=(List.range u).map λi=>if i < 0 then _ else av (0,1)
   rw[show((u:Int)).toNat=u by omega];apply abp
   ·simp
   ·intro j h1 h2;have e:(List.replicate u [av (0,1)]).flatten=List.replicate u (av (0,1)):=qK _ u;simp[e]
  have ts:∀k,k < u->(tl k).set k (av (ax (Bz.rv A n (W k) u) d))=tl (k+1):=λk hk=>by
   apply abp
   ·simp[tl]
   ·intro j h1 h2;rw[List.getElem_set];simp only[tl,List.getElem_map,List.getElem_range];by_cases e:k=j
    ·subst e;rw[aaq rfl,aaq ()]
    ·rw[aau e];by_cases f:j < k
     ·rw[aaq f,aaq ()]
     ·rw[aau f,aau ()]
  refine⟨[av (0,1)],u,rfl,rfl,(),(),?_,?_⟩
  ·show 1 * ((u:Int)).toNat<=sizeLine;exact aaw (show _<=12 by omega) @_
  rw[t0];refine⟨ju (Bz.Φ A n (u+1) W),.lst (μ.map bH),_,_,λ_=>True,λ_=>True,rfl,rfl,rfl,?_⟩;have ez:tK ((Bz.Φ A n (u+1) W).map cG) (μ.map bH)=(List.range u).map λi=>.tup [cG (Bz.az A n (u+1) (W i)),bH i]:=by
   unfold tK Bz.Φ;rw[hc];apply abp
   ·simp;omega
   ·intro j h1 h2;simp
  rw[ez];refine aV (λzs ρ' M'=>∃(k:Nat) (o1 o2:Option Dt),k<=u/\zs=((List.range u).drop k).map (λi=>.tup [cG (Bz.az A n (u+1) (W i)),bH i])/\M'=M++[MO.lst (tl k)]/\ρ'=[some (ju (Bz.Φ A n (u+1) W)),some (.lst (μ.map bH)),some (.int (u:Int)),some (.int (u:Int)),some (.loc M.length),o1,o2]) (λzs ρ' M' hj=>⟨trivial,trivial⟩) (λx zs ρ' M' hj fH=>?_) (λρ' M' hj=>?_) _ _ _ ⟨0,none,none,ab5 _,rfl,rfl,rfl⟩
  ·have⟨k,o1,o2,hk,ex,rfl,rfl⟩:=hj;have tY:k < u:=by
    rcases Nat.lt_or_ge k u with z| z
    ·exact z
    ·rw[List.drop_of_length_le (by simpa using z)]at ex;cases ex
   rw[List.drop_eq_getElem_cons (by simpa using tY),List.map_cons,List.getElem_range]at ex;cases ex;have ek:k < (Bz.az A n (u+1) (W k)).length:=by rw[Bz.eI];omega
   have eu:u < (Bz.az A n (u+1) (W k)).length:=by rw[Bz.eI];omega
   have v1:(Bz.az A n (u+1) (W k))[k]=d:=by have:=Bz.g8 (A:=A) (n:=n) (m:=u+1) (x:=k) (w:=W k) ();rw[aab,aaa ek]at this;rw[<-one k tY];exact this
   have v2:(Bz.az A n (u+1) (W k))[u]=Bz.rv A n (W k) u:=by have:=Bz.g8 (A:=A) (n:=n) (m:=u+1) (x:=u) (w:=W k) ();rw[aab,aaa eu]at this;exact this
   dsimp only[g2,xS];walk_at "vc";refine Β (d:=cG (Bz.az A n (u+1) (W k))) rfl (jj eu) ?_;refine Β (d:=cG (Bz.az A n (u+1) (W k))) rfl (jj ek) ?_;rw[v1,v2];refine⟨bd,λz=>aay z d0,λ_=>?_⟩;refine⟨M.length,k,_,k,rfl,rfl,aN,?_,?_⟩
   ·rw[show(tl k).length=u by simp[tl]];exact rX tY
   rw[dM];refine fH _ _ ⟨k+1,_,_,tY,rfl,?_,rfl⟩;rw[<-ts k tY];rfl
  ·have⟨k,o1,o2,hk,ex,rfl,rfl⟩:=hj;have:k=u:=by have:=aaM List.length ex;simp at this;omega
   subst this;have e:tl k=(List.range k).map λi=>av (ax (Bz.rv A n (W i) k) d):=abi λi hi=>by rw[aaq (aa5.mp hi)]
   rw[e];exact h
def xt:DF:=λas M q _=>∃(γ:List (List Int)) (u:Nat) (B:Int) (k9:List Fr) (z:Bz.Row) (N:Int),as=[ju γ]/\AO γ u B/\1<=u/\k9.length=u/\Bz.Oh (Bz.arr γ) γ.length u z N/\N≠0/\
 (∀i,i < u->0 < (k9.getD i (0,1)).2/\Int.gcd (k9.getD i (0,1)).1 (k9.getD i (0,1)).2=1/\N * (k9.getD i (0,1)).1=z i * (k9.getD i (0,1)).2)/\
 (∀y:Bz.Row,(∀k,k < γ.length->Bz.ω (λx=>Bz.arr γ k x * y x) u=0)->∀x,x < u->y x=0)/\q (.loc M.length) (M++[.lst (k9.map av)])
def dQ:Γ ["rows","unknowns","found","lines","columns","line","answer"] ["rows"] (χ oz):=.of rfl
def zu(F:dE K "answer_of" "answer_of" oz f fd)(E:Ev K mg Cm){Jr:Addr}{Im:FuncData}(og:aE P w K mg base 2 "cleared" ["rows","unknowns"] z7 Jr Im){AM:Addr}{CJ:FuncData}(jV:aE P w K mg base 3 "quotients" ["lines","columns","unknowns","source"] NL AM CJ):aw P w K mg base (cP P w) 4 f fd ["rows"] (dw K xt):=by
 refine F.eF dQ (λds M q x h=>?_) (λbz A outer s H E' hr=>⟨_,(ζ (ψ 1 dQ.nd (sN (cZ E.bW (ι (Ε (jv 0) ο) η b8)) ο))
   (ζ (ψ 2 dQ.nd (cK (ao og hr ξ (Ν (jv 0) (Ν (jv 1) η)))))
   (ζ (ψ 3 dQ.nd (Ε (jv 2) ο))
   (ζ (ψ 4 dQ.nd (Ε (jv 2) ο))
   (ζ (b6 (aR (cK (ky (jv 3) (cZ E.bW (Ν (jv 4) η))))) (ae (i:=5) dQ.nd rfl (Or.inl rfl)) aA (θ (aH (rV hr (Ε (jv 5) (jv 1)) ο) (θ gI) Μ)))
   (ζ (ψ 6 dQ.nd (ao jV hr ξ (Ν (jv 3) (Ν (jv 4) (Ν (jv 1) (Ν (jv 1) η))))))
   (ζ (aH (pL (cZ E.bW (Ν (jv 4) η)) (jv 1)) (θ gI) Μ)
   (θ (Δ (jv 6)))))))))),λds M q x h=>?_⟩)
 ·have⟨γ,u,B,k9,z,N,rfl,_⟩:=h;rfl
 ·have⟨γ,u,B,k9,z,N,rfl,ro,u1,dl,sol,hN,Yw,WE,h⟩:=h;have n1:=ro.n1;have GF:=ro.GF;have QI:=ro.QI;have r0:0 < γ.length:=()
  have m0:γ[0].length=u+1:=ro.ml _ (aal r0);walk_at "vc";refine(Β (d:=ju γ) rfl (DN r0) ?_:cR (ju γ) (.int 0) _ _);refine(aF (d:=cG γ[0]) (xs:=γ[0].map Dt.int) rfl ?_:gH [cG γ[0]] _ _);rw[aae,m0];dsimp only[Hs];rw[show(((u+1:Nat):Int) - 1)=(u:Int) by omega];refine⟨γ,u,B,rfl,ro,λρ μ qq d W t=>?_⟩;have D6:μ=List.range u:=by
   rcases t.all with e| ⟨x,hx,hf⟩
   ·exact e
   ·have⟨y,y1,y2⟩:=t.kernel hx hf;have:=WE y y2 x hx;rw[this]at y1;exact aay () t.d0
  have hl:ρ.length=u:=by rw[<-t.st.lc,D6,aa8]
  have un:u<=γ.length:=by rw[<-hl];exact t.st.rn
  refine ie (d':=.tup [ju (Bz.Φ (Bz.arr γ) γ.length (u+1) W),.lst (μ.map bH)]) (.tup (.cons (.old (ji _)) (.cons (.yu (Nat.le_refl _) (by simp) (fP.old (qk _))) .nil))) ?_;have told:(List.range u).map (λi=>av (ax (Bz.rv (Bz.arr γ) γ.length (W i) u) d))=k9.map av:=by
   apply abp
   ·simp[dl]
   ·intro i h1 h2;have hi:i < u:=by simpa using h1
    simp only[List.getElem_map,List.getElem_range];have⟨p0,p1,p2⟩:=Yw i hi;have gi:k9.getD i (0,1)=k9[i]:=by rw[aab,aaa ()];rfl
    rw[gi]at p0 p1 p2;have e:=t.told D6 sol hi
    congr 1
    have:ax (Bz.rv (Bz.arr γ) γ.length (W i) u) d=(k9[i].1,k9[i].2):=xC t.d0 p0 p1 (by
     refine aaQ hN ?_
     grind)
    exact this
  refine(Β (d:=.tup [ju (Bz.Φ (Bz.arr γ) γ.length (u+1) W),.lst (μ.map bH)]) rfl cf ?_:cR (.tup [ju (Bz.Φ (Bz.arr γ) γ.length (u+1) W),.lst (μ.map bH)]) (.int 0) _ _);refine(Β (d:=.tup [ju (Bz.Φ (Bz.arr γ) γ.length (u+1) W),.lst (μ.map bH)]) rfl (Υ (j:=1) rfl) ?_:cR (.tup [ju (Bz.Φ (Bz.arr γ) γ.length (u+1) W),.lst (μ.map bH)]) (.int 1) _ _);have YT:(μ.map bH).length=u:=by rw[aae,D6,aa8]
  dsimp only[nI,eS,SU,LC];walk_at "vc";refine(aF (d:=.lst (μ.map bH)) (xs:=μ.map bH) rfl ?_:gH [.lst (μ.map bH)] _ _);refine⟨(Bz.Φ (Bz.arr γ) γ.length (u+1) W).map cG,(μ.map bH).length,rfl,rfl,?_⟩;rw[YT,<-aca];refine dF (ji _) ?_;have hz:∀l∈(Bz.Φ (Bz.arr γ) γ.length (u+1) W).drop u,u < l.length/\l.getD u 0=0:=λl NF=>by
   have⟨j,hj,e⟩:=aba NF;rw[List.getElem_drop]at e;rw[abH,Bz.dj]at hj;have hu:u+j < γ.length:=()
   have el:l=Bz.az (Bz.arr γ) γ.length (u+1) (W (u+j)):=by have:=Bz.jE (A:=Bz.arr γ) (m:=u+1) (W:=W) hu;rw[aab,aaa (by rw[Bz.dj];exact hu)]at this;rw[<-e];exact this
   rw[el];refine⟨by rw[Bz.eI];omega,?_⟩;rw[Bz.g8 ()];exact t.rest sol hN () hu
  refine aV (λzs ρ' M'=>M'=M/\∃(rest:List (List Int)) (o:Option Dt),zs=rest.map cG/\(∀l∈rest,u < l.length/\l.getD u 0=0)/\ρ'=[some (ju γ),some (.int (u:Int)),some (.tup [ju (Bz.Φ (Bz.arr γ) γ.length (u+1) W),.lst (μ.map bH)]),some (ju (Bz.Φ (Bz.arr γ) γ.length (u+1) W)),some (.lst (μ.map bH)),o,none]) (λzs ρ' M' hj=>trivial) (λx zs ρ' M' hj fH=>?_) (λρ' M' hj=>?_) _ _ _ ⟨rfl,_,none,rfl,hz,rfl⟩
  ·have⟨rfl,rest,o,ex,vh,rfl⟩:=hj;cases rest with
   | nil=>cases ex
   | cons l rest=>
    cases ex;have⟨l1,l2⟩:=vh l aad;have lv:l[u]=0:=by rw[aab,aaa l1]at l2;exact l2
    walk_at "vc";refine(Β (d:=cG l) rfl (jj l1) ?_:cR (cG l) (.int (u:Int)) _ _);rw[lv];exact⟨nofun,λ_=>fH _ _ ⟨rfl,rest,_,rfl,λy hy=>vh y (aac _ hy),rfl⟩⟩
  ·have⟨rfl,rest,o,ex,vh,rfl⟩:=hj;refine⟨γ,u,B,ρ,μ,qq,d,W,rfl,ro,t,D6,?_⟩;rw[told];walk_at "vc";refine(aF (d:=.lst (μ.map bH)) (xs:=μ.map bH) rfl ?_:gH [.lst (μ.map bH)] _ _);rw[YT];refine⟨λz=>?_,λ_=>h⟩;have z:(u:Int) < u:=aav z;omega
structure Ch(B:Int)(c:Fr):Prop where
 pos:0 < c.2
 he:nM c B
 u:lL c
 sz:Sz 300 c
def Hz{p:Fr}(h:p.2∣E):nM p E:=by have⟨k,e⟩:=h;exact⟨p.1 * k,by rw[e];grind⟩
def sP:∀{l:List Int} {a:Int},(∀b∈l,0 < b)->a∈l->a<=l.sum
 | b::l,a,h,ha=>by
  have ih:∀{l:List Int},(∀b∈l,0 < b)->0<=l.sum:=λ{l}=>by
   induction l with
   | nil=>intro _;exact acv _
   | cons c l ih=>
    intro h;have:=ih λd hd=>h d (aac _ hd);have:=h c aad;rw[List.sum_cons];omega
  rw[List.sum_cons];have h0:=h b aad;rcases aaD.mp ha with e| e
  ·have:=ih λd hd=>h d (aac _ hd);omega
  ·have:=sP (λd hd=>h d (aac _ hd)) e;omega
def D5{cs:List Fr}(o:wk cs){c:Fr}(hc:c∈cs):0 < c.2/\c.2∣a_ cs/\lL c/\Sz 300 c:=by
 have⟨a,b,d⟩:=o.Gp.2 c hc;have B0:=o.b0;have⟨_,_,hB⟩:=fq cs 1 0 @_ (abT _) λc hc=>⟨(o.Gp.2 c hc).1,abT _⟩;have dv:c.2∣a_ cs:=hB c hc
 have le:=sP (l:=cs.map (jI (a_ cs))) (λb hb=>by
  have⟨x,hx,rfl⟩:=aan.mp hb
  exact o.pos x hx) (aan.mpr ⟨c,hc,rfl⟩)
 rw[o.sum]at le;have wp:=o.pos c hc;unfold jI at le wp;have⟨m,em⟩:=dv;have em':a_ cs / c.2=m:=by rw[em];exact abn m ()
 rw[em']at le wp;have m0:0 < m:=by
  rw[em]at B0;rcases acC 0 m with z| z
  ·exact z
  ·have:=aaX z (aag a);omega
 have c0:0<=c.1:=by
  rcases acC c.1 0 with z| z
  ·have:=aaF (aag z) (aag m0);omega
  ·exact z
 have c1:c.1<=c.2:=by rw[em]at le;exact Int.le_of_mul_le_mul_right le m0
 refine⟨a,⟨m,em⟩,⟨c0,c1⟩,w4 (k:=200) ⟨d,a,?_⟩ @_⟩;have:(c.2.natAbs:Int) < ((2 ^ 200:Nat):Int):=by rw[abm (aag a)];exact b
 exact abL.mp this
abbrev Pl:=List (Int×Int)
def kP(pl:Pl):List Key:=pl.map λp=>Sum.inl p.1
def vP(pl:Pl):List Dt:=pl.map λp=>Dt.int p.2
abbrev dP(pl:Pl):MO:=.jm (kP pl) (vP pl)
def Λ:Pl->Int->Option Int
 | [],_=>none
 | p::r,i=>if p.1=i then some p.2 else Λ r i
def js(pl:Pl)(i v:Int):Pl:=if (Λ pl i).isSome=true then pl.map (λp=>if p.1=i then (p.1,v) else p) else pl++[(i,v)]
def HS{a:Int}:(decide ((Sum.inl a:Key)=Sum.inl b))=decide (a=b):=by
 by_cases h:a=b
 ·rw[aaE h,aaE (aaM Sum.inl h)]
 ·rw[aar h,aar λz=>h (Sum.inl.inj z)]
def y8{i:Int}:∀{pl:Pl},eE (kP pl) (vP pl) (Sum.inl i)=(Λ pl i).map Dt.int
 | []=>rfl
 | p::r=>by
  have ih:=y8 (i:=i) (pl:=r);unfold eE at ih⊢;show(List.find? (λq:Key×Dt=>decide (q.1=Sum.inl i)) ((Sum.inl p.1,Dt.int p.2)::(kP r).zip (vP r))).map (·.2)=Option.map Dt.int (if p.1=i then some p.2 else Λ r i);rw[List.find?_cons,HS];by_cases h:p.1=i
  ·rw[aaE h,aaq h];rfl
  ·rw[aar h,aau h];exact ih
def Mo{i:Int}:∀{pl:Pl},Lm (kP pl) (Sum.inl i)=(Λ pl i).isSome
 | []=>rfl
 | p::r=>by
  have ih:=Mo (i:=i) (pl:=r);unfold Lm at ih⊢;show(decide ((Sum.inl p.1:Key)=Sum.inl i)|| (kP r).any λc=>decide (c=Sum.inl i))=(if p.1=i then some p.2 else Λ r i).isSome;rw[HS,ih];by_cases h:p.1=i
  ·rw[aaE h,aaq h];rfl
  ·rw[aar h,aau h,Bool.false_or]
def Ec{i v:Int}:∀{pl:Pl},k7 (Sum.inl i:Key) (Dt.int v) (kP pl) (vP pl)=vP (pl.map λp=>if p.1=i then (p.1,v) else p)
 | []=>rfl
 | p::r=>by
  show(if (Sum.inl p.1:Key)=Sum.inl i then Dt.int v else Dt.int p.2)::k7 (Sum.inl i:Key) (Dt.int v) (kP r) (vP r)=Dt.int (if p.1=i then (p.1,v) else p).2::vP (r.map λp=>if p.1=i then (p.1,v) else p);rw[Ec];by_cases h:p.1=i
  ·rw[aaq h,aaq (aaM Sum.inl h)]
  ·rw[aau h,aau λz=>h (Sum.inl.inj z)]
def Az{i v:Int}:∀{pl:Pl},kP (pl.map λp=>if p.1=i then (p.1,v) else p)=kP pl
 | []=>rfl
 | p::r=>by show(Sum.inl (if p.1=i then (p.1,v) else p).1:Key)::kP (r.map λp=>if p.1=i then (p.1,v) else p)=Sum.inl p.1::kP r;rw[Az];split <;> rfl
def y4{pl:Pl}{i v:Int}:gz (kP pl) (Sum.inl i)=kP (js pl i v):=by
 unfold gz js;rw[Mo];split
 ·exact Az.symm
 ·unfold kP;rw[List.map_append];rfl
def DY{pl:Pl}{i v:Int}:eT (kP pl) (Sum.inl i) (vP pl) (Dt.int v)=vP (js pl i v):=by
 unfold eT js;rw[Mo];split
 ·exact Ec
 ·unfold vP;rw[List.map_append];rfl
def qv{i v j:Int}:∀{pl:Pl},Λ (pl.map λp=>if p.1=i then (p.1,v) else p) j=if j=i then (Λ pl j).map λ_=>v else Λ pl j
 | []=>by split <;> rfl
 | p::r=>by
  have ih:=qv (i:=i) (v:=v) (j:=j) (pl:=r);rw[aaU];unfold Λ;by_cases h:p.1=i
  ·rw[aaq h];by_cases hj:p.1=j
   ·rw[aaq hj,aaq hj,aaq ()];rfl
   ·rw[aau hj,aau hj];exact ih
  ·rw[aau h];by_cases hj:p.1=j
   ·rw[aaq hj,aaq hj,aau ()]
   ·rw[aau hj,aau hj];exact ih
def Dq{i j v:Int}:∀{pl:Pl},Λ (pl++[(i,v)]) j=if (Λ pl j).isSome=true then Λ pl j else if i=j then some v else none
 | []=>rfl
 | p::r=>by
  have ih:=Dq (i:=i) (j:=j) (v:=v) (pl:=r);rw[List.cons_append];unfold Λ;by_cases hj:p.1=j
  ·rw[aaq hj,aaq hj];rfl
  ·rw[aau hj,aau hj];exact ih
def LA{pl:Pl}{i v j:Int}:Λ (js pl i v) j=if j=i then some v else Λ pl j:=by
 unfold js;split
 ·rename_i h;rw[qv];split
  ·rename_i e;subst e;have⟨x,hx⟩:=abd.mp h;rw[hx];rfl
  ·rfl
 ·rename_i h;rw[Dq];by_cases e:j=i
  ·subst e;rw[aau h,aaq rfl,aaq rfl]
  ·rw[aau e];cases hj:Λ pl j with
   | none=>rw[if_neg (by simp),if_neg ()]
   | some x=>rfl
def Io(pl:Pl):Prop:=(pl.map (·.1)).Nodup
def Eo{i v:Int}:∀{pl:Pl},Λ pl i=some v->(i,v)∈pl
 | [],h=>by cases h
 | p::r,h=>by
  unfold Λ at h;split at h
  ·rename_i e;have:p=(i,v):=by rw[<-e,<-aao h]
   rw[this];exact aad
  ·exact aac _ (Eo h)
def bK{E:Ms}{k:Nat}{m:MO}(h:M[k]? =some m):(M++E)[k]? =some m:=by rw[aas (aaf.mp h).1];exact h
structure oS(γ:List Rw)(acc:Pl):Prop where
 hand:∀(i:Nat) (r:Rw),γ[i]? =some r->Ο (kindOf r)=true->∃j:Nat,Λ acc i=some (j:Int)/\j < (aq r).length
 GY:∀(i:Nat) (r:Rw),γ[i]? =some r->Ο (kindOf r)=false->Λ acc i=none
def eN(acc:Pl)(i:Nat)(r:Rw):List aO:=match Λ acc i with
 | some j=>let d:=(aq r).getD j.toNat d0;[(d.1,d.2.1,d.2.2++[(1,1)])]
 | none=>aq r
def Nt(A:Addr):DF:=λas M q _=>∃ε γ i r k acc,as=[ar A ε γ,.int (i:Nat),.loc k]/\M[k]? =some (dP acc)/\γ[i]? =some r/\fK r/\oS γ acc/\q (.lst ((eN acc i r).map dD)) M
def qz:Γ ["floor","place","doors","ways"] ["floor","place","doors"] (χ nY):=.of rfl
def zD(F:dE K "ways_from" "ways_from" nY f fd)(E:Ev K mg Cm)(aM:fG P w K mg base 2 Cm "doors" ["self","place"] (qF Cm) cX cU)(af:fG P w K mg base 1 Cm "kind" ["self","place"] (rO Cm) bG bB):aw P w K mg base (cP P w) 3 f fd ["floor","place","doors"] (dw K (Nt Cm)):=by
 refine F.eF qz (λds M q x h=>?_) (λbz A outer s H E' hr=>⟨_,(ζ (ψ 3 qz.nd (cK (gh aM hr ξ (jv 0) (Ν (jv 1) η))))
   (ζ (aH (BP (gh af hr ξ (jv 0) (Ν (jv 1) η)) (MX E.Cg)) (θ (Δ (nc (ι (cJ (Ε (jv 3) (sX hr (jv 2) (jv 1))) (fh 3 (d:=.tup [.tup [.int 1,.int 1]]) (by rfl))) η cz)))) Μ)
   (θ (Δ (jv 3))))),λds M q x h=>?_⟩)
 ·have⟨ε,γ,i,r,k,acc,rfl,_⟩:=h;rfl
 ·have⟨ε,γ,i,r,k,acc,rfl,hk,hi,ro,dk,h⟩:=h;refine⟨⟨_,_,.inl rfl,rfl⟩,ε,γ,i,r,rfl,hi,ro,dF (fQ _) ?_⟩;refine⟨⟨_,_,.inl rfl,rfl⟩,ε,γ,i,r,rfl,hi,?_⟩;refine⟨_,_,_,rfl,rfl,rfl,?_⟩;rw[zj];cases hh:Ο (kindOf r) with
  | true=>
   refine⟨λ_=>?_,nofun⟩;have⟨j,hj,jl⟩:=dk.hand i r hi hh;have dg:eE (kP acc) (vP acc) (Sum.inl (i:Int))=some (.int (j:Int)):=by rw[y8,hj];rfl
   have e:eN acc i r=[(((aq r).getD j d0).1,((aq r).getD j d0).2.1,((aq r).getD j d0).2.2++[(1,1)])]:=by unfold eN;rw[hj];rfl
   rw[e]at h;have gd:(aq r).getD j d0=(aq r)[j]:=by rw[aab,aaa jl];rfl
   have dm:(aq r)[j].2.2.length<=1:=by
    cases r with
    | fin p=>exact aay jl (abN _)
    | τ k' ds=>exact(ro.2.2.2 _ (aal jl)).1
   rw[gd]at h;obtain⟨d,hd⟩:∃d,d=(aq r)[j]:=⟨_,rfl⟩;rw[<-hd]at h dm;walk_at "vc";refine⟨k,_,_,Sum.inl (i:Int),_,rfl,hk,rfl,dg,?_⟩;refine(Β (d:=.lst ((aq r).map dD)) rfl (RD jl) ?_:cR (.lst ((aq r).map dD)) (.int (j:Int)) _ _);rw[<-hd];have sz:∀{z:Nat},z<=1000->z<=sizeLine:=λh=>aaw h @_;refine⟨⟨nofun,sz ?_⟩,sz @_,?_⟩
   ·simp;omega
   have e2:dD (d.1,d.2.1,d.2.2++[(1,1)])= .tup ((.int d.1::av d.2.1::d.2.2.map av)++[.tup [.int 1,.int 1]]):=by unfold dD;rw[List.map_append];rfl
   have h:q (.lst [dD (d.1,d.2.1,d.2.2++[(1,1)])]) M:=h;rw[e2]at h;exact h
  | false=>
   refine⟨nofun,λ_=>?_⟩;have e:eN acc i r=aq r:=by unfold eN;rw[dk.GY i r hi hh]
   rw[e]at h;exact h
def d_(f:Nat->Rat):Nat->Rat
 | 0=>0
 | n+1=>d_ f n+f n
def aj(f:aO->Rat):List aO->Rat
 | []=>0
 | d::ds=>f d+aj f ds
def dR{f g:Nat->Rat}:∀{n:Nat},(∀i,i < n->f i=g i)->d_ f n=d_ g n
 | 0,_=>rfl
 | n+1,h=>by show d_ f n+f n=d_ g n+g n;rw[dR λi hi=>h i (abE hi),h n (abA _)]
def mR(a b:Rat)(f g:Nat->Rat):∀n,d_ (λi=>a * f i - b * g i) n=a * d_ f n - b * d_ g n
 | 0=>by show(0:Rat)=a * 0 - b * 0;grind
 | n+1=>by show d_ (λi=>a * f i - b * g i) n+(a * f n - b * g n)=a * (d_ f n+f n) - b * (d_ g n+g n);rw[mR a b f g n];grind
def zA{t:Nat}(y:Nat->Rat):∀{n:Nat},n<=t->d_ (λx=>(if x=t then 1 else 0) * y x) n=0
 | 0,_=>rfl
 | n+1,h=>by show d_ (λx=>(if x=t then 1 else 0) * y x) n+(if n=t then 1 else 0) * y n=0;rw[zA y (),if_neg ()];grind
def sH{t:Nat}(y:Nat->Rat):∀{n:Nat},t < n->d_ (λx=>(if x=t then 1 else 0) * y x) n=y t
 | 0,h=>aay h (abN _)
 | n+1,h=>by
  show d_ (λx=>(if x=t then 1 else 0) * y x) n+(if n=t then 1 else 0) * y n=y t;by_cases e:n=t
  ·subst e;rw[zA y (Nat.le_refl _),if_pos rfl];grind
  ·rw[sH y (),if_neg e];grind
def oP(f:Nat->Int):∀n,((Bz.ω f n:Int):Rat)=d_ (λi=>(f i:Rat)) n
 | 0=>rfl
 | n+1=>by show((Bz.ω f n+f n:Int):Rat)=d_ (λi=>(f i:Rat)) n+f n;rw[acu,oP f n]
def l_{f g:aO->Rat}:∀{ds:List aO},(∀d∈ds,f d=g d)->aj f ds=aj g ds
 | [],_=>rfl
 | d::ds,h=>by show f d+aj f ds=g d+aj g ds;rw[h d aad,l_ λx hx=>h x (aac _ hx)]
def nK(f g:aO->Rat):∀ds:List aO,aj (λd=>f d - g d) ds=aj f ds - aj g ds
 | []=>by show(0:Rat)=0 - 0;grind
 | d::ds=>by show(f d - g d)+aj (λd=>f d - g d) ds=(f d+aj f ds) - (g d+aj g ds);rw[nK f g ds];grind
abbrev cV(d:aO):Rat:=val (ν d)
structure PR(n:Nat)(Ρ:List aO):Prop where
 to:∀d∈Ρ,0<=d.1/\d.1 < n
 c0:∀d∈Ρ,0<=cV d
 one:aj cV Ρ<=1
def BO{c:Fr}(h:0 < c.2)(hd:c.2∣B):((jI B c:Int):Rat)=val c * B:=by
 have⟨k,rfl⟩:=hd;unfold jI val;rw[abn _ (),aa3,aa3];have:=bq (show c.2≠0 by omega);generalize (c.1:Rat)=a at *
 generalize (c.2:Rat)=b at *
 generalize (k:Rat)=e at *
 grind
def Jh{B:Int}:∀{ds:List aO},(∀d∈ds,0 < (ν d).2/\(ν d).2∣B)->((((ds.map ν).map (jI B)).sum:Int):Rat)=aj cV ds * B
 | [],_=>by show((0:Int):Rat)=0 * B;grind
 | d::ds,h=>by have i:=Jh (ds:=ds) λx hx=>h x (aac _ hx);have⟨a,b⟩:=h d aad;show(((jI B (ν d)+((ds.map ν).map (jI B)).sum:Int)):Rat)=(cV d+aj cV ds) * B;rw[Rat.intCast_add,i,BO a b];grind
def BV{c:Fr}(h:0 < c.2)(h0:0<=c.1):0<=val c:=by
 have e:val c * (c.2:Rat)=c.1:=by
  have:=bq (show c.2≠0 by omega);unfold val;generalize (c.1:Rat)=x at *
  generalize (c.2:Rat)=y at *
  grind
 have p:(0:Rat) < (c.2:Rat):=aaP.mpr h;have q:(0:Rat)<=(c.1:Rat):=abc.mpr h0;by_cases z:0<=val c
 ·exact z
 ·have:=Rat.mul_pos (show 0 < -val c by grind) p;grind
def mY{ds:List aO}(o:wk (ds.map ν)):aj cV ds=1/\∀d∈ds,0<=cV d:=by
 have⟨_,_,hB⟩:=fq (ds.map ν) 1 0 @_ (abT _) λc hc=>⟨(o.Gp.2 c hc).1,abT _⟩;have hm:∀d∈ds,ν d∈ds.map ν:=λd hd=>aan.mpr ⟨d,hd,rfl⟩;have e:=Jh (B:=a_ (ds.map ν)) (ds:=ds) λd hd=>⟨(o.Gp.2 _ (hm d hd)).1,hB _ (hm d hd)⟩;rw[o.sum]at e;have b0:=bq (show a_ (ds.map ν)≠0 by have:=o.b0;omega);refine⟨?_,λd hd=>?_⟩
 ·generalize ((a_ (ds.map ν):Int):Rat)=b at *
  grind
 ·refine BV (o.Gp.2 _ (hm d hd)).1 ?_;have p:=o.pos _ (hm d hd);unfold jI at p;have q0:0<=a_ (ds.map ν) / (ν d).2:=acs (aag o.b0) (aag (o.Gp.2 _ (hm d hd)).1);rcases acC (ν d).1 0 with z| z
  ·have:=Int.mul_nonpos_of_nonpos_of_nonneg (aag z) q0;omega
  ·exact z
def EC{p q:Fr}(hp:0 < p.2)(hq:0 < q.2):val (iu p q)=val p - val q:=by
 unfold iu;rw[nv (acB (abv hp hq))];have h1:=bq (show p.2≠0 by omega);have h2:=bq (show q.2≠0 by omega);rw[Rat.intCast_sub,aa3,aa3,aa3];unfold val;generalize (p.1:Rat)=a at *
 generalize (p.2:Rat)=b at *
 generalize (q.1:Rat)=c at *
 generalize (q.2:Rat)=d at *
 grind
def Cf{p q:Fr}(hp:0 < p.2)(hq:0 < q.2)(h:nM p E)(h':nM q E):nM (iu p q) E:=by have⟨N,e⟩:=h;have⟨N',e'⟩:=h';unfold iu;exact vi (N:=N - N') (Int.ne_of_gt (Int.mul_pos hp hq)) (by grind)
def FH{p q:Fr}{D:Int}(hp:0 < p.2)(hq:0 < q.2)(h:uJ p C)(h':uJ q D):uJ (iu p q) (C+D):=by
 unfold iu;have a:=fL h.1 (aag hq);have b:=fL h'.1 (aag hp);have c:=fL h.2 (aag hq);have d:=fL h'.2 (aag hp);refine JB (abv hp hq) ?_ ?_
 ·have e:p.2 * q.2 * (C+D)=p.2 * C * q.2+q.2 * D * p.2:=by grind
  have e2: -(q.2 * D) * p.2= -(q.2 * D * p.2):=by grind
  omega
 ·have e: -(p.2 * q.2 * (C+D))= -(p.2 * C) * q.2+ -(q.2 * D * p.2):=by grind
  omega
structure Nr(E C:Int)(p:Fr):Prop where
 red:Red p
 he:nM p E
 ab:uJ p C
structure lG(n:Nat)(E C:Int)(v:Nat->Rat)(ns:List Fr):Prop where
 len:ns.length=n
 nr:∀x,x < n->Nr E C (ns.getD x (0,1))
 val:∀x,x < n->val (ns.getD x (0,1))=v x
def qO(ε:Fr)(ns:List Fr)(d:aO):List Fr:=ns.set d.1.toNat (iu (ns.getD d.1.toNat (0,1)) (e6 ε (ν d)))
def gC(ε:Fr)(n i:Nat)(Ρ:List aO):List Fr:=Ρ.foldl (qO ε) ((List.replicate n ((0,1):Fr)).set i (1,1))
def Wm(c:0<=C):Nr E C (0,1):=⟨⟨@_,@_⟩,⟨0,by simp⟩,⟨by show(0:Int)<=1 * C;omega,by show -(1 * C)<=(0:Int);omega⟩⟩
def XG:Nr E 1 (1,1):=⟨⟨@_,@_⟩,⟨E,by simp⟩,⟨@_,@_⟩⟩
def zc{ns:List Fr}{t x:Nat}{a:Fr}(h:t < ns.length):(ns.set t a).getD x (0,1)=if x=t then a else ns.getD x (0,1):=by
 rw[aab,List.getElem?_set];by_cases e:x=t
 ·subst e;rw[aaq rfl,aaq h,aaq rfl];rfl
 ·rw[aau (Ne.symm e),aau e,<-aab]
def GR(hi:i < n):lG n E 1 (λx=>if x=i then 1 else 0) ((List.replicate n ((0,1):Fr)).set i (1,1)):=by
 have g:∀x,((List.replicate n ((0,1):Fr)).set i (1,1)).getD x (0,1)=if x=i then (1,1) else (0,1):=λx=>by
  rw[zc (by simpa using hi)]
  congr 1
  rw[aab,abY];split <;> rfl
 refine⟨by simp,λx _=>?_,λx _=>?_⟩
 ·rw[g];split
  ·exact XG
  ·exact Wm @_
 ·rw[g];show Pg.val (if x=i then (1,1) else (0,1))=if x=i then 1 else 0
  unfold Pg.val;split
  ·show((1:Int):Rat) / ((1:Int):Rat)=1;grind
  ·show((0:Int):Rat) / ((1:Int):Rat)=0;grind
structure Qx(ε:Fr)(E:Int)(d:aO):Prop where
 s0:0 < ε.2
 su:lL ε
 c0:0 < (ν d).2
 cu:lL (ν d)
 he:nM (e6 ε (ν d)) E
def Qx.nr{ε:Fr}{d:aO}(h:Qx ε E d):Nr E 1 (e6 ε (ν d)):=by have p:=abv h.s0 h.c0;have u:=Bo h.s0 h.c0 h.su h.cu;have r:Red (e6 ε (ν d)):=sS (acB p);have rp:=r.pos;have⟨u1,u2⟩:=u;exact⟨r,h.he,⟨(),()⟩⟩
def yU{ε:Fr}{v:Nat->Rat}{ns:List Fr}{d:aO}(h:lG n E C v ns)(c:0<=C)(hd:0<=d.1/\d.1 < n)(sc:Qx ε E d):lG n E (C+1) (λx=>v x - Pg.val ε * ((if d.1.toNat=x then 1 else 0) * cV d)) (qO ε ns d):=by
 have ht:d.1.toNat < ns.length:=by rw[h.len];omega
 have k:=sc.nr;have g:=λx=>zc (x:=x) (a:=iu (ns.getD d.1.toNat (0,1)) (e6 ε (ν d))) ht;refine⟨by unfold qO;rw[List.length_set];exact h.len,λx hx=>?_,λx hx=>?_⟩
 ·unfold qO;rw[g];have a:=h.nr x hx;split
  ·rename_i e;rw[<-e];have p:=abv a.red.pos k.red.pos;exact⟨sS (acB p),Cf a.red.pos k.red.pos a.he k.he,FH a.red.pos k.red.pos a.ab k.ab⟩
  ·have:=aaX (show C<=C+1 by omega) (aag a.red.pos);exact⟨a.red,a.he,⟨aaL a.ab.1 this,by have:=a.ab.2;omega⟩⟩
 ·unfold qO;rw[g];have a:=h.nr x hx;have b:=h.val x hx;split
  ·rename_i e;rw[<-e,EC a.red.pos k.red.pos,b,FZ sc.s0 sc.c0,if_pos rfl];grind
  ·rename_i e;rw[b,if_neg (Ne.symm e)];grind
def vk{n:Nat}{ε:Fr}{E:Int}:∀{Ρ:List aO} {ns:List Fr} {v:Nat->Rat} {C:Int},(∀d∈Ρ,(0<=d.1/\d.1 < n)/\Qx ε E d)->0<=C->lG n E C v ns->lG n E (C+Ρ.length) (λx=>v x - Pg.val ε * aj (λd=>(if d.1.toNat=x then 1 else 0) * cV d) Ρ) (Ρ.foldl (qO ε) ns)
 | [],ns,v,C,_,_,h=>by
  refine⟨h.len,λx hx=>?_,λx hx=>?_⟩
  ·rw[List.length_nil,Int.natCast_zero,Int.add_zero];exact h.nr x hx
  ·show _=v x - Pg.val ε * 0;rw[show v x - Pg.val ε * 0=v x by grind];exact h.val x hx
 | d::Ρ,ns,v,C,hw,c,h=>by have⟨h1,h2⟩:=hw d aad;have i:=vk (Ρ:=Ρ) (λx hx=>hw x (aac _ hx)) () (yU h c h1 h2);rw[abM,aaJ,show C+((Ρ.length+1:Nat):Int)=C+1+Ρ.length by omega];refine⟨i.len,i.nr,λx hx=>?_⟩;rw[i.val x hx];show v x - Pg.val ε * ((if d.1.toNat=x then 1 else 0) * cV d) - Pg.val ε * aj (λd=>(if d.1.toNat=x then 1 else 0) * cV d) Ρ=v x - Pg.val ε * ((if d.1.toNat=x then 1 else 0) * cV d+aj (λd=>(if d.1.toNat=x then 1 else 0) * cV d) Ρ);grind
def vW(s:Rat)(i:Nat)(Ρ:List aO)(x:Nat):Rat:=(if x=i then 1 else 0) - s * aj (λd=>(if d.1.toNat=x then 1 else 0) * cV d) Ρ
def Lj{ε:Fr}{Ρ:List aO}(hi:i < n)(hw:∀d∈Ρ,(0<=d.1/\d.1 < n)/\Qx ε E d):lG n E (1+Ρ.length) (vW (Pg.val ε) i Ρ) (gC ε n i Ρ):=vk hw @_ (GR hi)
def Hq{n i:Nat}{s:Rat}(hi:i < n)(y:Nat->Rat):∀{Ρ:List aO},(∀d∈Ρ,0<=d.1/\d.1 < n)->d_ (λx=>vW s i Ρ x * y x) n=y i - s * aj (λd=>cV d * y d.1.toNat) Ρ
 | [],_=>by rw[dR (g:=λx=>(if x=i then 1 else 0) * y x) λx _=>by show((if x=i then 1 else 0) - s * 0) * y x=_;grind];rw[sH y hi];show y i=y i - s * 0;grind
 | d::Ρ,h=>by
  have⟨a,b⟩:=h d aad;have ih:=Hq (s:=s) hi y (Ρ:=Ρ) λx hx=>h x (aac _ hx)
  rw[dR (g:=λx=>1 * (vW s i Ρ x * y x) - (s * cV d) * ((if x=d.1.toNat then 1 else 0) * y x)) λx _=>by
   show((if x=i then 1 else 0) - s * ((if d.1.toNat=x then 1 else 0) * cV d+aj (λd=>(if d.1.toNat=x then 1 else 0) * cV d) Ρ)) * y x=1 * (((if x=i then 1 else 0) - s * aj (λd=>(if d.1.toNat=x then 1 else 0) * cV d) Ρ) * y x) - (s * cV d) * ((if x=d.1.toNat then 1 else 0) * y x);by_cases e:x=d.1.toNat
   ·rw[if_pos e,if_pos e.symm];grind
   ·rw[if_neg e,if_neg (Ne.symm e)];grind]
  rw[mR,ih,sH y (show d.1.toNat < n by omega)];show _=y i - s * (cV d * y d.1.toNat+aj (λd=>cV d * y d.1.toNat) Ρ);grind
def lE(ns:List Fr):List Int:=ns.map λc=>c.1 * (a_ ns / c.2)
def zB{ns:List Fr}(h:∀c∈ns,Nr E C c)(e0:0 < E)(c0:0<=C):0 < a_ ns/\a_ ns<=E/\∀c∈ns,((jI (a_ ns) c:Int):Rat)=val c * (a_ ns:Int)/\ -(C * E)<=jI (a_ ns) c/\jI (a_ ns) c<=C * E:=by
 have b0:0 < a_ ns:=fb ns 1 @_ λc hc=>(h c hc).red.pos;have⟨d1,_,d3⟩:=fq ns 1 E @_ (Int.one_dvd _) λc hc=>⟨(h c hc).red.pos,vR (h c hc).red (h c hc).he⟩;have le:=abZ e0 d1;refine⟨b0,le,λc hc=>⟨BO (h c hc).red.pos (d3 c hc),?_⟩⟩;have hd:=d3 c hc;have cp:=(h c hc).red.pos;have⟨a1,a2⟩:=(h c hc).ab;have le:a_ ns<=E:=le;have b0:0 < a_ ns:=b0;generalize hL:a_ ns=L at *
 have hd:c.2∣L:=by rw[<-hL];exact hd
 have⟨k,rfl⟩:=hd;unfold jI;rw[abn _ ()];have k0:0<=k:=by
  rcases acC k 0 with z| z
  ·have:=acf cp z;omega
  ·exact z
 have m1:=fL a1 k0;have m2:=fL a2 k0;have m3:=aaX le c0;have e1:c.2 * C * k=C * (c.2 * k):=by grind
 have e2: -(c.2 * C) * k= -(C * (c.2 * k)):=by grind
 exact⟨(),()⟩
def mS(ε:Fr)(n i:Nat)(Ρ:List aO)(given:Fr):List Int:=lE (gC ε n i Ρ++[given])
structure C3(ε:Fr)(n:Nat)(E C:Int)(Ρ:List aO)(given:Fr):Prop where
 wo:PR n Ρ
 sc:∀d∈Ρ,Qx ε E d
 gn:Nr E C given
 e0:0 < E
 cl:1+(Ρ.length:Int)<=C
def DW{D:Int}{p:Fr}(h:Nr E C p)(l:C<=D):Nr E D p:=by have:=aaX l (aag h.red.pos);have⟨a,b⟩:=h.ab;exact⟨h.red,h.he,⟨(),()⟩⟩
def MQ{ns:List Fr}{x:Nat}(h:x < ns.length):ns.getD x (0,1)∈ns:=by rw[aab,aaa h];exact aal h
def BY{ε:Fr}{Ρ:List aO}{given:Fr}(hi:i < n)(p:C3 ε n E C Ρ given):(mS ε n i Ρ given).length=n+1/\(∀x∈mS ε n i Ρ given,-(C * E)<=x/\x<=C * E)/\∃L:Rat,0 < L/\(∀y:Nat->Rat,d_ (λx=>((mS ε n i Ρ given).getD x 0:Rat) * y x) n=L * (y i - Pg.val ε * aj (λd=>cV d * y d.1.toNat) Ρ))/\((mS ε n i Ρ given).getD n 0:Rat)=L * Pg.val given:=by
 have no:=Lj hi λd hd=>⟨p.wo.to d hd,p.sc d hd⟩;have c0:0<=C:=by have:=p.cl;omega
 have all:∀c∈gC ε n i Ρ++[given],Nr E C c:=λc hc=>by
  rcases aaR.mp hc with z| z
  ·have⟨x,hx,e⟩:=aba z;have Xo:x < n:=by rw[<-no.len];exact hx
   have:=no.nr x Xo;rw[aab,aaa hx]at this;rw[<-e];exact DW this p.cl
  ·rw[aaV.mp z];exact p.gn
 have⟨b0,bE,hb⟩:=zB all p.e0 c0;have ln:(gC ε n i Ρ).length=n:=no.len;have at_:∀x,x < n+1->(mS ε n i Ρ given).getD x 0=jI (a_ (gC ε n i Ρ++[given])) ((gC ε n i Ρ++[given]).getD x (0,1)):=λx hx=>by
  unfold mS lE;have hx:x < (gC ε n i Ρ++[given]).length:=by simp[ln];exact hx
  rw[aab,aak,aab,aaa hx];rfl
 have YZ:∀x,x < n+1->(gC ε n i Ρ++[given]).getD x (0,1)∈gC ε n i Ρ++[given]:=λx hx=>MQ (by simp[ln];exact hx);refine⟨by unfold mS lE;simp[ln],λx hx=>?_,((a_ (gC ε n i Ρ++[given]):Int):Rat),?_,λy=>?_,?_⟩
 ·unfold mS lE at hx;have⟨c,hc,rfl⟩:=aan.mp hx;exact(hb c hc).2
 ·exact aaP.mpr b0
 ·rw[dR (g:=λx=>((a_ (gC ε n i Ρ++[given]):Int):Rat) * (vW (Pg.val ε) i Ρ x * y x) - 0 * 0) λx hx=>by
   rw[at_ x (),(hb _ (YZ x ())).1];have:(gC ε n i Ρ++[given]).getD x (0,1)=(gC ε n i Ρ).getD x (0,1):=by rw[aab,aas (by rw[ln];exact hx),<-aab]
   rw[this,no.val x hx];grind]
  rw[mR _ 0 (λx=>vW (Pg.val ε) i Ρ x * y x) (λ_=>0),Hq hi y p.wo.to];grind
 ·rw[at_ n (),(hb _ (YZ n ())).1];have:(gC ε n i Ρ++[given]).getD n (0,1)=given:=by rw[aab,aax (by rw[ln];exact aaj _),ln,abX];rfl
  rw[this];grind
structure Sys(ε:Fr)(n:Nat)(B:Int)(ws:Nat->List aO)(gv:Nat->Fr):Prop where
 n1:1<=n
 b1:1<=B
 XW:∀i,i < n->∃E C,C3 ε n E C (ws i) (gv i)/\C * E<=B
 zero:∀{y:Nat->Rat},(∀k,k < n->y k=Pg.val ε * aj (λd=>cV d * y d.1.toNat) (ws k))->∀k,k < n->y k=0
def gQ(ε:Fr)(n:Nat)(ws:Nat->List aO)(gv:Nat->Fr):List (List Int):=(List.range n).map λi=>mS ε n i (ws i) (gv i)
section
variable{ε:Fr}{ws:Nat->List aO}{gv:Nat->Fr}
def BG{k x:Nat}(h:k < n):Bz.arr (gQ ε n ws gv) k x=(mS ε n k (ws k) (gv k)).getD x 0:=by
 unfold Bz.arr gQ
 congr 1
 rw[aab,aak,aaO h];rfl
def kL:(gQ ε n ws gv).length=n:=by unfold gQ;simp
def Sys.eq(S:Sys ε n B ws gv){k:Nat}(hk:k < n):∃L:Rat,0 < L/\(∀y:Nat->Rat,d_ (λx=>(Bz.arr (gQ ε n ws gv) k x:Rat) * y x) n=L * (y k - Pg.val ε * aj (λd=>cV d * y d.1.toNat) (ws k)))/\(Bz.arr (gQ ε n ws gv) k n:Rat)=L * Pg.val (gv k):=by
 have⟨E,C,p,_⟩:=S.XW k hk;have⟨_,_,L,l0,l1,l2⟩:=BY hk p;refine⟨L,l0,λy=>?_,?_⟩
 ·rw[<-l1 y];exact dR λx _=>by rw[BG hk]
 ·rw[BG hk];exact l2
def Sys.UI(S:Sys ε n B ws gv)(y:Bz.Row)(h:∀k,k < n->Bz.ω (λx=>Bz.arr (gQ ε n ws gv) k x * y x) n=0):∀x,x < n->y x=0:=λx hx=>by
 have:=S.zero (y:=λx=>(y x:Rat)) (λk hk=>by
  have⟨L,l0,l1,_⟩:=S.eq hk;have e:=aaM (λz:Int=>(z:Rat)) (h k hk);rw[oP,dR (g:=λx=>(Bz.arr (gQ ε n ws gv) k x:Rat) * (y x:Rat)) λx _=>aa3 _ _,l1 λx=>(y x:Rat)]at e;have e:L * ((y k:Rat) - Pg.val ε * aj (λd=>cV d * (y d.1.toNat:Rat)) (ws k))=0:=e;rcases Rat.mul_eq_zero.mp e with z| z
  ·grind
  ·grind) x hx
 exact Rat.intCast_eq_zero_iff.mp this
def Sys.bd(S:Sys ε n B ws gv):Bz.Bd (Bz.arr (gQ ε n ws gv)) n (n+1) B:=⟨S.b1,λk c hk hc=>by
 have⟨E,C,p,hB⟩:=S.XW k hk;have⟨ln,hb,_⟩:=BY hk p;rw[BG hk];have:=hb ((mS ε n k (ws k) (gv k)).getD c 0) (by rw[aab,aaa ()];exact aal _)
 exact⟨(),()⟩⟩
structure Tab(ε:Fr)(n:Nat)(ws:Nat->List aO)(gv:Nat->Fr)(tb:List Fr):Prop where
 len:tb.length=n
 red:∀i,i < n->Red (tb.getD i (0,1))
 eq:∀i,i < n->Pg.val (tb.getD i (0,1))=Pg.val (gv i)+Pg.val ε * aj (λd=>cV d * Pg.val (tb.getD d.1.toNat (0,1))) (ws i)
def Sys.uniq(S:Sys ε n B ws gv){t t':List Fr}(h:Tab ε n ws gv t)(h':Tab ε n ws gv t'):t=t':=by
 have z:=S.zero (y:=λx=>Pg.val (t.getD x (0,1)) - Pg.val (t'.getD x (0,1))) (λk hk=>by
  rw[h.eq k hk,h'.eq k hk];rw[show(λd:aO=>cV d * (Pg.val (t.getD d.1.toNat (0,1)) - Pg.val (t'.getD d.1.toNat (0,1))))=λd=>cV d * Pg.val (t.getD d.1.toNat (0,1)) - cV d * Pg.val (t'.getD d.1.toNat (0,1)) by funext d;grind,nK]
  grind)
 apply abp
 ·rw[h.len,h'.len]
 ·intro i h1 h2;have hi:i < n:=by rw[<-h.len];exact h1
  have a:=h.red i hi;have b:=h'.red i hi;have c:=z i hi;rw[aab,aaa h1]at a c;rw[aab,aaa h2]at b c;exact kW a b (by have c:Pg.val t[i] - Pg.val t'[i]=0:=c;grind)
def Sys.ex(S:Sys ε n B ws gv)(GF:n<=12):∃(tb:List Fr) (z:Bz.Row) (N:Int),Bz.Oh (Bz.arr (gQ ε n ws gv)) n n z N/\N≠0/\(∀i,i < n->N * (tb.getD i (0,1)).1=z i * (tb.getD i (0,1)).2)/\Tab ε n ws gv tb/\∀i,i < n->(tb.getD i (0,1)).2<=(12 * B) ^ n:=by
 have⟨ρ,μ,q,d,W,t⟩:=Bz.Turn.exists (A:=Bz.arr (gQ ε n ws gv)) (n:=n) n;have hc:μ=List.range n:=by
  rcases t.all with e| ⟨x,h1,h2⟩
  ·exact e
  ·have⟨z,z1,z2⟩:=t.kernel h1 h2;have:=S.UI z z2 x h1;rw[z1]at this;exact aay () t.d0
 have lr:ρ.length=n:=by rw[<-t.st.lc,hc,aa8]
 have sol:=t.Tt λi h1 h2=>aay h1 ();have d0:=t.d0;generalize hz:Bz.KC (Bz.arr (gQ ε n ws gv)) n W μ n μ.length=z at *
 have g:∀i,i < n->((List.range n).map λi=>ax (z i) d).getD i (0,1)=ax (z i) d:=λi hi=>by rw[aab,aak,aaO hi];rfl
 refine⟨(List.range n).map λi=>ax (z i) d,z,d,sol,d0,λi hi=>?_,⟨by simp,λi hi=>?_,λi hi=>?_⟩,λi hi=>?_⟩
 ·rw[g i hi,<-cD d0]
 ·rw[g i hi];exact sS d0
 ·have⟨L,l0,l1,l2⟩:=S.eq hi;have⟨E,C,p,_⟩:=S.XW i hi;have e:=aaM (λz:Int=>(z:Rat)) (sol i hi);rw[oP,dR (g:=λx=>(Bz.arr (gQ ε n ws gv) i x:Rat) * (z x:Rat)) λx _=>aa3 _ _,l1 λx=>(z x:Rat),aa3,l2]at e;rw[g i hi,nv d0]
  rw[l_ (g:=λdd=>(1 / (d:Rat)) * (cV dd * (z dd.1.toNat:Rat)) - 0) λdd ZD=>by
   have⟨a,b⟩:=p.wo.to dd ZD;rw[g _ (),nv d0];have:=bq d0
   grind]
  have sc:∀(k:Rat) (ds:List aO),aj (λdd=>k * (cV dd * (z dd.1.toNat:Rat)) - 0) ds=k * aj (λdd=>cV dd * (z dd.1.toNat:Rat)) ds:=λk ds=>by
   induction ds with
   | nil=>show(0:Rat)=k * 0;grind
   | cons a ds ih=>
    show k * (cV a * (z a.1.toNat:Rat)) - 0+aj (λdd=>k * (cV dd * (z dd.1.toNat:Rat)) - 0) ds=k * (cV a * (z a.1.toNat:Rat)+aj (λdd=>cV dd * (z dd.1.toNat:Rat)) ds);rw[ih];grind
  rw[sc];have:=bq d0;have e:L * ((z i:Rat) - Pg.val ε * aj (λdd=>cV dd * (z dd.1.toNat:Rat)) (ws i))=(d:Rat) * (L * Pg.val (gv i)):=e;have e2:(z i:Rat) - Pg.val ε * aj (λdd=>cV dd * (z dd.1.toNat:Rat)) (ws i)=(d:Rat) * Pg.val (gv i):=by
   have:L * ((z i:Rat) - Pg.val ε * aj (λdd=>cV dd * (z dd.1.toNat:Rat)) (ws i) - (d:Rat) * Pg.val (gv i))=0:=by grind
   rcases Rat.mul_eq_zero.mp this with y| y
   ·grind
   ·grind
  grind
 ·rw[g i hi];have ad:=t.st.VH S.bd (λc AH=>aaz (t.cl c AH) (Nat.le_succ _)) ();rw[lr]at ad;have l:=rB (t:=z i) d0;have q0:=b_ (t:=z i) d0;have⟨a1,a2⟩:=ad;omega
end
def DU{d:aO}{c:Fr}{q:DQ}(e:d.2.2=[c])(h:q (av c) M):cR (dD d) (.int 2) M q:=by unfold dD;rw[e];exact Β (xs:=[.int d.1,av d.2.1,av c]) rfl (Υ (j:=2) rfl) h
def rE{k:Nat}(h:M[k]? =some (MO.lst xs)):hZ M (.loc k)=some xs:=by show(match M[k]? with| some (MO.lst xs)=>some xs| _=>none)=some xs;rw[h]
def Kk{p:Fr}(h:Nr E C p)(e0:0 < E)(e1:E < 2 ^ 190)(c0:0<=C)(c1:C < 2 ^ 110):Sz 300 p:=Ss (k:=190) (m:=110) h.red h.he e0 e1 h.ab c0 c1
def Iq:DF:=λas M q _=>∃(ns:List Fr) (E C:Int),as=[.lst (ns.map av)]/\ns.length<=13/\(∀c∈ns,Nr E C c)/\0 < E/\E < 2 ^ 190/\0<=C/\C < 2 ^ 110/\q (cG (lE ns)) M
def lA:Γ ["numbers","bottom"] ["numbers"] (χ oH):=.of rfl
def Ak(F:dE K "whole_row" "whole_row" oH f fd)(E:Ev K mg Cm){h9:Addr}{iy:FuncData}(cj:aE P w K mg base 2 "common_bottom" ["chances"] ik h9 iy):aw P w K mg base (cP P w) 3 f fd ["numbers"] (dw K Iq):=by
 refine F.eF lA (λds M q x h=>?_) (λbz A outer s H E' hr=>⟨_,(ζ (ψ 1 lA.nd (ao cj hr ξ (Ν (jv 0) η)))
   (θ (Δ (gZ (ys:=["bottom"]) (Θ:=[1]) (.of lA rfl rfl rfl) (aR (jv 0)) (λC s H fp=>(aP (Ε (jv 0) ο) (eJ (jv 1) (Ε (jv 0) ο)))))))),λds M q x h=>?_⟩)
 ·have⟨ns,E,C,rfl,_⟩:=h;rfl
 ·have⟨ns,Ep,C,rfl,hz,hn,e0,e1,c0,c1,h⟩:=h;have⟨b0,bE,_⟩:=zB hn e0 c0;have Ym:∀c∈ns,Sz 300 c:=λc hc=>Kk (hn c hc) e0 e1 c0 c1;have b2:∀c∈ns,c.2 < 2 ^ 200:=λc hc=>by have:=abZ e0 (vR (hn c hc).red (hn c hc).he);exact abh this (Int.lt_trans e1 @_)
  refine⟨ns,rfl,⟨hz,λc hc=>⟨(hn c hc).red.pos,b2 c hc⟩⟩,?_⟩;walk_at "vc";refine aZ (i:=0) rfl rfl ⟨by rw[aae];exact aaw hz @_,?_⟩;refine dt (f:=λd=>.int (match d with| .tup [.int a,.int b]=>a * (a_ ns / b)| _=>0)) trivial (λx hx q hq=>?_) ?_
  ·have⟨y,hy,rfl⟩:=aan.mp hx;have s:=Ym y hy;have y0:=(hn y hy).red.pos;refine⟨⟨y0,fV s @_⟩,⟨iZ s @_,?_⟩,hq⟩;exact BA (k:=190) (acs (aag b0) (aag y0)) (abh (ach _ (aag b0)) (abh bE e1)) @_
  ·rw[aaH,aaN];have e:ns.map ((λd=>Dt.int (match d with| .tup [.int a,.int b]=>a * (a_ ns / b)| _=>0)) ∘ av)=(lE ns).map Dt.int:=by unfold lE;rw[aaN];rfl
   rw[e];exact h
structure Z1(E C:Int):Prop where
 e1:E < 2 ^ 190
 c1:C < 2 ^ 110
def T7(A:Addr):DF:=λas M q _=>∃(fs ε:Fr) (γ:List Rw) (i:Nat) (Ρ:List aO) (given:Fr) (E C:Int),as=[ar A fs γ,.int (i:Nat),.lst (Ρ.map dD),av ε,av given]/\i < γ.length/\γ.length<=12/\Sz 11 ε/\(∀d∈Ρ,∃c,d.2.2=[c])/\C3 ε γ.length E C Ρ given/\Z1 E C/\(∀d∈Ρ,Sz 300 (ν d))/\∀E',q (cG (mS ε γ.length i Ρ given)) (M++E')
def sO:Γ ["floor","place","ways","share","given","numbers","way"] ["floor","place","ways","share","given"] (χ wX):=.of rfl
def EX(F:dE K "led_row" "led_row" wX f fd)(E:Ev K mg Cm)(ai:fG P w K mg base 1 Cm "size" ["self"] (r8 Cm) bF bD){O2:Addr}{Pe:FuncData}(wu:aE P w K mg base 3 "minus" ["one","other"] Jd O2 Pe){N5:Addr}{P2:FuncData}(wR:aE P w K mg base 3 "times" ["one","other"] Ks N5 P2){EK:Addr}{Ew:FuncData}(mD:aE P w K mg base 3 "whole_row" ["numbers"] Iq EK Ew):aw P w K mg base (cP P w) 5 f fd ["floor","place","ways","share","given"] (dw K (T7 Cm)):=by
 refine F.eF sO (λds M q x h=>?_) (λbz A outer s H E' hr=>⟨_,(ζ (ψ 5 sO.nd (B2 (fh 3 (d:=.lst [.tup [.int 0,.int 1]]) (by rfl)) (gS ai hr ξ (jv 0))))
   (ζ (jN (jv 5) (jv 1) (cY (ι ο (ι ο η bX) bX)))
   (ζ (b6 (aR (jv 2)) (ae (i:=6) sO.nd rfl (Or.inl rfl)) aA (θ (jN (jv 5) (Ε (jv 6) ο) (ao wu hr ξ (ι (Ε (jv 5) (Ε (jv 6) ο)) (ι (ao wR hr ξ (Ν (jv 3) (ι (Ε (jv 6) ο) η b8))) η bC) b8)))))
   (θ (Δ (ao mD hr ξ (ι (jF (jv 5) (nc (Ν (jv 4) η))) η cz))))))),λds M q x h=>?_⟩)
 ·have⟨fs,ε,γ,i,Ρ,given,E,C,rfl,_⟩:=h;rfl
 ·have⟨fs,ε,γ,i,Ρ,given,Ep,C,rfl,il,tI,szs,wt,p,sz,hcs,h⟩:=h;have e0:=p.e0;have c0:0<=C:=by have:=p.cl;omega
  generalize hn:γ.length=n at *
  refine⟨⟨_,_,.inl rfl,rfl⟩,fs,γ,rfl,?_⟩;rw[hn];refine⟨[av (0,1)],n,rfl,rfl,(),(),?_,?_⟩
  ·show 1 * ((n:Int)).toNat<=sizeLine;exact aaw (show _<=12 by omega) @_
  rw[show((n:Int)).toNat=n by omega,qK];dsimp only[xS];walk_at "vc";refine⟨gV,?_⟩;refine⟨M.length,(i:Nat),_,i,rfl,rfl,aN,by rw[aa4];exact rX il,?_⟩;rw[dM];have e00:(List.replicate n (av (0,1))).set i (.tup [.int 1,.int 1])=((List.replicate n ((0,1):Fr)).set i (1,1)).map av:=by rw[List.map_set,List.map_replicate];rfl
  rw[e00];dsimp only[nI,eS];walk_at "vc";refine aV (λzs ρ' M'=>∃(eB rest:List aO) (ns:List Fr) (v:Nat->Rat) (o:Option Dt),Ρ=eB++rest/\zs=rest.map dD/\ns=eB.foldl (qO ε) ((List.replicate n ((0,1):Fr)).set i (1,1))/\lG n Ep (1+eB.length) v ns/\M'=M++[MO.lst (ns.map av)]/\ρ'=[some (ar Cm fs γ),some (.int (i:Int)),some (.lst (Ρ.map dD)),some (av ε),some (av given),some (.loc M.length),o]) (λzs ρ' M' hj=>trivial) (λx zs ρ' M' hj fH=>?_) (λρ' M' hj=>?_) _ _ _ ⟨[],Ρ,_,_,none,rfl,rfl,rfl,GR il,rfl,rfl⟩
  ·have⟨eB,rest,ns,v,o,ew,ex,en,no,rfl,rfl⟩:=hj;cases rest with
   | nil=>cases ex
   | cons d rest=>
    cases ex;have dm:d∈Ρ:=by rw[ew];exact aaA _ aad
    have⟨t0,t1⟩:=p.wo.to d dm;have⟨c,hc⟩:=wt d dm;have ec:ν d=c:=by unfold ν;rw[hc];rfl
    have sc:=p.sc d dm;have NI:=hcs d dm;have dl:1+(eB.length:Int)<=C:=by have:=aaM List.length ew;rw[aah,aaJ]at this;have:=p.cl;omega
    have tl:d.1.toNat < ns.length:=by rw[no.len];omega
    have Ym:=Kk (DW (no.nr d.1.toNat ()) dl) e0 sz.e1 c0 sz.c1;have szt:=Kk (DW sc.nr (show(1:Int)<=C by omega)) e0 sz.e1 c0 sz.c1;have at_:iH (ns.map av) d.1=some (av (ns.getD d.1.toNat (0,1))):=by have:=R0 tl;rw[show((d.1.toNat:Nat):Int)=d.1 by omega]at this;rw[this,aab,aaa tl];rfl
    have nx:∀o,_:=λo=>fH [some (ar Cm fs γ),some (.int (i:Int)),some (.lst (Ρ.map dD)),some (av ε),some (av given),some (.loc M.length),o] (M++[MO.lst ((qO ε ns d).map av)]) ⟨eB++[d],rest,qO ε ns d,_,o,by rw[ew];simp,rfl,by rw[List.foldl_append,<-en];rfl,by
     have:=yU no () ⟨t0,t1⟩ sc;rw[show 1+((eB++[d]).length:Int)=1+(eB.length:Int)+1 by simp;omega]
     exact this,rfl,rfl⟩
    dsimp only[gN,xS];walk_at "vc";refine pM ?_;refine(Β (d:=.loc M.length) (rE aN) at_ ?_:cR (.loc M.length) (.int d.1) _ _);refine DU hc ?_;rw[<-ec];refine⟨ε,ν d,11,300,rfl,szs,NI,@_,?_⟩;refine⟨_,_,300,300,rfl,Ym,szt,@_,?_⟩;refine pM ?_;refine⟨M.length,d.1,_,d.1.toNat,rfl,rfl,aN,by rw[aae];have:=rX tl;rwa[show((d.1.toNat:Nat):Int)=d.1 by omega]at this,?_⟩;rw[dM];have:(ns.map av).set d.1.toNat (av (iu (ns.getD d.1.toNat (0,1)) (e6 ε (ν d))))=(qO ε ns d).map av:=by unfold qO;rw[List.map_set]
    rw[this];exact nx _
  ·have⟨eB,rest,ns,v,o,ew,ex,en,no,rfl,rfl⟩:=hj;cases rest with
   | cons d rest=>cases ex
   | nil=>
    rw[aaY]at ew;subst ew;have en:ns=gC ε n i Ρ:=en;walk_at "vc";refine⟨by show 1<=sizeLine;decide,ns.map av,[av given],v7 aN,rfl,?_,?_⟩
    ·rw[aae,no.len];exact aaw (show n+1<=13 by omega) @_
    refine⟨ns++[given],Ep,C,by rw[aa2];rfl,by rw[aah,no.len];show n+1<=13;omega,λc hc=>?_,e0,sz.e1,c0,sz.c1,?_⟩
    ·rcases aaR.mp hc with z| z
     ·have⟨x,hx,e⟩:=aba z;have:=no.nr x (by rw[<-no.len];exact hx);rw[aab,aaa hx]at this;rw[<-e];exact DW this p.cl
     ·rw[aaV.mp z];exact p.gn
    rw[en];exact h _
abbrev Sp:=List (Option Nat)
def at_(S:Sp)(p:Nat):Option Nat:=S.getD p none
def aQ(S:Sp)(ds:List aO):List (Option Nat):=ds.map λd=>at_ S d.1.toNat
def h7(kd:Str)(ns:List (Option Nat))(o:Option Nat):Prop:=
 if kd="other" then (o=none/\none∈ns)\/∃v,o=some (v+1)/\some v∈ns/\∀x∈ns,∃w,x=some w/\w<=v
 else (o=none/\∀x∈ns,x=none)\/∃v,o=some (v+1)/\some v∈ns/\∀w,some w∈ns->v<=w
def aK(γ:List Rw)(gs:List Nat)(S:Sp):Prop:=S.length=γ.length/\∀(p:Nat) (r:Rw),γ[p]? =some r->match r with
 | .fin _=>at_ S p=if p∈gs then some 0 else none
 | .τ kd ds=>h7 kd (aQ S ds) (at_ S p)
structure Hj(γ:List Rw)(gs:List Nat)(m:Nat)(S:Sp):Prop where
 len:S.length=γ.length
 lt:∀p n,at_ S p=some n->n < m
 fin:∀p q,γ[p]? =some (.fin q)->at_ S p=if p∈gs then some 0 else none
 old:∀(p:Nat) (kd:Str) (ds:List aO) (n:Nat),γ[p]? =some (.τ kd ds)->at_ S p=some n->h7 kd (aQ S ds) (some n)
 new:∀(p:Nat) (kd:Str) (ds:List aO),γ[p]? =some (.τ kd ds)->at_ S p=none->if kd="other" then∃x∈aQ S ds,x=none\/x=some (m - 1) else∀x∈aQ S ds,x=none\/x=some (m - 1)
def aS(γ:List Rw)(S:Sp)(p:Nat):Bool:=match γ[p]? with
 | some (.τ kd ds)=>(at_ S p).isNone&&(if kd="other" then (aQ S ds).all (·.isSome) else (aQ S ds).any (·.isSome))
 | _=>false
def ba(γ:List Rw)(S:Sp):List Nat:=(List.range γ.length).filter (aS γ S)
def c7(m:Nat):List Nat->Sp->Sp
 | [],S=>S
 | p::ps,S=>c7 m ps (S.set p (some m))
def lC(m:Nat):∀(ps:List Nat) (S:Sp),(c7 m ps S).length=S.length
 | [],_=>rfl
 | p::ps,S=>by show(c7 m ps (S.set p (some m))).length=_;rw[lC m ps,aa6]
def Ig{q:Nat}{v:Option Nat}(hp:p < S.length):at_ (S.set p v) q=if p=q then v else at_ S q:=by
 unfold at_;rw[aab,aab];by_cases h:p=q
 ·subst h;rw[abb hp,aaq rfl];rfl
 ·rw[abq h,aau h]
def uT(m:Nat):∀(ps:List Nat) (S:Sp),(∀p∈ps,p < S.length)->∀q,at_ (c7 m ps S) q=if q∈ps then some m else at_ S q
 | [],S,_,q=>by rw[if_neg (by simp)];rfl
 | p::ps,S,h,q=>by
  show at_ (c7 m ps (S.set p (some m))) q=_;rw[uT m ps _ (λr hr=>by rw[aa6];exact h r (aac _ hr)) q,Ig (h p aad)];by_cases h1:q∈ps
  ·rw[aaq h1,aaq (aac _ h1)]
  ·rw[aau h1];by_cases h2:p=q
   ·subst h2;rw[aaq rfl,aaq aad]
   ·rw[aau h2,aau (λz=>(aaD.mp z).elim (λe=>h2 e.symm) h1)]
def fo{γ:List Rw}:p∈ba γ S↔p < γ.length/\aS γ S p=true:=by unfold ba;rw[List.mem_filter,List.mem_range]
def aa{ds:List aO}{x:Option Nat}:x∈aQ S ds↔∃d∈ds,at_ S d.1.toNat=x:=by unfold aQ;rw[List.mem_map]
def uL{γ:List Rw}(h:Hj γ gs m S)(hm:1<=m):Hj γ gs (m+1) (c7 m (ba γ S) S):=by
 have FL:∀p∈ba γ S,p < S.length:=λp hp=>by rw[h.len];exact(fo.mp hp).1
 have Nb:=uT m (ba γ S) S FL;generalize XX:c7 m (ba γ S) S=S' at *
 have none_of:∀p,p∈ba γ S->at_ S p=none:=λp hp=>by
  have:=(fo.mp hp).2;unfold aS at this;split at this
  ·rw[aaC]at this;exact Option.isNone_iff_eq_none.mp this.1
  ·cases this
 have kept:∀p n,at_ S p=some n->at_ S' p=some n:=λp n e=>by rw[Nb,aau (λz=>by rw[none_of p z]at e;cases e)];exact e
 have back:∀p n,at_ S' p=some n->at_ S p=some n\/(n=m/\at_ S p=none):=λp n e=>by
  rw[Nb]at e;split at e
  ·rename_i hp;cases e;exact .inr ⟨rfl,none_of p hp⟩
  ·exact .inl e
 have SO:∀p,at_ S' p=none->at_ S p=none/\p∉ba γ S:=λp e=>by
  rw[Nb]at e;split at e
  ·cases e
  ·rename_i hp;exact⟨e,hp⟩
 refine⟨by rw[<-XX,lC];exact h.len,λp n e=>?_,λp q hr=>?_,λp kd ds n hr e=>?_,λp kd ds hr e=>?_⟩
 ·rcases back p n e with e| ⟨rfl,_⟩
  ·have:=h.lt p n e;omega
  ·omega
 ·rw[Nb,aau (λz=>?_)]
  ·exact h.fin p q hr
  ·have:=(fo.mp z).2;unfold aS at this;rw[hr]at this;cases this
 ·rcases back p n e with e0| ⟨rfl,e0⟩
  ·have hd:=h.old p kd ds n hr e0;have hn:=h.lt p n e0;unfold h7 at hd⊢;by_cases hk:kd="other"
   ·rw[aaq hk]at hd⊢;rcases hd with ⟨z,_⟩| ⟨v,ev,h1,h2⟩
    ·cases z
    ·refine .inr ⟨v,ev,?_,λx hx=>?_⟩
     ·have⟨d,hd,ed⟩:=aa.mp h1;exact aa.mpr ⟨d,hd,kept _ _ ed⟩
     ·have⟨d,hd,ed⟩:=aa.mp hx;have⟨w,ew,lw⟩:=h2 (at_ S d.1.toNat) (aa.mpr ⟨d,hd,rfl⟩);rw[<-ed,kept _ _ ew];exact⟨w,rfl,lw⟩
   ·rw[aau hk]at hd⊢;rcases hd with ⟨z,_⟩| ⟨v,ev,h1,h2⟩
    ·cases z
    ·refine .inr ⟨v,ev,?_,λw hw=>?_⟩
     ·have⟨d,hd,ed⟩:=aa.mp h1;exact aa.mpr ⟨d,hd,kept _ _ ed⟩
     ·have⟨d,hd,ed⟩:=aa.mp hw;rcases back _ _ ed with ed| ⟨rfl,_⟩
      ·exact h2 w (aa.mpr ⟨d,hd,ed⟩)
      ·cases ev;omega
  ·have hp:p∈ba γ S:=by
    rw[Nb]at e;split at e
    ·rename_i z;exact z
    ·rw[e0]at e;cases e
   have i6:=(fo.mp hp).2;unfold aS at i6;rw[hr]at i6;have i6:((at_ S p).isNone&&(if kd="other" then (aQ S ds).all (·.isSome) else (aQ S ds).any (·.isSome)))=true:=i6;rw[aaC]at i6;have i6:=i6.2;have BF:=h.new p kd ds hr e0;obtain⟨k,rfl⟩:∃k,n=k+1:=⟨n - 1,()⟩;unfold h7;by_cases hk:kd="other"
   ·rw[aaq hk]at i6 BF⊢;have Gn:=aa9.mp i6;have⟨x,hx,ex⟩:=BF;have ex:x=some k:=by
     rcases ex with rfl| ex
     ·have:=Gn none hx;cases this
     ·simpa using ex
    subst ex;refine .inr ⟨k,rfl,?_,λy hy=>?_⟩
    ·have⟨d,hd,ed⟩:=aa.mp hx;exact aa.mpr ⟨d,hd,kept _ _ ed⟩
    ·have⟨d,hd,ed⟩:=aa.mp hy;have:=Gn (at_ S d.1.toNat) (aa.mpr ⟨d,hd,rfl⟩);have⟨w,ew⟩:=abd.mp this;have lw:=h.lt _ _ ew;rw[<-ed,kept _ _ ew];exact⟨w,rfl,()⟩
   ·rw[aau hk]at i6 BF⊢;have⟨x,hx,sx⟩:=List.any_eq_true.mp i6;have ex:x=some k:=by
     rcases BF x hx with rfl| ex
     ·cases sx
     ·simpa using ex
    subst ex;refine .inr ⟨k,rfl,?_,λw hw=>?_⟩
    ·have⟨d,hd,ed⟩:=aa.mp hx;exact aa.mpr ⟨d,hd,kept _ _ ed⟩
    ·have⟨d,hd,ed⟩:=aa.mp hw;rcases back _ _ ed with ed| ⟨rfl,_⟩
     ·rcases BF (some w) (aa.mpr ⟨d,hd,ed⟩) with z| z
      ·cases z
      ·cases z;omega
     ·omega
 ·have⟨e0,hp⟩:=SO p e;have fE:p < γ.length:=(aaf.mp hr).1;have i6:aS γ S p=false:=by
   cases hb:aS γ S p with
   | false=>rfl
   | true=>exact aay (fo.mpr ⟨fE,hb⟩) hp
  unfold aS at i6;rw[hr]at i6;have i6:((at_ S p).isNone&&(if kd="other" then (aQ S ds).all (·.isSome) else (aQ S ds).any (·.isSome)))=false:=i6;rw[e0]at i6;have i6:(if kd="other" then (aQ S ds).all (·.isSome) else (aQ S ds).any (·.isSome))=false:=by simpa using i6
  show if kd="other" then∃x∈aQ S' ds,x=none\/x=some (m+1 - 1) else∀x∈aQ S' ds,x=none\/x=some (m+1 - 1)
  rw[Nat.add_sub_cancel];have one:∀d,at_ S d=none->at_ S' d=none\/at_ S' d=some m:=λd ed=>by
   rw[Nb];split
   ·exact .inr rfl
   ·exact .inl ed
  by_cases hk:kd="other"
  ·rw[aaq hk]at i6⊢;obtain⟨x,hx,sx⟩:∃x∈aQ S ds,x=none:=by
    have:¬(∀x∈aQ S ds,x.isSome=true):=λz=>by rw[aa9.mpr z]at i6;cases i6
    simp only[Classical.not_forall]at this;have⟨x,hx,sx⟩:=this;exact⟨x,hx,by simpa using sx⟩
   subst sx;have⟨d,hd,ed⟩:=aa.mp hx;exact⟨at_ S' d.1.toNat,aa.mpr ⟨d,hd,rfl⟩,one _ ed⟩
  ·rw[aau hk]at i6⊢;intro x hx;have⟨d,hd,ed⟩:=aa.mp hx;have:at_ S d.1.toNat=none:=by
    cases hz:at_ S d.1.toNat with
    | none=>rfl
    | some w=>
     have:(aQ S ds).any (·.isSome)=true:=List.any_eq_true.mpr ⟨some w,aa.mpr ⟨d,hd,hz⟩,rfl⟩;rw[this]at i6;cases i6
   rw[<-ed];exact one _ this
def JQ{γ:List Rw}(h:Hj γ gs m S)(he:ba γ S=[]):aK γ gs S:=by
 refine⟨h.len,λp r hr=>?_⟩;cases r with
 | fin q=>exact h.fin p q hr
 | τ kd ds=>
  show h7 kd (aQ S ds) (at_ S p);cases e:at_ S p with
  | some n=>exact h.old p kd ds n hr e
  | none=>
   have fE:p < γ.length:=(aaf.mp hr).1;have i6:aS γ S p=false:=by
    cases hb:aS γ S p with
    | false=>rfl
    | true=>have:=fo.mpr ⟨fE,hb⟩;rw[he]at this;cases this
   unfold aS at i6;rw[hr]at i6;have i6:((at_ S p).isNone&&(if kd="other" then (aQ S ds).all (·.isSome) else (aQ S ds).any (·.isSome)))=false:=i6;rw[e]at i6;have i6:(if kd="other" then (aQ S ds).all (·.isSome) else (aQ S ds).any (·.isSome))=false:=by simpa using i6
   unfold h7;by_cases hk:kd="other"
   ·rw[aaq hk]at i6⊢;refine .inl ⟨rfl,?_⟩;have:¬(∀x∈aQ S ds,x.isSome=true):=λz=>by rw[aa9.mpr z]at i6;cases i6
    simp only[Classical.not_forall]at this;have⟨x,hx,sx⟩:=this;have:x=none:=by simpa using sx
    rw[<-this];exact hx
   ·rw[aau hk]at i6⊢;refine .inl ⟨rfl,λx hx=>?_⟩;cases x with
    | none=>rfl
    | some w=>
     have:(aQ S ds).any (·.isSome)=true:=List.any_eq_true.mpr ⟨some w,hx,rfl⟩;rw[this]at i6;cases i6
def pN(S:Sp):Nat:=S.countP (·.isNone)
def G9(hp:p < S.length)(e:at_ S p=none):pN (S.set p (some m))+1=pN S:=by
 unfold pN;have eg:S[p]=none:=by unfold at_ at e;rw[aab,aaa hp]at e;exact e
 rw[List.countP_set hp]
 ·simp[eg];have:0 < S.countP (·.isNone):=List.countP_pos_iff.mpr ⟨S[p],aal hp,by rw[eg];rfl⟩;omega
def zU{m:Nat}:∀(ps:List Nat) (S:Sp),ps.Nodup->(∀p∈ps,p < S.length/\at_ S p=none)->pN (c7 m ps S)+ps.length=pN S
 | [],_,_,_=>rfl
 | p::ps,S,nd,h=>by
  have⟨h1,h2⟩:=h p aad;have ih:=zU (m:=m) ps (S.set p (some m)) (abx.mp nd).2 λq hq=>by rw[aa6,Ig h1,aau (λz=>(abx.mp nd).1 (by rw[z];exact hq))];exact h q (aac _ hq)
  have:=G9 (m:=m) h1 h2;show pN (c7 m ps (S.set p (some m)))+(ps.length+1)=pN S;omega
def eU:Option Nat->Dt
 | none=>.aY
 | some n=>.int n
structure bZ(γ:List Rw)(gs:List Nat):Prop where
 up:gs.Pairwise (· < ·)
 fin:∀g∈gs,∃q,γ[g]? =some (.fin q)
structure Ib(γ:List Rw):Prop where
 len:γ.length<=12
 row:∀r∈γ,fK r/\fN r γ.length=true
def oi{γ:List Rw}{k:Str}{ds:List aO}(f:Ib γ)(h:Rw.τ k ds∈γ):Ξ ds γ.length=true/\(Ο k=true\/k="chance"):=by
 have h2:=(f.row _ h).2;have h2:(if Ο k then Ξ ds γ.length else if k="chance" then Ξ ds γ.length&&Χ (ds.map ν) else false)=true:=h2;by_cases hk:Ο k=true
 ·rw[aaq hk]at h2;exact⟨h2,.inl hk⟩
 ·rw[aau hk]at h2;by_cases hc:k="chance"
  ·rw[aaq hc,aaC]at h2;exact⟨h2.1,.inr hc⟩
  ·rw[aau hc]at h2;cases h2
def iF{γ:List Rw}{k:Str}{ds:List aO}{d:aO}(f:Ib γ)(h:Rw.τ k ds∈γ)(hd:d∈ds):0<=d.1/\d.1 < γ.length:=by have h2:=(oi f h).1;unfold Ξ at h2;rw[aaC,aaC]at h2;have h3:=aa9.mp h2.2 d hd;unfold aJ at h3;rw[aaC,aaC,aaZ,aaZ]at h3;exact⟨h3.1,h3.2.1⟩
def j4{γ:List Rw}{k:Str}{ds:List aO}(f:Ib γ)(h:Rw.τ k ds∈γ):1<=ds.length/\ds.length<=6:=by have h2:=(oi f h).1;unfold Ξ at h2;rw[aaC,aaC,aaZ,aaZ]at h2;exact h2.1
def Ao(h:p < S.length):iH (S.map eU) (p:Int)=some (eU (at_ S p)):=by
 have e:at_ S p=S[p]:=by unfold at_;rw[List.getD_eq_getElem?_getD,List.getElem?_eq_getElem h];rfl
 rw[e];exact Υ (by rw[aak,aaa h];rfl)
def NV{o:Option Nat}{q:DQ}(h:q (.bl o.isNone) M):LB (eU o) .aY M q:=by
 cases o with
 | none=>exact h
 | some n=>exact h
def xY{o:Option Nat}{q:DQ}(h:q (.bl o.isSome) M):vo (eU o) .aY M q:=by
 cases o with
 | none=>exact h
 | some n=>exact h
def pH(C:Addr):DF:=λas M q _=>∃ε γ g gs ok,as=[ar C ε γ,g]/\j1 M g=some (gs.map bH,ok)/\ok M/\bZ γ gs/\q .aY M
def fW:Γ ["floor","goals","ahead","goal"] ["floor","goals"] (χ jP):=.of rfl
def tX(F:dE K "check_goals" "check_goals" jP f fd)(E:Ev K mg Cm)(af:fG P w K mg base 1 Cm "kind" ["self","place"] (rO Cm) bG bB)(ai:fG P w K mg base 1 Cm "size" ["self"] (r8 Cm) bF bD):aw P w K mg base (cP P w) 2 f fd ["floor","goals"] (dw K (pH Cm)):=by
 refine F.eF fW (λds M q x h=>?_) (λbz A outer s H E' hr=>⟨_,(ζ (ψ 2 fW.nd (MT ο))
   (θ (b6 (aR (jv 1)) (ae (i:=3) fW.nd rfl (Or.inl rfl)) aA (ζ (aH (JW.jt (tj (Q4 (jv 3) (jv 2)) (tj (SY (jv 3) (gS ai hr ξ (jv 0))) (oJ (rV hr (gh af hr ξ (jv 0) (Ν (jv 3) η)) eY))))) (θ gI) Μ)
   (θ (ψ 2 fW.nd (jv 3))))))),λds M q x h=>?_⟩)
 ·have⟨ε,γ,g,gs,ok,rfl,_⟩:=h;rfl
 ·have⟨ε,γ,g,gs,ok,rfl,hg,aX,go,h⟩:=h;dsimp only[Qf,tJ,nI,eS];walk_at "vc";show(match j1 M g with| some (xs,ok)=>_| none=>False);rw[hg];refine aV (λxs ρ M'=>M'=M/\∃(rest:List Nat) (a:Int) (b:Option Dt),xs=rest.map bH/\(∀p∈rest,p∈gs/\a < p)/\rest.Pairwise (· < ·)/\ρ=[some (ar Cm ε γ),some g,some (.int a),b]) (λxs ρ M' hj=>by have⟨rfl,_⟩:=hj;exact aX) (λx xs ρ M' hj fH=>?_) (λρ M' hj=>?_) _ _ _ ⟨rfl,gs,-1,none,rfl,λp hp=>⟨hp,()⟩,go.up,rfl⟩
  ·have⟨rfl,rest,a,b,ex,sQ,hp,rfl⟩:=hj;cases rest with
   | nil=>cases ex
   | cons p rest=>
    cases ex;have⟨hm,ha⟩:=sQ p aad;have⟨e,he⟩:=go.fin p hm;have FL:p < γ.length:=(aaf.mp he).1;refine⟨λz=>?_,λ_=>?_⟩
    ·have:(p:Int)<=a:=aav z;omega
    refine⟨⟨_,_,.inl rfl,rfl⟩,ε,γ,rfl,λz=>?_,λ_=>?_⟩
    ·have:(p:Int) ≥ γ.length:=aav z;omega
    refine⟨⟨_,_,.inl rfl,rfl⟩,ε,γ,p,.fin e,rfl,he,nofun,λ_=>?_⟩;exact fH _ _ ⟨rfl,rest,p,_,rfl,λr hr=>⟨(sQ r (aac _ hr)).1,abL.mpr (List.rel_of_pairwise_cons hp hr)⟩,hp.of_cons,rfl⟩
  ·have⟨rfl,rest,a,b,ex,sQ,hp,rfl⟩:=hj;exact h
def zv(C:Addr):DF:=λas M q _=>∃ε γ k p S,as=[ar C ε γ,.int (p:Nat),.loc k]/\M[k]? =some (.lst (S.map eU))/\S.length=γ.length/\p < γ.length/\Ib γ/\q (.bl (aS γ S p)) M
def oG:Γ ["floor","place","steps","known"] ["floor","place","steps"] (χ tD):=.of rfl
def AJ(F:dE K "is_drawn" "is_drawn" tD f fd)(E:Ev K mg Cm)(af:fG P w K mg base 1 Cm "kind" ["self","place"] (rO Cm) bG bB)(aM:fG P w K mg base 2 Cm "doors" ["self","place"] (qF Cm) cX cU):aw P w K mg base (cP P w) 3 f fd ["floor","place","steps"] (dw K (zv Cm)):=by
 refine F.eF oG (λds M q x h=>?_) (λbz A outer s H E' hr=>⟨_,(ζ (aH (JW.jt (tj (xo (Ε (jv 2) (jv 1)) yi) (oJ (dz hr (gh af hr ξ (jv 0) (Ν (jv 1) η)) eY)))) (θ (Δ L6)) Μ)
   (ζ (fD (i:=3) oG.nd rfl (Or.inl rfl) (ys:=["steps"]) (Θ:=[2]) (.of oG rfl rfl rfl) (aR (cK (gh aM hr ξ (jv 0) (Ν (jv 1) η)))) (λC s H fp=>(NW (Ε (jv 1) (Ε (jv 0) ο)) yi)))
   (ζ (aH (dz hr (gh af hr ξ (jv 0) (Ν (jv 1) η)) eY) (θ (Δ (MW E.yS (Ν (jv 3) η)))) Μ)
   (θ (Δ (NB E.yM (Ν (jv 3) η))))))),λds M q x h=>?_⟩)
 ·have⟨ε,γ,k,p,S,rfl,_⟩:=h;rfl
 ·have⟨ε,γ,k,p,S,rfl,hk,hl,hp,f,h⟩:=h;have hs:hZ M (.loc k)=some (S.map eU):=by show(match M[k]? with| some (.lst xs)=>some xs| _=>none)=_;rw[hk]
  have hi:γ[p]? =some γ[p]:=aaa hp;have Um:γ[p]∈γ:=aal hp;generalize γ[p]=r at hi Um;have ro:=(f.row _ Um).1;walk_at "vc";refine(Β (d:=.loc k) hs (Ao ()) ?_:cR (.loc k) (.int (p:Nat)) M _);refine xY ⟨λz=>⟨λ_=>?_,nofun⟩,λz=>?_⟩
  ·have e:aS γ S p=false:=by
    unfold aS;rw[hi];cases r with
    | fin q=>rfl
    | τ kd ds=>
     have⟨v,ev⟩:=abd.mp z;show((at_ S p).isNone&&_)=false;rw[ev];rfl
   rw[e]at h;exact h
  ·have z:at_ S p=none:=by simpa using z
   refine⟨⟨_,_,.inl rfl,rfl⟩,ε,γ,p,r,rfl,hi,?_⟩;cases r with
   | fin e0=>
    have e:aS γ S p=false:=by unfold aS;rw[hi]
    rw[e]at h;exact⟨λ_=>h,nofun⟩
   | τ kd ds=>
    have l6:=j4 f Um;refine⟨λz=>aay (aav z) ro.1,λ_=>?_⟩;have e:aS γ S p=(if kd="other" then (aQ S ds).all (·.isSome) else (aQ S ds).any (·.isSome)):=by unfold aS;rw[hi];show((at_ S p).isNone&&_)=_;rw[z];rfl
    rw[e]at h;refine⟨⟨_,_,.inl rfl,rfl⟩,ε,γ,p,.τ kd ds,rfl,hi,ro,dF (ds:=ds.map dD) (fQ ds) ?_⟩;refine⟨by rw[aae];exact aaw l6.2 @_,?_⟩;refine cW (F:=λx a=>x=dD a/\a∈ds) (f:=λd=>Dt.bl (at_ S d.1.toNat).isSome) trivial (λx a ha q' ku=>?_) (gK dD ds ds λ_ h=>h) ?_
    ·have⟨rfl,ha⟩:=ha;have⟨a0,a1⟩:=iF f Um ha;have e1:iH (S.map eU) a.1=some (eU (at_ S a.1.toNat)):=by have:=Ao (S:=S) (p:=a.1.toNat) ();rwa[show((a.1.toNat:Nat):Int)=a.1 by omega]at this
     have key:cR (dD a) (.int 0) M (λi M1=>cR (.loc k) i M1 (λd M2=>vo d .aY M2 q')):=by refine pM ?_;refine Β (d:=.loc k) hs e1 ?_;exact xY ku
     exact key
    rw[aaH];have eb:ds.map (λd=>Dt.bl (at_ S d.1.toNat).isSome)=((aQ S ds).map (·.isSome)).map Dt.bl:=by unfold aQ;rw[List.map_map,List.map_map];rfl
    rw[eb];refine⟨⟨_,_,.inl rfl,rfl⟩,ε,γ,p,.τ kd ds,rfl,hi,λz=>?_,λz=>?_⟩
    ·have z:kd="other":=aav z;rw[aaq z]at h;refine⟨_,rfl,?_⟩;rw[List.all_map];exact h
    ·have z:kd≠"other":=aa1 z;rw[aau z]at h;refine⟨_,rfl,λ_ z=>(nomatch z),λ_ z=>(nomatch z),?_⟩;rw[List.any_map];exact h
def qS(C:Addr):DF:=λas M q _=>∃ε γ k S,as=[ar C ε γ,.loc k]/\M[k]? =some (.lst (S.map eU))/\S.length=γ.length/\Ib γ/\q (.lst ((ba γ S).map bH)) M
def pC:Γ ["floor","steps"] ["floor","steps"] (χ mh):=.of rfl
def xN(F:dE K "drawn_next" "drawn_next" mh f fd)(E:Ev K mg Cm)(ai:fG P w K mg base 1 Cm "size" ["self"] (r8 Cm) bF bD){HD:Addr}{IX:FuncData}(oX:aE P w K mg base 3 "is_drawn" ["floor","place","steps"] (zv Cm) HD IX):aw P w K mg base (cP P w) 4 f fd ["floor","steps"] (dw K (qS Cm)):=by
 refine F.eF pC (λds M q x h=>?_) (λbz A outer s H E' hr=>⟨_,(θ (Δ (zw (ys:=["floor","steps"]) (Θ:=[0,1]) (.of pC rfl rfl rfl) (uZ (bO E.bI (ι (gS ai hr ξ (jv 0)) η bC))) (λC s H fp=>(gG (ao oX hr (fk (P:=P) (w:=w)) (Ν (jv 1) (Ν (jv 0) (Ν (jv 2) η)))))) (λC s H fp=>(jv 0))))),λds M q x h=>?_⟩)
 ·have⟨ε,γ,k,S,rfl,_⟩:=h;rfl
 ·have⟨ε,γ,k,S,rfl,hk,hl,f,h⟩:=h;have Uj:=f.len;refine⟨⟨_,_,.inl rfl,rfl⟩,ε,γ,rfl,?_⟩;refine⟨⟨(),()⟩,by rw[c9];exact aaw (show _<=12 by omega) @_,?_⟩;refine dh trivial (λx=>match x with| .int j=>aS γ S j.toNat| _=>false) (λx=>x) _ _ (λx hx q' p' h1 h2=>?_) ?_
  ·have⟨j,YV,rfl⟩:=gy hx;have hj:j < γ.length:=()
   have h1:aS γ S (0+(j:Int)).toNat=true->q' (.int (0+(j:Int))) M:=h1;have h2:aS γ S (0+(j:Int)).toNat=false->p' M:=h2;rw[show(0+(j:Int)).toNat=j by omega]at h1 h2;refine⟨ε,γ,k,j,S,by rw[Int.zero_add],hk,hl,hj,f,?_⟩;cases hb:aS γ S j with
   | true=>exact h1 hb
   | false=>exact h2 hb
  ·rw[aaH,List.map_id'];have e3:((cw 0 ((γ.length:Int)).toNat).filter (λx=>match x with| .int j=>aS γ S j.toNat| _=>false))=(ba γ S).map bH:=by
    unfold cw ba;rw[List.filter_map,show((γ.length:Int)).toNat=γ.length by omega];have e4:((λx:Dt=>match x with| .int j=>aS γ S j.toNat| _=>false) ∘ λk:Nat=>Dt.int (0+(k:Int)))=λj:Nat=>aS γ S j:=by
     funext j
     show aS γ S (0+(j:Int)).toNat=_;rw[show(0+(j:Int)).toNat=j by omega]
    rw[e4];exact List.map_congr_left λj _=>by unfold bH;rw[Int.zero_add]
   rw[e3];exact h
def sA(m:Nat):∀(ps:List Nat) (p:Nat) (S:Sp),c7 m (ps++[p]) S=(c7 m ps S).set p (some m)
 | [],_,_=>rfl
 | q::ps,p,S=>sA m ps p (S.set q (some m))
def uI:∀gs:List Nat,iw (gs.map bH)=some (gs.map λg:Nat=>V.int (g:Int))
 | []=>rfl
 | g::gs=>by show(match vj (bH g),iw (gs.map bH) with| some v,some vs=>some (v::vs)| _,_=>none)=_;rw[uI gs];rfl
def Ej(p:Nat):∀gs:List Nat,QS (.int (p:Int)) (gs.map λg:Nat=>V.int (g:Int))=decide (p∈gs)
 | []=>rfl
 | g::gs=>by
  show(((g:Int)==(p:Int))|| QS (.int (p:Int)) (gs.map λg:Nat=>V.int (g:Int)))=_;rw[Ej p gs];by_cases h:g=p
  ·subst h;simp
  ·have h1:((g:Int)==(p:Int))=false:=by simpa usingλz:(g:Int)=p=>h ()
   rw[h1,Bool.false_or];have:(p∈g::gs)↔p∈gs:=⟨λz=>(aaD.mp z).resolve_left (λe=>h e.symm),aac _⟩;simp[this]
def gw(n:Nat)(gs:List Nat):Sp:=(List.range n).map λp=>if p∈gs then some 0 else none
def y9(h:p < n):at_ (gw n gs) p=if p∈gs then some 0 else none:=by unfold at_ gw;rw[aab,aak,aaO h];rfl
def Gb{γ:List Rw}(g:bZ γ gs)(f:Ib γ):Hj γ gs 1 (gw γ.length gs):=by
 have out:∀p n,at_ (gw γ.length gs) p=some n->p < γ.length/\p∈gs/\n=0:=λp n e=>by
  by_cases hp:p < γ.length
  ·rw[y9 hp]at e;split at e
   ·rename_i hg;cases e;exact⟨hp,hg,rfl⟩
   ·cases e
  ·unfold at_ gw at e;rw[List.getD_eq_getElem?_getD,List.getElem?_eq_none (by simp;omega)]at e;cases e
 refine⟨by unfold gw;simp,λp n e=>by have⟨_,_,rfl⟩:=out p n e;exact Nat.zero_lt_one,λp q hr=>y9 (List.getElem?_eq_some_iff.mp hr).1,λp kd ds n hr e=>?_,λp kd ds hr e=>?_⟩
 ·have⟨_,hg,_⟩:=out p n e;have⟨q,hq⟩:=g.fin p hg;rw[hr]at hq;cases hq
 ·have any:∀x∈aQ (gw γ.length gs) ds,x=none\/x=some (1 - 1):=λx hx=>by
   have⟨d,hd,ed⟩:=aa.mp hx;cases x with
   | none=>exact .inl rfl
   | some v=>have⟨_,_,rfl⟩:=out _ _ ed;exact .inr rfl
  by_cases hk:kd="other"
  ·rw[aaq hk];have l6:=j4 f (aai hr);cases ds with
   | nil=>exact aay l6.1 @_
   | cons d ds=>exact⟨_,aad,any _ aad⟩
  ·rw[aau hk];exact any
def jo(S:Sp):List Nat:=(List.range S.length).filter λp=>(at_ S p).isNone
def vg:∀(S:Sp) (n:Nat),((gY n (S.map eU)).filter (λx=>match x with| .tup [_,.aY]=>true| _=>false)).map (λx=>match x with| .tup [i,_]=>i| _=>.aY)=(jo S).map λj=>bH (n+j)
 | [],n=>rfl
 | o::S,n=>by
  have ih:=vg S (n+1);have e1:jo (o::S)=(if o.isNone then [0] else [])++(jo S).map Nat.succ:=by
   unfold jo;rw[aaJ,abC,List.filter_cons];have:((List.map Nat.succ (List.range S.length)).filter λp=>(at_ (o::S) p).isNone)=((List.range S.length).filter λp=>(at_ S p).isNone).map Nat.succ:=by rw[List.filter_map];rfl
   rw[this];show(if o.isNone=true then _ else _)=_;split <;> rfl
  rw[e1,aa2,aaN];have e2:(jo S).map ((λj=>bH (n+j)) ∘ Nat.succ)=(jo S).map λj=>bH (n+1+j):=abi λj _=>by
   show bH (n+(j+1))=bH (n+1+j)
   congr 1;omega
  rw[e2,<-ih];cases o with
  | none=>rfl
  | some v=>rfl
def G8(C:Addr):DF:=λas M q _=>∃ε γ g gs ok,as=[ar C ε γ,g]/\j1 M g=some (gs.map bH,ok)/\ok M/\hZ M g=some (gs.map bH)/\bZ γ gs/\Ib γ/\∀S,aK γ gs S->q (.tup [.loc (M.length+1),.loc M.length]) (M++[.lst (S.map eU),.lst ((jo S).map bH)])
def ix:Γ ["floor","goals","steps","many","drawn","place","shut"] ["floor","goals"] (χ Ii):=.of rfl
def Lu(F:dE K "draw" "draw" Ii f fd)(E:Ev K mg Cm){yL:Addr}{Aw:FuncData}(iY:aE P w K mg base 2 "check_goals" ["floor","goals"] (pH Cm) yL Aw)(ai:fG P w K mg base 1 Cm "size" ["self"] (r8 Cm) bF bD){Bt:Addr}{CH:FuncData}(gX:aE P w K mg base 4 "drawn_next" ["floor","steps"] (qS Cm) Bt CH):aw P w K mg base (cP P w) 5 f fd ["floor","goals"] (dw K (G8 Cm)):=by
 refine F.eF ix (λds M q x h=>?_) (λbz A outer s H E' hr=>⟨_,(ζ (fg (ao iY hr ξ (Ν (jv 0) (Ν (jv 1) η))))
   (ζ (mW (i:=2) ix.nd rfl (Or.inl rfl) (ys:=["goals"]) (Θ:=[1]) (.of ix rfl rfl rfl) (uZ (bO E.bI (ι (gS ai hr ξ (jv 0)) η bC))) (λC s H fp=>(Jb (BP (jv 0) (jv 1)) ο yi)))
   (ζ (ψ 3 ix.nd ο)
   (ζ (ψ 4 ix.nd (ao gX hr ξ (Ν (jv 0) (Ν (jv 2) η))))
   (ζ (jK (pw (cZ E.bW (Ν (jv 4) η)) ο) (ζ (b6 (aR (jv 4)) (ae (i:=5) ix.nd rfl (Or.inl rfl)) aA (θ (jN (jv 2) (jv 5) (jv 3))))
   (ζ (ψ 3 ix.nd (cJ (jv 3) ο))
   (θ (ψ 4 ix.nd (ao gX hr ξ (Ν (jv 0) (Ν (jv 2) η))))))))
   (ζ (tN (i:=6) ix.nd rfl (Or.inl rfl) (ys:=[]) (Θ:=[]) (.of ix rfl rfl rfl) (mU E.cB (Ν (jv 2) η)) (λC s H fp=>(BN (jv 1) yi)) (λC s H fp=>(jv 0)))
   (θ (Δ (cY (Ν (jv 6) (Ν (jv 2) η))))))))))),λds M q x h=>?_⟩)
 ·have⟨ε,γ,g,gs,ok,rfl,_⟩:=h;rfl
 ·have⟨ε,γ,g,gs,ok,rfl,hg,aX,TJ,go,f,h⟩:=h;have Uj:=f.len;refine⟨ε,γ,g,gs,ok,rfl,hg,aX,go,?_⟩;refine⟨⟨_,_,.inl rfl,rfl⟩,ε,γ,rfl,?_⟩;refine⟨⟨(),()⟩,by rw[c9];exact aaw (show _<=12 by omega) @_,?_⟩;refine dt (f:=λx=>match x with| .int j=>eU (if j.toNat∈gs then some 0 else none)| _=>.aY) trivial (λx hx q' ku=>?_) ?_
  ·have⟨j,YV,rfl⟩:=gy hx;have ku:q' (eU (if (0+(j:Int)).toNat∈gs then some 0 else none)) M:=ku;rw[show(0+(j:Int)).toNat=j by omega]at ku;rw[show(0+(j:Int))=(j:Int) by omega];refine⟨.int (j:Int),gs.map bH,_,rfl,TJ,uI gs,?_⟩;rw[Ej];refine⟨λz=>?_,λz=>?_⟩
   ·rw[aaq (aav z)]at ku;exact ku
   ·rw[aau (aa1 z)]at ku;exact ku
  have e0:([]:List Dt)++(cw 0 ((γ.length:Int)).toNat).map (λx=>match x with| .int j=>eU (if j.toNat∈gs then some 0 else none)| _=>.aY)=(gw γ.length gs).map eU:=by
   unfold cw gw;rw[aaH,aaN,aaN,show((γ.length:Int)).toNat=γ.length by omega];exact abi λj _=>by show eU (if (0+(j:Int)).toNat∈gs then some 0 else none)=_;rw[show(0+(j:Int)).toNat=j by omega];rfl
  rw[e0];have d0:=Gb go f;refine⟨ε,γ,M.length,gw γ.length gs,rfl,by simp,d0.len,f,?_⟩;refine⟨λm ρ M'=>∃(S:Sp) (mm:Nat) (a b:Option Dt),Hj γ gs mm S/\1<=mm/\m=pN S/\M'=M++[.lst (S.map eU)]/\ρ=[some (ar Cm ε γ),some g,some (.loc M.length),some (.int (mm:Int)),some (.lst ((ba γ S).map bH)),a,b],⟨_,gw γ.length gs,1,none,none,d0,aaj _,rfl,rfl,rfl⟩,?_⟩;rintro m ρ M' ⟨S,mm,a,b,di,m1,rfl,rfl,rfl⟩;have FL:∀p∈ba γ S,p < S.length:=λp hp=>by rw[di.len];exact(fo.mp hp).1
  have Si:∀p∈ba γ S,at_ S p=none:=λp hp=>by
   have:=(fo.mp hp).2;unfold aS at this;split at this
   ·rw[aaC]at this;exact Option.isNone_iff_eq_none.mp this.1
   ·cases this
  have Xl:(ba γ S).Nodup:=List.Pairwise.filter _ aci;walk_at "vc";refine(aF (d:=.lst ((ba γ S).map bH)) (xs:=(ba γ S).map bH) rfl ?_:gH [.lst ((ba γ S).map bH)] _ _);refine⟨λz=>?_,λz=>?_⟩
  ·have z:((((ba γ S).map bH).length:Nat):Int) > 0:=aav z;rw[aae]at z;refine⟨λρ' Qa=>∃(a b:Option Dt),Qa=M++[.lst ((c7 mm (ba γ S) S).map eU)]/\ρ'=[some (ar Cm ε γ),some g,some (.loc M.length),some (.int ((mm+1:Nat):Int)),some (.lst ((ba γ (c7 mm (ba γ S) S)).map bH)),a,b],?_,?_⟩
   ·rintro ρ' Qa ⟨a',b',rfl,rfl⟩;have ho:=zU (m:=mm) (ba γ S) S Xl λp hp=>⟨FL p hp,Si p hp⟩;exact⟨_,(),c7 mm (ba γ S) S,mm+1,a',b',uL di m1,(),rfl,rfl,rfl⟩
   ·refine aZ (i:=4) (d:=.lst ((ba γ S).map bH)) rfl rfl ?_;refine aV (λxs ρ Qa=>∃(done rest:List Nat) (a b:Option Dt),ba γ S=done++rest/\xs=rest.map bH/\Qa=M++[.lst ((c7 mm done S).map eU)]/\ρ=[some (ar Cm ε γ),some g,some (.loc M.length),some (.int (mm:Int)),some (.lst ((ba γ S).map bH)),a,b]) (λxs ρ Qa hj=>trivial) (λx xs ρ Qa hj fH=>?_) (λρ Qa hj=>?_) _ _ _ ⟨[],ba γ S,a,b,rfl,rfl,rfl,rfl⟩
    ·have⟨done,rest,a',b',er,ex,rfl,rfl⟩:=hj;cases rest with
     | nil=>cases ex
     | cons p rest=>
      cases ex;have hp:=FL p (by rw[er];simp);refine⟨M.length,(p:Int),(c7 mm done S).map eU,p,rfl,rfl,by simp,by rw[List.length_map,lC];exact rX hp,?_⟩;refine fH _ _ ⟨done++[p],rest,_,_,by rw[er];simp,rfl,?_,rfl⟩;rw[sA];simp[List.set_append,List.map_set];rfl
    ·have⟨done,rest,a',b',er,ex,rfl,rfl⟩:=hj;cases rest with
     | nil=>
      rw[aaY]at er;subst er;have ds:=uL di m1;exact⟨ε,γ,M.length,c7 mm (ba γ S) S,rfl,by simp,ds.len,f,_,_,rfl,rfl⟩
     | cons p rest=>cases ex
  ·have z:¬((((ba γ S).map bH).length:Nat):Int) > 0:=aa1 z;rw[aae]at z;have XY:ba γ S=[]:=List.length_eq_zero_iff.mp ();have dok:=JQ di XY;have ZN:(M++[MO.lst (S.map eU)])[M.length]? =some (.lst (S.map eU)):=by simp
   have hlk:iz (M++[MO.lst (S.map eU)]) (.loc M.length)=some (S.map eU,λM':Ms=>M'[M.length]? =some (MO.lst (S.map eU))):=by show(match (M++[MO.lst (S.map eU)])[M.length]? with| some (MO.lst xs)=>some (xs,λM':Ms=>M'[M.length]? =some (MO.lst xs))| _=>none)=_;rw[ZN]
   refine⟨.loc M.length,S.map eU,_,rfl,hlk,by rw[fU,aae,di.len];exact aaw Uj @_,?_⟩;refine dh ZN (λx=>match x with| .tup [_,.aY]=>true| _=>false) (λx=>match x with| .tup [i,_]=>i| _=>.aY) _ _ (λx hx q' p' h1 h2=>?_) ?_
   ·have⟨j,hj,ej⟩:=aba hx;have⟨y,hy,rfl⟩:=n8 (n:=0) (i:=j) (aaf.mpr ⟨hj,ej⟩);rw[aak]at hy;have⟨o,ho,rfl⟩:=ab3.mp hy;cases o with
    | none=>exact h1 rfl
    | some v=>exact h2 rfl
   ·rw[aaH,vg S 0];have e4:(jo S).map (λj=>bH (0+j))=(jo S).map bH:=abi λj _=>by rw[aa7]
    rw[e4];refine⟨gV,?_⟩;have:=h S dok;rw[aah,aaI];exact this
def nF{a b:Fr}(ha:0 < a.2)(hb:0 < b.2):a.1 * b.2<=b.1 * a.2↔val a<=val b:=by
 have e1:val a * (a.2:Rat)=a.1:=by
  have:=bq (show a.2≠0 by omega);unfold val;generalize (a.1:Rat)=x at *
  generalize (a.2:Rat)=y at *
  grind
 have e2:val b * (b.2:Rat)=b.1:=by
  have:=bq (show b.2≠0 by omega);unfold val;generalize (b.1:Rat)=x at *
  generalize (b.2:Rat)=y at *
  grind
 have p1:(0:Rat) < (a.2:Rat):=aaP.mpr ha;have p2:(0:Rat) < (b.2:Rat):=aaP.mpr hb;have pp:=Rat.mul_pos p1 p2;rw[<-abc,aa3,aa3,<-e1,<-e2];generalize (a.2:Rat)=y at *
 generalize (b.2:Rat)=z at *
 generalize val a=u at *
 generalize val b=v at *
 constructor
 ·intro h;by_cases c:u<=v
  ·exact c
  ·have:=Rat.mul_pos (show 0 < u - v by grind) pp;grind
 ·intro h;have:=Rat.mul_le_mul_of_nonneg_right h (Rat.le_of_lt pp);grind
def sL(ns:List Fr):Fr:=ns.foldl (λf n=>if dW f n then n else f) (ns.headD (0,1))
def qB(ns:List Fr):Fr:=ns.foldl (λf n=>if dW n f then n else f) (ns.headD (0,1))
def BW:DF:=λas M q _=>∃p r k l,as=[av p,av r]/\Sz k p/\Sz l r/\k+l+1<=8000/\q (.bl (dW p r)) M
def Lv:Γ ["one","other"] ["one","other"] (χ AR):=.of rfl
def IQ(F:dE K "under" "under" AR f fd)(E:Ev K mg Cm):aw P w K mg base (cP P w) 1 f fd ["one","other"] (dw K BW):=by
 refine F.eF Lv (λds M q x h=>?_) (λbz A outer s H E' hr=>⟨_,(θ (Δ (Kj (aP (Ε (jv 0) ο) (Ε (jv 1) ο)) (aP (Ε (jv 1) ο) (Ε (jv 0) ο))))),λds M q x h=>?_⟩)
 ·have⟨p,r,k,l,rfl,_⟩:=h;rfl
 ·have⟨p,r,k,l,rfl,hp,vh,hk,h⟩:=h;exact⟨⟨iZ hp (),fV vh ()⟩,⟨iZ vh (),fV hp ()⟩,h⟩
def vQ(f:List Fr->Fr):DF:=λas M q _=>∃ns:List Fr,as=[.lst (ns.map av)]/\ns≠[]/\(∀n∈ns,Sz 1300 n)/\q (av (f ns)) M
def i0:Γ ["numbers","found","number"] ["numbers"] (χ nZ):=.of rfl
def Ah(F:dE K "greatest" "greatest" nZ f fd)(E:Ev K mg Cm){AS:Addr}{CI:FuncData}(kO:aE P w K mg base 1 "under" ["one","other"] BW AS CI):aw P w K mg base (cP P w) 2 f fd ["numbers"] (dw K (vQ sL)):=by
 refine F.eF i0 (λds M q x h=>?_) (λbz A outer s H E' hr=>⟨_,(ζ (ψ 1 i0.nd (Ε (jv 0) ο))
   (ζ (b6 (aR (jv 0)) (ae (i:=2) i0.nd rfl (Or.inl rfl)) aA (θ (aH (gG (ao kO hr ξ (Ν (jv 1) (Ν (jv 2) η)))) (θ (ψ 1 i0.nd (jv 2))) Μ)))
   (θ (Δ (jv 1))))),λds M q x h=>?_⟩)
 ·have⟨ns,rfl,_⟩:=h;rfl
 ·have⟨ns,rfl,h0,hn,h⟩:=h;have⟨n0,ns',rfl⟩:=abQ h0;walk_at "vc";refine Β (d:=.lst ((n0::ns').map av)) rfl cf ?_;refine aZ (i:=0) (d:=.lst ((n0::ns').map av)) rfl rfl ?_;refine aV (λxs ρ M'=>M'=M/\∃(rest:List Fr) (f:Fr) (a:Option Dt),xs=rest.map av/\(∀p∈rest,Sz 1300 p)/\Sz 1300 f/\rest.foldl (λf n=>if dW f n then n else f) f=sL (n0::ns')/\ρ=[some (.lst ((n0::ns').map av)),some (av f),a]) (λxs ρ M' hj=>trivial) (λx xs ρ M' hj fH=>?_) (λρ M' hj=>?_) _ _ _ ⟨rfl,n0::ns',n0,none,rfl,hn,hn n0 aad,rfl,rfl⟩
  ·have⟨rfl,rest,f,a,ex,sQ,hw,hf,rfl⟩:=hj;cases rest with
   | nil=>cases ex
   | cons p rest=>
    cases ex;have hp:=sQ p aad;rw[abM]at hf;refine⟨f,p,1300,1300,rfl,hw,hp,@_,λz=>?_,λz=>?_⟩
    ·rw[z,aaq rfl]at hf;exact fH _ _ ⟨rfl,rest,p,_,rfl,λp hp=>sQ p (aac _ hp),hp,hf,rfl⟩
    ·rw[z,aau @_]at hf;exact fH _ _ ⟨rfl,rest,f,_,rfl,λp hp=>sQ p (aac _ hp),hw,hf,rfl⟩
  ·have⟨rfl,rest,f,a,ex,sQ,hw,hf,rfl⟩:=hj;cases rest with
   | nil=>rw[<-hf]at h;exact h
   | cons p rest=>cases ex
def qo:Γ ["numbers","found","number"] ["numbers"] (χ Bm):=.of rfl
def Ih(F:dE K "least" "least" Bm f fd)(E:Ev K mg Cm){AS:Addr}{CI:FuncData}(kO:aE P w K mg base 1 "under" ["one","other"] BW AS CI):aw P w K mg base (cP P w) 2 f fd ["numbers"] (dw K (vQ qB)):=by
 refine F.eF qo (λds M q x h=>?_) (λbz A outer s H E' hr=>⟨_,(ζ (ψ 1 qo.nd (Ε (jv 0) ο))
   (ζ (b6 (aR (jv 0)) (ae (i:=2) qo.nd rfl (Or.inl rfl)) aA (θ (aH (gG (ao kO hr ξ (Ν (jv 2) (Ν (jv 1) η)))) (θ (ψ 1 qo.nd (jv 2))) Μ)))
   (θ (Δ (jv 1))))),λds M q x h=>?_⟩)
 ·have⟨ns,rfl,_⟩:=h;rfl
 ·have⟨ns,rfl,h0,hn,h⟩:=h;have⟨n0,ns',rfl⟩:=abQ h0;walk_at "vc";refine Β (d:=.lst ((n0::ns').map av)) rfl cf ?_;refine aZ (i:=0) (d:=.lst ((n0::ns').map av)) rfl rfl ?_;refine aV (λxs ρ M'=>M'=M/\∃(rest:List Fr) (f:Fr) (a:Option Dt),xs=rest.map av/\(∀p∈rest,Sz 1300 p)/\Sz 1300 f/\rest.foldl (λf n=>if dW n f then n else f) f=qB (n0::ns')/\ρ=[some (.lst ((n0::ns').map av)),some (av f),a]) (λxs ρ M' hj=>trivial) (λx xs ρ M' hj fH=>?_) (λρ M' hj=>?_) _ _ _ ⟨rfl,n0::ns',n0,none,rfl,hn,hn n0 aad,rfl,rfl⟩
  ·have⟨rfl,rest,f,a,ex,sQ,hw,hf,rfl⟩:=hj;cases rest with
   | nil=>cases ex
   | cons p rest=>
    cases ex;have hp:=sQ p aad;rw[abM]at hf;refine⟨p,f,1300,1300,rfl,hp,hw,@_,λz=>?_,λz=>?_⟩
    ·rw[z,aaq rfl]at hf;exact fH _ _ ⟨rfl,rest,p,_,rfl,λp hp=>sQ p (aac _ hp),hp,hf,rfl⟩
    ·rw[z,aau @_]at hf;exact fH _ _ ⟨rfl,rest,f,_,rfl,λp hp=>sQ p (aac _ hp),hw,hf,rfl⟩
  ·have⟨rfl,rest,f,a,ex,sQ,hw,hf,rfl⟩:=hj;cases rest with
   | nil=>rw[<-hf]at h;exact h
   | cons p rest=>cases ex
def uE{f n:Fr}(h1:0 < f.2)(h2:0 < n.2):dW f n=true↔val f < val n:=by
 unfold dW;rw[aaZ];have:=nF h2 h1;constructor
 ·intro h;by_cases c:val n<=val f
  ·have:=this.mpr c;omega
  ·grind
 ·intro h;by_cases c:n.1 * f.2<=f.1 * n.2
  ·have:=this.mp c;grind
  ·omega
def lD:∀(ns:List Fr) (f:Fr),0 < f.2->(∀n∈ns,0 < n.2)->(ns.foldl (λf n=>if dW f n then n else f) f∈f::ns)/\val f<=val (ns.foldl (λf n=>if dW f n then n else f) f)/\∀n∈ns,val n<=val (ns.foldl (λf n=>if dW f n then n else f) f)
 | [],f,_,_=>⟨List.mem_cons_self,by show val f<=val f;grind,λ_ z=>nomatch z⟩
 | a::ns,f,h,hn=>by
  have ha:=hn a aad;have u:=uE h ha;rw[abM];by_cases c:dW f a=true
  ·rw[aaq c];have⟨m,l,al⟩:=lD ns a ha λn z=>hn n (aac _ z);have:=u.mp c;refine⟨List.mem_cons_of_mem _ m,by grind,λn z=>?_⟩;rcases aaD.mp z with e| e
   ·rw[e];exact l
   ·exact al n e
  ·rw[aau c];have⟨m,l,al⟩:=lD ns f h λn z=>hn n (aac _ z);have c2:¬val f < val a:=λz=>c (u.mpr z);refine⟨?_,l,λn z=>?_⟩
   ·rcases aaD.mp m with e| e
    ·rw[e];exact aad
    ·exact aac _ (aac _ e)
   ·rcases aaD.mp z with e| e
    ·rw[e];grind
    ·exact al n e
def l7:∀(ns:List Fr) (f:Fr),0 < f.2->(∀n∈ns,0 < n.2)->(ns.foldl (λf n=>if dW n f then n else f) f∈f::ns)/\val (ns.foldl (λf n=>if dW n f then n else f) f)<=val f/\∀n∈ns,val (ns.foldl (λf n=>if dW n f then n else f) f)<=val n
 | [],f,_,_=>⟨List.mem_cons_self,by show val f<=val f;grind,λ_ z=>nomatch z⟩
 | a::ns,f,h,hn=>by
  have ha:=hn a aad;have u:=uE ha h;rw[abM];by_cases c:dW a f=true
  ·rw[aaq c];have⟨m,l,al⟩:=l7 ns a ha λn z=>hn n (aac _ z);have:=u.mp c;refine⟨List.mem_cons_of_mem _ m,by grind,λn z=>?_⟩;rcases aaD.mp z with e| e
   ·rw[e];exact l
   ·exact al n e
  ·rw[aau c];have⟨m,l,al⟩:=l7 ns f h λn z=>hn n (aac _ z);have c2:¬val a < val f:=λz=>c (u.mpr z);refine⟨?_,l,λn z=>?_⟩
   ·rcases aaD.mp m with e| e
    ·rw[e];exact aad
    ·exact aac _ (aac _ e)
   ·rcases aaD.mp z with e| e
    ·rw[e];grind
    ·exact al n e
def fi(k:Str):Rat:=if k="one" then 1 else -1
structure FR(ε:Fr)(γ:List Rw):Prop where
 pl:Sk ε γ
 n1:1<=γ.length
 Xl:∀k ds,Rw.τ k ds∈γ->Ο k=true->∀d∈ds,d.2.2=[]
def bV(γ:List Rw)(i:Nat):Rw:=γ.getD i (.fin (0,1))
def rw_at{γ:List Rw}(h:i < γ.length):γ[i]? =some (bV γ i):=by unfold bV;rw[aab,aaa h];rfl
def br{γ:List Rw}{r:Rw}(hi:γ[i]? =some r):bV γ i=r:=by unfold bV;rw[aab,hi];rfl
def FR.DL{ε:Fr}{γ:List Rw}(h:FR ε γ):Ib γ:=⟨h.pl.len,h.pl.row⟩
def wK{ds:List aO}(o:wk (ds.map ν)):∀d∈ds,0 < cV d:=λd hd=>by
 have hm:ν d∈ds.map ν:=aan.mpr ⟨d,hd,rfl⟩;have⟨_,_,hB⟩:=fq (ds.map ν) 1 0 @_ (abT _) λc hc=>⟨(o.Gp.2 c hc).1,abT _⟩;have e:=BO (o.Gp.2 _ hm).1 (hB _ hm);have p:(0:Rat) < ((jI (a_ (ds.map ν)) (ν d):Int):Rat):=aaP.mpr (o.pos _ hm);have b0:(0:Rat) < ((a_ (ds.map ν):Int):Rat):=aaP.mpr o.b0;have e:((jI (a_ (ds.map ν)) (ν d):Int):Rat)=val (ν d) * ((a_ (ds.map ν):Int):Rat):=e;rw[e]at p;show 0 < val (ν d);by_cases z:0 < val (ν d)
 ·exact z
 ·have:=Rat.mul_nonneg (show 0<= -val (ν d) by grind) (Rat.le_of_lt b0);grind
structure Zw(n:Nat)(B:Int)(d:aO):Prop where
 to:0<=d.1/\d.1 < n
 one:d.2.2=[ν d]
 ch:Ch B (ν d)
 p:0 < cV d
section
variable{ε:Fr}{γ:List Rw}{acc acc':Pl}{tb tb':List Fr}{k:Str}{ds:List aO}
def gu(fr:FR ε γ)(hi:γ[i]? =some (.τ k ds))(hh:Ο k=true)(gj:Λ acc i=some (j:Int))(jl:j < ds.length):eN acc i (.τ k ds)=[(ds[j].1,ds[j].2.1,[(1,1)])]:=by
 have gd:ds.getD j d0=ds[j]:=by rw[aab,aaa jl];rfl
 unfold eN;rw[gj];show[((ds.getD ((j:Int)).toNat d0).1,(ds.getD ((j:Int)).toNat d0).2.1,(ds.getD ((j:Int)).toNat d0).2.2++[(1,1)])]=_;rw[aaW,gd,fr.Xl k ds (aai hi) hh _ (aal jl)];rfl
def k_:val ((1,1):Fr)=1:=by show((1:Int):Rat) / ((1:Int):Rat)=1;grind
def lB:val ((0,1):Fr)=0:=by show((0:Int):Rat) / ((1:Int):Rat)=0;grind
def FR.Ρ(fr:FR ε γ)(dk:oS γ acc)(hi:γ[i]? =some (.τ k ds)):(eN acc i (.τ k ds)).length<=6/\aj cV (eN acc i (.τ k ds))=1/\∃B,0 < B/\B<=1000000/\∀d∈eN acc i (.τ k ds),Zw γ.length B d:=by
 have rm:Rw.τ k ds∈γ:=aai hi;have dr:=b9 fr.pl rm;cases hh:Ο k with
 | true=>
  have⟨j,hj,jl⟩:=dk.hand i _ hi hh;have jl:j < ds.length:=jl;have v1:cV (ds[j].1,ds[j].2.1,[((1,1):Fr)])=1:=k_;rw[gu fr hi hh hj jl];refine⟨by simp,?_,1,@_,@_,λd hd=>?_⟩
  ·show cV (ds[j].1,ds[j].2.1,[(1,1)])+0=1;rw[v1];grind
  ·rw[aaV.mp hd];refine⟨dr.to ds[j] (List.getElem_mem jl),rfl,?_,by rw[v1];grind⟩;show Ch 1 ((1,1):Fr);exact⟨@_,⟨1,@_⟩,⟨@_,@_⟩,w4 (k:=2) ⟨@_,@_,@_⟩ @_⟩
 | false=>
  have hc:k="chance"/\wk (ds.map ν):=by
   rcases dr.kd with z| ⟨_,z⟩
   ·rw[z]at hh;cases hh
   ·exact z
  have⟨rfl,co⟩:=hc;have e:eN acc i (.τ "chance" ds)=ds:=by unfold eN;rw[dk.GY i _ hi hh];rfl
  rw[e];refine⟨dr.l6,(mY co).1,a_ (ds.map ν),co.b0,co.b1,λd hd=>?_⟩;have⟨a,b,c,f⟩:=D5 co (aan.mpr ⟨d,hd,rfl⟩);exact⟨dr.to d hd,(dr.ro.2.2.1 rfl).1 d hd,⟨a,Hz b,c,f⟩,wK co d hd⟩
def qb(S:Sp)(i:Nat):Prop:=∃s,at_ S i=some (s+1)
def gm(γ:List Rw)(S:Sp)(acc:Pl)(i:Nat):List aO:=match at_ S i with
 | some (_+1)=>eN acc i (bV γ i)
 | _=>[]
def oR(S:Sp)(i:Nat):Fr:=match at_ S i with
 | some 0=>(1,1)
 | _=>(0,1)
def jf(h:qb S i):gm γ S acc i=eN acc i (bV γ i):=by have⟨s,e⟩:=h;unfold gm;rw[e]
def tE(h:¬qb S i):gm γ S acc i=[]:=by
 unfold gm;split
 ·rename_i s e;exact aay ⟨s,e⟩ h
 ·rfl
def NP(h:qb S i):oR S i=(0,1):=by have⟨s,e⟩:=h;unfold oR;rw[e];rfl
def jC(dr:aK γ gs S)(il:i < γ.length)(h:qb S i):∃k ds,γ[i]? =some (.τ k ds):=by
 have hi:=rw_at il;have⟨s,e⟩:=h;have:=dr.2 i _ hi;cases hr:bV γ i with
 | τ k ds=>rw[hr]at hi;exact⟨k,ds,hi⟩
 | fin p=>
  rw[hr]at this;have this:at_ S i=if i∈gs then some 0 else none:=this
  rw[e]at this;split at this <;> cases this
def ot(fr:FR ε γ)(dk:oS γ acc)(dr:aK γ gs S)(il:i < γ.length)(h:qb S i):(gm γ S acc i).length<=6/\aj cV (gm γ S acc i)=1/\∃B,0 < B/\B<=1000000/\∀d∈gm γ S acc i,Zw γ.length B d:=by have⟨k,ds,hi⟩:=jC dr il h;rw[jf h,br hi];exact fr.Ρ dk hi
def NT{p:Fr}(e0:0 < E)(h:p=(0,1)\/p=(1,1)):Nr E 7 p:=by
 rcases h with rfl| rfl
 ·exact⟨⟨@_,@_⟩,⟨0,by simp⟩,⟨@_,@_⟩⟩
 ·exact⟨⟨@_,@_⟩,⟨E,by simp⟩,⟨@_,@_⟩⟩
def HF:oR S i=(0,1)\/oR S i=(1,1):=by
 unfold oR;split
 ·exact .inr rfl
 ·exact .inl rfl
def PH(fr:FR ε γ)(dk:oS γ acc)(dr:aK γ gs S)(il:i < γ.length):∃E,C3 (1,1) γ.length E 7 (gm γ S acc i) (oR S i)/\7 * E<=7000000/\Z1 E 7/\(∀d∈gm γ S acc i,∃c,d.2.2=[c])/\∀d∈gm γ S acc i,Sz 300 (ν d):=by
 by_cases h:qb S i
 ·have⟨l6,one,B,b0,b1,hw⟩:=ot (acc:=acc) fr dk dr il h;generalize gm γ S acc i=ws at *
  refine⟨B,⟨⟨λd hd=>(hw d hd).to,λd hd=>Rat.le_of_lt (hw d hd).p,by rw[one];grind⟩,λd hd=>⟨@_,⟨@_,@_⟩,(hw d hd).ch.pos,(hw d hd).ch.u,?_⟩,NT b0 HF,b0,()⟩,(),⟨Int.lt_of_le_of_lt b1 @_,@_⟩,λd hd=>⟨_,(hw d hd).one⟩,λd hd=>(hw d hd).ch.sz⟩;have:=Bk @_ (hw d hd).ch.pos (F_ ((1,1):Fr)) (hw d hd).ch.he;rwa[Int.one_mul]at this
 ·rw[tE h];exact⟨1,⟨⟨λ_ z=>(nomatch z),λ_ z=>(nomatch z),by show(0:Rat)<=1;grind⟩,λ_ z=>(nomatch z),NT @_ HF,@_,by show 1+0<=(7:Int);decide⟩,@_,⟨@_,@_⟩,λ_ z=>(nomatch z),λ_ z=>(nomatch z)⟩
def wx{z:aO->Rat}{m:Rat}:∀{Ρ:List aO},(∀d∈Ρ,0 < cV d)->(∀d∈Ρ,z d<=m)->aj (λd=>cV d * z d) Ρ<=aj cV Ρ * m
 | [],_,_=>by show(0:Rat)<=0 * m;grind
 | a::Ρ,h1,h2=>by have ih:=wx (Ρ:=Ρ) (λd hd=>h1 d (aac _ hd)) (λd hd=>h2 d (aac _ hd));have:=abu (h2 a aad) (Rat.le_of_lt (h1 a aad));show cV a * z a+aj (λd=>cV d * z d) Ρ<=(cV a+aj cV Ρ) * m;grind
def xD{z:aO->Rat}{m:Rat}:∀{Ρ:List aO},(∀d∈Ρ,0 < cV d)->(∀d∈Ρ,z d<=m)->aj cV Ρ * m<=aj (λd=>cV d * z d) Ρ->∀d∈Ρ,z d=m
 | a::Ρ,h1,h2,h,d,hd=>by
  have le:=wx (Ρ:=Ρ) (λd hd=>h1 d (aac _ hd)) (λd hd=>h2 d (aac _ hd));have ca:=h1 a aad;have za:=h2 a aad;have h:(cV a+aj cV Ρ) * m<=cV a * z a+aj (λd=>cV d * z d) Ρ:=h;have la:=abu za (Rat.le_of_lt ca);rcases aaD.mp hd with e| e
  ·rw[e];by_cases c:z a=m
   ·exact c
   ·have:=Rat.mul_pos ca (show 0 < m - z a by grind);grind
  ·exact xD (λd hd=>h1 d (List.mem_cons_of_mem _ hd)) (λd hd=>h2 d (List.mem_cons_of_mem _ hd)) (by grind) d e
def kB(c:Rat)(f:aO->Rat):∀ds:List aO,aj (λd=>c * f d) ds=c * aj f ds
 | []=>by show(0:Rat)=c * 0;grind
 | d::ds=>by show c * f d+aj (λd=>c * f d) ds=c * (f d+aj f ds);rw[kB c f ds];grind
def wQ(C:Nat->Prop)(x:Nat->Rat):∀n,(∃i,i < n/\C i)->∃i,i < n/\C i/\∀j,j < n->C j->x j<=x i
 | 0,⟨i,h,_⟩=>aay h (abN _)
 | n +1,⟨i,h,hc⟩=>by
  by_cases e:∃i,i < n/\C i
  ·have⟨t,tl,tc,tm⟩:=wQ C x n e;by_cases c:C n/\x t<=x n
   ·refine⟨n,(),c.1,λj jl jc=>?_⟩;by_cases ej:j=n
    ·rw[ej];grind
    ·have:=tm j () jc;grind
   ·refine⟨t,(),tc,λj jl jc=>?_⟩;by_cases ej:j=n
    ·subst ej;have:¬x t<=x j:=λz=>c ⟨jc,z⟩;grind
    ·exact tm j () jc
  ·have hi:i=n:=by
    by_cases ei:i=n
    ·exact ei
    ·exact aay ⟨i,(),hc⟩ e
   subst hi;refine⟨i,(),hc,λj jl jc=>?_⟩;by_cases ej:j=i
   ·rw[ej];grind
   ·exact aay ⟨j,(),jc⟩ e
def Nf(γ:List Rw)(S:Sp)(acc:Pl):Prop:=∀C:Nat->Prop,(∀i,i < γ.length->C i->qb S i/\∀d∈gm γ S acc i,C d.1.toNat)->∀i,i < γ.length->¬C i
def JR(fr:FR ε γ)(dk:oS γ acc)(dr:aK γ gs S)(pr:Nf γ S acc){y:Nat->Rat}(h:∀i,i < γ.length->qb S i->y i<=aj (λd=>cV d * y d.1.toNat) (gm γ S acc i))(h0:∀i,i < γ.length->¬qb S i->y i<=0):∀i,i < γ.length->y i<=0:=λi il=>by
 have⟨t,tl,_,tm⟩:=wQ (λ_=>True) y γ.length ⟨i,il,trivial⟩;by_cases c:y t<=0
 ·have:=tm i il trivial;grind
 ·refine aay ⟨tl,rfl⟩ (pr (λj=>j < γ.length/\y j=y t) (λj jl hj=>?_) t tl);have e:=hj.2;have sj:qb S j:=by
   by_cases z:qb S j
   ·exact z
   ·have:=h0 j jl z;grind
  refine⟨sj,λd hd=>?_⟩;have⟨_,one,B,_,_,hw⟩:=ot (acc:=acc) fr dk dr jl sj;have tn:∀d∈gm γ S acc j,d.1.toNat < γ.length:=λd hd=>by have:=(hw d hd).to;omega
  exact⟨tn d hd,xD (z:=λd=>y d.1.toNat) (m:=y t) (λd hd=>(hw d hd).p) (λd hd=>tm _ (tn d hd) trivial) (by rw[one,acw,<-e];exact h j jl sj) d hd⟩
def Al(f:aO->Rat)(ds:List aO):aj (λd=> -f d) ds= -aj f ds:=by rw[show(λd=> -f d)=λd=>(-1:Rat) * f d by funext d;grind,kB];grind
def Ri(fr:FR ε γ)(dk:oS γ acc)(dr:aK γ gs S)(pr:Nf γ S acc):Sys (1,1) γ.length 7000000 (gm γ S acc) (oR S):=by
 refine⟨fr.n1,@_,λi il=>?_,λ{y} h=>?_⟩
 ·have⟨E,p,l,_⟩:=PH (acc:=acc) fr dk dr il;exact⟨E,7,p,l⟩
 ·have h:∀k,k < γ.length->y k=aj (λd=>cV d * y d.1.toNat) (gm γ S acc k):=λk kl=>by have:=h k kl;rw[k_,acw]at this;exact this
  have z:∀k,k < γ.length->¬qb S k->y k=0:=λk kl ns=>by have:=h k kl;rw[tE ns]at this;exact this
  have a:=JR fr dk dr pr (y:=y) (λi il _=>by rw[<-h i il];grind) λi il ns=>by rw[z i il ns];grind
  have b:=JR fr dk dr pr (y:=λi=> -y i) (λi il _=>by
   have e:(λd:aO=>cV d * -y d.1.toNat)=λd=> -(cV d * y d.1.toNat):=by funext d;grind
   rw[e,Al,<-h i il];grind) λi il ns=>by rw[z i il ns];grind
  intro k kl;have:=a k kl;have:=b k kl;grind
structure qf(γ:List Rw)(S:Sp)(acc:Pl)(tb:List Fr):Prop where
 tab:Tab (1,1) γ.length (gm γ S acc) (oR S) tb
 bot:∀i,i < γ.length->(tb.getD i (0,1)).2 < 2 ^ 400
abbrev V_(tb:List Fr)(i:Nat):Rat:=val (tb.getD i (0,1))
def qf.st(h:qf γ S acc tb)(il:i < γ.length)(s:qb S i):V_ tb i=aj (λd=>cV d * V_ tb d.1.toNat) (gm γ S acc i):=by have:=h.tab.eq i il;rw[NP s,lB,k_]at this;show val (tb.getD i (0,1))=_;rw[this];grind
def qf.no(h:qf γ S acc tb)(il:i < γ.length)(s:¬qb S i):V_ tb i=val (oR S i):=by have:=h.tab.eq i il;rw[tE s]at this;show val (tb.getD i (0,1))=_;rw[this];show val (oR S i)+val (1,1) * 0=_;grind
def Rm(fr:FR ε γ)(Ul:oS γ acc')(dr:aK γ gs S)(GH:Nf γ S acc')(h:qf γ S acc tb)(h':qf γ S acc' tb'){sg:Rat}(hs:∀i,i < γ.length->qb S i->sg * V_ tb i<=sg * aj (λd=>cV d * V_ tb d.1.toNat) (gm γ S acc' i)):(∀i,i < γ.length->sg * V_ tb i<=sg * V_ tb' i)/\∀i,i < γ.length->qb S i->sg * V_ tb i < sg * aj (λd=>cV d * V_ tb d.1.toNat) (gm γ S acc' i)->sg * V_ tb i < sg * V_ tb' i:=by
 have e:∀i,aj (λd=>cV d * (sg * V_ tb d.1.toNat - sg * V_ tb' d.1.toNat)) (gm γ S acc' i)=sg * aj (λd=>cV d * V_ tb d.1.toNat) (gm γ S acc' i) - sg * aj (λd=>cV d * V_ tb' d.1.toNat) (gm γ S acc' i):=λi=>by rw[<-kB,<-kB,<-nK];exact l_ λd _=>by grind
 have le:=JR fr Ul dr GH (y:=λi=>sg * V_ tb i - sg * V_ tb' i) (λi il st=>by
  have a:=hs i il st;have b:=h'.st il st;rw[e]
  grind) λi il ns=>by
  have a:=h.no il ns;have b:=h'.no il ns;grind
 refine⟨λi il=>by have:=le i il;grind,λi il st lt=>?_⟩;have⟨_,one,B,_,_,hw⟩:=ot (acc:=acc') fr Ul dr il st;have m:=wx (z:=λd=>sg * V_ tb d.1.toNat - sg * V_ tb' d.1.toNat) (m:=0) (Ρ:=gm γ S acc' i) (λd hd=>(hw d hd).p) λd hd=>le _ (by have:=(hw d hd).to;omega);rw[e]at m;have b:=h'.st il st;grind
def qf.unit(fr:FR ε γ)(dk:oS γ acc)(dr:aK γ gs S)(pr:Nf γ S acc)(h:qf γ S acc tb):∀i,i < γ.length->0<=V_ tb i/\V_ tb i<=1:=by
 have g:∀i,0<=val (oR S i)/\val (oR S i)<=1:=λi=>by
  rcases HF (S:=S) (i:=i) with e| e <;> rw[e]
  ·rw[lB];grind
  ·rw[k_];grind
 have a:=JR fr dk dr pr (y:=λi=> -V_ tb i) (λi il st=>by
  have e:(λd:aO=>cV d * -V_ tb d.1.toNat)=λd=> -(cV d * V_ tb d.1.toNat):=by funext d;grind
  rw[e,Al,<-h.st il st];grind) λi il ns=>by
  have:=h.no il ns;have:=g i;grind
 have b:=JR fr dk dr pr (y:=λi=>V_ tb i - 1) (λi il st=>by
  have e:(λd:aO=>cV d * (V_ tb d.1.toNat - 1))=λd=>cV d * V_ tb d.1.toNat - cV d:=by funext d;grind
  rw[e,nK,(ot (acc:=acc) fr dk dr il st).2.1,<-h.st il st];grind) λi il ns=>by
  have:=h.no il ns;have:=g i;grind
 intro i il;have:=a i il;have:=b i il;grind
def qf.sz(fr:FR ε γ)(dk:oS γ acc)(dr:aK γ gs S)(pr:Nf γ S acc)(h:qf γ S acc tb)(il:i < γ.length):Red (tb.getD i (0,1))/\0<=(tb.getD i (0,1)).1/\(tb.getD i (0,1)).1<=(tb.getD i (0,1)).2/\Sz 400 (tb.getD i (0,1)):=by
 have r:=h.tab.red i il;have u:0<=val (tb.getD i (0,1))/\val (tb.getD i (0,1))<=1:=h.unit fr dk dr pr i il;have b:=h.bot i il;generalize tb.getD i (0,1)=p at *
 have p0:=r.pos;have u0:=(nF (a:=(0,1)) (b:=p) @_ p0).mpr (by rw[lB];exact u.1);have u1:=(nF (a:=p) (b:=(1,1)) p0 @_).mpr (by rw[k_];exact u.2);have u0:(0:Int) * p.2<=p.1 * 1:=u0;have u1:p.1 * 1<=1 * p.2:=u1;have c0:0<=p.1:=()
 have c1:p.1<=p.2:=()
 refine⟨r,c0,c1,?_,p0,?_⟩
 ·have:(p.1.natAbs:Int) < ((2 ^ 400:Nat):Int):=by rw[abm c0];exact abh c1 b
  exact abL.mp this
 ·have:(p.2.natAbs:Int) < ((2 ^ 400:Nat):Int):=by rw[abm (aag p0)];exact b
  exact abL.mp this
end
def kE{i:Int}:∀{pl:Pl},i∉pl.map (·.1)->Λ pl i=none
 | [],_=>rfl
 | p::r,h=>by unfold Λ;rw[aau λz=>h (by rw[<-z];exact aad)];exact kE λz=>h (aac _ z)
def bP(γ:List Rw)(i:Nat):Str:=match γ[i]? with
 | some r=>kindOf r
 | none=>""
def fA(γ:List Rw)(hand:Str):List Nat:=(List.range γ.length).filter λi=>decide (bP γ i=hand)
def Bx(γ:List Rw)(hand:Str):Pl:=(fA γ hand).map λi:Nat=>((i:Int),0)
def AN(p:Nat->Bool)(n:Nat):((cw 0 n).filter λx=>match x with| .int j=>p j.toNat| _=>false)=((List.range n).filter p).map λi:Nat=>Dt.int i:=by
 unfold cw;rw[List.filter_map];have e:((λx:Dt=>match x with| .int j=>p j.toNat| _=>false) ∘ λi:Nat=>Dt.int (0+(i:Int)))=p:=funext λi=>by show p (0+(i:Int)).toNat=p i;rw[show(0+(i:Int)).toNat=i by omega]
 rw[e];exact abi λi _=>by show Dt.int (0+(i:Int))=Dt.int i;rw[Int.zero_add]
def xZ(A:Addr):DF:=λas M q _=>∃(ε:Fr) (γ:List Rw) (hand:Str),as=[ar A ε γ,.str hand]/\γ.length<=12/\q (.lst ((fA γ hand).map λi:Nat=>Dt.int i)) M
def rL:Γ ["floor","hand"] ["floor","hand"] (χ oW):=.of rfl
def zN(F:dE K "places_of" "places_of" oW f fd)(E:Ev K mg Cm)(ai:fG P w K mg base 1 Cm "size" ["self"] (r8 Cm) bF bD)(af:fG P w K mg base 1 Cm "kind" ["self","place"] (rO Cm) bG bB):aw P w K mg base (cP P w) 2 f fd ["floor","hand"] (dw K (xZ Cm)):=by
 refine F.eF rL (λds M q x h=>?_) (λbz A outer s H E' hr=>⟨_,(θ (Δ (zw (ys:=["hand","floor"]) (Θ:=[1,0]) (.of rL rfl rfl rfl) (uZ (bO E.bI (ι (gS ai hr ξ (jv 0)) η bC))) (λC s H fp=>(dz hr (gh af hr (fk (P:=P) (w:=w)) (jv 2) (Ν (jv 0) η)) (jv 1))) (λC s H fp=>(jv 0))))),λds M q x h=>?_⟩)
 ·have⟨ε,γ,hand,rfl,_⟩:=h;rfl
 ·have⟨ε,γ,hand,rfl,tI,h⟩:=h;have sl:∀{z:Nat},z<=1000->z<=sizeLine:=λh=>aaw h @_;walk_at "vc";dsimp only[xr,W9];walk_at "vc";refine⟨⟨_,_,.inl rfl,rfl⟩,ε,γ,rfl,?_⟩;refine⟨(),by rw[c9];exact sl (),?_⟩;rw[show((γ.length:Int)).toNat=γ.length by omega];refine dh trivial (λx=>match x with| .int j=>decide (bP γ j.toNat=hand)| _=>false) (λx=>x) _ _ (λx hx q' p' h1 h2=>?_) ?_
  ·have⟨j,hj,rfl⟩:=gy hx;rw[Int.zero_add]at h1 h2⊢;have hr:γ[j]? =some γ[j]:=aaa hj;have Pk:bP γ j=kindOf γ[j]:=by unfold bP;rw[hr]
   have h1:decide (bP γ j=hand)=true->q' (.int (j:Int)) M:=h1;have h2:decide (bP γ j=hand)=false->p' M:=h2;rw[Pk]at h1 h2;refine⟨⟨_,_,.inl rfl,rfl⟩,ε,γ,j,γ[j],rfl,hr,?_⟩;show(match decide (kindOf γ[j]=hand) with| true=>q' (.int (j:Int)) M| false=>p' M);cases hb:decide (kindOf γ[j]=hand) with
   | true=>exact h1 hb
   | false=>exact h2 hb
  ·rw[aaH,List.map_id'];exact(λ(key:∀l,l=(fA γ hand).map (λi:Nat=>Dt.int i)->q (.lst l) M)=>key _ (AN (λi=>decide (bP γ i=hand)) γ.length)) λl hl=>by rw[hl];exact h
def Dx(A:Addr):DF:=λas M q _=>∃(ε:Fr) (γ:List Rw) (hand:Str),as=[ar A ε γ,.str hand]/\γ.length<=12/\q (.loc M.length) (M++[dP (Bx γ hand)])
def kq:Γ ["floor","hand","plan","place"] ["floor","hand"] (χ my):=.of rfl
def yc(F:dE K "first_plan" "first_plan" my f fd)(E:Ev K mg Cm){o_:Addr}{oa:FuncData}(eW:aE P w K mg base 2 "places_of" ["floor","hand"] (xZ Cm) o_ oa):aw P w K mg base (cP P w) 3 f fd ["floor","hand"] (dw K (Dx Cm)):=by
 refine F.eF kq (λds M q x h=>?_) (λbz A outer s H E' hr=>⟨_,(ζ (ψ 2 kq.nd CF)
   (ζ (b6 (aR (ao eW hr ξ (Ν (jv 0) (Ν (jv 1) η)))) (ae (i:=3) kq.nd rfl (Or.inl rfl)) aA (θ (qm hr (jv 2) (jv 3) ο)))
   (θ (Δ (jv 2))))),λds M q x h=>?_⟩)
 ·have⟨ε,γ,hand,rfl,_⟩:=h;rfl
 ·have⟨ε,γ,hand,rfl,tI,h⟩:=h;have Kh:(fA γ hand).length<=12:=by have:=ab7 (λi=>decide (bP γ i=hand)) (List.range γ.length);rw[aa8]at this;unfold fA;omega
  have RT:(fA γ hand).Nodup:=aci.filter _;walk_at "vc";dsimp only[nI,eS];walk_at "vc";refine⟨ε,γ,hand,rfl,tI,?_⟩;refine aV (λxs ρ' M'=>∃(eB rest:List Nat) (o3:Option Dt),fA γ hand=eB++rest/\xs=rest.map (λi:Nat=>Dt.int i)/\M'=M++[dP (eB.map λi:Nat=>((i:Int),0))]/\ρ'=[some (ar Cm ε γ),some (.str hand),some (.loc M.length),o3]) (λxs ρ' M' hj=>trivial) (λx xs ρ' M' hj fH=>?_) (λρ' M' hj=>?_) _ _ _ ⟨[],fA γ hand,none,rfl,rfl,rfl,rfl⟩
  ·have⟨eB,rest,o3,e,ex,rfl,rfl⟩:=hj;cases rest with
   | nil=>cases ex
   | cons i rest=>
    cases ex;have dl:eB.length<=12:=by have:=aaM List.length e;rw[aah]at this;omega
    dsimp only[pk];walk_at "vc";refine⟨M.length,_,_,Sum.inl (i:Int),rfl,aN,rfl,by unfold kP;rw[List.length_map,List.length_map];omega,?_⟩;rw[y4 (v:=0),DY,dM];have gn:Λ (eB.map λi:Nat=>((i:Int),0)) (i:Int)=none:=kE λy=>by
     rw[aaN]at y;have⟨j,hj,ej⟩:=aan.mp y;have ej:(j:Int)=(i:Int):=ej;have:j=i:=()
     subst this;rw[e,ab9]at RT;exact RT.2.2 _ hj _ aad rfl
    refine fH _ _ ⟨eB++[i],rest,_,by rw[e,aaI];rfl,rfl,?_,rfl⟩;unfold js;rw[gn,aau @_,aa2];rfl
  ·have⟨eB,rest,o3,e,ex,rfl,rfl⟩:=hj;have:rest=[]:=by cases rest with| nil=>rfl| cons p r=>cases ex
   subst this;rw[aaY]at e;rw[<-e];exact h
def aL:Pl->Pl->Pl
 | p,[]=>p
 | p,e::r=>aL (js p e.1 e.2) r
def D1:∀{r p:Pl},pK (kP p) (kP r)=kP (aL p r)
 | [],p=>rfl
 | e::r,p=>by show pK (gz (kP p) (Sum.inl e.1)) (kP r)=kP (aL (js p e.1 e.2) r);rw[y4 (v:=e.2)];exact D1
def D3:∀{r p:Pl},sD (kP p) (vP p) (kP r) (vP r)=vP (aL p r)
 | [],p=>rfl
 | e::r,p=>by show sD (gz (kP p) (Sum.inl e.1)) (eT (kP p) (Sum.inl e.1) (vP p) (.int e.2)) (kP r) (vP r)=vP (aL (js p e.1 e.2) r);rw[y4 (v:=e.2),DY];exact D3
def kJ{i:Int}:∀{r p:Pl},Io r->Λ (aL p r) i=match Λ r i with| some v=>some v| none=>Λ p i
 | [],p,_=>rfl
 | e::r,p,nd=>by
  unfold Io at nd;rw[aaU,abx]at nd;have ih:=kJ (i:=i) (r:=r) (p:=js p e.1 e.2) nd.2;show Λ (aL (js p e.1 e.2) r) i=match (if e.1=i then some e.2 else Λ r i) with| some v=>some v| none=>Λ p i
  rw[ih,LA];by_cases h:e.1=i
  ·have hn:Λ r i=none:=by
    cases hg:Λ r i with
    | none=>rfl
    | some v=>exact aay (aan.mpr ⟨_,Eo hg,h.symm⟩) nd.1
   rw[hn,aaq h,aaq h.symm]
  ·rw[aau h,aau (Ne.symm h)]
def Ω:List (Int×Nat)->Pl->Prop
 | [],[]=>True
 | (k,c)::r,(k',v)::p=>k=k'/\0<=v/\v < c/\Ω r p
 | _,_=>False
def Mi:List (Int×Nat)->List Pl
 | []=>[[]]
 | (k,c)::r=>(List.range c).flatMap λj:Nat=>(Mi r).map λp=>(k,(j:Int))::p
def rD:∀{kc:List (Int×Nat)} {p:Pl},Ω kc p->p∈Mi kc
 | [],[],_=>aaV.mpr rfl
 | (k,c)::r,(k',v)::p,h=>by have⟨rfl,v0,v1,h⟩:=h;refine List.mem_flatMap.mpr ⟨v.toNat,aa5.mpr (),aan.mpr ⟨p,rD h,?_⟩⟩;rw[ab0 v0]
 | [],_::_,h=>h.elim
 | _::_,[],h=>h.elim
def cN:∀{kc:List (Int×Nat)} {p:Pl},Ω kc p->p.map (·.1)=kc.map (·.1)
 | [],[],_=>rfl
 | (k,c)::r,(k',v)::p,h=>by have⟨rfl,_,_,h⟩:=h;rw[aaU,aaU,cN h]
 | [],_::_,h=>h.elim
 | _::_,[],h=>h.elim
def yW:∀{kc:List (Int×Nat)} {p:Pl} {i v:Int},Ω kc p->Λ p i=some v->∃c,(i,c)∈kc/\0<=v/\v < (c:Int)
 | [],[],_,_,_,h=>by cases h
 | (k,c)::r,(k',v')::p,i,v,h,g=>by
  have⟨rfl,v0,v1,h⟩:=h;unfold Λ at g;split at g
  ·rename_i e;have e:k=i:=e;cases g;exact⟨c,by rw[<-e];exact aad,v0,v1⟩
  ·have⟨c',m,a⟩:=yW h g;exact⟨c',aac _ m,a⟩
 | [],_::_,_,_,h,_=>h.elim
 | _::_,[],_,_,h,_=>h.elim
def zd:∀{kc:List (Int×Nat)} {p:Pl} {i v:Int},Ω kc p->(∀c,(i,c)∈kc->0<=v/\v < (c:Int))->Ω kc (p.map λq=>if q.1=i then (q.1,v) else q)
 | [],[],_,_,_,_=>trivial
 | (k,c)::r,(k',v')::p,i,v,h,g=>by
  have⟨rfl,v0,v1,h⟩:=h;have ih:=zd h λc hc=>g c (aac _ hc);show Ω ((k,c)::r) ((if k=i then (k,v) else (k,v'))::p.map λq=>if q.1=i then (q.1,v) else q);by_cases e:k=i
  ·rw[aaq e];have:=g c (by rw[<-e];exact aad);exact⟨rfl,this.1,this.2,ih⟩
  ·rw[aau e];exact⟨rfl,v0,v1,ih⟩
 | [],_::_,_,_,h,_=>h.elim
 | _::_,[],_,_,h,_=>h.elim
def sT{i:Int}:∀{p:Pl},i∈p.map (·.1)->(Λ p i).isSome=true
 | q::p,h=>by
  unfold Λ;split
  ·rfl
  ·rcases aaD.mp h with e| e
   ·rename_i ne;exact aay e.symm ne
   ·exact sT e
def JZ{kc:List (Int×Nat)}{p:Pl}{i v:Int}(h:Ω kc p)(hk:i∈kc.map (·.1))(g:∀c,(i,c)∈kc->0<=v/\v < (c:Int)):Ω kc (js p i v):=by unfold js;rw[aaq (sT (by rw[cN h];exact hk))];exact zd h g
def Bs{α:Type}{P Q:α->Bool}:∀{l:List α},(∀a∈l,P a=true->Q a=true)->∀{b:α},b∈l->Q b=true->P b=false->l.countP P < l.countP Q
 | a::l,h,b,hb,hq,hp=>by
  have le:l.countP P<=l.countP Q:=List.countP_mono_left λx hx=>h x (aac _ hx);rw[List.countP_cons,List.countP_cons];rcases aaD.mp hb with e| e
  ·subst e;rw[hq,hp];show l.countP P+0 < l.countP Q+1;omega
  ·have:=Bs (λx hx=>h x (aac _ hx)) e hq hp;have ha:=h a aad;cases hP:P a with
   | false=>rw[aau @_];split <;> omega
   | true=>rw[ha hP,aaq rfl];omega
def Dc{f g:Nat->Rat}:∀{n:Nat},(∀i,i < n->f i<=g i)->∀{k:Nat},k < n->f k < g k->d_ f n < d_ g n
 | n+1,h,k,hk,hl=>by
  have le:∀{m:Nat},(∀i,i < m->f i<=g i)->d_ f m<=d_ g m:=λ{m}=>by
   induction m with
   | zero=>intro _;show(0:Rat)<=0;grind
   | succ m ih=>
    intro h;have:=ih λi hi=>h i (abE hi);have:=h m (abA _);show d_ f m+f m<=d_ g m+g m;grind
  show d_ f n+f n < d_ g n+g n;by_cases e:k=n
  ·subst e;have:=le λi hi=>h i (abE hi);grind
  ·have:=Dc (λi hi=>h i (abE hi)) (show k < n by omega) hl;have:=h n (abA _);grind
def fC(γ:List Rw)(dG:Str):List (Int×Nat):=(fA γ dG).map λi:Nat=>((i:Int),(aq (bV γ i)).length)
def Er{γ:List Rw}:∀{l:List Nat},(∀i∈l,1<=(aq (bV γ i)).length)->Ω (l.map λi:Nat=>((i:Int),(aq (bV γ i)).length)) (l.map λi:Nat=>((i:Int),(0:Int)))
 | [],_=>trivial
 | i::l,h=>⟨rfl,acv _,by have:=h i aad;omega,Er λj hj=>h j (aac _ hj)⟩
section
variable{ε:Fr}{γ:List Rw}{tb:List Fr}{hand dG:Str}{pl p:Pl}
def jW:i∈fA γ dG↔i < γ.length/\bP γ i=dG:=by unfold fA;rw[acp,aa5,aaZ]
def gq(fw:FR ε γ)(hh:Ο dG=true)(h:i∈fA γ dG):∃ds,γ[i]? =some (.τ dG ds)/\aq (bV γ i)=ds/\1<=ds.length:=by
 have⟨il,e⟩:=jW.mp h;have hi:γ[i]? =some γ[i]:=aaa il;unfold bP at e;rw[hi]at e;have e:kindOf γ[i]=dG:=e;cases hr:γ[i] with
 | fin p=>
  rw[hr]at e;rw[<-e]at hh;exact aay hh (by show¬Ο (Str.ofString "end")=true;decide)
 | τ k ds=>
  rw[hr]at e hi;have e:k=dG:=e;subst e;exact⟨ds,hi,by rw[br hi];rfl,(b9 fw.pl (aai hi)).l1⟩
def Bv(fw:FR ε γ)(hh:Ο dG=true):Ω (fC γ dG) (Bx γ dG):=Er λi hi=>by have⟨ds,_,e,l⟩:=gq fw hh hi;rw[e];exact l
def i_:(fC γ dG).map (·.1)=(fA γ dG).map λi:Nat=>(i:Int):=by unfold fC;rw[List.map_map];rfl
def hI(h:Ω (fC γ dG) p):Io p:=by unfold Io;rw[cN h,i_];have nd:(fA γ dG).Nodup:=aci.filter _;exact List.Pairwise.map _ (λa b Vh z=>Vh (by have z:(a:Int)=(b:Int):=z;omega)) nd
def aU(fw:FR ε γ)(hh:Ο dG=true)(h:Ω (fC γ dG) p):(∀ds,γ[i]? =some (.τ dG ds)->∃j:Nat,Λ p i=some (j:Int)/\j < ds.length)/\(∀r,γ[i]? =some r->kindOf r≠dG->Λ p i=none):=by
 refine⟨λds hi=>?_,λr hi hk=>?_⟩
 ·have il:=(aaf.mp hi).1;have m:i∈fA γ dG:=jW.mpr ⟨il,by unfold bP;rw[hi];rfl⟩;have s:=sT (i:=(i:Int)) (p:=p) (by rw[cN h,i_];exact aan.mpr ⟨i,m,rfl⟩);have⟨v,hv⟩:=abd.mp s;have⟨c,hc,v0,v1⟩:=yW h hv;unfold fC at hc;have⟨i',_,e⟩:=aan.mp hc;have e1:(i':Int)=(i:Int):=aaM Prod.fst e;have e2:(aq (bV γ i')).length=c:=aaM Prod.snd e;have:i'=i:=()
  subst this;rw[br hi]at e2;have e2:ds.length=c:=e2;exact⟨v.toNat,by rw[hv,ab0 v0],()⟩
 ·refine kE λz=>?_;rw[cN h,i_]at z;have⟨i',m,e⟩:=aan.mp z;have:i'=i:=by have e:(i':Int)=(i:Int):=e;omega
  subst this;have:=(jW.mp m).2;unfold bP at this;rw[hi]at this;exact hk this
end
def zJ{kc:List (Int×Nat)}:∀(q s:Pl),Ω kc s->(∀e∈q,e.1∈kc.map (·.1)/\∀c,(e.1,c)∈kc->0<=e.2/\e.2 < (c:Int))->Ω kc (aL s q)
 | [],s,h,_=>h
 | e::q,s,h,hq=>by have⟨a,b⟩:=hq e aad;exact zJ q (js s e.1 e.2) (JZ h a b) λx hx=>hq x (aac _ hx)
section
variable{c:Int->Int->Bool}{f:Int->Int}{i:Int}
def oE(c:Int->Int->Bool)(f:Int->Int)(p:Int×Int):Pl:=if c p.1 p.2 then [] else [(p.1,f p.1)]
def iI:∀{pl:Pl},i∈(pl.flatMap (oE c f)).map (·.1)->i∈pl.map (·.1)
 | p::r,h=>by
  rw[List.flatMap_cons,aa2]at h;rcases aaR.mp h with z| z
  ·unfold oE at z;split at z
   ·cases z
   ·rw[aaU];exact aaD.mpr (.inl (aaV.mp z))
  ·exact aac _ (iI z)
def qT:∀pl:Pl,((pl.flatMap (oE c f)).map (·.1)).Sublist (pl.map (·.1))
 | []=>List.Sublist.refl _
 | a::r=>by
  have ih:=qT r;rw[List.flatMap_cons,aa2,aaU];unfold oE;split
  ·exact List.Sublist.cons _ ih
  ·exact List.Sublist.cons₂ _ ih
def qU(pl:Pl):(pl.flatMap (oE c f)).length<=pl.length:=by have:=(qT (c:=c) (f:=f) pl).length_le;rwa[aae,aae]at this
def zS:∀{pl:Pl},Io pl->Λ (pl.flatMap (oE c f)) i=match Λ pl i with
  | some v=>if c i v then none else some (f i)
  | none=>none
 | [],_=>rfl
 | a::r,nd=>by
  unfold Io at nd;rw[aaU,abx]at nd;have ih:=zS (pl:=r) nd.2;rw[List.flatMap_cons];by_cases ei:a.1=i
  ·have e2:Λ (a::r) i=some a.2:=by unfold Λ;rw[if_pos ei]
   have hn:Λ (r.flatMap (oE c f)) i=none:=kE λz=>nd.1 (by rw[ei];exact iI z);rw[e2];dsimp only;unfold oE;rw[ei];by_cases cc:c i a.2=true
   ·rw[aaq cc,aaq cc,aaH];exact hn
   ·rw[aau cc,aau cc];show Λ ((i,f i)::_) i=_;unfold Λ;rw[aaq rfl]
  ·have e2:Λ (a::r) i=Λ r i:=by rw[Λ,aau ei]
   rw[e2,<-ih];unfold oE;split
   ·rfl
   ·show Λ ((a.1,_)::_) i=_;rw[Λ,aau ei];rfl
def qD:∀{l:Pl} {e:Int×Int},Io l->e∈l->Λ l e.1=some e.2
 | a::l,e,nl,hm=>by
  unfold Io at nl;rw[aaU,abx]at nl;unfold Λ;rcases aaD.mp hm with y| y
  ·rw[aaq (by rw[y]),y]
  ·rw[aau λz=>nl.1 (by rw[z];exact aan.mpr ⟨e,y,rfl⟩)];exact qD nl.2 y
end
def aG(tb:List Fr)(ds:List aO):List Fr:=ds.map λd=>tb.getD d.1.toNat (0,1)
def cL(k:Str)(ns:List Fr):Fr:=if k="one" then sL ns else qB ns
def AD(b:Fr):List Fr->Nat
 | []=>0
 | x::r=>if x=b then 0 else AD b r+1
def Ca{b:Fr}:∀{ns:List Fr},b∈ns->AD b ns < ns.length/\ns[AD b ns]? =some b/\∀i,i < AD b ns->ns[i]? ≠some b
 | x::r,h=>by
  unfold AD;by_cases e:x=b
  ·rw[aaq e];exact⟨by simp,by rw[e];rfl,λi hi=>absurd hi (Nat.not_lt_zero _)⟩
  ·rw[aau e];have hr:b∈r:=(aaD.mp h).resolve_left λz=>e z.symm;have⟨a,c,d⟩:=Ca hr;refine⟨by rw[aaJ];omega,by rw[List.getElem?_cons_succ];exact c,λi hi=>?_⟩;cases i with
   | zero=>rw[List.getElem?_cons_zero];exactλz=>e (aao z)
   | succ i=>rw[List.getElem?_cons_succ];exact d i ()
def qt{k:Str}{ns:List Fr}(h0:ns≠[])(hp:∀n∈ns,0 < n.2):cL k ns∈ns/\∀n∈ns,fi k * val n<=fi k * val (cL k ns):=by
 have⟨a,r,rfl⟩:=abQ h0;have ha:=hp a aad;have Zp:∀{x:Fr},x∈a::a::r->x∈a::r:=λh=>by
  rcases aaD.mp h with e| e
  ·rw[e];exact aad
  ·exact e
 unfold fi cL;by_cases e:k="one"
 ·rw[aaq e,aaq e];have⟨m,_,al⟩:=lD (a::r) a ha hp;exact⟨Zp m,λn hn=>by have h:val n<=val (sL (a::r)):=al n hn;grind⟩
 ·rw[aau e,aau e];have⟨m,_,al⟩:=l7 (a::r) a ha hp;exact⟨Zp m,λn hn=>by have h:val (qB (a::r))<=val n:=al n hn;grind⟩
def Ky(γ:List Rw)(i:Int):List aO:=aq (bV γ i.toNat)
def uu(γ:List Rw)(tb:List Fr)(i v:Int):Bool:=decide ((aG tb (Ky γ i)).getD v.toNat (0,1)=cL (bP γ i.toNat) (aG tb (Ky γ i)))
def ze(γ:List Rw)(tb:List Fr)(i:Int):Int:=(AD (cL (bP γ i.toNat) (aG tb (Ky γ i))) (aG tb (Ky γ i)):Nat)
def Α(γ:List Rw)(tb:List Fr)(pl:Pl):Pl:=pl.flatMap (oE (uu γ tb) (ze γ tb))
def R6{k:Str}{x b:Rat}(h:fi k * x<=fi k * b)(ne:x≠b):fi k * x < fi k * b:=by
 unfold fi at h⊢;by_cases e:k="one"
 ·rw[if_pos e]at h⊢;grind
 ·rw[if_neg e]at h⊢;grind
section
variable{ε:Fr}{γ:List Rw}{tb tb':List Fr}{k:Str}{ds:List aO}{p p' a a':Pl}
def gW(hi:γ[i]? =some (.τ k ds)):bP γ i=k:=by unfold bP;rw[hi];rfl
def Di(jl:j < ds.length):(aG tb ds).getD j (0,1)=tb.getD ds[j].1.toNat (0,1):=by unfold aG;rw[aab,aak,aaa jl];rfl
structure Imp(γ:List Rw)(tb:List Fr)(k:Str)(p p':Pl):Prop where
 fit:Ω (fC γ k) p'
 at_:∀(i:Nat) (ds:List aO),γ[i]? =some (.τ k ds)->∃j j':Nat,∃(jl:j < ds.length) (pG:j' < ds.length),Λ p i=some (j:Int)/\Λ p' i=some (j':Int)/\(∀d∈ds,fi k * V_ tb d.1.toNat<=fi k * V_ tb ds[j'].1.toNat)/\(j'=j\/fi k * V_ tb ds[j].1.toNat < fi k * V_ tb ds[j'].1.toNat)
def rZ(fr:FR ε γ)(hh:Ο k=true)(h:Ω (fC γ k) p)(hr:∀t,t < γ.length->Red (tb.getD t (0,1))):Imp γ tb k p (aL p (Α γ tb p))/\(Α γ tb p≠[]->∃(i:Nat) (ds:List aO) (j j':Nat) (jl:j < ds.length) (pG:j' < ds.length),γ[i]? =some (.τ k ds)/\Λ p i=some (j:Int)/\Λ (aL p (Α γ tb p)) i=some (j':Int)/\fi k * V_ tb ds[j].1.toNat < fi k * V_ tb ds[j'].1.toNat):=by
 have nd:=hI h;have Xh:Io (Α γ tb p):=(qT p).nodup nd;have core:∀(i:Nat) (ds:List aO),γ[i]? =some (.τ k ds)->∃j:Nat,∃(jl:j < ds.length) (bl:AD (cL k (aG tb ds)) (aG tb ds) < ds.length),Λ p i=some (j:Int)/\(∀d∈ds,fi k * V_ tb d.1.toNat<=fi k * V_ tb ds[AD (cL k (aG tb ds)) (aG tb ds)].1.toNat)/\((Λ (Α γ tb p) i=none/\tb.getD ds[j].1.toNat (0,1)=cL k (aG tb ds)/\∀d∈ds,fi k * V_ tb d.1.toNat<=fi k * V_ tb ds[j].1.toNat)\/(Λ (Α γ tb p) i=some ((AD (cL k (aG tb ds)) (aG tb ds):Nat):Int)/\fi k * V_ tb ds[j].1.toNat < fi k * V_ tb ds[AD (cL k (aG tb ds)) (aG tb ds)].1.toNat)):=λi ds hi=>by
  have⟨j,gj,jl⟩:=(aU (i:=i) fr hh h).1 ds hi;have rm:Rw.τ k ds∈γ:=aai hi;have dr:=b9 fr.pl rm;have rd:∀d∈ds,Red (tb.getD d.1.toNat (0,1)):=λd hd=>hr _ (by have:=dr.to d hd;omega);have np:∀n∈aG tb ds,0 < n.2:=λn hn=>by have⟨d,hd,rfl⟩:=aan.mp hn;exact(rd d hd).pos
  have⟨bm,bb⟩:=qt (k:=k) (ns:=aG tb ds) (λz=>by
   have:=aaM List.length z;unfold aG at this;rw[aae]at this;have l1:=dr.l1;rw[this]at l1
   exact aay l1 @_) np
  have⟨xl,xe,_⟩:=Ca bm;have nl:(aG tb ds).length=ds.length:=by unfold aG;rw[List.length_map]
  rw[nl]at xl;have xb:tb.getD ds[AD (cL k (aG tb ds)) (aG tb ds)].1.toNat (0,1)=cL k (aG tb ds):=by rw[<-Di xl,aab,xe];rfl
  have all:∀d∈ds,fi k * V_ tb d.1.toNat<=fi k * val (cL k (aG tb ds)):=λd hd=>bb _ (aan.mpr ⟨d,hd,rfl⟩);have gb:=zS (c:=uu γ tb) (f:=ze γ tb) (i:=(i:Int)) nd;rw[gj]at gb;have ed:Ky γ (i:Int)=ds:=by unfold Ky;rw[Int.toNat_natCast,br hi];rfl
  have eb:uu γ tb (i:Int) (j:Int)=decide (tb.getD ds[j].1.toNat (0,1)=cL k (aG tb ds)):=by unfold uu;rw[ed,aaW,aaW,gW hi,Di jl]
  have ex:ze γ tb (i:Int)=(AD (cL k (aG tb ds)) (aG tb ds):Nat):=by unfold ze;rw[ed,aaW,gW hi]
  have gb:Λ (Α γ tb p) i=if uu γ tb (i:Int) (j:Int) then none else some (ze γ tb (i:Int)):=gb
  rw[eb,ex]at gb;refine⟨j,jl,xl,gj,λd hd=>by have:=all d hd;unfold V_;rw[xb];exact this,?_⟩;by_cases c:tb.getD ds[j].1.toNat (0,1)=cL k (aG tb ds)
  ·rw[aaE c,aaq rfl]at gb;exact .inl ⟨gb,c,λd hd=>by have:=all d hd;unfold V_;rw[c];exact this⟩
  ·rw[aar c,aau @_]at gb;refine .inr ⟨gb,?_⟩;have le:=all _ (aal jl);have ne:V_ tb ds[j].1.toNat≠val (cL k (aG tb ds)):=λz=>c (kW (rd _ (aal jl)) (by rw[<-xb];exact rd _ (aal xl)) z);unfold V_ at le ne⊢;rw[xb];exact R6 le ne
 have g1:∀i:Nat,Λ (aL p (Α γ tb p)) i=match Λ (Α γ tb p) i with| some v=>some v| none=>Λ p i:=λi=>kJ (i:=(i:Int)) (p:=p) Xh
 refine⟨⟨?_,λi ds hi=>?_⟩,λne=>?_⟩
 ·refine zJ _ _ h λe he=>?_;have ke:e.1∈p.map (·.1):=iI (aan.mpr ⟨e,he,rfl⟩);have kk:=ke;rw[cN h]at kk;rw[cN h,i_]at ke;have⟨i,hm,ei⟩:=aan.mp ke;have ei:(i:Int)=e.1:=ei;have⟨ds,hi,ed,l1⟩:=gq fr hh hm;have⟨j,jl,bl,gj,_,hc⟩:=core i ds hi;refine⟨kk,λc AH=>?_⟩;have c1:c=ds.length:=by
   unfold fC at AH;have⟨i',_,e'⟩:=aan.mp AH;have e1:(i':Int)=e.1:=aaM Prod.fst e';have e2:(aq (bV γ i')).length=c:=aaM Prod.snd e';have:i'=i:=()
   subst this;rw[<-e2,ed]
  have ge:=qD Xh he;rw[<-ei]at ge;rcases hc with ⟨z,_⟩| ⟨z,_⟩
  ·rw[z]at ge;cases ge
  ·rw[z]at ge;have:=aao ge;omega
 ·have⟨j,jl,bl,gj,all,hc⟩:=core i ds hi;rw[g1];rcases hc with ⟨z,e,al⟩| ⟨z,lt⟩
  ·rw[z];exact⟨j,j,jl,jl,gj,gj,al,.inl rfl⟩
  ·rw[z];exact⟨j,_,jl,bl,gj,rfl,all,.inr lt⟩
 ·have⟨e,r,er⟩:=abQ ne;have he:e∈Α γ tb p:=by rw[er];exact aad
  have ke:e.1∈p.map (·.1):=iI (aan.mpr ⟨e,he,rfl⟩);rw[cN h,i_]at ke;have⟨i,hm,ei⟩:=aan.mp ke;have ei:(i:Int)=e.1:=ei;have⟨ds,hi,ed,l1⟩:=gq fr hh hm;have⟨j,jl,bl,gj,_,hc⟩:=core i ds hi;have ge:=qD Xh he;rw[<-ei]at ge;rcases hc with ⟨z,_⟩| ⟨z,lt⟩
  ·rw[z]at ge;cases ge
  ·exact⟨i,ds,j,_,jl,bl,hi,gj,by rw[g1,z],lt⟩
def yx(fr:FR ε γ)(hh:Ο k=true)(h:Ω (fC γ k) p)(hr:∀t,t < γ.length->Red (tb.getD t (0,1)))(e:Α γ tb p=[])(hi:γ[i]? =some (.τ k ds)):∃(j:Nat) (jl:j < ds.length),Λ p i=some (j:Int)/\∀d∈ds,fi k * V_ tb d.1.toNat<=fi k * V_ tb ds[j].1.toNat:=by
 have⟨⟨_,al⟩,_⟩:=rZ (tb:=tb) fr hh h hr;have⟨j,j',jl,pG,gj,uY,all,_⟩:=al i ds hi;rw[e]at uY;have uY:Λ p i=some (j':Int):=uY;rw[gj]at uY;have:j=j':=by have:=aao uY;omega
 subst this;exact⟨j,jl,gj,all⟩
def ak:Ο (Str.ofString "one")=true:=@_
def au:Ο (Str.ofString "other")=true:=@_
def i4(fr:FR ε γ)(hp:Ω (fC γ "one") p)(ha:Ω (fC γ "other") a):oS γ (aL p a):=by
 refine⟨λi r hi hk=>?_,λi r hi hk=>?_⟩
 ·rw[kJ (hI ha)];cases r with
  | fin q=>exact aay hk (by show¬Ο (Str.ofString "end")=true;decide)
  | τ k ds=>
   have two:k="one"\/k="other":=by have hk:Ο k=true:=hk;unfold Ο at hk;rw[Bool.or_eq_true,ack,ack]at hk;exact hk
   rcases two with rfl| rfl
   ·rw[(aU (i:=i) fr au ha).2 _ hi (by show¬(Str.ofString "one"=Str.ofString "other");decide)];have⟨j,gj,jl⟩:=(aU (i:=i) fr ak hp).1 ds hi;rw[gj];exact⟨j,rfl,jl⟩
   ·have⟨j,gj,jl⟩:=(aU (i:=i) fr au ha).1 ds hi;rw[gj];exact⟨j,rfl,jl⟩
 ·rw[kJ (hI ha),(aU (i:=i) fr au ha).2 r hi (λz=>by rw[z]at hk;exact aay au (by rw[hk];decide)),(aU (i:=i) fr ak hp).2 r hi (λz=>by rw[z]at hk;exact aay ak (by rw[hk];decide))]
def eQ(fr:FR ε γ)(ha:Ω (fC γ "other") a)(hi:γ[i]? =some (.τ "one" ds)):Λ (aL p a) i=Λ p i:=by rw[kJ (hI ha),(aU (i:=i) fr au ha).2 _ hi (by show¬(Str.ofString "one"=Str.ofString "other");decide)]
def fM(fr:FR ε γ)(ha:Ω (fC γ "other") a)(hi:γ[i]? =some (.τ "other" ds)):Λ (aL p a) i=Λ a i:=by have⟨j,gj,_⟩:=(aU (i:=i) fr au ha).1 ds hi;rw[kJ (hI ha),gj]
def df{acc:Pl}(fr:FR ε γ)(hi:γ[i]? =some (.τ k ds))(hh:Ο k=true)(gj:Λ acc i=some (j:Int))(jl:j < ds.length)(st:qb S i)(y:Nat->Rat):aj (λd=>cV d * y d.1.toNat) (gm γ S acc i)=y ds[j].1.toNat:=by rw[jf st,br hi,gu fr hi hh gj jl];show cV (ds[j].1,ds[j].2.1,[((1,1):Fr)]) * y ds[j].1.toNat+0=_;have:cV (ds[j].1,ds[j].2.1,[((1,1):Fr)])=1:=k_;rw[this];grind
def kM{acc acc':Pl}(h:Λ acc i=Λ acc' i):gm γ S acc i=gm γ S acc' i:=by unfold gm eN;rw[h]
def AF(γ:List Rw)(S:Sp)(p:Pl):Prop:=∀a,Ω (fC γ "other") a->Nf γ S (aL p a)
def gE(fr:FR ε γ)(hi:γ[i]? =some (.τ k ds)):k="one"\/k="other"\/k="chance":=by
 rcases(b9 fr.pl (aai hi)).kd with z| ⟨_,z,_⟩
 ·unfold Ο at z;rw[Bool.or_eq_true,ack,ack]at z;rcases z with z| z
  ·exact .inl z
  ·exact .inr (.inl z)
 ·exact .inr (.inr z)
def fR(fr:FR ε γ)(hp:Ω (fC γ "one") p)(ha:Ω (fC γ "other") a)(hi:γ[i]? =some (.τ "chance" ds)):Λ (aL p a) i=none:=(i4 fr hp ha).GY i _ hi (by show Ο (Str.ofString "chance")=false;decide)
def l9:fi (Str.ofString "one")=1:=aaq rfl
def oo:fi (Str.ofString "other")= -1:=aau @_
def wY(γ:List Rw)(tb:List Fr)(a:Pl):Prop:=∀(i:Nat) (ds:List aO),γ[i]? =some (.τ "other" ds)->∃(j:Nat) (jl:j < ds.length),Λ a i=some (j:Int)/\∀d∈ds,V_ tb ds[j].1.toNat<=V_ tb d.1.toNat
def JL(fr:FR ε γ)(ha:Ω (fC γ "other") a)(hr:∀t,t < γ.length->Red (tb.getD t (0,1)))(e:Α γ tb a=[]):wY γ tb a:=λi ds hi=>by have⟨j,jl,gj,al⟩:=yx fr au ha hr e hi;refine⟨j,jl,gj,λd hd=>?_⟩;have:=al d hd;rw[oo]at this;grind
def Js(fr:FR ε γ)(dr:aK γ gs S)(hp:Ω (fC γ "one") p)(ha:Ω (fC γ "other") a)(xj:Ω (fC γ "one") p')(tO:Ω (fC γ "other") a')(h:qf γ S (aL p a) tb)(la:wY γ tb a)(up:∀(i:Nat) (ds:List aO),γ[i]? =some (.τ "one" ds)->∃j j':Nat,∃(jl:j < ds.length) (pG:j' < ds.length),Λ p i=some (j:Int)/\Λ p' i=some (j':Int)/\V_ tb ds[j].1.toNat<=V_ tb ds[j'].1.toNat):∀i,i < γ.length->qb S i->V_ tb i<=aj (λd=>cV d * V_ tb d.1.toNat) (gm γ S (aL p' a') i):=λi il st=>by
 have⟨k,ds,hi⟩:=jC dr il st;rcases gE fr hi with rfl| rfl| rfl
 ·have⟨j,j',jl,pG,gj,uY,le⟩:=up i ds hi;rw[h.st il st,df fr hi ak (by rw[eQ fr ha hi];exact gj) jl st,df fr hi ak (by rw[eQ fr tO hi];exact uY) pG st];exact le
 ·have⟨j,jl,gj,le⟩:=la i ds hi;have⟨j',uY,pG⟩:=(aU (i:=i) fr au tO).1 ds hi;rw[h.st il st,df fr hi au (by rw[fM fr ha hi];exact gj) jl st,df fr hi au (by rw[fM fr tO hi];exact uY) pG st];exact le _ (aal pG)
 ·rw[h.st il st,kM (acc:=aL p a) (acc':=aL p' a') ((fR fr hp ha hi).trans (fR fr xj tO hi).symm)];grind
def AF.better(fr:FR ε γ)(dr:aK γ gs S)(hp:Ω (fC γ "one") p)(ha:Ω (fC γ "other") a)(pr:AF γ S p)(h:qf γ S (aL p a) tb)(la:wY γ tb a)(im:Imp γ tb "one" p p'):AF γ S p':=λa' tO C hC i il Uz=>by
 have Ul:=i4 fr im.fit tO;have⟨t,tl,tc,tm⟩:=wQ C (V_ tb) γ.length ⟨i,il,Uz⟩;have ua:=Js fr dr hp ha im.fit tO h la λi ds hi=>by have⟨j,j',jl,pG,gj,uY,al,_⟩:=im.at_ i ds hi;have:=al _ (aal jl);rw[l9]at this;exact⟨j,j',jl,pG,gj,uY,by grind⟩
 refine pr a' tO (λj=>j < γ.length/\C j/\V_ tb j=V_ tb t) (λj jl hj=>?_) t tl ⟨tl,tc,rfl⟩;have⟨_,jc,je⟩:=hj;have⟨sj,cl⟩:=hC j jl jc;refine⟨sj,?_⟩;have⟨_,one,B,_,_,hw⟩:=ot (acc:=aL p' a') fr Ul dr jl sj;have tn:∀d∈gm γ S (aL p' a') j,d.1.toNat < γ.length:=λd hd=>by have:=(hw d hd).to;omega
 have eqs:∀d∈gm γ S (aL p' a') j,V_ tb d.1.toNat=V_ tb t:=xD (z:=λd=>V_ tb d.1.toNat) (m:=V_ tb t) (λd hd=>(hw d hd).p) (λd hd=>tm _ (tn d hd) (cl d hd)) (by rw[one,acw,<-je];exact ua j jl sj);have same:gm γ S (aL p a') j=gm γ S (aL p' a') j:=by
  have⟨k,ds,hi⟩:=jC dr jl sj;rcases gE fr hi with rfl| rfl| rfl
  ·refine kM ?_;rw[eQ fr tO hi,eQ fr tO hi];have⟨x,x',xl,Yb,gx,UY,al,ch⟩:=im.at_ j ds hi;rcases ch with e| lt
   ·rw[gx,UY,e]
   ·exfalso;rw[l9]at lt;have e1:=h.st jl sj;rw[df fr hi ak (by rw[eQ fr ha hi];exact gx) xl sj]at e1;have e2:=eqs (ds[x'].1,ds[x'].2.1,[(1,1)]) (by rw[jf sj,br hi,gu fr hi ak (by rw[eQ fr tO hi];exact UY) Yb];exact aaV.mpr rfl);have e2:V_ tb ds[x'].1.toNat=V_ tb t:=e2;grind
  ·refine kM ?_;rw[fM fr tO hi,fM fr tO hi]
  ·exact kM ((fR fr hp tO hi).trans (fR fr im.fit tO hi).symm)
 rw[same];exactλd hd=>⟨tn d hd,cl d hd,eqs d hd⟩
def xV(γ:List Rw)(tb:List Fr)(p:Pl)(i:Nat):Rat:=match Λ p i with
 | some j=>V_ tb ((Ky γ i).getD j.toNat d0).1.toNat
 | none=>0
def nL(γ:List Rw)(tb:List Fr)(p:Pl):Rat:=d_ (λi=>V_ tb i+xV γ tb p i) γ.length
def Dm(hi:γ[i]? =some (.τ k ds))(gj:Λ p i=some (j:Int))(jl:j < ds.length):xV γ tb p i=V_ tb ds[j].1.toNat:=by unfold xV Ky;rw[gj,aaW,br hi];show V_ tb (ds.getD ((j:Int)).toNat d0).1.toNat=_;rw[aaW,aab,aaa jl];rfl
def OL(fr:FR ε γ)(hh:Ο k=true)(hp:Ω (fC γ k) p)(im:Imp γ tb k p p')(le:∀i,i < γ.length->fi k * V_ tb i<=fi k * V_ tb' i)(il:i < γ.length):fi k * xV γ tb p i<=fi k * xV γ tb' p' i:=by
 have hi:=rw_at il;by_cases e:kindOf (bV γ i)=k
 ·cases hr:bV γ i with
  | fin q=>rw[hr]at e;rw[<-e]at hh;exact aay hh (by show¬Ο (Str.ofString "end")=true;decide)
  | τ k' ds=>
   rw[hr]at e hi;have e:k'=k:=e;subst e;have⟨j,j',jl,pG,gj,uY,al,_⟩:=im.at_ i ds hi;rw[Dm hi gj jl,Dm hi uY pG];have a:=al _ (aal jl);have b:=le ds[j'].1.toNat (by have:=(b9 fr.pl (aai hi)).to _ (aal pG);omega);grind
 ·have g:=(aU (i:=i) fr hh hp).2 _ hi e;have g':=(aU (i:=i) fr hh im.fit).2 _ hi e;unfold xV;rw[g,g'];grind
def IS(fr:FR ε γ)(hh:Ο k=true)(hp:Ω (fC γ k) p)(im:Imp γ tb k p p')(le:∀i,i < γ.length->fi k * V_ tb i<=fi k * V_ tb' i)(ex:∃(i:Nat) (ds:List aO) (j j':Nat) (jl:j < ds.length) (pG:j' < ds.length),γ[i]? =some (.τ k ds)/\Λ p i=some (j:Int)/\Λ p' i=some (j':Int)/\fi k * V_ tb ds[j].1.toNat < fi k * V_ tb ds[j'].1.toNat):fi k * nL γ tb p < fi k * nL γ tb' p':=by
 have⟨i,ds,j,j',jl,pG,hi,gj,uY,lt⟩:=ex;have il:=(aaf.mp hi).1;have e:∀(t:List Fr) (q:Pl),fi k * nL γ t q=d_ (λi=>fi k * (V_ t i+xV γ t q i)) γ.length:=λt q=>by unfold nL;have:=mR (fi k) 0 (λi=>V_ t i+xV γ t q i) (λ_=>0) γ.length;rw[show(λi=>fi k * (V_ t i+xV γ t q i) - 0 * 0)=λi=>fi k * (V_ t i+xV γ t q i) by funext i;grind]at this;rw[this];grind
 rw[e,e];refine Dc (λt tl=>?_) il ?_
 ·have a:=le t tl;have b:=OL fr hh hp im le tl;grind
 ·have a:=le i il;rw[Dm hi gj jl,Dm hi uY pG];have b:=le ds[j'].1.toNat (by have:=(b9 fr.pl (aai hi)).to _ (aal pG);omega);grind
def IE(fr:FR ε γ)(dr:aK γ gs S)(hp:Ω (fC γ "one") p)(ha:Ω (fC γ "other") a)(pr:AF γ S p)(h:qf γ S (aL p a) tb)(ne:Α γ tb a≠[])(h':qf γ S (aL p (aL a (Α γ tb a))) tb'):nL γ tb' (aL a (Α γ tb a)) < nL γ tb a:=by
 have⟨im,ex⟩:=rZ (tb:=tb) fr au ha h.tab.red;have tO:=im.fit;have ex:=ex ne;generalize aL a (Α γ tb a)=a' at *
 have hs:∀i,i < γ.length->qb S i->fi "other" * V_ tb i<=fi "other" * aj (λd=>cV d * V_ tb d.1.toNat) (gm γ S (aL p a') i):=λi il st=>by
  have⟨k,ds,hi⟩:=jC dr il st;rcases gE fr hi with rfl| rfl| rfl
  ·rw[h.st il st,kM (acc:=aL p a) (acc':=aL p a') (by rw[eQ fr ha hi,eQ fr tO hi])];grind
  ·have⟨x,x',xl,Yb,gx,UY,al,_⟩:=im.at_ i ds hi;rw[h.st il st,df fr hi au (by rw[fM fr ha hi];exact gx) xl st,df fr hi au (by rw[fM fr tO hi];exact UY) Yb st];exact al _ (aal xl)
  ·rw[h.st il st,kM (acc:=aL p a) (acc':=aL p a') ((fR fr hp ha hi).trans (fR fr hp tO hi).symm)];grind
 have⟨c1,_⟩:=Rm fr (i4 fr hp tO) dr (pr a' tO) h h' hs;have:=IS fr au ha im c1 ex;rw[oo]at this;grind
structure p_(γ:List Rw)(S:Sp)(p a:Pl)(tb:List Fr):Prop where
 fa:Ω (fC γ "other") a
 ch:qf γ S (aL p a) tb
 le:wY γ tb a
def p_.up(fr:FR ε γ)(dr:aK γ gs S)(hp:Ω (fC γ "one") p)(h:p_ γ S p a tb)(xj:Ω (fC γ "one") p')(GH:AF γ S p')(h':p_ γ S p' a' tb')(up:∀(i:Nat) (ds:List aO),γ[i]? =some (.τ "one" ds)->∃j j':Nat,∃(jl:j < ds.length) (pG:j' < ds.length),Λ p i=some (j:Int)/\Λ p' i=some (j':Int)/\V_ tb ds[j].1.toNat<=V_ tb ds[j'].1.toNat):∀i,i < γ.length->V_ tb i<=V_ tb' i:=λi il=>by
 have:=(Rm fr (i4 fr xj h'.fa) dr (GH a' h'.fa) h.ch h'.ch (sg:=1) λi il st=>by
  have:=Js fr dr hp h.fa xj h'.fa h.ch h.le up i il st
  grind).1 i il
 grind
def p_.uniq(fr:FR ε γ)(dr:aK γ gs S)(hp:Ω (fC γ "one") p)(pr:AF γ S p)(h:p_ γ S p a tb)(h':p_ γ S p a' tb'):tb=tb':=by
 have same:∀(tb:List Fr) (i:Nat) (ds:List aO),γ[i]? =some (.τ "one" ds)->∃j j':Nat,∃(jl:j < ds.length) (pG:j' < ds.length),Λ p i=some (j:Int)/\Λ p i=some (j':Int)/\V_ tb ds[j].1.toNat<=V_ tb ds[j'].1.toNat:=λtb i ds hi=>by have⟨j,gj,jl⟩:=(aU (i:=i) fr ak hp).1 ds hi;exact⟨j,j,jl,jl,gj,gj,by grind⟩
 have u:=h.up fr dr hp hp pr h' (same tb);have v:=h'.up fr dr hp hp pr h (same tb');apply abp
 ·rw[h.ch.tab.len,h'.ch.tab.len]
 ·intro i h1 h2;have hi:i < γ.length:=by rw[<-h.ch.tab.len];exact h1
  have x:=h.ch.tab.red i hi;have y:=h'.ch.tab.red i hi;have c:=u i hi;have d:=v i hi;have e1:tb.getD i (0,1)=tb[i]:=by rw[aab,aaa h1];rfl
  have e2:tb'.getD i (0,1)=tb'[i]:=by rw[aab,aaa h2];rfl
  rw[<-e1,<-e2];exact kW x y (by have c:val (tb.getD i (0,1))<=val (tb'.getD i (0,1)):=c;have d:val (tb'.getD i (0,1))<=val (tb.getD i (0,1)):=d;grind)
def JO(fr:FR ε γ)(dr:aK γ gs S)(hp:Ω (fC γ "one") p)(h:p_ γ S p a tb)(ne:Α γ tb p≠[])(GH:AF γ S (aL p (Α γ tb p)))(h':p_ γ S (aL p (Α γ tb p)) a' tb'):nL γ tb p < nL γ tb' (aL p (Α γ tb p)):=by
 have⟨im,ex⟩:=rZ (tb:=tb) fr ak hp h.ch.tab.red;have ex:=ex ne;generalize aL p (Α γ tb p)=p' at *
 have c:=h.up fr dr hp im.fit GH h' λi ds hi=>by have⟨j,j',jl,pG,gj,uY,al,_⟩:=im.at_ i ds hi;have:=al _ (aal jl);rw[l9]at this;exact⟨j,j',jl,pG,gj,uY,by grind⟩
 have:=IS (tb':=tb') fr ak hp im (λi il=>by have:=c i il;rw[l9,acw,acw];exact this) ex;rw[l9]at this;grind
noncomputable def Ts(l:List Pl)(Q:Pl->Rat->Prop):Option Rat->Nat
 | none=>l.length+1
 | some t=>open Classical in l.countP λq=>decide (∃u,Q q u/\t < u)
def Kd{l:List Pl}{Q:Pl->Rat->Prop}{q:Pl}{u:Rat}(hq:q∈l)(h:Q q u)(un:∀u',Q q u'->u'=u):∀{o:Option Rat},(∀t,o=some t->t < u)->Ts l Q (some u) < Ts l Q o
 | none,_=>Nat.lt_succ_of_le List.countP_le_length
 | some t,ht=>by
  classical
  have lt:=ht t rfl;unfold Ts;refine Bs (λx _ hx=>?_) hq (aaE ⟨u,h,lt⟩) (aar λz=>?_)
  ·have⟨v,a,b⟩:=aav hx;exact decide_eq_true ⟨v,a,by grind⟩
  ·have⟨v,a,b⟩:=z;rw[un v a]at b;grind
end
def gU(S:Sp)(o:Option Nat)(d:aO):Bool:=match at_ S d.1.toNat,o with
 | some a,some b=>decide (a < b)
 | _,_=>false
def tH(S:Sp)(o:Option Nat):List aO->Nat->Nat
 | [],_=>0
 | d::ds,n=>if gU S o d then n else tH S o ds (n+1)
def Qq{γ:List Rw}(hl:S.length=γ.length)(h0:0<=t)(h1:t < γ.length):iH (S.map eU) t=some (eU (at_ S t.toNat)):=by have:=Ao (S:=S) (p:=t.toNat) ();rwa[show((t.toNat:Nat):Int)=t by omega]at this
def mq(γ:List Rw)(S:Sp):Pl:=(fA γ "one").map λi:Nat=>((i:Int),((tH S (at_ S i) (aq (bV γ i)) 0:Nat):Int))
def qZ(A:Addr):DF:=λas M q _=>∃ε γ p st S k ds,as=[ar A ε γ,.int (p:Nat),st]/\hZ M st=some (S.map eU)/\S.length=γ.length/\Ib γ/\γ[p]? =some (.τ k ds)/\(at_ S p=none->∀d∈ds,at_ S d.1.toNat=none)/\q (.int (tH S (at_ S p) ds 0:Nat)) M
def kj:Γ ["floor","place","steps","door","way"] ["floor","place","steps"] (χ mI):=.of rfl
def wZ(F:dE K "drawn_door" "drawn_door" mI f fd)(E:Ev K mg Cm)(aM:fG P w K mg base 2 Cm "doors" ["self","place"] (qF Cm) cX cU):aw P w K mg base (cP P w) 3 f fd ["floor","place","steps"] (dw K (qZ Cm)):=by
 refine F.eF kj (λds M q x h=>?_) (λbz A outer s H E' hr=>⟨_,(ζ (b6 (mU E.cB (ι (cK (gh aM hr ξ (jv 0) (Ν (jv 1) η))) η bC)) (lV rfl (bf (ae (i:=3) kj.nd rfl (Or.inl rfl)) (bf (ae (i:=4) kj.nd rfl (Or.inl rfl)) i7))) mJ (θ (aH (JW.jt (yg (xo (Ε (jv 2) (Ε (jv 4) ο)) yi) (qp (pL (Ε (jv 2) (Ε (jv 4) ο)) (Ε (jv 2) (jv 1)))))) (θ (Δ (jv 3))) Μ)))
   (θ (Δ ο))),λds M q x h=>?_⟩)
 ·have⟨ε,γ,p,st,S,k,ds,rfl,_⟩:=h;rfl
 ·have⟨ε,γ,p,st,S,k,ds,rfl,hs,hl,f,hi,hn,h⟩:=h;have rm:Rw.τ k ds∈γ:=aai hi;have ro:=(f.row _ rm).1;have pl:p < γ.length:=(aaf.mp hi).1;have l6:=j4 f rm;refine⟨⟨_,_,.inl rfl,rfl⟩,ε,γ,p,.τ k ds,rfl,hi,ro,dF (fQ _) ?_⟩;refine⟨.lst (ds.map dD),ds.map dD,λ_=>True,rfl,rfl,?_⟩;refine aV (λxs ρ' M'=>∃(rest:List aO) (n:Nat) (o3 o4:Option Dt),xs=gY n (rest.map dD)/\(∀d∈rest,d∈ds)/\tH S (at_ S p) rest n=tH S (at_ S p) ds 0/\M'=M/\ρ'=[some (ar Cm ε γ),some (.int (p:Int)),some st,o3,o4]) (λxs ρ' M' hj=>trivial) (λx xs ρ' M' hj fH=>?_) (λρ' M' hj=>?_) _ _ _ ⟨ds,0,none,none,rfl,λ_ h=>h,rfl,rfl,rfl⟩
  ·have⟨rest,n,o3,o4,ex,hm,he,rfl,rfl⟩:=hj;cases rest with
   | nil=>cases ex
   | cons d rest=>
    cases ex;have dm:=hm d aad;have⟨d0',d1'⟩:=iF f rm dm;have a1:=Qq hl d0' d1';have a2:iH (S.map eU) (p:Int)=some (eU (at_ S p)):=Ao ();have nx:gU S (at_ S p) d=false->_:=λz=>fH [some (ar Cm ε γ),some (.int (p:Int)),some st,some (.int (n:Int)),some (dD d)] M' ⟨rest,n+1,_,_,rfl,λx hx=>hm x (aac _ hx),by rw[<-he];show _=if gU S (at_ S p) d=true then n else tH S (at_ S p) rest (n+1);rw[z];rfl,rfl,rfl⟩;have yes:gU S (at_ S p) d=true->q (.int (n:Int)) M':=λz=>by
     rw[<-he]at h;have:tH S (at_ S p) (d::rest) n=n:=by show(if gU S (at_ S p) d=true then n else tH S (at_ S p) rest (n+1))=n;rw[z];rfl
     rw[this]at h;exact h
    dsimp only[g2];walk_at "vc";refine pM ?_;refine(Β hs a1 ?_:cR st (.int d.1) _ _);refine xY ⟨λz=>?_,λz=>?_⟩
    ·refine pM ?_;refine(Β hs a1 ?_:cR st (.int d.1) _ _);refine(Β hs a2 ?_:cR st (.int (p:Int)) _ _);have⟨a,ea⟩:=abd.mp z;cases eb:at_ S p with
     | none=>rw[hn eb d dm]at ea;cases ea
     | some b=>
      have lz:gU S (at_ S p) d=decide (a < b):=by unfold gU;rw[ea,eb]
      rw[lz]at nx yes;rw[ea];show(decide ((a:Int) < (b:Int))=true->_)/\(decide ((a:Int) < (b:Int))=false->_);exact⟨λz=>yes (aaE (by have:=aav z;omega)),λz=>nx (aar (by have:=aa1 z;omega))⟩
    ·have z:at_ S d.1.toNat=none:=by simpa using z
     refine⟨nofun,λ_=>?_⟩;exact nx (by unfold gU;rw[z])
  ·have⟨rest,n,o3,o4,ex,hm,he,rfl,rfl⟩:=hj;have:rest=[]:=by cases rest with| nil=>rfl| cons p r=>cases ex
   subst this;have he:0=tH S (at_ S p) ds 0:=he;rw[<-he]at h;exact h
def oM{γ:List Rw}(dr:aK γ gs S){k:Str}{ds:List aO}(hi:γ[i]? =some (.τ k ds))(hk:k≠"other")(h:at_ S i=none):∀d∈ds,at_ S d.1.toNat=none:=λd hd=>by
 have:=dr.2 i _ hi;have this:h7 k (aQ S ds) (at_ S i):=this;unfold h7 at this;rw[aau hk,h]at this;rcases this with ⟨_,e⟩| ⟨v,e,_⟩
 ·exact e _ (aa.mpr ⟨d,hd,rfl⟩)
 ·cases e
def sk(A:Addr):DF:=λas M q _=>∃ε γ st S gs,as=[ar A ε γ,st]/\(∀E,hZ (M++E) st=some (S.map eU))/\aK γ gs S/\FR ε γ/\q (.loc M.length) (M++[dP (mq γ S)])
def j7:Γ ["floor","steps","plan","place"] ["floor","steps"] (χ ma):=.of rfl
def vG(F:dE K "drawn_plan" "drawn_plan" ma f fd)(E:Ev K mg Cm){o_:Addr}{oa:FuncData}(eW:aE P w K mg base 2 "places_of" ["floor","hand"] (xZ Cm) o_ oa){A9:Addr}{A8:FuncData}(jY:aE P w K mg base 3 "drawn_door" ["floor","place","steps"] (qZ Cm) A9 A8):aw P w K mg base (cP P w) 4 f fd ["floor","steps"] (dw K (sk Cm)):=by
 refine F.eF j7 (λds M q x h=>?_) (λbz A outer s H E' hr=>⟨_,(ζ (ψ 2 j7.nd CF)
   (ζ (b6 (aR (ao eW hr ξ (Ν (jv 0) (ι eY η bX)))) (ae (i:=3) j7.nd rfl (Or.inl rfl)) aA (θ (qm hr (jv 2) (jv 3) (ao jY hr ξ (Ν (jv 0) (Ν (jv 3) (Ν (jv 1) η)))))))
   (θ (Δ (jv 2))))),λds M q x h=>?_⟩)
 ·have⟨ε,γ,st,S,gs,rfl,_⟩:=h;rfl
 ·have⟨ε,γ,st,S,gs,rfl,hs,dr,fr,h⟩:=h;have tI:=fr.pl.len;have Kh:(fA γ "one").length<=12:=by have:=ab7 (λi=>decide (bP γ i="one")) (List.range γ.length);rw[aa8]at this;unfold fA;omega
  have RT:(fA γ "one").Nodup:=aci.filter _;walk_at "vc";dsimp only[nI,eS];walk_at "vc";refine⟨ε,γ,"one",rfl,tI,?_⟩;refine aV (λxs ρ' M'=>∃(eB rest:List Nat) (o3:Option Dt),fA γ "one"=eB++rest/\xs=rest.map (λi:Nat=>Dt.int i)/\M'=M++[dP (eB.map λi:Nat=>((i:Int),((tH S (at_ S i) (aq (bV γ i)) 0:Nat):Int)))]/\ρ'=[some (ar Cm ε γ),some st,some (.loc M.length),o3]) (λxs ρ' M' hj=>trivial) (λx xs ρ' M' hj fH=>?_) (λρ' M' hj=>?_) _ _ _ ⟨[],fA γ "one",none,rfl,rfl,rfl,rfl⟩
  ·have⟨eB,rest,o3,e,ex,rfl,rfl⟩:=hj;cases rest with
   | nil=>cases ex
   | cons i rest=>
    cases ex;have dl:eB.length<=12:=by have:=aaM List.length e;rw[aah]at this;omega
    have⟨ds,hi,ed,_⟩:=gq fr ak (show i∈fA γ "one" by rw[e];simp);have gn:Λ (eB.map λi:Nat=>((i:Int),((tH S (at_ S i) (aq (bV γ i)) 0:Nat):Int))) (i:Int)=none:=kE λy=>by
     rw[aaN]at y;have⟨j,hj,ej⟩:=aan.mp y;have ej:(j:Int)=(i:Int):=ej;have:j=i:=()
     subst this;rw[e,ab9]at RT;exact RT.2.2 _ hj _ aad rfl
    dsimp only[pk];walk_at "vc";refine⟨ε,γ,i,st,S,"one",ds,rfl,hs _,dr.1,fr.DL,hi,oM dr hi @_,?_⟩;refine⟨M.length,_,_,Sum.inl (i:Int),rfl,aN,rfl,by unfold kP;rw[List.length_map,List.length_map];omega,?_⟩;rw[y4 (v:=((tH S (at_ S i) ds 0:Nat):Int)),DY,dM];refine fH _ _ ⟨eB++[i],rest,_,by rw[e,aaI];rfl,rfl,?_,rfl⟩;unfold js;rw[gn,aau @_,aa2,<-ed];rfl
  ·have⟨eB,rest,o3,e,ex,rfl,rfl⟩:=hj;have:rest=[]:=by cases rest with| nil=>rfl| cons p r=>cases ex
   subst this;rw[aaY]at e;unfold mq at h;rw[e]at h;exact h
def JN(A:Addr):DF:=λas M q _=>∃ε γ i k acc st S gs,as=[ar A ε γ,.int (i:Nat),.loc k,st]/\M[k]? =some (dP acc)/\hZ M st=some (S.map eU)/\i < γ.length/\oS γ acc/\aK γ gs S/\FR ε γ/\∀E',q (cG (mS (1,1) γ.length i (gm γ S acc i) (oR S i))) (M++E')
def y6:Γ ["floor","place","doors","steps"] ["floor","place","doors","steps"] (χ mG):=.of rfl
def wU(F:dE K "chance_row" "chance_row" mG f fd)(E:Ev K mg Cm){Ml:Addr}{Mc:FuncData}(j0:aE P w K mg base 5 "led_row" ["floor","place","ways","share","given"] (T7 Cm) Ml Mc){Gh:Addr}{Gm:FuncData}(mr:aE P w K mg base 3 "ways_from" ["floor","place","doors"] (Nt Cm) Gh Gm):aw P w K mg base (cP P w) 6 f fd ["floor","place","doors","steps"] (dw K (JN Cm)):=by
 refine F.eF y6 (λds M q x h=>?_) (λbz A outer s H E' hr=>⟨_,(ζ (aH (BN (Ε (jv 3) (jv 1)) yi) (θ (Δ (ao j0 hr ξ (Ν (jv 0) (Ν (jv 1) (ι (nc η) (ι (cY (ι ο (ι ο η bX) bX)) (ι (cY (ι ο (ι ο η bX) bX)) η lq) lq))))))) Μ)
   (ζ (aH (dz hr (Ε (jv 3) (jv 1)) ο) (θ (Δ (ao j0 hr ξ (Ν (jv 0) (Ν (jv 1) (ι (nc η) (ι (cY (ι ο (ι ο η bX) bX)) (ι (cY (ι ο (ι ο η bX) bX)) η lq) lq))))))) Μ)
   (θ (Δ (ao j0 hr ξ (Ν (jv 0) (Ν (jv 1) (ι (ao mr hr ξ (Ν (jv 0) (Ν (jv 1) (Ν (jv 2) η)))) (ι (cY (ι ο (ι ο η bX) bX)) (ι (cY (ι ο (ι ο η bX) bX)) η lq) lq) bC)))))))),λds M q x h=>?_⟩)
 ·have⟨ε,γ,i,k,acc,st,S,gs,rfl,_⟩:=h;rfl
 ·have⟨ε,γ,i,k,acc,st,S,gs,rfl,hk,hs,il,dk,dr,fr,h⟩:=h;have⟨Ep,p,_,sz,one,NI⟩:=PH (acc:=acc) fr dk dr il;have sl:∀{z:Nat},z<=1000->z<=sizeLine:=λh=>aaw h @_;have a2:iH (S.map eU) (i:Int)=some (eU (at_ S i)):=Ao (by rw[dr.1];exact il);have Ut:Sz 11 ((1,1):Fr):=⟨@_,@_,@_⟩;walk_at "vc";refine(Β hs a2 ?_:cR st (.int (i:Int)) _ _);refine NV ⟨λz=>?_,λz=>?_⟩
  ·have z:at_ S i=none:=by simpa using z
   have e1:gm γ S acc i=[]:=tE λ⟨s,e⟩=>by rw[z]at e;cases e
   have e2:oR S i=(0,1):=by unfold oR;rw[z]
   rw[e1,e2]at h p;rw[e1]at one NI;exact⟨sl @_,sl @_,sl @_,ε,(1,1),γ,i,[],(0,1),Ep,7,rfl,il,fr.pl.len,Ut,one,p,sz,NI,h⟩
  ·refine(Β hs a2 ?_:cR st (.int (i:Int)) _ _);cases e:at_ S i with
   | none=>rw[e]at z;cases z
   | some v=>
    show(decide ((v:Int)=0)=true->_)/\(decide ((v:Int)=0)=false->_);refine⟨λy=>?_,λy=>?_⟩
    ·have y:v=0:=by have:=aav y;omega
     subst y;have e1:gm γ S acc i=[]:=tE λ⟨s,e'⟩=>by rw[e]at e';cases e'
     have e2:oR S i=(1,1):=by unfold oR;rw[e];rfl
     rw[e1,e2]at h p;rw[e1]at one NI;exact⟨sl @_,sl @_,sl @_,ε,(1,1),γ,i,[],(1,1),Ep,7,rfl,il,fr.pl.len,Ut,one,p,sz,NI,h⟩
    ·have y:v≠0:=by have:=aa1 y;omega
     have Ow:qb S i:=⟨v - 1,by rw[e,Nat.sub_add_cancel ()]⟩;have⟨kd,ds,hi⟩:=jC dr il Ow;have e1:gm γ S acc i=eN acc i (.τ kd ds):=by rw[jf Ow,br hi]
     rw[NP Ow]at h p;rw[e1]at h p one NI;refine⟨ε,γ,i,.τ kd ds,k,acc,rfl,hk,hi,(fr.pl.row _ (aai hi)).1,dk,?_⟩;exact⟨sl @_,sl @_,ε,(1,1),γ,i,_,(0,1),Ep,7,rfl,il,fr.pl.len,Ut,one,p,sz,NI,h⟩
def b7(h:n<=12):(12 * 7000000:Int) ^ n < 2 ^ 400:=by have h1:=abI (show 0 < 84000000 by decide) h;have h2:((84000000 ^ n:Nat):Int)<=((84000000 ^ 12:Nat):Int):=Int.ofNat_le.mpr h1;rw[ab6,ab6]at h2;exact abh h2 @_
def M_(A:Addr):DF:=λas M q _=>∃ε γ kp ka st S gs p a,as=[ar A ε γ,.loc kp,.loc ka,st]/\M[kp]? =some (dP p)/\M[ka]? =some (dP a)/\(∀E,hZ (M++E) st=some (S.map eU))/\p.length+a.length<=1000/\oS γ (aL p a)/\aK γ gs S/\FR ε γ/\Nf γ S (aL p a)/\∀tb,qf γ S (aL p a) tb->q (.loc (M.length+1)) (M++[dP (aL p a),.lst (tb.map av)])
def jB:Γ ["floor","plan","answer","steps","doors"] ["floor","plan","answer","steps"] (χ mB):=.of rfl
def xU(F:dE K "chances_by" "chances_by" mB f fd)(E:Ev K mg Cm){Ez:Addr}{Fl:FuncData}(lW:aE P w K mg base 4 "answer_of" ["rows"] xt Ez Fl)(ai:fG P w K mg base 1 Cm "size" ["self"] (r8 Cm) bF bD){BS:Addr}{Bu:FuncData}(j_:aE P w K mg base 6 "chance_row" ["floor","place","doors","steps"] (JN Cm) BS Bu):aw P w K mg base (cP P w) 7 f fd ["floor","plan","answer","steps"] (dw K (M_ Cm)):=by
 refine F.eF jB (λds M q x h=>?_) (λbz A outer s H E' hr=>⟨_,(ζ (ψ 4 jB.nd (NZ E.vZ (Ν (jv 1) η)))
   (ζ (fg (CM (jv 4) (jv 2)))
   (θ (Δ (ao lW hr ξ (ι (Jm (ys:=["floor","doors","steps"]) (Θ:=[0,4,3]) (.of jB rfl rfl rfl) (bO E.bI (ι (gS ai hr ξ (jv 0)) η bC)) (λC s H fp=>(cK (ao j_ hr (fk (P:=P) (w:=w)) (Ν (jv 1) (Ν (jv 0) (Ν (jv 2) (Ν (jv 3) η)))))))) η)))))),λds M q x h=>?_⟩)
 ·have⟨ε,γ,kp,ka,st,S,gs,p,a,rfl,_⟩:=h;rfl
 ·have⟨ε,γ,kp,ka,st,S,gs,p,a,rfl,hp,ha,hs,lz,dk,dr,fr,pr,h⟩:=h;have tI:=fr.pl.len;have n1:=fr.n1;have sl:∀{z:Nat},z<=1000->z<=sizeLine:=λh=>aaw h @_;have kl:ka < M.length:=(aaf.mp ha).1;have Sy:=Ri fr dk dr pr;have⟨tb,z,N,sol,n0,Rk,tab,bot⟩:=Sy.ex tI;have cn:qf γ S (aL p a) tb:=⟨tab,λi hi=>abh (bot i hi) (b7 tI)⟩;have hq:=h tb cn;have bd:=Sy.bd;have UI:=Sy.UI;walk_at "vc";refine⟨kp,_,_,rfl,hp,?_⟩;dsimp only[DJ,Ag];walk_at "vc";refine⟨⟨M.length,_,_,rfl,aN⟩,M.length,ka,_,_,_,_,rfl,rfl,(),aN,bK ha,by unfold kP;rw[List.length_map,List.length_map];exact lz,?_⟩;rw[D1,D3,dM];generalize EY:aL p a=acc at *
  dsimp only[vw];walk_at "vc";refine⟨⟨_,_,.inl rfl,rfl⟩,ε,γ,rfl,?_⟩;refine⟨⟨(),()⟩,by rw[c9];exact sl (),?_⟩;refine nO (f:=λx=>match x with| .int j=>cG ((gQ (1,1) γ.length (gm γ S acc) (oR S)).getD j.toNat [])| _=>.aY) _ _ (λx PK q' hq=>?_) ?_
  ·have⟨j,hj,rfl⟩:=gy PK;have hj:j < γ.length:=()
   rw[Int.zero_add]at hq⊢;have hq:q' (cG ((gQ (1,1) γ.length (gm γ S acc) (oR S)).getD j [])) (M++[dP acc]):=hq;have e:(gQ (1,1) γ.length (gm γ S acc) (oR S)).getD j []=mS (1,1) γ.length j (gm γ S acc j) (oR S j):=by unfold gQ;rw[aab,aak,aaO hj];rfl
   rw[e]at hq;exact⟨ε,γ,j,M.length,acc,st,S,gs,rfl,aN,hs _,hj,dk,dr,fr,λE'=>ie (.old (kI _)) hq⟩
  have er:=LW (gQ (1,1) γ.length (gm γ S acc) (oR S)) [] cG;rw[kL]at er;rw[aaH,show((γ.length:Int)).toNat=γ.length by omega];refine(λ(key:∀l,l=(gQ (1,1) γ.length (gm γ S acc) (oR S)).map cG->xt [.lst l] (M++[dP acc]) q _)=>key _ er) λl hl=>?_;subst hl;have ln:∀r∈gQ (1,1) γ.length (gm γ S acc) (oR S),r.length=γ.length+1:=λr vh=>by unfold gQ at vh;have⟨i,hi,rfl⟩:=aan.mp vh;have⟨E,p,_⟩:=PH (acc:=acc) fr dk dr (aa5.mp hi);exact(BY (aa5.mp hi) p).1
  refine⟨gQ (1,1) γ.length (gm γ S acc) (oR S),γ.length,7000000,tb,z,N,rfl,⟨by rw[kL];exact n1,by rw[kL];exact tI,tI,ln,by rw[kL];exact bd,@_⟩,n1,tab.len,by rw[kL];exact sol,n0,λi hi=>⟨(tab.red i hi).pos,(tab.red i hi).low,Rk i hi⟩,by rw[kL];exact UI,?_⟩;simpa [List.append_assoc] using hq
end
end Pg
namespace L2
open PySem
def y3{g:Dt->En->(En->Prop)->Prop}{tb:DS}{Dn:lh}{k:Nat}{u:Addr->HO}{m:MO}(J:List Key->En->Ms->Prop)(aX:∀xs ρ M,J xs ρ M->M[k]? =some (.raw u))
  (step:∀x xs ρ M,J (x::xs) ρ M->(∀ρ M,J xs ρ M->tZ g tb Dn k u m xs ρ M)->g (HM x) ρ λρ'=>tb {Dn with nx:=tZ g tb Dn k u m xs,ct:=tZ g tb Dn k u m xs,bk:=λρ M=>M[k]? =some (.raw u)/\Dn.nx ρ (M.set k m)} ρ' M)
  (fin:∀ρ M,J [] ρ M->Dn.nx ρ (M.set k m)):∀(xs:List Key) (ρ:En) (M:Ms),J xs ρ M->tZ g tb Dn k u m xs ρ M
 | [],ρ,M,h=>⟨aX _ _ _ h,fin _ _ h⟩
 | x::xs,ρ,M,h=>⟨aX _ _ _ h,step x xs ρ M h λρ' M' h'=>y3 J aX step fin xs ρ' M' h'⟩
end L2
namespace Pg
open PySem L2 Fr0 Tx
variable{M:Ms}{γ:List Rw}{tb:List Fr}{mg:Str->Option Value}{f cC gB:Addr}{fd cE gA:FuncData}{ε:Fr}{gs:List Nat}{S:Sp}{p:Pl}{i s T:Nat}{ds:List aO}{ns th:List Int}{B:Int}{y:Nat->Rat}{kind:Str}
def Kt{k:Nat}{m:MO}(h:M[k]? =some m):M.set k m=M:=by
 apply List.ext_getElem?;intro i;rw[List.getElem?_set];split
 ·rename_i e;subst e;rw[aaq (aaf.mp h).1,h]
 ·rfl
def v9(pl:Pl):vP pl=(pl.map (·.2)).map Dt.int:=by unfold vP;rw[List.map_map];rfl
def Vm(p q:Fr):nH [.int p.1,.int p.2] [.int q.1,.int q.2]=decide (p=q):=by
 have⟨a,b⟩:=p;have⟨c,d⟩:=q;show((a==c)&&((b==d)&&true))=_;rw[Bool.and_true];by_cases h1:a=c
 ·by_cases h2:b=d
  ·subst h1 h2;simp
  ·have:¬((a,b)=(c,d)):=λz=>h2 (Prod.mk.inj z).2;rw[decide_eq_false this];simp[h2]
 ·have:¬((a,b)=(c,d)):=λz=>h1 (Prod.mk.inj z).1;rw[decide_eq_false this];simp[h1]
structure OR(γ:List Rw)(tb:List Fr):Prop where
 tl:tb.length=γ.length
 sz:∀i,i < γ.length->Sz 400 (tb.getD i (0,1))
def QZ{t:Int}(h:OR γ tb)(h0:0<=t)(h1:t < γ.length):iH (tb.map av) t=some (av (tb.getD t.toNat (0,1))):=by
 have hl:t.toNat < tb.length:=by rw[h.tl];omega
 have e2:(tb.map av)[t.toNat]? =some (av (tb.getD t.toNat (0,1))):=by rw[aak,aab,aaa hl];rfl
 have:=Υ e2;rwa[show((t.toNat:Nat):Int)=t by omega]at this
def PJ(p r:Fr):Fv M 1 (av p) (av r) (decide (p=r)):=by
 have:=Fv.tup (M:=M) (n:=0) (ds:=[.int p.1,.int p.2]) (es:=[.int r.1,.int r.2]) (f:=λj=>if j=0 then decide (p.1=r.1) else decide (p.2=r.2)) (λj d e hd he=>by
  match j,hd,he with
  | 0,hd,he=>cases hd;cases he;have:=Fv.flat (M:=M) (n:=0) (d:=.int p.1) (e:=.int r.1) rfl rfl;rwa[show vL (.int p.1) (.int r.1)=decide (p.1=r.1) by show(p.1==r.1)=_;by_cases h:p.1=r.1 <;> simp[h]]at this
  | 1,hd,he=>cases hd;cases he;have:=Fv.flat (M:=M) (n:=0) (d:=.int p.2) (e:=.int r.2) rfl rfl;rwa[show vL (.int p.2) (.int r.2)=decide (p.2=r.2) by show(p.2==r.2)=_;by_cases h:p.2=r.2 <;> simp[h]]at this
  | j+2,hd,_=>cases hd)
 have e:((List.range (min [Dt.int p.1,.int p.2].length [Dt.int r.1,.int r.2].length)).all (λj=>if j=0 then decide (p.1=r.1) else decide (p.2=r.2))&&[Dt.int p.1,.int p.2].length==[Dt.int r.1,.int r.2].length)=decide (p=r):=by show((decide (p.1=r.1)&&(decide (p.2=r.2)&&true))&&true)=_;rw[Bool.and_true,Bool.and_true];have⟨a,b⟩:=p;have⟨c,d⟩:=r;simp[Prod.ext_iff,Bool.decide_and]
 rw[e]at this;exact this
section
variable{P:Program}{w:World}{K:fI}{base:Heap}{Cm:Addr}
def HQ(A:Addr):DF:=λas M q _=>∃(ε:Fr) (γ:List Rw) (tb:List Fr) (k kt:Nat) (pl:Pl),as=[ar A ε γ,.loc k,.loc kt]/\M[k]? =some (dP pl)/\M[kt]? =some (.lst (tb.map av))/\OR γ tb/\Ib γ/\Io pl/\pl.length<=12/\(∀p∈pl,0<=p.1/\∃kd ds,γ[p.1.toNat]? =some (.τ kd ds)/\0<=p.2/\p.2 < ds.length)/\q (.loc M.length) (M++[dP (Α γ tb pl)])
def dX:Γ ["floor","plan","table","better","place","numbers","best"] ["floor","plan","table"] (χ lS):=.of rfl
def vC(F:dE K "better_led" "better_led" lS f fd)(E:Ev K mg Cm){cX:Addr}{cU:FuncData}(aM:fG P w K mg base 2 Cm "doors" ["self","place"] (qF Cm) cX cU){bG:Addr}{bB:FuncData}(af:fG P w K mg base 1 Cm "kind" ["self","place"] (rO Cm) bG bB){Fx:Addr}{EU:FuncData}(lK:aE P w K mg base 2 "greatest" ["numbers"] (vQ sL) Fx EU){Ov:Addr}{N8:FuncData}(yr:aE P w K mg base 2 "least" ["numbers"] (vQ qB) Ov N8):aw P w K mg base (cP P w) 3 f fd ["floor","plan","table"] (dw K (HQ Cm)):=by
 refine F.eF dX (λds M q x h=>?_) (λbz A outer s H E' hr=>⟨_,(ζ (ψ 3 dX.nd CF)
   (ζ (MH (jv 1) (ae (i:=4) dX.nd rfl (Or.inl rfl)) aA (ζ (fD (i:=5) dX.nd rfl (Or.inl rfl) (ys:=["table"]) (Θ:=[2]) (.of dX rfl rfl rfl) (aR (cK (gh aM hr ξ (jv 0) (Ν (jv 4) η)))) (λC s H fp=>(Ε (jv 1) (Ε (jv 0) ο))))
   (ζ (ko (ψ 6 dX.nd (Jb (dz hr (gh af hr ξ (jv 0) (Ν (jv 4) η)) eY) (ao lK hr ξ (Ν (jv 5) η)) (ao yr hr ξ (Ν (jv 5) η)))))
   (θ (aH (rV hr (Ε (jv 5) (Lp (jv 1) (jv 4))) (jv 6)) (θ (qm hr (jv 3) (jv 4) (K9 1 hr (jv 5) (Ν (jv 6) η)))) Μ)))))
   (θ (Δ (jv 3))))),λds M q x h=>?_⟩)
 ·have⟨ε,γ,tb,k,kt,pl,rfl,_⟩:=h;rfl
 ·have⟨ε,γ,tb,k,kt,pl,rfl,hk,zY,tok,f,nd,tI,hp,h⟩:=h;have kl:k < M.length:=(aaf.mp hk).1;have Uv:kt < M.length:=(aaf.mp zY).1;have kn:k≠kt:=λe=>by rw[e,zY]at hk;cases hk
  walk_at "vc";refine⟨k,kP pl,pl.map (·.2),rfl,by rw[<-v9];exact bK hk,λep=>?_⟩;show tZ _ _ _ k (K4 P w (kP pl) (pl.map (·.2)) ep) _ _ _ ((M++[MO.jm [] []]).set k (.raw (K4 P w (kP pl) (pl.map (·.2)) ep)));have WM:∀p∈pl,eE (kP pl) ((pl.map (·.2)).map Dt.int) (Sum.inl p.1)=some (.int p.2):=λp hm=>by rw[<-v9,y8,qD nd hm];rfl
  generalize hu:K4 P w (kP pl) (pl.map (·.2)) ep=u;have Wv:(M++[MO.jm [] []]).set k (.raw u)=M.set k (.raw u)++[dP []]:=by rw[abU _ _ kl];rfl
  have hb:∀acc,((M.set k (.raw u)++[dP acc]).set k (.jm (kP pl) (vP pl)))=M++[dP acc]:=λacc=>by
   rw[abU _ _ (by rw[aa6];exact kl),List.set_set]
   congr 1
   exact Kt hk
  have hT:∀acc,(M.set k (.raw u)++[dP acc])[kt]? =some (.lst (tb.map av)):=λacc=>bK (by rw[abq kn];exact zY);rw[Wv];refine y3 (λxs ρ' M'=>∃(eB rest:Pl) (o4 o5 o6:Option Dt),pl=eB++rest/\xs=kP rest/\M'=M.set k (.raw u)++[dP (Α γ tb eB)]/\ρ'=[some (ar Cm ε γ),some (.loc k),some (.loc kt),some (.loc M.length),o4,o5,o6]) (λxs ρ' M' hj=>?_) (λx xs ρ' M' hj fH=>?_) (λρ' M' hj=>?_) _ _ _ ⟨[],pl,none,none,none,rfl,rfl,rfl,rfl⟩
  ·have⟨eB,rest,o4,o5,o6,e,rfl,rfl,rfl⟩:=hj;exact bK (by rw[abb kl])
  ·have⟨eB,rest,o4,o5,o6,e,ex,rfl,rfl⟩:=hj;cases rest with
   | nil=>cases ex
   | cons p rest=>
    cases ex;have pm:p∈pl:=by rw[e];simp
    have⟨p0,kd,ds,Nl,v0,v1⟩:=hp p pm;have⟨p1,v⟩:=p;obtain⟨i,rfl⟩:∃i:Nat,p1=(i:Int):=⟨p1.toNat,by have:0<=p1:=p0;omega⟩;obtain⟨j,rfl⟩:∃j:Nat,v=(j:Int):=⟨v.toNat,by have:0<=v:=v0;omega⟩;have Nl:γ[i]? =some (.τ kd ds):=Nl;have jl:j < ds.length:=by have:(j:Int) < ds.length:=v1;omega
    have rm:Rw.τ kd ds∈γ:=aai Nl;have ro:=(f.row _ rm).1;have l6:=j4 f rm;have Mq:(M.set k (.raw u)++[dP (Α γ tb eB)])[k]? =some (.raw u):=bK (by rw[abb kl]);have Ra:(M.set k (.raw u)++[dP (Α γ tb eB)])[M.length]? =some (dP (Α γ tb eB)):=by have:=aN (M:=M.set k (.raw u)) (o:=dP (Α γ tb eB));rwa[aa6]at this
    have ZT:Α γ tb (eB++[((i:Int),(j:Int))])=Α γ tb eB++oE (uu γ tb) (ze γ tb) ((i:Int),(j:Int)):=by unfold Α;rw[List.flatMap_append];simp
    have ed:Ky γ (i:Int)=ds:=by unfold Ky;rw[Int.toNat_natCast,br Nl];rfl
    have nl:(aG tb ds).length=ds.length:=by unfold aG;rw[List.length_map]
    have eb:uu γ tb (i:Int) (j:Int)=decide ((aG tb ds).getD j (0,1)=cL kd (aG tb ds)):=by unfold uu;rw[ed,aaW,aaW,gW Nl]
    have ex:ze γ tb (i:Int)=(AD (cL kd (aG tb ds)) (aG tb ds):Nat):=by unfold ze;rw[ed,aaW,gW Nl]
    have Q9:∀acc o5 o6,acc=Α γ tb (eB++[((i:Int),(j:Int))])->_:=λacc o5 o6 ea=>fH [some (ar Cm ε γ),some (.loc k),some (.loc kt),some (.loc M.length),some (.int (i:Int)),o5,o6] (M.set k (.raw u)++[dP acc]) ⟨eB++[((i:Int),(j:Int))],rest,_,o5,o6,by rw[e,aaI];rfl,rfl,by rw[ea],rfl⟩;have hg:=WM _ pm;have nz:∀n∈aG tb ds,Sz 1300 n:=λn hn=>by have⟨d,hd,rfl⟩:=aan.mp hn;have:=iF f rm hd;exact w4 (tok.sz _ ()) @_
    have n0:aG tb ds≠[]:=λz=>by rw[z]at nl;have:(0:Nat)=ds.length:=nl;omega
    have⟨bm,_⟩:=qt (k:=kd) n0 λn hn=>(nz n hn).2.1;have⟨xl,xe,xf⟩:=Ca bm;have Y0:=hT (Α γ tb eB);rw[<-hu]at Mq Ra Q9 Y0⊢;walk_at "vc";refine⟨⟨_,_,.inl rfl,rfl⟩,ε,γ,i,.τ kd ds,rfl,Nl,ro,dF (fQ _) ?_⟩;refine⟨by show(ds.map dD).length<=sizeLine;rw[aae];exact aaw l6.2 @_,?_⟩;refine cW (F:=λx d=>x=dD d/\d∈ds) (f:=λd=>av (tb.getD d.1.toNat (0,1))) (as:=ds) trivial (λx d hx qq hq=>?_) (gK dD ds ds λx hx=>hx) ?_
    ·have⟨rfl,hd⟩:=hx;have⟨t0,t1⟩:=iF f rm hd;walk_at "vc";refine pM ?_;exact Β (d:=.loc kt) (rE Y0) (QZ tok t0 t1) hq
    rw[aaH];have en:ds.map (λd=>av (tb.getD d.1.toNat (0,1)))=(aG tb ds).map av:=by unfold aG;rw[List.map_map];rfl
    rw[en];generalize aG tb ds=ns at *
    refine⟨λρ M2=>M2=M.set k (.raw (K4 P w (kP pl) (pl.map (·.2)) ep))++[dP (Α γ tb eB)]/\ρ=[some (ar Cm ε γ),some (.loc k),some (.loc kt),some (.loc M.length),some (.int (i:Int)),some (.lst (ns.map av)),some (av (cL kd ns))],?_,?_⟩
    ·walk_at "vc";refine⟨⟨_,_,.inl rfl,rfl⟩,ε,γ,i,.τ kd ds,rfl,Nl,λz=>?_,λz=>?_⟩
     ·have z:kd="one":=aav z;exact⟨ns,rfl,n0,nz,rfl,by unfold cL;rw[if_pos z];rfl⟩
     ·have z:kd≠"one":=aa1 z;exact⟨ns,rfl,n0,nz,rfl,by unfold cL;rw[if_neg z];rfl⟩
    rintro ρ2 M2 ⟨rfl,rfl⟩;generalize cL kd ns=b at *
    walk_at "vc";refine⟨k,kP pl,(pl.map λx:Int×Int=>x.2),ep,Sum.inl (i:Int),(j:Int),rfl,Mq,rfl,hg,?_⟩;refine(Β (d:=.lst (ns.map av)) (xs:=ns.map av) rfl (Υ (j:=j) (by rw[aak,aaa (show j < ns.length by omega)];rfl)) ?_:cR (.lst (ns.map av)) (.int (j:Int)) _ _);have gj:ns.getD j (0,1)=ns[j]'():=by rw[aab,aaa (show j < ns.length by omega)];rfl
    rw[gj]at eb;generalize ns[j]'()=c at *
    show((!nH [.int c.1,.int c.2] [.int b.1,.int b.2])=true->_)/\((!nH [.int c.1,.int c.2] [.int b.1,.int b.2])=false->_);rw[Vm,<-eb];refine⟨λz=>?_,λz=>?_⟩
    ·have z:¬uu γ tb (i:Int) (j:Int)=true:=by simpa using z
     dsimp only[pk,Hy];walk_at "vc";have dl:eB.length<=12:=by have:=aaM List.length e;rw[aah]at this;omega
     have ll:(Α γ tb eB).length<=eB.length:=qU eB;refine⟨⟨ns.map av,rfl⟩,av b,ns.map av,λi=>decide (ns.getD i (0,1)=b),AD b ns,rfl,rfl,λi' z' Ur=>?_,by rw[aae];exact xl,aaE (by rw[aab,xe];rfl),λi' Ja=>aar λy=>xf i' Ja (by rw[aaa (show i' < ns.length by omega)];rw[aab,aaa (show i' < ns.length by omega)]at y;exact aaM some y),?_⟩
     ·rw[aak]at Ur;have⟨n,hn,rfl⟩:=ab3.mp Ur;have en':ns.getD i' (0,1)=n:=by rw[aab,hn];rfl
      show Fv _ 1 (av n) (av b) (decide (ns.getD i' (0,1)=b));rw[en'];exact PJ n b
     refine⟨M.length,_,_,Sum.inl (i:Int),rfl,Ra,rfl,by unfold kP;rw[List.length_map];omega,?_⟩;rw[y4 (v:=((AD b ns:Nat):Int)),DY];have gn:Λ (Α γ tb eB) (i:Int)=none:=kE λy=>by have y:=iI y;rw[e]at nd;unfold Io at nd;rw[aa2,ab9]at nd;exact nd.2.2 _ y _ aad rfl
     have e1:js (Α γ tb eB) (i:Int) ((AD b ns:Nat):Int)=Α γ tb (eB++[((i:Int),(j:Int))]):=by rw[ZT];unfold js oE;rw[gn,aau z,ex,aau @_]
     rw[e1,List.set_append_right (h:=by rw[aa6];exact aaj _),aa6,abX];exact Q9 _ _ _ rfl
    ·have z:uu γ tb (i:Int) (j:Int)=true:=by simpa using z
     exact Q9 _ _ _ (by rw[ZT];unfold oE;rw[if_pos z,List.append_nil])
  ·have⟨eB,rest,o4,o5,o6,e,ex,rfl,rfl⟩:=hj;have:rest=[]:=by cases rest with| nil=>rfl| cons p r=>cases ex
   subst this;rw[aaY]at e;rw[v9]at hb;rw[hb,<-e];exact h
section
variable{tb':List Fr}{a:Pl}{k:Str}
def qf.tok(fr:FR ε γ)(dr:aK γ gs S)(hp:Ω (fC γ "one") p)(ha:Ω (fC γ "other") a)(pr:AF γ S p)(h:qf γ S (aL p a) tb):OR γ tb:=⟨h.tab.len,λi il=>(h.sz fr (i4 fr hp ha) dr (pr a ha) il).2.2.2⟩
def sI(h:Ω (fC γ k) a)(tI:γ.length<=12):a.length<=12:=by have:=aaM List.length (cN h);rw[aae,i_,aae]at this;have l:=ab7 (λi=>decide (bP γ i=k)) (List.range γ.length);rw[aa8]at l;have l:(fA γ k).length<=γ.length:=l;omega
def D9(fr:FR ε γ)(hh:Ο k=true)(h:Ω (fC γ k) a):∀e∈a,0<=e.1/\∃kd ds,γ[e.1.toNat]? =some (.τ kd ds)/\0<=e.2/\e.2 < ds.length:=λe he=>by have ke:e.1∈a.map (·.1):=aan.mpr ⟨e,he,rfl⟩;rw[cN h,i_]at ke;have⟨i,hm,ei⟩:=aan.mp ke;have ei:(i:Int)=e.1:=ei;have⟨ds,hi,_,_⟩:=gq fr hh hm;have⟨j,gj,jl⟩:=(aU (i:=i) fr hh h).1 ds hi;have ge:=qD (hI h) he;rw[<-ei,gj]at ge;have ge:=aao ge;exact⟨(),k,ds,by rw[<-ei,aaW];exact hi,(),()⟩
def Qin(γ:List Rw)(S:Sp)(p:Pl):Pl->Rat->Prop:=λa u=>∃tb,qf γ S (aL p a) tb/\u= -nL γ tb a
def qf.uniq(fr:FR ε γ)(dr:aK γ gs S)(hp:Ω (fC γ "one") p)(ha:Ω (fC γ "other") a)(pr:AF γ S p)(h:qf γ S (aL p a) tb)(h':qf γ S (aL p a) tb'):tb=tb':=(Ri fr (i4 fr hp ha) dr (pr a ha)).uniq h.tab h'.tab
end
def MZ(A:Addr):DF:=λas M q _=>∃(ε:Fr) (γ:List Rw) (kp:Nat) (p:Pl) (S:Sp) (gs:List Nat),as=[ar A ε γ,.loc kp,.lst (S.map eU)]/\M[kp]? =some (dP p)/\FR ε γ/\aK γ gs S/\Ω (fC γ "one") p/\AF γ S p/\∀(a:Pl) (tb:List Fr) (E':Ms) (kt:Nat),p_ γ S p a tb->Α γ tb a=[]->M.length < kt->(M++[dP a]++E')[kt]? =some (.lst (tb.map av))->q (.tup [.loc M.length,.loc kt]) (M++[dP a]++E')
def g9:Γ ["floor","plan","steps","answer","table","better"] ["floor","plan","steps"] (χ md):=.of rfl
def wC(F:dE K "kept_least" "kept_least" md f fd)(E:Ev K mg Cm){Cp:Addr}{Cb:FuncData}(jG:aE P w K mg base 3 "first_plan" ["floor","hand"] (Dx Cm) Cp Cb){Bf:Addr}{BK:FuncData}(jy:aE P w K mg base 7 "chances_by" ["floor","plan","answer","steps"] (M_ Cm) Bf BK){mK:Addr}{lH:FuncData}(d7:aE P w K mg base 3 "better_led" ["floor","plan","table"] (HQ Cm) mK lH):aw P w K mg base (cP P w) 8 f fd ["floor","plan","steps"] (dw K (MZ Cm)):=by
 refine F.eF g9 (λds M q x h=>?_) (λbz A outer s H E' hr=>⟨_,(ζ (ψ 3 g9.nd (ao jG hr ξ (Ν (jv 0) (ι eY η bX))))
   (θ (jK (gG L6) (ζ (ψ 4 g9.nd (ao jy hr ξ (Ν (jv 0) (Ν (jv 1) (Ν (jv 3) (Ν (jv 2) η))))))
   (ζ (ψ 5 g9.nd (ao d7 hr ξ (Ν (jv 0) (Ν (jv 3) (Ν (jv 4) η)))))
   (ζ (aH (dz hr (Km E.bW (Ν (jv 5) η)) ο) (θ (Δ (cY (Ν (jv 3) (Ν (jv 4) η))))) Μ)
   (θ (fg (CM (jv 3) (jv 5)))))))))),λds M q x h=>?_⟩)
 ·have⟨ε,γ,kp,p,S,gs,rfl,_⟩:=h;rfl
 ·have⟨ε,γ,kp,p,S,gs,rfl,hp,fr,dr,fp,pr,h⟩:=h;have tI:=fr.pl.len;have f0:=Bv fr au;walk_at "vc";refine⟨ε,γ,"other",rfl,tI,?_⟩;generalize Bx γ "other"=a0 at *
  refine⟨λm ρ' M'=>∃(a:Pl) (E1:Ms) (o:Option Rat) (o4 o5:Option Dt),Ω (fC γ "other") a/\m=Ts (Mi (fC γ "other")) (Qin γ S p) o/\(∀t,o=some t->∀tb,qf γ S (aL p a) tb->t < -nL γ tb a)/\M'=M++[dP a]++E1/\ρ'=[some (ar Cm ε γ),some (.loc kp),some (.lst (S.map eU)),some (.loc M.length),o4,o5],⟨_,a0,[],none,none,none,f0,rfl,λ_ z=>(nomatch z),by rw[aaY],rfl⟩,λm ρ' M' hw=>?_⟩;have⟨a,E1,o,o4,o5,fa,rfl,ho,rfl,rfl⟩:=hw;have kpl:kp < M.length:=(aaf.mp hp).1;have NY:(M++[dP a]++E1)[kp]? =some (dP p):=bK (bK hp);have US:∀(a:Pl) (E:Ms),(M++[dP a]++E)[M.length]? =some (dP a):=λa E=>bK aN;have Kh:=sI fp tI;have RW:=sI fa tI;have dk:=i4 fr fp fa;walk_at "vc";refine⟨λ_=>⟨_,λρ2 M2 hn=>hn,?_⟩,nofun⟩;refine⟨ε,γ,kp,M.length,.lst (S.map eU),S,gs,p,a,rfl,NY,US a E1,λ_=>rfl,(),dk,dr,fr,pr a fa,λtb cn=>?_⟩;have tok:=cn.tok fr dr fp fa pr;have e1:M++[dP a]++E1++[dP (aL p a),MO.lst (tb.map av)]=M++[dP a]++(E1++[dP (aL p a),MO.lst (tb.map av)]):=by simp
  obtain⟨E2,YH⟩:∃E2,E2=E1++[dP (aL p a),MO.lst (tb.map av)]:=⟨_,rfl⟩;obtain⟨kt,zY⟩:∃kt,kt=(M++[dP a]++E1).length+1:=⟨_,rfl⟩;have SM:M.length < kt:=by rw[zY,aah,aah];show M.length < M.length+1+E1.length+1;omega
  have ZI:(M++[dP a]++E2)[kt]? =some (.lst (tb.map av)):=by rw[YH,<-e1,zY,aax (abB _ 1),aby];rfl
  rw[e1,<-YH,<-zY];refine⟨ε,γ,tb,M.length,kt,a,rfl,US a E2,ZI,tok,fr.DL,hI fa,RW,D9 fr au fa,?_⟩;have Xp:(Α γ tb a).length<=12:=aaw (qU a) RW;have Tf:(M++[dP a]++E2++[dP (Α γ tb a)])[(M++[dP a]++E2).length]? =some (dP (Α γ tb a)):=aN;have kl:(kP (Α γ tb a)).length=(Α γ tb a).length:=by unfold kP;rw[List.length_map]
  refine⟨_,_,_,rfl,Tf,?_⟩;rw[kl];show(decide (((Α γ tb a).length:Int)=0)=true->_)/\(decide (((Α γ tb a).length:Int)=0)=false->_);refine⟨λz=>?_,λz=>?_⟩
  ·have e:Α γ tb a=[]:=List.length_eq_zero_iff.mp (by have:=aav z;omega);refine⟨gV,?_⟩;rw[aaI (M++[dP a]) E2];exact h a tb _ kt ⟨fa,cn,JL fr fa cn.tab.red e⟩ e SM (by rw[<-aaI];exact bK ZI)
  ·have ne:Α γ tb a≠[]:=λy=>by rw[y]at z;exact aay z @_
   have⟨im,_⟩:=rZ (tb:=tb) fr au fa cn.tab.red;have ml:M.length < (M++[dP a]++E2).length:=by rw[aah,aah];show M.length < M.length+1+E2.length;omega
   dsimp only[Ag,DJ];walk_at "vc";refine⟨⟨M.length,_,_,rfl,bK (US a E2)⟩,M.length,_,_,_,_,_,rfl,rfl,(),bK (US a E2),Tf,by rw[kl];unfold kP;rw[List.length_map];omega,?_⟩;rw[D1,D3];have se:(M++[dP a]++E2++[dP (Α γ tb a)]).set M.length (dP (aL a (Α γ tb a)))=M++[dP (aL a (Α γ tb a))]++(E2++[dP (Α γ tb a)]):=by rw[aaI (M++[dP a]),aaI,aaI,List.set_append_right (h:=aaj _),abX];rfl
   rw[se];refine⟨_,?_,aL a (Α γ tb a),_,some (-nL γ tb a),_,_,im.fit,rfl,λt et tb' W5=>?_,rfl,rfl⟩
   ·exact Kd (rD fa) ⟨tb,cn,rfl⟩ (λu' ⟨tb',W5,e⟩=>by rw[e,W5.uniq fr dr fp fa pr cn]) λt et=>ho t et tb cn
   ·cases et;have:=IE fr dr fp fa pr cn ne W5;grind
def oj{E:Ms}{n:Nat}:∀(γ:List Rw) (j:Nat),(∀i m,(lj γ)[i]? =some m->E[j+i]? =some m)->fP n E (nA (n+j) γ) (γ.map Ι)
 | [],_,_=>.nil
 | .fin p::r,j,h=>.cons (.old (Ef (.fin p))) (oj r j h)
 | .τ k ds::r,j,h=>.cons (.tup (.cons (.old trivial) (.cons (.yu (abB _ _) (by rw[aby];exact h 0 _ rfl) (fP.old (fQ ds))) .nil))) (oj r (j+1) λi m e=>by rw[show j+1+i=j+(i+1) by omega];exact h (i+1) m e)
def HI(γ:List Rw)(M:Ms)(x:MO):fP M.length (lj γ++[x]) (nA M.length γ) (γ.map Ι):=
 oj γ 0 λi m e=>by rw[aa7,aas (aaf.mp e).1];exact e
def D8(M:Ms):∀rs:List Rw,Paired (jk M) (rs.map Ι) rs
 | []=>.nil
 | r::rs=>.cons (x_ _ r) (D8 M rs)
def hU(p:Pl)(i:Nat)(r:Rw):Rw:=match Λ p i,r with
 | some j,.τ k ds=>.τ k [ds.getD j.toNat d0]
 | _,r=>r
def fJ(p:Pl):Nat->List Rw->List Rw
 | _,[]=>[]
 | n,r::rs=>hU p n r::fJ p (n+1) rs
def e7(p:Pl):∀(rs:List Rw) (n:Nat),(fJ p n rs).length=rs.length
 | [],_=>rfl
 | _::rs,n=>aaM Nat.succ (e7 p rs (n+1))
def j5(p:Pl):∀(rs:List Rw) (n i:Nat),(fJ p n rs)[i]? =(rs[i]?).map (hU p (n+i))
 | [],_,_=>rfl
 | r::rs,n,0=>rfl
 | r::rs,n,i+1=>by show(fJ p (n+1) rs)[i]? =(rs[i]?).map (hU p (n+(i+1)));rw[j5 p rs (n+1) i,show n+1+i=n+(i+1) by omega]
def vt{te:DE}{ρ0:En}{ok:Ms->Prop}{M:Ms}{p:Pl}{k:List Dt->Ms->Prop}(ho:ok M):∀(rs:List Rw) (n:Nat) (acc:List Dt),(∀j r,rs[j]? =some r->∀q:DQ,q (Ι (hU p (n+j) r)) M->g2 0 1 (.tup [.int ((n+j:Nat):Int),Ι r]) ρ0 λρ'=>te ρ' M q ki)->k (acc++(fJ p n rs).map Ι) M->ux (g2 0 1) te ρ0 ok (gY n (rs.map Ι)) acc M k
 | [],n,acc,ht,h=>⟨ho,by simpa [fJ] using h⟩
 | r::rs,n,acc,ht,h=>⟨ho,ht 0 r rfl _ (vt ho rs (n+1) _ (λj r' hj q hq=>by
   have:=ht (j+1) r' hj q (by rw[show n+(j+1)=n+1+j by omega];exact hq)
   rwa[show n+(j+1)=n+1+j by omega]at this) (by simpa [fJ] using h))⟩
def Mf(M:Ms)(g:Dt)(gs:List Nat):Prop:=g= .lst (gs.map bH)\/∃k,g= .loc k/\M[k]? =some (.lst (gs.map bH))
def Mf.app{E:Ms}{g:Dt}(h:Mf M g gs):Mf (M++E) g gs:=by
 rcases h with h| ⟨k,e,h⟩
 ·exact .inl h
 ·exact .inr ⟨k,e,bK h⟩
def Mf.it{g:Dt}(h:Mf M g gs):∃ok,j1 M g=some (gs.map bH,ok)/\ok M/\hZ M g=some (gs.map bH):=by
 rcases h with rfl| ⟨k,rfl,h⟩
 ·exact⟨λ_=>True,rfl,trivial,rfl⟩
 ·have e:iz M (.loc k)=some (gs.map bH,λM':Ms=>M'[k]? =some (MO.lst (gs.map bH))):=by show(match M[k]? with| some (MO.lst xs)=>some (xs,λM':Ms=>M'[k]? =some (MO.lst xs))| _=>none)=_;rw[h]
  exact⟨_,nh e,h,rE h⟩
section
def z5(fr:FR ε γ)(fp:Ω (fC γ "one") p)(hi:γ[i]? =some (.τ "one" ds)):∃(j:Nat) (jl:j < ds.length),Λ p i=some (j:Int)/\hU p i (.τ "one" ds)= .τ "one" [ds[j]]:=by have⟨j,gj,jl⟩:=(aU (i:=i) fr ak fp).1 ds hi;refine⟨j,jl,gj,?_⟩;unfold hU;rw[gj];show Rw.τ "one" [ds.getD ((j:Int)).toNat d0]=_;rw[aaW,aab,aaa jl];rfl
def nE(fr:FR ε γ)(fp:Ω (fC γ "one") p){r:Rw}(hi:γ[i]? =some r)(hk:kindOf r≠"one"):hU p i r=r:=by unfold hU;rw[(aU (i:=i) fr ak fp).2 r hi hk]
def J3(fr:FR ε γ)(fp:Ω (fC γ "one") p):Ib (fJ p 0 γ):=by
 refine⟨by rw[e7];exact fr.pl.len,λr hr=>?_⟩;rw[e7];have⟨i,hi,rfl⟩:=aba hr;have e:=aaa hi;rw[j5]at e;have⟨r0,X',er⟩:=ab3.mp e;rw[aa7]at er;rw[<-er];have rm:=aai X';by_cases hk:kindOf r0="one"
 ·cases r0 with
  | fin q=>exact aay hk (by show¬(Str.ofString "end"=Str.ofString "one");decide)
  | τ k ds=>
   have hk:k="one":=hk;subst hk;have⟨j,jl,_,eh⟩:=z5 fr fp X';rw[eh];have dm:=aal jl;have⟨ro,rf⟩:=fr.pl.row _ rm;have fd:=(oi fr.DL rm).1;unfold Ξ at fd;rw[aaC,aaC]at fd;refine⟨⟨@_,(by show 1<=12;decide),λz=>aay z @_,λd hd=>by rw[aaV.mp hd];exact ro.2.2.2 _ dm⟩,?_⟩;show(if Ο (Str.ofString "one") then Ξ [ds[j]] γ.length else if (Str.ofString "one")="chance" then Ξ [ds[j]] γ.length&&Χ ([ds[j]].map ν) else false)=true;rw[aaq ak];unfold Ξ;rw[aaC,aaC];refine⟨⟨rfl,rfl⟩,?_⟩;rw[abS,List.all_nil,Bool.and_true];exact aa9.mp fd.2 _ dm
 ·rw[nE fr fp X' hk];exact fr.pl.row _ rm
def Bw(fr:FR ε γ)(fp:Ω (fC γ "one") p)(go:bZ γ gs):bZ (fJ p 0 γ) gs:=by refine⟨go.up,λg hg=>?_⟩;have⟨q,hq⟩:=go.fin g hg;refine⟨q,?_⟩;rw[j5,hq,aa7];show some (hU p g (.fin q))=_;rw[nE fr fp hq (by show¬(Str.ofString "end"=Str.ofString "one");decide)]
end
def MR:DF:=λas M q _=>∃(r:Rw) (i k:Nat) (p:Pl),as=[Ι r,.int (i:Nat),.loc k]/\M[k]? =some (dP p)/\(∀v,Λ p i=some v->∃kd ds,r= .τ kd ds/\0<=v/\v < ds.length)/\q (Ι (hU p i r)) M
def FN:Γ ["row","place","plan"] ["row","place","plan"] (χ q_):=.of rfl
def Ce(F:dE K "held_row" "held_row" q_ f fd)(E:Ev K mg Cm):aw P w K mg base (cP P w) 1 f fd ["row","place","plan"] (dw K MR):=by
 refine F.eF FN (λds M q x h=>?_) (λbz A outer s H E' hr=>⟨_,(ζ (aH (HK hr (jv 1) (jv 2)) (θ (Δ (cY (ι (Ε (jv 0) ο) (ι (nc (ι (Ε (Ε (jv 0) ο) (sX hr (jv 2) (jv 1))) η b8)) η) b8)))) Μ)
   (θ (Δ (jv 0)))),λds M q x h=>?_⟩)
 ·have⟨r,i,k,p,rfl,_⟩:=h;rfl
 ·have⟨r,i,k,p,rfl,hk,hv,h⟩:=h;refine⟨k,_,_,Sum.inl (i:Int),rfl,hk,rfl,?_⟩;rw[Mo];cases hg:Λ p i with
  | none=>
   unfold hU at h;rw[hg]at h;exact⟨nofun,λ_=>h⟩
  | some v=>
   have⟨kd,ds,rfl,v0,v1⟩:=hv v hg;have dg:eE (kP p) (vP p) (Sum.inl (i:Int))=some (.int v):=by rw[y8,hg];rfl
   obtain⟨j,rfl⟩:∃j:Nat,v=(j:Int):=⟨v.toNat,()⟩;have jl:j < ds.length:=()
   have gd:ds.getD j d0=ds[j]:=by rw[aab,aaa jl];rfl
   unfold hU at h;rw[hg]at h;have h:q (Ι (.τ kd [ds.getD ((j:Int)).toNat d0])) M:=h;rw[aaW,gd]at h;refine⟨λ_=>?_,nofun⟩;walk_at "vc";refine(Β (d:=.tup [.str kd,.lst (ds.map dD)]) (xs:=[.str kd,.lst (ds.map dD)]) rfl cf ?_:cR (.tup [.str kd,.lst (ds.map dD)]) (.int 0) M _);refine(zx ?_:cR (.tup [.str kd,.lst (ds.map dD)]) (.int 1) M _);refine⟨k,_,_,Sum.inl (i:Int),_,rfl,hk,rfl,dg,?_⟩;refine(Β (d:=.lst (ds.map dD)) (xs:=ds.map dD) rfl (Υ (j:=j) (by rw[aak,aaa jl];rfl)) ?_:cR (.lst (ds.map dD)) (.int (j:Int)) M _);exact⟨by show 1<=sizeLine;decide,gV,h⟩
def JC(A:Addr):DF:=λas M q _=>∃(ε:Fr) (γ:List Rw) (kp:Nat) (p:Pl) (g:Dt) (gs:List Nat),as=[ar A ε γ,.loc kp,g]/\M[kp]? =some (dP p)/\Ω (fC γ "one") p/\FR ε γ/\Mf M g gs/\bZ γ gs/\∀(S2:Sp) (m:MO),aK (fJ p 0 γ) gs S2->q (.loc M.length) (M++[.lst (S2.map eU),m])
def pv:Γ ["floor","plan","goals","rows"] ["floor","plan","goals"] (χ qY):=.of rfl
def A4(F:dE K "steps_by" "steps_by" qY f fd)(E:Ev K mg Cm){CN:Addr}{B_:FuncData}(jz:fG P w K mg base 2 Cm "rows" ["self"] (NO Cm) CN B_){II:Addr}{GZ:FuncData}(n9:aE P w K mg base 1 "held_row" ["row","place","plan"] MR II GZ){Iz:Addr}{HY:FuncData}(nR:aE P w K mg base 5 "draw" ["floor","goals"] (G8 Cm) Iz HY){l3:Addr}{mH:FuncData}(d9:Lc P w K mg base 5 "Floor" Cm ["self","share","rows"] (Hu Cm) l3 mH){Av:Addr}{yX:FuncData}(jd:fG P w K mg base 1 Cm "share" ["self"] (HE Cm) Av yX):aw P w K mg base (cP P w) 7 f fd ["floor","plan","goals"] (dw K (JC Cm)):=by
 refine F.eF pv (λds M q x h=>?_) (λbz A outer s H E' hr=>⟨_,(ζ (yO (i:=3) pv.nd rfl (Or.inl rfl) (ys:=["plan"]) (Θ:=[1]) (.of pv rfl rfl rfl) (mU E.cB (ι (cK (gS jz hr ξ (jv 0))) η bC)) (λC s H fp=>(ao n9 hr (fk (P:=P) (w:=w)) (Ν (jv 1) (Ν (jv 0) (Ν (jv 2) η))))))
   (θ (Δ (Ε (ao nR hr ξ (ι (cK (Hl d9 hr ξ (ι (gS jd hr ξ (jv 0)) (Ν (jv 3) η) bC))) (Ν (jv 2) η) bC)) ο)))),λds M q x h=>?_⟩)
 ·have⟨ε,γ,kp,p,g,gs,rfl,_⟩:=h;rfl
 ·have⟨ε,γ,kp,p,g,gs,rfl,hp,fp,fr,ga,go,h⟩:=h;have⟨ok,g1,S_,g3⟩:=ga.it;have fl:=J3 fr fp;have hg:=Bw fr fp go;have sl:∀{z:Nat},z<=1000->z<=sizeLine:=λh=>aaw h @_;have tI:=fr.pl.len;refine⟨⟨_,_,.inl rfl,rfl⟩,ε,γ,rfl,tI,λr hr=>(fr.pl.row r hr).1,?_⟩;rw[aaI];refine ie (d':=.lst (γ.map Ι)) (.yu (Nat.le_add_right _ _) (by simp) (HI γ M _)) ?_;walk_at "vc";refine⟨.lst (γ.map Ι),γ.map Ι,λ_=>True,rfl,rfl,?_⟩;refine⟨by rw[fU,aae];exact sl (),?_⟩;refine vt (p:=p) trivial γ 0 [] (λj r hj qq hq=>?_) ?_
  ·rw[aa7]at hq⊢;dsimp only[g2];walk_at "vc";refine⟨r,j,kp,p,rfl,hp,λv hv=>?_,hq⟩;cases r with
   | fin e=>rw[(aU (i:=j) fr ak fp).2 _ hj (by show¬(Str.ofString "end"=Str.ofString "one");decide)]at hv;cases hv
   | τ kd ds=>
    by_cases hk:kd="one"
    ·subst hk;have⟨x,gx,xl⟩:=(aU (i:=j) fr ak fp).1 ds hj;rw[gx]at hv;cases hv;exact⟨_,ds,rfl,(),()⟩
    ·rw[(aU (i:=j) fr ak fp).2 _ hj hk]at hv;cases hv
  rw[aaH];generalize hh:fJ p 0 γ=nD at *
  have hl:nD.length=γ.length:=by rw[<-hh,e7]
  refine⟨⟨_,_,.inl rfl,rfl⟩,ε,γ,rfl,?_⟩;refine⟨M.length,.lst (nD.map Ι),ε,nD.map Ι,nD,λ_=>True,rfl,by simp,rfl,D8 _ _,fr.pl.sh,by rw[hl];exact fr.n1,fl.len,fl.row,rfl,?_⟩;rw[show(M++[MO.ins Cm [] []]).set M.length (.ins Cm ["kept_share","kept_rows"] [av ε,.lst (nD.map Ι)])=M++[.ins Cm ["kept_share","kept_rows"] [av ε,.lst (nD.map Ι)]] by simp[List.set_append]];refine ie (d':=ar Cm ε nD) (.QX (Nat.le_refl _) (by simp) (.cons (.old (oU ε)) (.cons (.old (jT nD)) .nil))) ?_;refine⟨ε,nD,g,gs,ok,rfl,g1,S_,g3,hg,fl,λS2 d2=>?_⟩;exact Β (xs:=[.loc (M.length+1),.loc M.length]) rfl (Υ (j:=1) rfl) (h S2 _ d2)
section
def Bc(o:Option Nat):∀(ds:List aO) (n:Nat),(tH S o ds n=0/\∀d∈ds,gU S o d=false)\/∃(j:Nat) (jl:j < ds.length),tH S o ds n=n+j/\gU S o ds[j]=true
 | [],_=>.inl ⟨rfl,λ_ h=>nomatch h⟩
 | d::ds,n=>by
  by_cases c:gU S o d=true
  ·refine .inr ⟨0,by simp,?_,c⟩;show(if gU S o d=true then n else tH S o ds (n+1))=_;rw[aaq c];rfl
  ·have e:tH S o (d::ds) n=tH S o ds (n+1):=aau c;rw[e];rcases Bc o ds (n+1) with ⟨a,b⟩| ⟨j,jl,a,b⟩
   ·refine .inl ⟨a,λx hx=>?_⟩;rcases aaD.mp hx with y| y
    ·rw[y];simpa using c
    ·exact b x y
   ·exact .inr ⟨j+1,by simpa using jl,by rw[a];omega,b⟩
def uA{l:List Nat}{f:Nat->Int}(h:i∈l):Λ (l.map λi:Nat=>((i:Int),f i)) (i:Int)=some (f i):=by
 induction l with
 | nil=>cases h
 | cons a l ih=>
  rw[aaU];unfold Λ;by_cases e:a=i
  ·rw[aaq (by show(a:Int)=i;omega)];show some (f a)=_;rw[e]
  ·rw[aau (by show¬(a:Int)=i;omega)];exact ih ((aaD.mp h).resolve_left λz=>e z.symm)
def qP(fr:FR ε γ):Ω (fC γ "one") (mq γ S):=by
 have key:∀{l:List Nat},(∀i∈l,tH S (at_ S i) (aq (bV γ i)) 0 < (aq (bV γ i)).length)->Ω (l.map λi:Nat=>((i:Int),(aq (bV γ i)).length)) (l.map λi:Nat=>((i:Int),((tH S (at_ S i) (aq (bV γ i)) 0:Nat):Int))):=λ{l}=>by
  induction l with
  | nil=>exactλ_=>trivial
  | cons a l ih=>exactλh=>⟨rfl,(),by have:=h a aad;omega,ih λi hi=>h i (aac _ hi)⟩
 refine key λi hi=>?_;have⟨ds,_,e,l⟩:=gq fr ak hi;rw[e];rcases Bc (S:=S) (at_ S i) ds 0 with ⟨a,_⟩| ⟨j,jl,a,_⟩
 ·rw[a];exact l
 ·rw[a];omega
def kH(dr:aK γ gs S){k:Str}(hi:γ[i]? =some (.τ k ds))(e:at_ S i=some (s+1)):(k="other"->∀d∈ds,∃t,at_ S d.1.toNat=some t/\t<=s)/\∃d∈ds,at_ S d.1.toNat=some s:=by
 have:=dr.2 i _ hi;have this:h7 k (aQ S ds) (at_ S i):=this;unfold h7 at this;rw[e]at this;by_cases hk:k="other"
 ·rw[aaq hk]at this;rcases this with ⟨z,_⟩| ⟨v,ev,h1,h2⟩
  ·cases z
  ·cases ev;have⟨d,hd,ed⟩:=aa.mp h1;exact⟨λ_ d hd=>h2 _ (aa.mpr ⟨d,hd,rfl⟩),d,hd,ed⟩
 ·rw[aau hk]at this;rcases this with ⟨z,_⟩| ⟨v,ev,h1,h2⟩
  ·cases z
  ·cases ev;have⟨d,hd,ed⟩:=aa.mp h1;exact⟨λz=>aay z hk,d,hd,ed⟩
def J1(fr:FR ε γ)(dr:aK γ gs S)(fp:Ω (fC γ "one") p)(hd:∀(i:Nat) (ds:List aO) (s:Nat),γ[i]? =some (.τ "one" ds)->at_ S i=some (s+1)->∃(j:Nat) (jl:j < ds.length) (t:Nat),Λ p i=some (j:Int)/\at_ S ds[j].1.toNat=some t/\t<=s):AF γ S p:=λa fa C hC i il Uz=>by
 have main:∀(s i:Nat),i < γ.length->C i->at_ S i=some s->False:=λs=>by
  induction s using Nat.strongRecOn with
  | _ s ih=>
   intro i il ci e;have⟨st,cl⟩:=hC i il ci;have⟨s',e'⟩:=id st;rw[e]at e';have es:s=s'+1:=aao e';subst es;have⟨k,ds,hi⟩:=jC dr il st;have EH:=b9 fr.pl (aai hi);have go:∀d∈gm γ S (aL p a) i,∀t,at_ S d.1.toNat=some t->t<=s'->False:=λd hd t et lt=>by have:=(ot (acc:=aL p a) fr (i4 fr fp fa) dr il st).2.2;have⟨B,_,_,hw⟩:=this;have:=(hw d hd).to;exact ih t () d.1.toNat () (cl d hd) et
   have⟨n1,d1,K6,Py⟩:=kH dr hi e;rcases gE fr hi with rfl| rfl| rfl
   ·have⟨j,jl,t,gj,et,lt⟩:=hd i ds s' hi e;refine go (ds[j].1,ds[j].2.1,[(1,1)]) ?_ t et lt;rw[jf st,br hi,gu fr hi ak (by rw[eQ fr fa hi];exact gj) jl];exact aaV.mpr rfl
   ·have⟨j,gj,jl⟩:=(aU (i:=i) fr au fa).1 ds hi;have⟨t,et,lt⟩:=n1 rfl _ (aal jl);refine go (ds[j].1,ds[j].2.1,[(1,1)]) ?_ t et lt;rw[jf st,br hi,gu fr hi au (by rw[fM fr fa hi];exact gj) jl];exact aaV.mpr rfl
   ·refine go d1 ?_ s' Py (aaj _);rw[jf st,br hi];unfold eN;rw[fR fr fp fa hi];exact K6
 have⟨⟨s,e⟩,_⟩:=hC i il Uz;exact main _ i il Uz e
def Kp(fr:FR ε γ)(dr:aK γ gs S):AF γ S (mq γ S):=by
 refine J1 fr dr (qP fr) λi ds s hi e=>?_;have il:=(aaf.mp hi).1;have hm:i∈fA γ "one":=jW.mpr ⟨il,gW hi⟩;have g:Λ (mq γ S) (i:Int)=some ((tH S (at_ S i) (aq (bV γ i)) 0:Nat):Int):=uA (f:=λi=>((tH S (at_ S i) (aq (bV γ i)) 0:Nat):Int)) hm;rw[br hi]at g;have g:Λ (mq γ S) (i:Int)=some ((tH S (at_ S i) ds 0:Nat):Int):=g;have⟨_,d1,K6,Py⟩:=kH dr hi e;rcases Bc (S:=S) (at_ S i) ds 0 with ⟨_,b⟩| ⟨j,jl,ej,b⟩
 ·have:=b d1 K6;unfold gU at this;rw[Py,e]at this;exact aay (aa1 this) ()
 ·rw[ej,aa7]at g;unfold gU at b;rw[e]at b;cases et:at_ S ds[j].1.toNat with
  | none=>rw[et]at b;cases b
  | some t=>
   rw[et]at b;have:=aav b;exact⟨j,jl,t,g,et,()⟩
def XS(γ:List Rw)(S:Sp):Pl->Rat->Prop:=λp u=>∃a tb,AF γ S p/\p_ γ S p a tb/\u=nL γ tb p
structure cq(γ:List Rw)(gs:List Nat)(S S2:Sp)(p a:Pl)(tb:List Fr):Prop where
 dr:aK γ gs S
 fp:Ω (fC γ "one") p
 pr:AF γ S p
 kp:p_ γ S p a tb
 np:Α γ tb p=[]
 na:Α γ tb a=[]
 d2:aK (fJ p 0 γ) gs S2
end
def K8{q:DQ}{xs:List Nat}(h:q (.tup [.lst (xs.map bH),.lst (S.map eU)]) M):pZ M q (.tup [.loc (M.length+1),.loc M.length]) (M++[.lst (S.map eU),.lst (xs.map bH)]):=by
 have u1:∀(S:Sp),Dt.bj M.length (S.map eU):=λS=>by
  induction S with
  | nil=>trivial
  | cons o S ih=>cases o with| none=>exact⟨trivial,ih⟩| some v=>exact⟨trivial,ih⟩
 have u2:∀(xs:List Nat),Dt.bj M.length (xs.map bH):=λxs=>by
  induction xs with
  | nil=>trivial
  | cons o S ih=>exact⟨trivial,ih⟩
 exact ie (d':=.tup [.lst (xs.map bH),.lst (S.map eU)]) (.tup (.cons (.yu (Nat.le_succ _) (by rw[aby];rfl) (fP.old (u2 xs))) (.cons (.yu (aaj _) (by rw[abX];rfl) (fP.old (u1 S))) .nil))) h
def yH(A:Addr):DF:=λas M q _=>∃(ε:Fr) (γ:List Rw) (g:Dt) (gs:List Nat),as=[ar A ε γ,g]/\FR ε γ/\Mf M g gs/\bZ γ gs/\∀(S S2:Sp) (p a:Pl) (tb:List Fr) (E':Ms) (kt ka ks:Nat),cq γ gs S S2 p a tb->M.length < ka->ka < kt->kt < ks->(M++[dP p]++E')[ka]? =some (dP a)->(M++[dP p]++E')[kt]? =some (.lst (tb.map av))->(M++[dP p]++E')[ks]? =some (.lst (S2.map eU))->q (.tup [.loc kt,.loc M.length,.loc ka,.loc ks]) (M++[dP p]++E')
def iP:Γ ["floor","goals","steps","plan","found","better"] ["floor","goals"] (χ qJ):=.of rfl
def AK(F:dE K "chances" "chances" qJ f fd)(E:Ev K mg Cm){Iz:Addr}{HY:FuncData}(nR:aE P w K mg base 5 "draw" ["floor","goals"] (G8 Cm) Iz HY){A0:Addr}{CQ:FuncData}(km:aE P w K mg base 4 "drawn_plan" ["floor","steps"] (sk Cm) A0 CQ){CO:Addr}{Cz:FuncData}(jS:aE P w K mg base 8 "kept_least" ["floor","plan","steps"] (MZ Cm) CO Cz){mK:Addr}{lH:FuncData}(d7:aE P w K mg base 3 "better_led" ["floor","plan","table"] (HQ Cm) mK lH){ID:Addr}{J8:FuncData}(oF:aE P w K mg base 7 "steps_by" ["floor","plan","goals"] (JC Cm) ID J8):aw P w K mg base (cP P w) 9 f fd ["floor","goals"] (dw K (yH Cm)):=by
 refine F.eF iP (λds M q x h=>?_) (λbz A outer s H E' hr=>⟨_,(ζ (ψ 2 iP.nd (Ε (cK (ao nR hr ξ (Ν (jv 0) (Ν (jv 1) η)))) ο))
   (ζ (ψ 3 iP.nd (ao km hr ξ (Ν (jv 0) (Ν (jv 2) η))))
   (θ (jK (gG L6) (ζ (ψ 4 iP.nd (ao jS hr ξ (Ν (jv 0) (Ν (jv 3) (Ν (jv 2) η)))))
   (ζ (ψ 5 iP.nd (ao d7 hr ξ (Ν (jv 0) (Ν (jv 3) (ι (Ε (jv 4) ο) η b8)))))
   (ζ (aH (dz hr (Km E.bW (Ν (jv 5) η)) ο) (θ (Δ (cY (ι (Ε (jv 4) ο) (Ν (jv 3) (ι (Ε (jv 4) ο) (ι (ao oF hr ξ (Ν (jv 0) (Ν (jv 3) (Ν (jv 1) η)))) η bC) b8)) b8)))) Μ)
   (θ (fg (CM (jv 3) (jv 5))))))))))),λds M q x h=>?_⟩)
 ·have⟨ε,γ,g,gs,rfl,_⟩:=h;rfl
 ·have⟨ε,γ,g,gs,rfl,fr,ga,go,h⟩:=h;have tI:=fr.pl.len;have⟨ok,g1,S_,g3⟩:=ga.it;refine⟨ε,γ,g,gs,ok,rfl,g1,S_,g3,go,fr.DL,λS dr=>K8 ?_⟩;walk_at "vc";refine(Β (d:=.tup [.lst ((jo S).map bH),.lst (S.map eU)]) (xs:=[.lst ((jo S).map bH),.lst (S.map eU)]) rfl (Υ (j:=1) rfl) ?_:cR (.tup [.lst ((jo S).map bH),.lst (S.map eU)]) (.int 1) _ _);refine⟨ε,γ,.lst (S.map eU),S,gs,rfl,λ_=>rfl,dr,fr,?_⟩;have f0:=qP (S:=S) fr;have pr0:=Kp fr dr;generalize mq γ S=p0 at *
  refine⟨λm ρ' M'=>∃(p:Pl) (E1:Ms) (o:Option Rat) (o4 o5:Option Dt),Ω (fC γ "one") p/\AF γ S p/\m=Ts (Mi (fC γ "one")) (XS γ S) o/\(∀t,o=some t->∀a tb,p_ γ S p a tb->t < nL γ tb p)/\M'=M++[dP p]++E1/\ρ'=[some (ar Cm ε γ),some g,some (.lst (S.map eU)),some (.loc M.length),o4,o5],⟨_,p0,[],none,none,none,f0,pr0,rfl,λ_ z=>(nomatch z),by rw[aaY],rfl⟩,λm ρ' M' hw=>?_⟩;have⟨p,E1,o,o4,o5,fp,pr,rfl,ho,rfl,rfl⟩:=hw;have NY:∀(p:Pl) (E:Ms),(M++[dP p]++E)[M.length]? =some (dP p):=λa E=>bK aN;have Kh:=sI fp tI;walk_at "vc";refine⟨λ_=>⟨_,λρ2 M2 hn=>hn,?_⟩,nofun⟩;refine⟨ε,γ,M.length,p,S,gs,rfl,NY p E1,fr,dr,fp,pr,λa tb E2 kt kp na SM zY=>?_⟩;have tok:=kp.ch.tok fr dr fp kp.fa pr;obtain⟨ka,EN⟩:∃ka,ka=(M++[dP p]++E1).length:=⟨_,rfl⟩;have Zf:M.length < ka:=by rw[EN,aah,aah];show M.length < M.length+1+E1.length;omega
  have Sj:(M++[dP p]++E1++[dP a]++E2)[ka]? =some (dP a):=by rw[EN];exact bK aN
  rw[<-EN]at SM⊢;have e1:M++[dP p]++E1++[dP a]++E2=M++[dP p]++(E1++[dP a]++E2):=by simp
  rw[e1]at zY Sj⊢;generalize E1++[dP a]++E2=E3 at *
  refine(Β (d:=.tup [.loc ka,.loc kt]) (xs:=[.loc ka,.loc kt]) rfl (Υ (j:=1) rfl) ?_:cR (.tup [.loc ka,.loc kt]) (.int 1) _ _);refine⟨ε,γ,tb,M.length,kt,p,rfl,NY p E3,zY,tok,fr.DL,hI fp,Kh,D9 fr ak fp,?_⟩;have Xp:(Α γ tb p).length<=12:=aaw (qU p) Kh;have Tf:(M++[dP p]++E3++[dP (Α γ tb p)])[(M++[dP p]++E3).length]? =some (dP (Α γ tb p)):=aN;have kl:(kP (Α γ tb p)).length=(Α γ tb p).length:=by unfold kP;rw[List.length_map]
  refine⟨_,_,_,rfl,Tf,?_⟩;rw[kl];show(decide (((Α γ tb p).length:Int)=0)=true->_)/\(decide (((Α γ tb p).length:Int)=0)=false->_);refine⟨λz=>?_,λz=>?_⟩
  ·have e:Α γ tb p=[]:=List.length_eq_zero_iff.mp (by have:=aav z;omega);rw[aaI (M++[dP p]) E3];generalize Zh:E3++[dP (Α γ tb p)]=E4;have Tj:(M++[dP p]++E4)[kt]? =some (.lst (tb.map av)):=by rw[<-Zh,<-aaI];exact bK zY
   have YB:(M++[dP p]++E4)[ka]? =some (dP a):=by rw[<-Zh,<-aaI];exact bK Sj
   refine(Β (d:=.tup [.loc ka,.loc kt]) (xs:=[.loc ka,.loc kt]) rfl (Υ (j:=1) rfl) ?_:cR (.tup [.loc ka,.loc kt]) (.int 1) _ _);refine(Β (d:=.tup [.loc ka,.loc kt]) (xs:=[.loc ka,.loc kt]) rfl cf ?_:cR (.tup [.loc ka,.loc kt]) (.int 0) _ _);refine⟨ε,γ,M.length,p,g,gs,rfl,NY p E4,fp,fr,Mf.app (Mf.app ga),go,λS2 m2 d2=>?_⟩;refine⟨by show 4<=sizeLine;decide,?_⟩;have Uv:=(aaf.mp Tj).1;have es:(M++[dP p]++E4++[MO.lst (S2.map eU),m2])[(M++[dP p]++E4).length]? =some (.lst (S2.map eU)):=by rw[aax (aaj _),abX];rfl
   rw[aaI (M++[dP p]) E4]at es⊢;exact h S S2 p a tb _ kt ka _ ⟨dr,fp,pr,kp,e,na,d2⟩ Zf SM Uv (by rw[<-aaI];exact bK YB) (by rw[<-aaI];exact bK Tj) es
  ·have ne:Α γ tb p≠[]:=λy=>by rw[y]at z;exact aay z @_
   have⟨im,_⟩:=rZ (tb:=tb) fr ak fp kp.ch.tab.red;have GH:=AF.better fr dr fp kp.fa pr kp.ch kp.le im;have ml:M.length < (M++[dP p]++E3).length:=by rw[aah,aah];show M.length < M.length+1+E3.length;omega
   dsimp only[Ag,DJ];walk_at "vc";refine⟨⟨M.length,_,_,rfl,bK (NY p E3)⟩,M.length,_,_,_,_,_,rfl,rfl,(),bK (NY p E3),Tf,by rw[kl];unfold kP;rw[List.length_map];omega,?_⟩;rw[D1,D3];have se:(M++[dP p]++E3++[dP (Α γ tb p)]).set M.length (dP (aL p (Α γ tb p)))=M++[dP (aL p (Α γ tb p))]++(E3++[dP (Α γ tb p)]):=by rw[aaI (M++[dP p]),aaI,aaI,List.set_append_right (h:=aaj _),abX];rfl
   rw[se];refine⟨_,?_,aL p (Α γ tb p),_,some (nL γ tb p),_,_,im.fit,GH,rfl,λt et a' tb' X8=>?_,rfl,rfl⟩
   ·exact Kd (rD fp) ⟨a,tb,pr,kp,rfl⟩ (λu' ⟨a',tb',_,X8,e⟩=>by rw[e,X8.uniq fr dr fp pr kp]) λt et=>ho t et a tb kp
   ·cases et;exact JO fr dr fp kp ne GH X8
def IY(ns:List Int)(k:Int):Int:=ns.getD k.toNat 0
def BC{k:Int}(h0:0<=k)(h2:k < ns.length):iH (ns.map Dt.int) k=some (.int (IY ns k)):=by
 have e:(ns.map Dt.int)[k.toNat]? =some (.int (IY ns k)):=by rw[aak,aaa (show k.toNat < ns.length by omega)];unfold IY;rw[aab,aaa (show k.toNat < ns.length by omega)];rfl
 have:=Υ e;rwa[show((k.toNat:Nat):Int)=k by omega]at this
def MJ{k:Int}(h:¬k < ns.length):IY ns k=0:=by unfold IY;rw[aab,List.getElem?_eq_none ()];rfl
def Ll(ns:List Int)(k:Int):Bool:=decide (k < ns.length)&&(decide (IY ns k < 0)|| decide (IY ns k ≥ 10 ^ 18))
def LD{k:Int}(h:Ll ns k=false):0<=IY ns k/\IY ns k < 10 ^ 18:=by
 unfold Ll at h;by_cases hk:k < ns.length
 ·rw[aaE hk,Bool.true_and,Bool.or_eq_false_iff,decide_eq_false_iff_not,decide_eq_false_iff_not]at h;omega
 ·rw[MJ hk];exact⟨@_,@_⟩
def p18:yp 10 18:=⟨@_,@_,@_⟩
def Ze:yp 10 64:=⟨@_,@_,@_⟩
def p8:yp 10 8:=⟨@_,@_,@_⟩
def p6:yp 10 6:=⟨@_,@_,@_⟩
def p22:yp 10 22:=⟨@_,@_,@_⟩
def ZG:yp 10 30:=⟨@_,@_,@_⟩
def Nm(n:Int):Prop:=0<=n/\n < 10 ^ 128
def Jv{n:Int}(h:Nm n):fj n:=BA (k:=440) h.1 (Int.lt_of_lt_of_le h.2 @_) @_
def rW{a m:Int}(h0:0 < m)(h1:m<=10 ^ 128):Nm (a % m):=⟨abj _ (),Int.lt_of_lt_of_le (abg _ h0) h1⟩
def J2{a m:Int}(h:Nm a)(h0:0 < m):Nm (a / m):=⟨acs h.1 (),abh (ach _ h.1) h.2⟩
def Qp:DF:=λas M q _=>∃(ns:List Int) (k:Int),as=[.hW ns,.int k]/\0<=k/\q (.bl (Ll ns k)) M
def HA:Γ ["_law_script","_law_k"] ["_law_script","_law_k"] (χ vK):=.of rfl
def FY(F:dE K "_law_far" "_law_far" vK f fd)(E:Ev K mg Cm):aw P w K mg base (cP P w) 1 f fd ["_law_script","_law_k"] (dw K Qp):=by
 refine F.eF HA (λds M q x h=>?_) (λbz A outer s H E' hr=>⟨_,(θ (Δ (jH (Kj (jv 1) (cZ E.bW (Ν (jv 0) η))) (jZ (Kq (Kj (Ε (jv 0) (jv 1)) ο) (jZ (Ye (Ε (jv 0) (jv 1)) (ny ο ο)))))))),λds M q x h=>?_⟩)
 ·have⟨ns,k,rfl,_⟩:=h;rfl
 ·have⟨ns,k,rfl,hk,h⟩:=h;unfold Ll at h;walk_at "vc";refine(aF (d:=.hW ns) (xs:=ns.map .int) rfl ?_:gH [.hW ns] M _);rw[aae];refine⟨λh1=>?_,λh1=>?_⟩
  ·have h1:decide (k < ns.length)=true:=h1;have nu:k < ns.length:=aav h1;rw[h1,Bool.true_and]at h;refine(Β (d:=.hW ns) rfl (BC hk nu) ?_:cR (.hW ns) (.int k) M _);refine⟨λh2=>?_,λh2=>?_⟩
   ·have h2:decide (IY ns k < 0)=true:=h2;rw[h2,Bool.true_or]at h;exact h
   ·have h2:decide (IY ns k < 0)=false:=h2;rw[h2,Bool.false_or]at h;refine(Β (d:=.hW ns) rfl (BC hk nu) ?_:cR (.hW ns) (.int k) M _);exact⟨p18,h⟩
  ·have h1:decide (k < ns.length)=false:=h1;rw[h1,Bool.false_and]at h;exact h
def Af:DF:=λas M q _=>∃(ns:List Int) (k:Int),as=[.hW ns,.int k]/\0<=k/\k<=200/\∀n,Nm n->q (.int n) M
def G7(x:Int)(h0:0<=x)(h1:x < 2147483647):fj x/\fj (x % 65521+30011):=⟨bg (k:=40) (),bg (k:=40) ()⟩
def Oa{k:Int}(h0:0<=k)(h1:k<=200):fj ((k+1) * (k+1)):=by have a:=acy (show k+1<=201 by omega) (show k+1<=201 by omega) (show 0<=k+1 by omega) (show(0:Int)<=201 by decide);have b:0<=(k+1) * (k+1):=abt () ();exact bg (k:=40) ()
def jL:Γ ["_law_script","_law_k","_law_cell","_law_number_here"] ["_law_script","_law_k"] (χ mw):=.of rfl
def vH(F:dE K "_law_number" "_law_number" mw f fd)(E:Ev K mg Cm){wz:Addr}{xA:FuncData}(iD:aE P w K mg base 1 "_law_far" ["_law_script","_law_k"] Qp wz xA):aw P w K mg base (cP P w) 2 f fd ["_law_script","_law_k"] (dw K Af):=by
 refine F.eF jL (λds M q x h=>?_) (λbz A outer s H E' hr=>⟨_,(ζ (ψ 2 jL.nd (Jb (pL (jv 1) (cZ E.bW (Ν (jv 0) η))) (Ε (jv 0) (jv 1)) ο))
   (ζ (aH (gG (ao iD hr ξ (Ν (jv 0) (Ν (jv 1) η)))) (θ (Δ (cQ (jv 2) (ny ο ο)))) Μ)
   (ζ (ψ 3 jL.nd (cQ (cJ (aP (jv 2) ο) (aP (aP (cJ (jv 1) ο) (cJ (jv 1) ο)) ο)) ο))
   (θ (Δ (cQ (cJ (aP (jv 3) (cJ (cQ (jv 3) ο) ο)) (aP (cJ (jv 1) ο) ο)) ο)))))),λds M q x h=>?_⟩)
 ·have⟨ns,k,rfl,_⟩:=h;rfl
 ·have⟨ns,k,rfl,hk,k2,h⟩:=h;have bk:=Oa hk k2;have b1:fj (k+1):=bg (k:=40) ();have b3:fj (k+3):=bg (k:=40) ();have cc:∀n:Int,n.natAbs < 2 ^ 20->fj n:=λn hn=>bg hn;walk_at "vc";refine(aF (d:=.hW ns) (xs:=ns.map .int) rfl ?_:gH [.hW ns] M _);rw[aae];refine⟨λh1=>?_,λh1=>?_⟩
  ·have nu:k < ns.length:=aav h1;refine(Β (d:=.hW ns) rfl (BC hk nu) ?_:cR (.hW ns) (.int k) M _);refine⟨ns,k,rfl,hk,λh2=>?_,λh2=>?_⟩
   ·exact⟨Ze,@_,h _ (rW @_ @_)⟩
   ·have⟨c0,c1⟩:=LD h2;refine⟨⟨bg (k:=64) (),cc _ @_⟩,⟨b1,b1⟩,⟨bk,cc _ @_⟩,@_,?_⟩;exact⟨@_,G7 _ (abj _ @_) (abg _ @_),⟨b3,cc _ @_⟩,@_,h _ (rW @_ @_)⟩
  ·have nu:¬k < ns.length:=aa1 h1;refine⟨ns,k,rfl,hk,λh2=>?_,λh2=>?_⟩
   ·exact⟨Ze,@_,h _ (rW @_ @_)⟩
   ·refine⟨⟨cc _ @_,cc _ @_⟩,⟨b1,b1⟩,⟨bk,cc _ @_⟩,@_,?_⟩;exact⟨@_,G7 _ (abj _ @_) (abg _ @_),⟨b3,cc _ @_⟩,@_,h _ (rW @_ @_)⟩
def uO:Γ ["_law_script","_law_k","_law_number_here"] ["_law_script","_law_k"] (χ rJ):=.of rfl
def By(F:dE K "_law_rest" "_law_rest" rJ f fd)(E:Ev K mg Cm)(Ψ:aE P w K mg base 2 "_law_number" ["_law_script","_law_k"] Af cC cE){wz:Addr}{xA:FuncData}(iD:aE P w K mg base 1 "_law_far" ["_law_script","_law_k"] Qp wz xA):aw P w K mg base (cP P w) 3 f fd ["_law_script","_law_k"] (dw K Af):=by
 refine F.eF uO (λds M q x h=>?_) (λbz A outer s H E' hr=>⟨_,(ζ (ψ 2 uO.nd (ao Ψ hr ξ (Ν (jv 0) (Ν (jv 1) η))))
   (ζ (aH (gG (ao iD hr ξ (Ν (jv 0) (Ν (jv 1) η)))) (θ (Δ (eJ (jv 2) (ny ο ο)))) Μ)
   (θ (Δ (cQ (aP (jv 2) ο) ο))))),λds M q x h=>?_⟩)
 ·have⟨ns,k,rfl,_⟩:=h;rfl
 ·have⟨ns,k,rfl,hk,k2,h⟩:=h;refine⟨ns,k,rfl,hk,k2,λn hn=>?_⟩;refine⟨ns,k,rfl,hk,λh2=>?_,λh2=>?_⟩
  ·exact⟨p8,⟨@_,bg (k:=40) @_⟩,h _ (J2 hn @_)⟩
  ·exact⟨⟨Jv hn,bg (k:=20) @_⟩,@_,h _ (rW @_ @_)⟩
def Tq{a b:Int}(h1: -(10 ^ 30)<=a)(h2:a<=10 ^ 30)(h3:b<=1000000):cH (a,b)=true:=by
 unfold cH;have:(if a < 0 then -a else a)<=10 ^ 30:=by split <;> omega
 show(decide ((if a < 0 then -a else a)<=10 ^ 30)&&decide (b<=1000000))=true;rw[aaE this,aaE h3];rfl
def DP{t b:Int}(h1: -(10 ^ 30)<=t)(h2:t<=10 ^ 30)(h0:0 < b)(h3:b<=1000000):cH (ax t b)=true:=by
 have l1:=qE (t:=t) (show b≠0 by omega);have l2:=rB (t:=t) (show b≠0 by omega);generalize ax t b=f at *
 have⟨x,y⟩:=f;have l1:x.natAbs<=t.natAbs:=l1;have l2:y.natAbs<=b.natAbs:=l2;exact Tq () () ()
def LR:DF:=λas M q _=>∃t b:Int,as=[.int t,.int b]/\0 < b/\fj b/\q (av (ax t b)) M
def hG:Γ ["_law_top","_law_bottom_here","_law_one","_law_other"] ["_law_top","_law_bottom_here"] (χ lQ):=.of rfl
def vS(F:dE K "_law_lowest" "_law_lowest" lQ f fd)(E:Ev K mg Cm):aw P w K mg base (cP P w) 1 f fd ["_law_top","_law_bottom_here"] (dw K LR):=by
 refine F.eF hG (λds M q x h=>?_) (λbz A outer s H E' hr=>⟨_,(ζ (ψ 2 hG.nd (Ee E.qM (Ν (jv 0) η)))
   (ζ (ψ 3 hG.nd (jv 1))
   (ζ (jK (rV hr (jv 3) ο) (θ (Qw (i:=2) (j:=3) hG.nd rfl rfl (Ν (jv 3) (ι (cQ (jv 2) (jv 3)) η cz)))))
   (θ (Δ (cY (ι (eJ (jv 0) (jv 2)) (ι (eJ (jv 1) (jv 2)) η cz) cz))))))),λds M q x h=>?_⟩)
 ·have⟨t,b,rfl,_⟩:=h;rfl
 ·have⟨t,b,rfl,h0,h1,h⟩:=h;have ga:g (if t < 0 then -t else t) b=g t b:=by have:=Nj t b;rwa[aau (show¬b < 0 by omega)]at this
  refine⟨λm ρ M'=>M'=M/\∃(x y:Int),ρ=[some (.int t),some (.int b),some (.int x),some (.int y)]/\0<=x/\0<=y/\g x y=g t b/\m=y.toNat,⟨_,rfl,_,_,rfl,by split <;> omega,(),ga,rfl⟩,?_⟩;rintro m ρ M' ⟨rfl,x,y,rfl,hx,hy,e,rfl⟩;refine⟨λhb=>?_,λhb=>?_⟩
  ·have Lq:y≠0:=by simpa using hb
   refine⟨_,λρ' M2 h2=>h2,?_⟩;refine⟨(),(x % y).toNat,?_,rfl,y,x % y,rfl,hy,abj _ Lq,?_,rfl⟩
   ·have:=abg x (show 0 < y by omega);have:=abj x Lq;omega
   ·rw[<-abP x hy,IK ()];exact e
  ·have Lq:y=0:=by simpa using hb
   subst Lq;rw[Iv hx]at e;subst e;have hg:0 < g t b:=zG ();have hle:g t b<=b:=abZ h0 (Int.gcd_dvd_right ..);have hb:fj (g t b):=abf (show(g t b).natAbs<=b.natAbs by omega) h1;have e:ax t b=(t / g t b,b / g t b):=by rw[MA h0,acd _ (aag hg),acd _ (aag hg)]
   rw[e]at h;exact⟨⟨hg,hb⟩,⟨hg,hb⟩,gV,h⟩
def GX:DF:=λas M q _=>∃n:Int,as=[.int n]/\Nm n/\∀p,cH p=true->0 < p.2->q (av p) M
def IJ:Γ ["_law_number_here"] ["_law_number_here"] (χ wB):=.of rfl
def Gf(F:dE K "_law_pay" "_law_pay" wB f fd)(E:Ev K mg Cm)(bu:aE P w K mg base 1 "_law_lowest" ["_law_top","_law_bottom_here"] LR gB gA):aw P w K mg base (cP P w) 2 f fd ["_law_number_here"] (dw K GX):=by
 refine F.eF IJ (λds M q x h=>?_) (λbz A outer s H E' hr=>⟨_,(ζ (aH (dz hr (cQ (jv 0) ο) ο) (θ (Δ (ao bu hr ξ (ι (sN (cQ (aP (jv 0) (ny ο ο)) (cJ (aP ο (ny ο ο)) ο)) (ny ο ο)) (ι (cJ ο (cQ (eJ (jv 0) ο) (ny ο ο))) η cz) cz)))) Μ)
   (θ (Δ (ao bu hr ξ (ι (sN (cQ (eJ (jv 0) ο) ο) ο) (ι (cJ ο (cQ (eJ (jv 0) ο) ο)) η cz) cz))))),λds M q x h=>?_⟩)
 ·have⟨n,rfl,_⟩:=h;rfl
 ·have⟨n,rfl,hn,h⟩:=h;refine⟨@_,λ_=>?_,λ_=>?_⟩
  ·have SI:0 < 1+n / 8 % 10 ^ (6:Int).toNat/\1+n / 8 % 10 ^ (6:Int).toNat<=1000000:=by show 0 < 1+n / 8 % 1000000/\1+n / 8 % 1000000<=1000000;omega
   have hb7:fj (1+n / 8 % 10 ^ (6:Int).toNat):=BA (k:=20) (aag SI.1) (abh SI.2 @_) @_;have b22:fj ((10:Int) ^ (22:Int).toNat):=bg (k:=110) @_;have b30:fj ((10:Int) ^ (30:Int).toNat):=bg (k:=110) @_;have m0:(0:Int) < 2 * 10 ^ (30:Int).toNat+1:=@_
   have WN:=abj (n * 10 ^ (22:Int).toNat) (show(2 * 10 ^ (30:Int).toNat+1:Int)≠0 by decide);have Y4:=abg (n * 10 ^ (22:Int).toNat) m0;refine⟨p22,⟨Jv hn,b22⟩,ZG,⟨bg (k:=4) @_,b30⟩,m0,ZG,⟨@_,bg (k:=5) @_⟩,p6,(by show(0:Int) < 1000000;decide),_,_,rfl,SI.1,hb7,h _ (DP ?_ ?_ SI.1 SI.2) (b_ ())⟩
   ·show -(10 ^ 30)<=n * 10 ^ (22:Int).toNat % (2 * 10 ^ (30:Int).toNat+1) - 10 ^ 30;omega
   ·have e:(10:Int) ^ (30:Int).toNat=10 ^ 30:=rfl;rw[e]at Y4;show n * 10 ^ (22:Int).toNat % (2 * 10 ^ 30+1) - 10 ^ 30<=10 ^ 30;omega
  ·exact⟨⟨@_,bg (k:=4) @_⟩,@_,⟨@_,bg (k:=8) @_⟩,@_,_,_,rfl,(),bg (k:=10) (),h _ (DP () () () ()) (b_ ())⟩
structure uX(kd:Str)(size:Int)(cs:List Fr)(ds:List aO):Prop where
 fit:∀d∈ds,aJ d.1 d.2.1 size=true/\0 < d.2.1.2
 UU:kd="chance"->(∀d∈ds,d.2.2=[ν d])/\ds.map ν=cs.take ds.length
 VT:kd≠"chance"->∀d∈ds,d.2.2=[]
def uX.more{kd:Str}{size:Int}{cs:List Fr}{d:aO}(h:uX kd size cs ds)(h1:aJ d.1 d.2.1 size=true)(h2:0 < d.2.1.2)(hl:ds.length < cs.length)(h3:kd="chance"->d.2.2=[cs[ds.length]])(h4:kd≠"chance"->d.2.2=[]):uX kd size cs (ds++[d]):=by
 refine⟨λe he=>?_,λhc=>⟨λe he=>?_,?_⟩,λhc e he=>?_⟩
 ·rcases aaR.mp he with he| he
  ·exact h.fit e he
  ·have:e=d:=by simpa using he
   subst this;exact⟨h1,h2⟩
 ·rcases aaR.mp he with he| he
  ·exact(h.UU hc).1 e he
  ·have:e=d:=by simpa using he
   subst this;unfold ν;rw[h3 hc];rfl
 ·rw[aa2,(h.UU hc).2,aah];show cs.take ds.length++[ν d]=cs.take (ds.length+1);rw[List.take_succ,aaa hl];unfold ν;rw[h3 hc];rfl
 ·rcases aaR.mp he with he| he
  ·exact h.VT hc e he
  ·have:e=d:=by simpa using he
   subst this;exact h4 hc
def uX.good{kd:Str}{size:Int}{cs:List Fr}(h:uX kd size cs ds)(hk:Ο kd=true\/kd="chance")(h1:1<=ds.length)(h6:ds.length<=6)(hl:ds.length=cs.length)(hc:Χ cs=true)(ho:Oy cs):qj size (.τ kd ds):=by
 by_cases AB:kd="chance"
 ·subst AB;have e:ds.map ν=cs:=by rw[(h.UU rfl).2,hl,List.take_length]
  exact EF h1 h6 (λd hd=>(h.fit d hd).1) (h.UU rfl).1 (by rw[e];exact hc) (by rw[e];exact ho) λd hd=>(h.fit d hd).2
 ·exact LF (hk.resolve_right AB) h1 h6 (λd hd=>(h.fit d hd).1) λd hd=>⟨h.VT AB d hd,(h.fit d hd).2⟩
def QJ(size:Int)(r:Rw):Prop:=qj size r/\∀k ds,r= .τ k ds->Ο k=true->∀d∈ds,d.2.2=[]
def MB{k:Str}(h:Ο k=true):k≠"chance":=λz=>by subst z;exact aay h @_
def DD:DF:=λas M q _=>∃(ns:List Int) (a:Int) (kd:Str) (eA:Nat) (size:Int),as=[.hW ns,.int a,.str kd,.int eA,.int size]/\1<=a/\a<=150/\1<=eA/\eA<=6/\1<=size/\size<=12/\(Ο kd=true\/kd="chance")/\∀ds,QJ size (.τ kd ds)->q (.loc M.length) (M++[.lst (ds.map dD)])
def bR:Γ ["_law_script","_law_at","_law_kind","_law_many","_law_size","_law_numbers","_law_most","_law_weights","_law_doors_here","_law_k","_law_door"] ["_law_script","_law_at","_law_kind","_law_many","_law_size"] (χ oQ):=.of rfl
def zi(F:dE K "_law_doors" "_law_doors" oQ f fd)(E:Ev K mg Cm)(Ψ:aE P w K mg base 2 "_law_number" ["_law_script","_law_k"] Af cC cE){wO:Addr}{vI:FuncData}(iO:aE P w K mg base 2 "_law_pay" ["_law_number_here"] GX wO vI){J_:Addr}{Jz:FuncData}(pb:aE P w K mg base 3 "_law_rest" ["_law_script","_law_k"] Af J_ Jz)(bu:aE P w K mg base 1 "_law_lowest" ["_law_top","_law_bottom_here"] LR gB gA):aw P w K mg base (cP P w) 4 f fd ["_law_script","_law_at","_law_kind","_law_many","_law_size"] (dw K DD):=by
 refine F.eF bR (λds M q x h=>?_) (λbz A outer s H E' hr=>⟨_,(ζ (Co (i:=5) bR.nd rfl (Or.inl rfl) (ys:=["_law_script","_law_at"]) (Θ:=[0,1]) (.of bR rfl rfl rfl) (bO E.bI (Ν (jv 3) η)) (λC s H fp=>(ao Ψ hr (fk (P:=P) (w:=w)) (Ν (jv 1) (ι (cJ (jv 2) (jv 0)) η cz)))))
   (ζ (ψ 6 bR.nd (Ε (nc (ι ο (ι (eJ (ny ο ο) (jv 3)) η cz) bX)) (eJ (cQ (eJ (ao Ψ hr ξ (Ν (jv 0) (ι (sN (jv 1) ο) η cz))) ο) ο) ο)))
   (ζ (fD (i:=7) bR.nd rfl (Or.inl rfl) (ys:=["_law_most","_law_size"]) (Θ:=[6,4]) (.of bR rfl rfl rfl) (aR (jv 5)) (λC s H fp=>(cJ ο (cQ (eJ (jv 0) (jv 2)) (jv 1)))))
   (ζ (ψ 8 bR.nd (oY η))
   (ζ (kg (bO E.bI (Ν (jv 3) η)) (ae (i:=9) bR.nd rfl (Or.inl rfl)) aA (ζ (ψ 10 bR.nd (cY (ι (cQ (Ε (jv 5) (jv 9)) (jv 4)) (ι (ao iO hr ξ (ι (ao pb hr ξ (Ν (jv 0) (ι (cJ (jv 1) (jv 9)) η cz))) η bC)) η bC) cz)))
   (ζ (ko (aH (dz hr (jv 2) eY) (θ (ψ 10 bR.nd (cJ (jv 10) (cY (ι (ao bu hr ξ (ι (Ε (jv 7) (jv 9)) (ι (DZ E.rP (Ν (jv 7) η)) η bC) b8)) η bC))))) Μ))
   (θ (fg (iB (jv 8) (Ν (jv 10) η)))))))
   (θ (Δ (jv 8)))))))),λds M q x h=>?_⟩)
 ·have⟨ns,a,kd,eA,size,rfl,_⟩:=h;rfl
 ·have⟨ns,a,kd,eA,size,rfl,a0,a1,n1,n6,s1,s12,Pk,h⟩:=h;walk_at "vc";refine⟨⟨(),()⟩,by rw[c9];exact aaw (show _<=6 by omega) @_,?_⟩;refine sV (f:=Dt.int) Nm _ [] (λ_ z=>(nomatch z)) (λx PK q' hq=>?_) λxs Uy hx=>?_
  ·have⟨k,hk,rfl⟩:=gy PK;have hk6:(k:Int) < 6:=()
   exact⟨ns,a+(0+(k:Int)),rfl,(),(),hq⟩
  have Uy:xs.length=eA:=by rw[Uy,c9];simp
  refine⟨p6,⟨(),bg (k:=10) ()⟩,gV,ns,a - 1,rfl,(),(),λn hn=>?_⟩;refine⟨⟨@_,bg (k:=8) @_⟩,@_,⟨@_,bg (k:=4) @_⟩,?_⟩;obtain⟨most,em,m0,m1⟩:∃most:Int,iH [Dt.int 6,Dt.int (10 ^ (6:Int).toNat / (eA:Int))] (n / 42 % 4 / 3)=some (.int most)/\0 < most/\eA * most<=1000000:=by
   have⟨t1,t2⟩:=Li n1 n6;have:n / 42 % 4 / 3=0\/n / 42 % 4 / 3=1:=()
   rcases this with e| e
   ·rw[e];exact⟨6,cf,@_,()⟩
   ·rw[e];exact⟨_,Υ (j:=1) rfl,t1,t2⟩
  refine Β (d:=.lst [Dt.int 6,Dt.int (10 ^ (6:Int).toNat / (eA:Int))]) rfl em ?_;show eS _ _ _ _ _;refine aZ (i:=5) (d:=.lst (xs.map .int)) rfl rfl ⟨by rw[aae,Uy];exact aaw n6 @_,?_⟩;refine dt (f:=λd=>match d with| .int n=>.int (1+n / size % most)| _=>.aY) trivial (λx PK q' hq=>?_) ?_
  ·have⟨y,hy,rfl⟩:=aan.mp PK;exact⟨⟨(),bg (k:=10) ()⟩,m0,hq⟩
  rw[aaH,show(xs.map Dt.int).map (λd=>match d with| .int n=>.int (1+n / size % most)| _=>.aY)=(xs.map λn=>1+n / size % most).map Dt.int by rw[aaN,aaN];rfl];generalize WS:(xs.map λn=>1+n / size % most)=ws;have wl:ws.length=eA:=by rw[<-WS,aae,Uy]
  have w0:∀w∈ws,0 < w/\w<=most:=λw hw=>by rw[<-WS]at hw;have⟨y,_,rfl⟩:=aan.mp hw;have e0:=abj (y / size) (show most≠0 by omega);have e1:=abg (y / size) m0;omega
  have hS:ws.sum<=1000000:=by have:=Ij λw Xx=>(w0 w Xx).2;rw[wl]at this;omega
  have mM:ws≠[]:=λz=>by rw[z]at wl;simp at wl;omega
  have XT:=C9 (λw hw=>(w0 w hw).1) mM;have⟨c1,c2⟩:=AQ (S:=ws.sum) rfl (λw Xx=>(w0 w Xx).1) mM hS ();have cl:(ws.map λw=>ax w ws.sum).length=eA:=by rw[aae,wl]
  have bS:fj ws.sum:=bg (k:=21) ();clear WS;refine⟨@_,⟨(),()⟩,?_⟩;refine eL (λzs ρ M'=>∃(n k:Nat) (ds:List aO) (o1 o2:Option Dt),zs=cw k n/\k+n=eA/\ds.length=k/\uX kd size (ws.map λw=>ax w ws.sum) ds/\M'=M++[MO.lst (ds.map dD)]/\ρ=[some (.hW ns),some (.int a),some (.str kd),some (.int eA),some (.int size),some (.lst (xs.map .int)),some (.int most),some (.lst (ws.map .int)),some (.loc M.length),o1,o2]) (λx zs ρ M' hj fH=>?_) (λρ M' hj=>?_) _ _ _ ⟨eA,0,[],none,none,by simp,by simp,rfl,⟨λ_ z=>(nomatch z),λ_=>⟨λ_ z=>(nomatch z),rfl⟩,λ_ _ z=>(nomatch z)⟩,rfl,rfl⟩
  ·have⟨n,k,ds,o1,o2,ex,Qv,hl,hd,rfl,rfl⟩:=hj;have⟨m,rfl,rfl,rfl⟩:=d8 ex;have k6:(k:Int) < 6:=()
   have kx:k < xs.length:=()
   have kw:k < ws.length:=()
   have Lb:(M++[MO.lst (ds.map dD)])[M.length]? =some (.lst (ds.map dD)):=by simp
   have setM:∀y:aO,(M++[MO.lst (ds.map dD)]).set M.length (.lst (ds.map dD++[dD y]))=M++[.lst ((ds++[y]).map dD)]:=λy=>by simp
   have lt:(ds.map dD).length < sizeLine:=by rw[aae,hl];exact abf (show k<=12 by omega) @_
   walk_at "vc";refine(Β (d:=.lst (xs.map .int)) rfl (jj kx) ?_:cR (.lst (xs.map .int)) (.int (k:Int)) _ _);refine⟨(),ns,_,rfl,(),(),λr sQ=>⟨r,rfl,sQ,λp hp U8=>⟨gV,?_⟩⟩⟩;have Ly:aJ (xs[k] % size) p size=true:=LZ (abj _ ()) (abg _ ()) hp;refine⟨λρ M2=>M2=M++[MO.lst (ds.map dD)]/\∃d:aO,(aJ d.1 d.2.1 size=true/\0 < d.2.1.2/\(kd="chance"->d.2.2=[ax ws[k] ws.sum])/\(kd≠"chance"->d.2.2=[]))/\ρ=[some (.hW ns),some (.int a),some (.str kd),some (.int eA),some (.int size),some (.lst (xs.map .int)),some (.int most),some (.lst (ws.map .int)),some (.loc M.length),some (.int (k:Int)),some (dD d)],⟨λhc=>?_,λhc=>?_⟩,?_⟩
   ·have hc:kd="chance":=aav hc;walk_at "vc";refine(Β (d:=.lst (ws.map .int)) rfl (jj kw) ?_:cR (.lst (ws.map .int)) (.int (k:Int)) _ _);exact⟨ws,rfl,⟨_,_,rfl⟩,_,_,rfl,XT,bS,(by show 1<=sizeLine;decide),⟨by simp,by show 3<=sizeLine;decide⟩,rfl,(xs[k] % size,p,[ax ws[k] ws.sum]),⟨Ly,U8,λ_=>rfl,λz=>absurd hc z⟩,rfl⟩
   ·have hc:kd≠"chance":=aa1 hc;exact⟨rfl,(xs[k] % size,p,[]),⟨Ly,U8,λz=>aay z hc,λ_=>rfl⟩,rfl⟩
   ·rintro ρ2 M2 ⟨rfl,d,⟨d1,d2,d3,d4⟩,rfl⟩;refine⟨⟨M.length,_,rfl,Lb⟩,M.length,_,_,rfl,rfl,Lb,lt,?_⟩;rw[setM d];refine fH _ _ ⟨m,k+1,ds++[d],_,_,by simp,(),by simp[hl],hd.more d1 d2 (by rw[cl];omega) (λz=>?_) d4,rfl,rfl⟩;rw[d3 z];simp[hl]
  ·have⟨n,k,ds,o1,o2,ex,Qv,hl,hd,rfl,rfl⟩:=hj;have hn:n=0:=by have:=aaM List.length ex;unfold cw at this;simpa using this.symm
   exact h ds ⟨hd.good Pk () () (by rw[cl];omega) c1 c2,λk' Kx e hk d FX=>by cases e;exact hd.VT (MB hk) d FX⟩
def JF{n:Int}:∃kd:Str,iH [Dt.str "one",Dt.str "other",Dt.str "chance",Dt.str "end",Dt.str "one",Dt.str "other",Dt.str "chance"] (n % 7)=some (.str kd)/\(Ο kd=true\/kd="chance"\/kd="end"):=by
 have:n % 7=0\/n % 7=1\/n % 7=2\/n % 7=3\/n % 7=4\/n % 7=5\/n % 7=6:=()
 rcases this with e| e| e| e| e| e| e <;> rw[e]
 ·exact⟨_,cf,.inl @_⟩
 ·exact⟨_,Υ (j:=1) rfl,.inl @_⟩
 ·exact⟨_,Υ (j:=2) rfl,.inr (.inl rfl)⟩
 ·exact⟨_,Υ (j:=3) rfl,.inr (.inr rfl)⟩
 ·exact⟨_,Υ (j:=4) rfl,.inl @_⟩
 ·exact⟨_,Υ (j:=5) rfl,.inl @_⟩
 ·exact⟨_,Υ (j:=6) rfl,.inr (.inl rfl)⟩
abbrev nW(c1 c2:List Int):MO:=.jm [Sum.inr "one",Sum.inr "other"] [.lst (c1.map Dt.int),.lst (c2.map Dt.int)]
def jq(c:List Int):Prop:=c.length<=3/\∀x∈c,1<=x/\x<=6
def jq.drop{c:List Int}(h:jq c):jq (c.drop 1):=⟨by rw[abH];have:=h.1;omega,λx hx=>h.2 x (List.mem_of_mem_drop hx)⟩
def vq{c:List Int}(h:jq c):∃v:Int,iH (c.map Dt.int++[.int 1]) 0=some (.int v)/\1<=v/\v<=6:=by
 cases c with
 | nil=>exact⟨1,cf,@_,@_⟩
 | cons a c=>exact⟨a,cf,(h.2 a aad).1,(h.2 a aad).2⟩
def Dp:DF:=λas M q _=>∃ns:List Int,as=[.hW ns]/\∀γ:List Rw,1<=γ.length->γ.length<=6->(∀r∈γ,QJ γ.length r)->∀m:MO,q (.loc (M.length+1)) (M++[m,.lst (γ.map Ι)])
def bM:Γ ["_law_script","_law_size","_law_kept","_law_caps","_law_rows_here","_law_place","_law_at","_law_first","_law_kind","_law_many"] ["_law_script"] (χ qN):=.of rfl
def AL(F:dE K "_law_rows" "_law_rows" qN f fd)(E:Ev K mg Cm)(Ψ:aE P w K mg base 2 "_law_number" ["_law_script","_law_k"] Af cC cE){wO:Addr}{vI:FuncData}(iO:aE P w K mg base 2 "_law_pay" ["_law_number_here"] GX wO vI){Gd:Addr}{Ft:FuncData}(mj:aE P w K mg base 4 "_law_doors" ["_law_script","_law_at","_law_kind","_law_many","_law_size"] DD Gd Ft):aw P w K mg base (cP P w) 5 f fd ["_law_script"] (dw K Dp):=by
 refine F.eF bM (λds M q x h=>?_) (λbz A outer s H E' hr=>⟨_,(ζ (ψ 1 bM.nd (cJ ο (cQ (ao Ψ hr ξ (Ν (jv 0) (ι ο η bX))) ο)))
   (ζ (ψ 2 bM.nd (cQ (ao Ψ hr ξ (Ν (jv 0) (ι ο η bX))) (jv 1)))
   (ζ (ψ 3 bM.nd (HR eY (fh 3 (d:=.lst [.int 5,.int 2,.int 2]) (by rfl)) eY (fh 3 (d:=.lst [.int 5,.int 2,.int 2]) (by rfl))))
   (ζ (ψ 4 bM.nd (oY η))
   (ζ (kg (bO E.bI (Ν (jv 1) η)) (ae (i:=5) bM.nd rfl (Or.inl rfl)) aA (ζ (ψ 6 bM.nd (cJ ο (aP ο (jv 5))))
   (ζ (ψ 7 bM.nd (ao Ψ hr ξ (Ν (jv 0) (Ν (jv 6) η))))
   (ζ (ψ 8 bM.nd (Ε (fh 3 (d:=.lst [.str "one",.str "other",.str "chance",.str "end",.str "one",.str "other",.str "chance"]) (by rfl)) (cQ (jv 7) ο)))
   (ζ (ψ 9 bM.nd (cJ ο (cQ (eJ (jv 7) ο) ο)))
   (ζ (ko (aH (JW.jt (yg (dz hr (jv 5) (jv 2)) (qp (pw (cQ (eJ (ao Ψ hr ξ (Ν (jv 0) (ι ο η bX))) ο) ο) ο)))) (θ (ψ 8 bM.nd eY)) Μ))
   (ζ (ko (aH (JW.jt (yg (HK hr (jv 8) (jv 3)) (qp (pw (jv 9) ο)))) (ζ (ψ 9 bM.nd (Sv E.CT (Ν (jv 9) (ι (Ε (jF (sX hr (jv 3) (jv 8)) (fh 3 (d:=.lst [.int 1]) (by rfl))) ο) η b8))))
   (θ (qm hr (jv 3) (jv 8) (cK (ky (sX hr (jv 3) (jv 8)) ο))))) Μ))
   (θ (aH (dz hr (jv 8) eY) (θ (fg (iB (jv 4) (ι (cY (ι eY (ι (ao iO hr ξ (ι (eJ (jv 7) ο) η cz)) η bC) bX)) η lq)))) (θ (fg (iB (jv 4) (ι (cY (Ν (jv 8) (ι (cK (ao mj hr ξ (Ν (jv 0) (ι (cJ (jv 6) ο) (Ν (jv 8) (Ν (jv 9) (Ν (jv 1) η))) cz)))) η bC))) η lq)))))))))))))
   (θ (Δ (jv 4)))))))),λds M q x h=>?_⟩)
 ·have⟨ns,rfl,_⟩:=h;rfl
 ·have⟨ns,rfl,h⟩:=h;refine⟨ns,0,rfl,@_,@_,λn0 ZW=>⟨@_,?_⟩⟩;obtain⟨sz,hz,z1,z6⟩:∃sz:Nat,1+n0 % 6=(sz:Int)/\1<=sz/\sz<=6:=⟨(1+n0 % 6).toNat,(),(),()⟩;dsimp only[zz];rw[hz];refine⟨ns,1,rfl,@_,@_,λn1 hn1=>⟨(),?_⟩⟩;generalize n1 % (sz:Int)=kp;walk_at "vc";dsimp only[I0];walk_at "vc";refine⟨Sum.inr "one",Sum.inr "other",rfl,rfl,@_,?_⟩;obtain⟨c01,c02,k01,k02,VY⟩:∃c1 c2:List Int,jq c1/\jq c2/\MO.jm [Sum.inr "one",Sum.inr "other"] [.lst [.int 5,.int 2,.int 2],.lst [.int 5,.int 2,.int 2]]=nW c1 c2:=⟨[5,2,2],[5,2,2],⟨@_,@_⟩,⟨@_,@_⟩,rfl⟩;rw[VY];refine⟨@_,⟨(),()⟩,?_⟩;refine eL (λzs ρ M2=>∃(n k:Nat) (rs:List Rw) (c1 c2:List Int) (o1 o2 o3 o4 o5:Option Dt),zs=cw k n/\k+n=sz/\rs.length=k/\(∀r∈rs,QJ sz r)/\jq c1/\jq c2/\M2=M++[nW c1 c2,MO.lst (rs.map Ι)]/\ρ=[some (.hW ns),some (.int sz),some (.int kp),some (.loc M.length),some (.loc (M.length+1)),o1,o2,o3,o4,o5]) (λx zs ρ M2 hj fH=>?_) (λρ M2 hj=>?_) _ _ _ ⟨sz,0,[],c01,c02,none,none,none,none,none,by simp,by simp,rfl,λ_ z=>(nomatch z),k01,k02,by simp,by simp⟩
  ·have⟨n,k,rs,c1,c2,o1,o2,o3,o4,o5,ex,Qv,hl,hd,k1,k2,rfl,rfl⟩:=hj;have⟨m,rfl,rfl,rfl⟩:=d8 ex;have k6:(k:Int) < 12:=()
   have Nb:0<=3+7 * (k:Int)/\3+7 * (k:Int)<=100:=()
   have bw:fj 7:=bg (k:=10) @_;have Lb:∀c1 c2,(M++[nW c1 c2,MO.lst (rs.map Ι)])[M.length+1]? =some (.lst (rs.map Ι)):=λc1 c2=>by simp
   have atC:∀c1 c2,(M++[nW c1 c2,MO.lst (rs.map Ι)])[M.length]? =some (nW c1 c2):=λc1 c2=>by simp
   have setM:∀c1 c2 (y:Rw),(M++[nW c1 c2,MO.lst (rs.map Ι)]).set (M.length+1) (.lst (rs.map Ι++[Ι y]))=M++[nW c1 c2,.lst ((rs++[y]).map Ι)]:=λc1 c2 y=>by simp[List.set_append]
   have setC:∀c1 c2 m,(M++[nW c1 c2,MO.lst (rs.map Ι)]).set M.length m=M++[m,MO.lst (rs.map Ι)]:=λc1 c2 m=>by simp[List.set_append]
   have lt:(rs.map Ι).length < sizeLine:=by rw[aae,hl];exact abf (show k<=12 by omega) @_
   have more:∀y,QJ sz y->∀r∈rs++[y],QJ sz r:=λy hy r hr=>by
    rcases aaR.mp hr with hr| hr
    ·exact hd r hr
    ·have:r=y:=by simpa using hr
     rw[this];exact hy
   refine⟨⟨bw,bg (k:=10) ()⟩,ns,_,rfl,Nb.1,(),λf hf=>⟨@_,?_⟩⟩;have⟨ZK,ek,RU⟩:=JF (n:=f);refine Β rfl ek ?_;have w1:(0:Int) < 6:=@_
   have WN:=abj (f / 7) (show(6:Int)≠0 by decide);have Y4:=abg (f / 7) w1;obtain⟨mn,emn,Xj,X9⟩:∃mn:Nat,1+f / 7 % (6)=(mn:Int)/\1<=mn/\mn<=6:=⟨(1+f / 7 % (6)).toNat,(),(),()⟩;refine⟨⟨@_,bg (k:=4) @_⟩,w1,?_⟩;dsimp only[zz];rw[emn];refine⟨λρ M2=>M2=M++[nW c1 c2,MO.lst (rs.map Ι)]/\∃kd:Str,(Ο kd=true\/kd="chance"\/kd="end")/\ρ=[some (.hW ns),some (.int sz),some (.int kp),some (.loc M.length),some (.loc (M.length+1)),some (.int (k:Int)),some (.int (3+7 * (k:Int))),some (.int f),some (.str kd),some (.int mn)],⟨λ_=>⟨ns,1,rfl,@_,@_,λn2 QO=>⟨⟨@_,bg (k:=5) @_⟩,@_,λ_=>⟨rfl,"end",.inr (.inr rfl),rfl⟩,λ_=>⟨rfl,ZK,RU,rfl⟩⟩⟩,λ_=>⟨nofun,λ_=>⟨rfl,ZK,RU,rfl⟩⟩⟩,?_⟩;rintro ρ2 M2 ⟨rfl,kd,Pk,rfl⟩;refine⟨λρ M2=>∃(c1 c2:List Int) (mm:Nat),jq c1/\jq c2/\1<=mm/\mm<=6/\M2=M++[nW c1 c2,MO.lst (rs.map Ι)]/\ρ=[some (.hW ns),some (.int sz),some (.int kp),some (.loc M.length),some (.loc (M.length+1)),some (.int (k:Int)),some (.int (3+7 * (k:Int))),some (.int f),some (.str kd),some (.int mm)],?_,?_⟩
   ·have same:∃(Zg ZX:List Int) (mm:Nat),jq Zg/\jq ZX/\1<=mm/\mm<=6/\M++[nW c1 c2,MO.lst (rs.map Ι)]=M++[nW Zg ZX,MO.lst (rs.map Ι)]/\[some (Dt.hW ns),some (.int sz),some (.int kp),some (.loc M.length),some (.loc (M.length+1)),some (.int (k:Int)),some (.int (3+7 * (k:Int))),some (.int f),some (.str kd),some (.int mn)]=[some (.hW ns),some (.int sz),some (.int kp),some (.loc M.length),some (.loc (M.length+1)),some (.int (k:Int)),some (.int (3+7 * (k:Int))),some (.int f),some (.str kd),some (.int mm)]:=⟨c1,c2,mn,k1,k2,Xj,X9,rfl,rfl⟩;walk_at "vc";refine⟨M.length,_,_,Sum.inr kd,rfl,atC c1 c2,rfl,λz=>⟨λz2=>?_,λ_=>same⟩,λz=>⟨nofun,λ_=>same⟩⟩;have two:kd="one"\/kd="other":=by
     unfold Lm at z;rw[abK,abK,List.any_nil,Bool.or_false,Bool.or_eq_true,aaZ,aaZ]at z;rcases z with z| z
     ·exact .inl (Sum.inr.inj z).symm
     ·exact .inr (Sum.inr.inj z).symm
    rcases two with rfl| rfl
    ·skip
     have⟨v,ev,v1,v6⟩:=vq k1;refine⟨M.length,_,_,Sum.inr "one",_,rfl,atC c1 c2,rfl,rfl,?_⟩;refine⟨_,_,rfl,rfl,by rw[aae];have:=k1.1;exact aaw (show _<=4 by show c1.length+1<=4;omega) @_,?_⟩;refine(Β (d:=.lst (c1.map Dt.int++[.int 1])) rfl ev ?_:cR (.lst (c1.map Dt.int++[.int 1])) (.int 0) _ _);obtain⟨mm,XB,Ta,Q7⟩:∃mm:Nat,(if v < (mn:Int) then v else (mn:Int))=(mm:Int)/\1<=mm/\mm<=6:=by
      by_cases c:v < (mn:Int)
      ·rw[aaq c];exact⟨v.toNat,(),(),()⟩
      ·rw[aau c];exact⟨mn,rfl,Xj,X9⟩
     dsimp only[Hx,pk,SU,LC];rw[XB];walk_at "vc";refine⟨M.length,_,_,Sum.inr "one",_,rfl,atC c1 c2,rfl,rfl,?_⟩;refine⟨c1.map Dt.int,1,rfl,rfl,?_⟩;rw[<-aca];refine dF (kI _) ?_;refine⟨M.length,_,_,Sum.inr "one",rfl,atC c1 c2,rfl,by show 2 < 1000;decide,?_⟩;exact⟨c1.drop 1,c2,mm,k1.drop,k2,Ta,Q7,setC c1 c2 _,rfl⟩
    ·skip
     have⟨v,ev,v1,v6⟩:=vq k2;refine⟨M.length,_,_,Sum.inr "other",_,rfl,atC c1 c2,rfl,rfl,?_⟩;refine⟨_,_,rfl,rfl,by rw[aae];have:=k2.1;exact aaw (show _<=4 by show c2.length+1<=4;omega) @_,?_⟩;refine(Β (d:=.lst (c2.map Dt.int++[.int 1])) rfl ev ?_:cR (.lst (c2.map Dt.int++[.int 1])) (.int 0) _ _);obtain⟨mm,XB,Ta,Q7⟩:∃mm:Nat,(if v < (mn:Int) then v else (mn:Int))=(mm:Int)/\1<=mm/\mm<=6:=by
      by_cases c:v < (mn:Int)
      ·rw[aaq c];exact⟨v.toNat,(),(),()⟩
      ·rw[aau c];exact⟨mn,rfl,Xj,X9⟩
     dsimp only[Hx,pk,SU,LC];rw[XB];walk_at "vc";refine⟨M.length,_,_,Sum.inr "other",_,rfl,atC c1 c2,rfl,rfl,?_⟩;refine⟨c2.map Dt.int,1,rfl,rfl,?_⟩;rw[<-aca];refine dF (kI _) ?_;refine⟨M.length,_,_,Sum.inr "other",rfl,atC c1 c2,rfl,by show 2 < 1000;decide,?_⟩;exact⟨c1,c2.drop 1,mm,k1,k2.drop,Ta,Q7,setC c1 c2 _,rfl⟩
   rintro ρ3 M3 ⟨c1,c2,mm,k1,k2,Ta,Q7,rfl,rfl⟩;have first:∃k' xs',Dt.loc (M.length+1)= .loc k'/\(M++[nW c1 c2,MO.lst (rs.map Ι)])[k']? =some (.lst xs'):=⟨_,_,rfl,Lb c1 c2⟩
   refine⟨λz=>?_,λz=>?_⟩
   ·refine⟨first,⟨@_,bg (k:=4) @_⟩,_,rfl,J2 hf @_,λp hp U8=>⟨gV,M.length+1,_,_,rfl,rfl,Lb c1 c2,lt,?_⟩⟩;refine fH _ _ ⟨m,k+1,rs++[Rw.fin p],c1,c2,_,_,_,_,_,by simp,(),by simp[hl],more (.fin p) ⟨⟨U8,hp⟩,λ_ _ z=>(nomatch z)⟩,k1,k2,setM c1 c2 (.fin p),rfl⟩
   ·have z:kd≠"end":=aa1 z;have Pk:Ο kd=true\/kd="chance":=by
     rcases Pk with hk| hk| hk
     ·exact .inl hk
     ·exact .inr hk
     ·exact aay hk z
    refine⟨first,ns,_,kd,mm,sz,rfl,(),(),Ta,Q7,(),(),Pk,λds hds=>dF (fQ ds) ?_⟩;refine⟨gV,M.length+1,_,_,rfl,rfl,Lb c1 c2,lt,?_⟩;exact fH _ _ ⟨m,k+1,rs++[Rw.τ kd ds],c1,c2,_,_,_,_,_,by simp,(),by simp[hl],more (.τ kd ds) hds,k1,k2,setM c1 c2 (.τ kd ds),rfl⟩
  ·have⟨n,k,rs,c1,c2,o1,o2,o3,o4,o5,ex,Qv,hl,hd,k1,k2,rfl,rfl⟩:=hj;have hn:n=0:=by have:=aaM List.length ex;unfold cw at this;simpa using this.symm
   have e:rs.length=sz:=()
   exact h rs () () (by rw[e];exact hd) _
def Qn{k:Nat}(h:gs.Pairwise (· < ·))(hl:∀g∈gs,g < k):(gs++[k]).Pairwise (· < ·):=by
 rw[List.pairwise_append];refine⟨h,List.pairwise_singleton _ _,λa ha b hb=>?_⟩;have:b=k:=by simpa using hb
 rw[this];exact hl a ha
def Ki:DF:=λas M q _=>∃(γ:List Rw) (n:Int),as=[.lst (γ.map Ι),.int n]/\γ.length<=12/\(∀r∈γ,fK r)/\∀gs,bZ γ gs->gs.length<=12->q (.loc M.length) (M++[.lst (gs.map bH)])
def jg:Γ ["_law_rows_here","_law_number_here","_law_found","_law_place"] ["_law_rows_here","_law_number_here"] (χ oV):=.of rfl
def Aa(F:dE K "_law_goals" "_law_goals" oV f fd)(E:Ev K mg Cm):aw P w K mg base (cP P w) 1 f fd ["_law_rows_here","_law_number_here"] (dw K Ki):=by
 refine F.eF jg (λds M q x h=>?_) (λbz A outer s H E' hr=>⟨_,(ζ (ψ 2 jg.nd (oY η))
   (ζ (kg (bO E.bI (ι (cZ E.bW (Ν (jv 0) η)) η bC)) (ae (i:=3) jg.nd rfl (Or.inl rfl)) aA (θ (aH (dz hr (Ε (Ε (jv 0) (jv 3)) ο) eY) (ζ (ko (aH (pw (cQ (jv 1) ο) ο) (θ (fg (iB (jv 2) (Ν (jv 3) η)))) Μ))
   (θ (ψ 1 jg.nd (eJ (jv 1) ο)))) Μ)))
   (θ (Δ (jv 2))))),λds M q x h=>?_⟩)
 ·have⟨γ,n,rfl,_⟩:=h;rfl
 ·have⟨γ,nn,rfl,r12,ro,h⟩:=h;refine⟨@_,?_⟩;walk_at "vc";refine(aF (d:=.lst (γ.map Ι)) (xs:=γ.map Ι) rfl ?_:gH [.lst (γ.map Ι)] _ _);rw[aae];refine⟨⟨(),()⟩,?_⟩;refine eL (λzs ρ M2=>∃(n k:Nat) (gs:List Nat) (m:Int) (o1:Option Dt),zs=cw k n/\k+n=γ.length/\bZ γ gs/\(∀g∈gs,g < k)/\gs.length<=k/\M2=M++[MO.lst (gs.map bH)]/\ρ=[some (.lst (γ.map Ι)),some (.int m),some (.loc M.length),o1]) (λx zs ρ M2 hj fH=>?_) (λρ M2 hj=>?_) _ _ _ ⟨γ.length,0,[],nn,none,by simp,by simp,⟨.nil,λ_ z=>(nomatch z)⟩,λ_ z=>(nomatch z),Nat.le_refl _,rfl,rfl⟩
  ·have⟨n,k,gs,mm,o1,ex,Qv,hg,FL,hl,rfl,rfl⟩:=hj;have⟨m,rfl,rfl,rfl⟩:=d8 ex;have hk:k < γ.length:=()
   have rk:γ[k]? =some γ[k]:=aaa hk;have hr:=ro _ (aal hk);generalize γ[k]=r at rk hr;have a1:iH (γ.map Ι) (k:Int)=some (Ι r):=Υ (m_ rk);have Lb:(M++[MO.lst (gs.map bH)])[M.length]? =some (.lst (gs.map bH)):=by simp
   have setM:(M++[MO.lst (gs.map bH)]).set M.length (.lst (gs.map bH++[bH k]))=M++[.lst ((gs++[k]).map bH)]:=by simp
   have lt:(gs.map bH).length < sizeLine:=by rw[aae];exact abf (show gs.length<=12 by omega) @_
   walk_at "vc";refine(Β (d:=.lst (γ.map Ι)) rfl a1 ?_:cR (.lst (γ.map Ι)) (.int (k:Int)) _ _);cases r with
   | τ kd ds=>
    refine⟨λz=>absurd (of_decide_eq_true z) hr.1,λ_=>fH _ _ ⟨m,k+1,gs,mm,_,by simp,(),hg,λg O0=>Nat.lt_succ_of_lt (FL g O0),(),rfl,rfl⟩⟩
   | fin p=>
    refine⟨λ_=>?_,nofun⟩;refine⟨λρ M2=>∃QK,bZ γ QK/\(∀g∈QK,g < k+1)/\QK.length<=k+1/\M2=M++[MO.lst (QK.map bH)]/\ρ=[some (.lst (γ.map Ι)),some (.int mm),some (.loc M.length),some (.int (k:Int))],⟨@_,λ_=>?_,λ_=>?_⟩,?_⟩
    ·refine⟨⟨M.length,_,rfl,Lb⟩,M.length,_,_,rfl,rfl,Lb,lt,gs++[k],⟨Qn hg.up FL,λg O0=>?_⟩,λg O0=>?_,by simp;omega,setM,rfl⟩
     ·rcases aaR.mp O0 with z| z
      ·exact hg.fin g z
      ·have:g=k:=by simpa using z
       rw[this];exact⟨p,rk⟩
     ·rcases aaR.mp O0 with z| z
      ·exact abE (FL g z)
      ·have:g=k:=by simpa using z
       omega
    ·exact⟨gs,hg,λg O0=>abE (FL g O0),(),rfl,rfl⟩
    ·rintro ρ2 M2 ⟨QK,g1,g2,g3,rfl,rfl⟩;exact⟨⟨@_,bg (k:=4) @_⟩,fH _ _ ⟨m,k+1,QK,_,_,by simp,(),g1,g2,g3,rfl,rfl⟩⟩
  ·have⟨n,k,gs,mm,o1,ex,Qv,hg,FL,hl,rfl,rfl⟩:=hj;have hn:n=0:=by have:=aaM List.length ex;unfold cw at this;simpa using this.symm
   exact h gs hg ()
def WZ(M:Ms)(d:Dt)(xs:List Dt):Prop:=d= .lst xs\/∃k,d= .loc k/\M[k]? =some (.lst xs)
def L9{k:Nat}{xs:List Dt}(h:M[k]? =some (MO.lst xs)):iz M (.loc k)=some (xs,λM':Ms=>M'[k]? =some (MO.lst xs)):=by show(match M[k]? with| some (MO.lst xs)=>some (xs,λM':Ms=>M'[k]? =some (MO.lst xs))| _=>none)=_;rw[h]
def WZ.k{M:Ms}{d:Dt}{xs:List Dt}(h:WZ M d xs):∃ok,iz M d=some (xs,ok):=by
 rcases h with rfl| ⟨k,rfl,h⟩
 ·exact⟨λ_=>True,rfl⟩
 ·exact⟨_,L9 h⟩
structure LH(tb:List Fr)(n:Nat):Prop where
 len:tb.length=n
 red:∀i,i < n->Red (tb.getD i (0,1))
 YL:∀i,i < n->0<=(tb.getD i (0,1)).1/\(tb.getD i (0,1)).1<=(tb.getD i (0,1)).2
 sz:∀i,i < n->Sz 400 (tb.getD i (0,1))
def LH.at{tb:List Fr}{n:Nat}(h:LH tb n){t:Int}(h0:0<=t)(h1:t < n):iH (tb.map av) t=some (av (tb.getD t.toNat (0,1))):=by
 have hl:t.toNat < tb.length:=by rw[h.len];omega
 have e2:(tb.map av)[t.toNat]? =some (av (tb.getD t.toNat (0,1))):=by rw[aak,aab,aaa hl];rfl
 have:=Υ e2;rwa[show((t.toNat:Nat):Int)=t by omega]at this
def Ik{f:aO->Rat}:∀{ds:List aO},(∀d∈ds,f d=0)->aj f ds=0
 | [],_=>rfl
 | d::ds,h=>by show f d+aj f ds=0;rw[h d List.mem_cons_self,Ik λx hx=>h x (List.mem_cons_of_mem _ hx)];grind
def yz{f:aO->Rat}:∀{ds:List aO},(∀d∈ds,0<=f d)->∀{e:aO},e∈ds->0 < f e->0 < aj f ds
 | d::ds,h,e,he,hp=>by
  have nn:∀{l:List aO},(∀d∈l,0<=f d)->0<=aj f l:=λ{l}=>by
   induction l with
   | nil=>intro _;show(0:Rat)<=0;grind
   | cons a l ih=>
    intro h;have:=ih λx hx=>h x (aac _ hx);have:=h a aad;show 0<=f a+aj f l;grind
  have n1:=nn λx hx=>h x (aac _ hx);have n2:=h d aad;show 0 < f d+aj f ds;rcases aaD.mp he with z| z
  ·rw[z]at hp;grind
  ·have:=yz (λx hx=>h x (aac _ hx)) z hp;grind
section
variable{S2:Sp}{a:Pl}{k:Str}
def cq.dk(fr:FR ε γ)(t:cq γ gs S S2 p a tb):oS γ (aL p a):=i4 fr t.fp t.kp.fa
def cq.GH(t:cq γ gs S S2 p a tb):Nf γ S (aL p a):=t.pr a t.kp.fa
def cq.tk(fr:FR ε γ)(t:cq γ gs S S2 p a tb):LH tb γ.length:=
 ⟨t.kp.ch.tab.len,t.kp.ch.tab.red,λi il=>let z:=t.kp.ch.sz fr (t.dk fr) t.dr t.GH il;⟨z.2.1,z.2.2.1⟩,λi il=>(t.kp.ch.sz fr (t.dk fr) t.dr t.GH il).2.2.2⟩
def cq.unit(fr:FR ε γ)(t:cq γ gs S S2 p a tb):∀i,i < γ.length->0<=V_ tb i/\V_ tb i<=1:=t.kp.ch.unit fr (t.dk fr) t.dr t.GH
def cq.Bp(t:cq γ gs S S2 p a tb)(il:i < γ.length)(h:at_ S i=none):V_ tb i=0:=by rw[t.kp.ch.no il λ⟨s,e⟩=>by rw[h]at e;cases e];unfold oR;rw[h];exact lB
def cq.goal(t:cq γ gs S S2 p a tb)(il:i < γ.length)(h:at_ S i=some 0):V_ tb i=1:=by rw[t.kp.ch.no il λ⟨s,e⟩=>by rw[h]at e;cases e];unfold oR;rw[h];exact k_
def cq.hand(fr:FR ε γ)(t:cq γ gs S S2 p a tb)(hi:γ[i]? =some (.τ k ds))(hh:Ο k=true):∃(j:Nat) (jl:j < ds.length),Λ (if k="one" then p else a) i=some (j:Int)/\(∀d∈ds,fi k * V_ tb d.1.toNat<=fi k * V_ tb ds[j].1.toNat)/\(qb S i->V_ tb i=V_ tb ds[j].1.toNat):=by
 have il:=(aaf.mp hi).1;rcases gE fr hi with rfl| rfl| rfl
 ·have⟨j,jl,gj,al⟩:=yx fr ak t.fp t.kp.ch.tab.red t.np hi;refine⟨j,jl,by rw[aaq rfl];exact gj,al,λst=>?_⟩;rw[t.kp.ch.st il st,df fr hi ak (by rw[eQ fr t.kp.fa hi];exact gj) jl st]
 ·have⟨j,jl,gj,al⟩:=yx fr au t.kp.fa t.kp.ch.tab.red t.na hi;refine⟨j,jl,by rw[aau @_];exact gj,al,λst=>?_⟩;rw[t.kp.ch.st il st,df fr hi au (by rw[fM fr t.kp.fa hi];exact gj) jl st]
 ·exact aay hh @_
def cq.Ck(fr:FR ε γ)(t:cq γ gs S S2 p a tb)(hi:γ[i]? =some (.τ "chance" ds)):V_ tb i=aj (λd=>cV d * V_ tb d.1.toNat) ds:=by
 have il:=(aaf.mp hi).1;have EH:=b9 fr.pl (aai hi);by_cases st:qb S i
 ·rw[t.kp.ch.st il st,jf st,br hi];unfold eN;rw[fR fr t.fp t.kp.fa hi];rfl
 ·have hn:at_ S i=none:=by
   have:=t.dr.2 i _ hi;have this:h7 "chance" (aQ S ds) (at_ S i):=this;unfold h7 at this;rw[aau @_]at this;rcases this with ⟨z,_⟩| ⟨v,z,_⟩
   ·exact z
   ·exact aay ⟨v,z⟩ st
  rw[t.Bp il hn,Ik λd hd=>?_];have:=oM t.dr hi @_ hn d hd;rw[t.Bp (by have:=EH.to d hd;omega) this];grind
def cq.best(fr:FR ε γ)(t:cq γ gs S S2 p a tb)(hi:γ[i]? =some (.τ k ds))(hh:Ο k=true):tb.getD i (0,1)=cL k (aG tb ds):=by
 have il:=(aaf.mp hi).1;have EH:=b9 fr.pl (aai hi);have tn:∀d∈ds,d.1.toNat < γ.length:=λd hd=>by have:=EH.to d hd;omega
 have⟨j,jl,_,al,es⟩:=t.hand fr hi hh;have red:=t.kp.ch.tab.red
 have⟨bm,bb⟩:=qt (k:=k) (ns:=aG tb ds) (λz=>by
  have:=aaM List.length z;unfold aG at this;rw[aae]at this;have l1:=EH.l1;rw[this]at l1
  exact aay l1 @_) λn hn=>by have⟨d,hd,rfl⟩:=aan.mp hn;exact(red _ (tn d hd)).pos
 have⟨d,hd,eb⟩:=aan.mp bm;have eb:tb.getD d.1.toNat (0,1)=cL k (aG tb ds):=eb;rw[<-eb];refine kW (red i il) (red _ (tn d hd)) ?_;have e1:V_ tb d.1.toNat=V_ tb ds[j].1.toNat:=by
  have x:=al d hd;have y:=bb _ (aan.mpr ⟨ds[j],aal jl,rfl⟩);rw[<-eb]at y;have y:fi k * V_ tb ds[j].1.toNat<=fi k * V_ tb d.1.toNat:=y;have:fi k * V_ tb d.1.toNat=fi k * V_ tb ds[j].1.toNat:=by grind
  unfold fi at this;split at this <;> grind
 show V_ tb i=V_ tb d.1.toNat;by_cases st:qb S i
 ·rw[es st,e1]
 ·have k9:=t.dr.2 i _ hi;have k9:h7 k (aQ S ds) (at_ S i):=k9;have hn:at_ S i=none:=by
   unfold h7 at k9;split at k9
   ·rcases k9 with ⟨z,_⟩| ⟨v,z,_⟩
    ·exact z
    ·exact aay ⟨v,z⟩ st
   ·rcases k9 with ⟨z,_⟩| ⟨v,z,_⟩
    ·exact z
    ·exact aay ⟨v,z⟩ st
  rw[t.Bp il hn];by_cases hk:k="other"
  ·unfold h7 at k9;rw[aaq hk]at k9;rcases k9 with ⟨_,z⟩| ⟨v,z,_⟩
   ·have⟨d2,hd2,AE⟩:=aa.mp z;have z2:=t.Bp (tn d2 hd2) AE;have:=al d2 hd2;rw[z2,<-e1,hk,oo]at this;have:=(t.unit fr _ (tn d hd)).1;grind
   ·exact aay ⟨v,z⟩ st
  ·exact(t.Bp (tn d hd) (oM t.dr hi hk hn d hd)).symm
def cq.fin(t:cq γ gs S S2 p a tb){e:Fr}(hi:γ[i]? =some (.fin e)):tb.getD i (0,1)=if i∈gs then (1,1) else (0,1):=by
 have il:=(aaf.mp hi).1;have:=t.dr.2 i _ hi;have this:at_ S i=if i∈gs then some 0 else none:=this
 have red:=t.kp.ch.tab.red i il;split at this
 ·rename_i c;rw[aaq c];exact kW red ⟨@_,@_⟩ (by rw[k_];exact t.goal il this)
 ·rename_i c;rw[aau c];exact kW red ⟨@_,@_⟩ (by rw[lB];exact t.Bp il this)
end
section
def CS(S:Sp)(u p:Nat):Bool:=match at_ S p with
 | some v=>decide (v<=u)
 | none=>false
def qA{u p:Nat}:CS S u p=true↔∃v,at_ S p=some v/\v<=u:=by
 unfold CS;cases e:at_ S p with
 | none=>exact⟨nofun,λ⟨v',e',_⟩=>by cases e'⟩
 | some v=>
  show decide (v<=u)=true↔_;rw[aaZ];exact⟨λh=>⟨v,rfl,h⟩,λ⟨v',e',h⟩=>by cases e';exact h⟩
def C4{p:Nat}(hl:S.length=γ.length)(e:at_ S p=some s):p < γ.length:=by
 rcases Nat.lt_or_ge p γ.length with h| h
 ·exact h
 ·unfold at_ at e;rw[aab,List.getElem?_eq_none ()]at e;cases e
def uf(dr:aK γ gs S){p:Nat}(e:at_ S p=some (s+1)):∃k ds,γ[p]? =some (.τ k ds):=by have pl:=C4 (γ:=γ) dr.1 e;exact jC dr pl ⟨s,e⟩
def uR(dr:aK γ gs S):∀{s p:Nat},at_ S p=some s->∀u,u<=s->∃q,q < γ.length/\at_ S q=some u
 | 0,p,e,u,hu=>⟨p,C4 dr.1 e,by rw[e,show u=0 by omega]⟩
 | s+1,p,e,u,hu=>by
  by_cases c:u=s+1
  ·rw[c];exact⟨p,C4 dr.1 e,e⟩
  ·have⟨k,ds,hi⟩:=uf dr e;have⟨_,d,_,ed⟩:=kH dr hi e;exact uR dr ed u ()
def GV(dr:aK γ gs S){p:Nat}(e:at_ S p=some s):s < γ.length:=by
 have ex:=uR dr e;have cnt:∀u,u<=s->u+1<=(List.range γ.length).countP (CS S u):=λu=>by
  induction u with
  | zero=>
   intro h;have⟨q,ql,eq⟩:=ex 0 h;exact List.countP_pos_iff.mpr ⟨q,aa5.mpr ql,qA.mpr ⟨0,eq,aaj _⟩⟩
  | succ u ih=>
   intro h;have:=ih ();have⟨q,ql,eq⟩:=ex (u+1) h
   have lt:=Bs (P:=CS S u) (Q:=CS S (u+1)) (l:=List.range γ.length) (λa _ ha=>by
    have⟨v,ev,lv⟩:=qA.mp ha
    exact qA.mpr ⟨v,ev,()⟩) (aa5.mpr ql) (qA.mpr ⟨u+1,eq,aaj _⟩) (by
    cases hb:CS S u q with
    | false=>rfl
    | true=>
     have⟨v,ev,lv⟩:=qA.mp hb;rw[eq]at ev;cases ev
     omega)
   omega
 have a:=cnt s (aaj _);have b:=List.countP_le_length (p:=CS S s) (l:=List.range γ.length);rw[aa8]at b;omega
end
section
variable{S2:Sp}{a:Pl}{k:Str}
def yA(hi:γ[i]? =some (.τ k ds)):(fJ p 0 γ)[i]? =some (hU p i (.τ k ds)):=by rw[j5,hi,aa7];rfl
def cq.H_(fr:FR ε γ)(t:cq γ gs S S2 p a tb)(hi:γ[i]? =some (.τ k ds)):∃es,(fJ p 0 γ)[i]? =some (.τ k es)/\h7 k (aQ S2 es) (at_ S2 i)/\(k≠"one"->es=ds)/\(k="one"->∃(j:Nat) (jl:j < ds.length),Λ p i=some (j:Int)/\es=[ds[j]]):=by
 have hr:=yA (p:=p) hi;by_cases hk:k="one"
 ·subst hk;have⟨j,jl,gj,e⟩:=z5 fr t.fp hi;rw[e]at hr;exact⟨_,hr,t.d2.2 i _ hr,λz=>aay rfl z,λ_=>⟨j,jl,gj,rfl⟩⟩
 ·rw[nE fr t.fp hi hk]at hr;exact⟨_,hr,t.d2.2 i _ hr,λ_=>rfl,λz=>aay z hk⟩
def cq.J7(fr:FR ε γ)(t:cq γ gs S S2 p a tb){e:Fr}(hi:γ[i]? =some (.fin e)):at_ S2 i=if i∈gs then some 0 else none:=by
 have hr:(fJ p 0 γ)[i]? =some (.fin e):=by rw[j5,hi,aa7];show some (hU p i (.fin e))=_;rw[nE fr t.fp hi (by show¬(Str.ofString "end"=Str.ofString "one");decide)]
 exact t.d2.2 i _ hr
def cq.Le(t:cq γ gs S S2 p a tb)(e:at_ S2 i=some s):i < γ.length:=by have:=C4 (γ:=fJ p 0 γ) t.d2.1 e;rwa[e7]at this
def cq.NK(fr:FR ε γ)(t:cq γ gs S S2 p a tb)(il:i < γ.length)(hv:0 < V_ tb i):at_ S2 i≠none:=λhn=>by
 classical
 have pos:∀j,j < γ.length->0 < V_ tb j->at_ S j≠none:=λj jl h z=>by rw[t.Bp jl z]at h;grind
 have⟨m,ml,⟨mv,mn⟩,mm⟩:=wQ (λj=>0 < V_ tb j/\at_ S2 j=none) (V_ tb) γ.length ⟨i,il,hv,hn⟩
 let ch:Nat->Int:=λj=>match γ[j]? with
  | some (.τ _ ds)=>if h:∃x:Nat,∃xl:x < ds.length,at_ S2 ds[x].1.toNat=none then ((h.choose:Nat):Int) else 0
  | _=>0
 let a':Pl:=(fA γ "other").map λj:Nat=>((j:Int),ch j)
 have fa:Ω (fC γ "other") a':=by
  have key:∀{l:List Nat},(∀j∈l,0<=ch j/\ch j < ((aq (bV γ j)).length:Int))->Ω (l.map λj:Nat=>((j:Int),(aq (bV γ j)).length)) (l.map λj:Nat=>((j:Int),ch j)):=λ{l}=>by
   induction l with
   | nil=>exactλ_=>trivial
   | cons b l ih=>exactλh=>⟨rfl,(h b aad).1,(h b aad).2,ih λj hj=>h j (aac _ hj)⟩
  refine key λj hj=>?_;have⟨ds,hr,ed,l1⟩:=gq fr au hj;rw[ed];have ec:ch j=if h:∃x:Nat,∃xl:x < ds.length,at_ S2 ds[x].1.toNat=none then ((h.choose:Nat):Int) else 0:=by show(match γ[j]? with| some (.τ _ ds)=>if h:∃x:Nat,∃xl:x < ds.length,at_ S2 ds[x].1.toNat=none then ((h.choose:Nat):Int) else 0| _=>0)=_;rw[hr]
  rw[ec];by_cases h:∃x:Nat,∃xl:x < ds.length,at_ S2 ds[x].1.toNat=none
  ·rw[dif_pos h];have⟨xl,_⟩:=h.choose_spec;omega
  ·rw[dif_neg h];omega
 refine t.pr a' fa (λj=>j < γ.length/\0 < V_ tb j/\at_ S2 j=none/\V_ tb j=V_ tb m) (λj jl hj=>?_) m ml ⟨ml,mv,mn,rfl⟩;have⟨_,jv,jn,je⟩:=hj;have st:qb S j:=by
  cases e:at_ S j with
  | none=>exact aay e (pos j jl jv)
  | some v=>
   cases v with
   | succ v=>exact⟨v,e⟩
   | zero=>
    exfalso;have hi:=rw_at jl;cases hr:bV γ j with
    | fin q=>
     rw[hr]at hi;have h2:=t.J7 fr hi;have h1:=t.dr.2 j _ hi;have h1:at_ S j=if j∈gs then some 0 else none:=h1
     rw[e]at h1;rw[jn]at h2;split at h1
     ·rename_i c;rw[aaq c]at h2;cases h2
     ·cases h1
    | τ k ds=>
     rw[hr]at hi;have k9:=t.dr.2 j _ hi;have k9:h7 k (aQ S ds) (at_ S j):=k9;unfold h7 at k9;rw[e]at k9;split at k9
     ·rcases k9 with ⟨z,_⟩| ⟨v,z,_⟩ <;> cases z
     ·rcases k9 with ⟨z,_⟩| ⟨v,z,_⟩ <;> cases z
 refine⟨st,?_⟩;have⟨k,ds,hi⟩:=jC t.dr jl st;have EH:=b9 fr.pl (aai hi);have tn:∀d∈ds,d.1.toNat < γ.length:=λd hd=>by have:=EH.to d hd;omega
 have⟨es,sQ,iE,Nk,wt⟩:=t.H_ fr hi;unfold h7 at iE;rw[jn]at iE;rw[jf st,br hi];rcases gE fr hi with rfl| rfl| rfl
 ·have⟨x,xl,gx,ee⟩:=wt rfl;rw[aau @_]at iE;have⟨j',pG,uY,_,O7⟩:=t.hand fr hi ak;rw[aaq rfl,gx]at uY;have ex:x=j':=by have:=aao uY;omega
  subst ex;rw[gu fr hi ak (by rw[eQ fr fa hi];exact gx) xl];intro d hd;rw[aaV.mp hd];have ev:=O7 st;rcases iE with ⟨_,z⟩| ⟨v,z,_⟩
  ·refine⟨(tn ds[x] (aal xl):ds[x].1.toNat < γ.length),?_,z _ (aa.mpr ⟨ds[x],by rw[ee];exact aaV.mpr rfl,rfl⟩),?_⟩
   ·show 0 < V_ tb ds[x].1.toNat;rw[<-ev];exact jv
   ·show V_ tb ds[x].1.toNat=V_ tb m;rw[<-ev];exact je
  ·cases z
 ·rw[aaq rfl]at iE;rcases iE with ⟨_,z⟩| ⟨v,z,_⟩
  ·rw[Nk @_]at z;have⟨d,hd,ed⟩:=aa.mp z;have⟨x0,x0l,ex0⟩:=aba hd;have h:∃x:Nat,∃xl:x < ds.length,at_ S2 ds[x].1.toNat=none:=⟨x0,x0l,by rw[ex0];exact ed⟩;have⟨xl,xn⟩:=h.choose_spec;have hm:j∈fA γ "other":=jW.mpr ⟨jl,gW hi⟩;have g:Λ a' (j:Int)=some ((h.choose:Nat):Int):=by
    have:=uA (f:=ch) hm;rw[this]
    congr 1
    show(match γ[j]? with| some (.τ _ ds)=>if h:∃x:Nat,∃xl:x < ds.length,at_ S2 ds[x].1.toNat=none then ((h.choose:Nat):Int) else 0| _=>0)=_;rw[hi];dsimp only;rw[dif_pos h]
   generalize h.choose=x at *
   have⟨j',pG,_,al,O7⟩:=t.hand fr hi au;rw[gu fr hi au (by rw[fM fr fa hi];exact g) xl];intro d' FX;rw[aaV.mp FX];have ev:=O7 st;have le:=al _ (aal xl);rw[oo,<-ev]at le;have xv:0 < V_ tb ds[x].1.toNat:=by grind
   have up:=mm _ (tn _ (aal xl)) ⟨xv,xn⟩;exact⟨(tn ds[x] (List.getElem_mem xl):ds[x].1.toNat < γ.length),xv,xn,by show V_ tb ds[x].1.toNat=V_ tb m;grind⟩
  ·cases z
 ·rw[aau @_]at iE;rcases iE with ⟨_,z⟩| ⟨v,z,_⟩
  ·rw[Nk @_]at z;have e:=t.Ck fr hi;have co:wk (ds.map ν):=by
    rcases EH.kd with y| ⟨_,_,y⟩
    ·exact aay y @_
    ·exact y
   have eqs:=xD (z:=λd=>V_ tb d.1.toNat) (m:=V_ tb m) (wK co) (λd hd=>by
    by_cases c:0 < V_ tb d.1.toNat
    ·exact mm _ (tn d hd) ⟨c,z _ (aa.mpr ⟨d,hd,rfl⟩)⟩
    ·have:=t.unit fr _ (tn d hd);grind) (by rw[(mY co).1,Rat.one_mul,<-je,e];exact Rat.le_refl)
   unfold eN;rw[fR fr t.fp fa hi];intro d hd;have ev:=eqs d hd;exact⟨tn d hd,by rw[ev];exact mv,z _ (aa.mpr ⟨d,hd,rfl⟩),ev⟩
  ·cases z
end
def aD:List Int->Nat->(Nat->Rat)->Rat
 | [],_,_=>0
 | x::xs,k,y=>(x:Rat) * y k+aD xs (k+1) y
def Ea{y:Nat->Rat}{u v:Int}:∀{xs:List Int} {j k:Nat},xs[j]? =some v->aD (xs.set j (v+u)) k y=aD xs k y+(u:Rat) * y (k+j)
 | x::xs,0,k,h=>by have h:x=v:=aao h;subst h;show((x+u:Int):Rat) * y k+aD xs (k+1) y=(x:Rat) * y k+aD xs (k+1) y+(u:Rat) * y k;rw[Rat.intCast_add];grind
 | x::xs,j+1,k,h=>by have h:xs[j]? =some v:=h;show(x:Rat) * y k+aD (xs.set j (v+u)) (k+1) y=(x:Rat) * y k+aD xs (k+1) y+(u:Rat) * y (k+(j+1));rw[Ea h,show k+1+j=k+(j+1) by omega];grind
def zq{y:Nat->Rat}:∀(n k:Nat),aD (List.replicate n 0) k y=0
 | 0,_=>rfl
 | n+1,k=>by show((0:Int):Rat) * y k+aD (List.replicate n 0) (k+1) y=0;rw[zq n (k+1)];grind
def iJ{y z:Nat->Rat}:∀{xs:List Int} {k:Nat},(∀x∈xs,0<=x)->(∀j,j < xs.length->y (k+j)<=z (k+j))->aD xs k y<=aD xs k z
 | [],_,_,_=>abF
 | x::xs,k,h,hl=>by
  have a:=iJ (xs:=xs) (k:=k+1) (y:=y) (z:=z) (λw hw=>h w (aac _ hw)) λj hj=>by rw[show k+1+j=k+(j+1) by omega];exact hl (j+1) (acj hj)
  have b:(x:Rat) * y k<=(x:Rat) * z k:=abu (hl 0 (Nat.succ_pos _)) (abc.mpr (h x aad));show(x:Rat) * y k+aD xs (k+1) y<=(x:Rat) * z k+aD xs (k+1) z;grind
def fY{y z:Nat->Rat}:∀{xs:List Int} {k:Nat},(∀j,j < xs.length->y (k+j)=z (k+j))->aD xs k y=aD xs k z
 | [],_,_=>rfl
 | x::xs,k,hl=>by
  have a:=fY (xs:=xs) (k:=k+1) (y:=y) (z:=z) λj hj=>by rw[show k+1+j=k+(j+1) by omega];exact hl (j+1) (acj hj)
  have b:y k=z k:=hl 0 (Nat.succ_pos _);show(x:Rat) * y k+aD xs (k+1) y=(x:Rat) * z k+aD xs (k+1) z;rw[a,b]
def wa{y z:Nat->Rat}:∀{xs:List Int} {k:Nat},aD xs k (λi=>y i+z i)=aD xs k y+aD xs k z
 | [],_=>by show(0:Rat)=0+0;grind
 | x::xs,k=>by show(x:Rat) * (y k+z k)+aD xs (k+1) (λi=>y i+z i)=(x:Rat) * y k+aD xs (k+1) y+((x:Rat) * z k+aD xs (k+1) z);rw[wa];grind
def qG{y:Nat->Rat}{c:Rat}:∀{xs:List Int} {k:Nat},aD xs k (λi=>c * y i)=c * aD xs k y
 | [],_=>by show(0:Rat)=c * 0;grind
 | x::xs,k=>by show(x:Rat) * (c * y k)+aD xs (k+1) (λi=>c * y i)=c * ((x:Rat) * y k+aD xs (k+1) y);rw[qG];grind
def IM{y:Nat->Rat}:∀{xs:List Int} {k:Nat},(∀x∈xs,0<=x)->(∀j,j < xs.length->0<=y (k+j))->0<=aD xs k y
 | [],_,_,_=>abF
 | x::xs,k,h,hl=>by
  have a:=IM (xs:=xs) (k:=k+1) (y:=y) (λw hw=>h w (aac _ hw)) λj hj=>by rw[show k+1+j=k+(j+1) by omega];exact hl (j+1) (acj hj)
  have b:0<=(x:Rat) * y k:=Rat.mul_nonneg (abc.mpr (h x aad)) (hl 0 (Nat.succ_pos _));show 0<=(x:Rat) * y k+aD xs (k+1) y;grind
def B4{y:Nat->Rat}:∀{xs:List Int} {k j:Nat} {v:Int},(∀x∈xs,0<=x)->(∀j,j < xs.length->0<=y (k+j))->xs[j]? =some v->(v:Rat) * y (k+j)<=aD xs k y
 | x::xs,k,0,v,h,hl,e=>by
  have e:x=v:=aao e;subst e;have a:=IM (xs:=xs) (k:=k+1) (y:=y) (λw hw=>h w (aac _ hw)) λj hj=>by rw[show k+1+j=k+(j+1) by omega];exact hl (j+1) (acj hj)
  show(x:Rat) * y k<=(x:Rat) * y k+aD xs (k+1) y;grind
 | x::xs,k,j+1,v,h,hl,e=>by have a:=B4 (xs:=xs) (k:=k+1) (y:=y) (j:=j) (v:=v) (λw hw=>h w (aac _ hw)) (λj hj=>by rw[show k+1+j=k+(j+1) by omega];exact hl (j+1) (acj hj)) e;have b:0<=(x:Rat) * y k:=Rat.mul_nonneg (abc.mpr (h x aad)) (hl 0 (Nat.succ_pos _));rw[show k+1+j=k+(j+1) by omega]at a;show(v:Rat) * y (k+(j+1))<=(x:Rat) * y k+aD xs (k+1) y;grind
def qw{y:Nat->Rat}{v:Int}:∀{xs:List Int} {k:Nat},aD (xs++[v]) k y=aD xs k y+(v:Rat) * y (k+xs.length)
 | [],k=>by show(v:Rat) * y k+0=0+(v:Rat) * y (k+0);grind
 | x::xs,k=>by show(x:Rat) * y k+aD (xs++[v]) (k+1) y=(x:Rat) * y k+aD xs (k+1) y+(v:Rat) * y (k+(xs.length+1));rw[qw,show k+1+xs.length=k+(xs.length+1) by omega];grind
def kN{xs:List Int}{n:Nat}(hn:xs.length=n):∀{gs:List Nat},gs.Nodup->(∀g∈gs,g < n)->(((gs.map λg=>xs.getD g 0).sum:Int):Rat)=aD xs 0 (λi=>if i∈gs then 1 else 0)
 | [],_,_=>by
  have:aD xs 0 (λi=>if i∈([]:List Nat) then (1:Rat) else 0)=(0:Rat) * aD xs 0 (λ_=>1):=by rw[<-qG];exact fY λj _=>by rw[if_neg (by simp)];grind
  rw[this];show((0:Int):Rat)=_;grind
 | g ::gs,nd,hl=>by
  have⟨n1,n2⟩:=abx.mp nd;have ih:=kN hn n2 λx hx=>hl x (aac _ hx);show((xs.getD g 0+(gs.map λg=>xs.getD g 0).sum:Int):Rat)=_;rw[acu,ih];have e:aD xs 0 (λi=>if i∈g::gs then (1:Rat) else 0)=aD xs 0 (λi=>(if i=g then 1 else 0)+(if i∈gs then 1 else 0)):=fY λj _=>by
   rw[aa7];by_cases c:j=g
   ·rw[if_pos c,if_pos (by rw[c];exact List.mem_cons_self),if_neg (by rw[c];exact n1)];grind
   ·rw[aau c];by_cases d:j∈gs
    ·rw[if_pos d,if_pos (List.mem_cons_of_mem _ d)];grind
    ·rw[if_neg d,if_neg λz=>by rcases List.mem_cons.mp z with z| z;exact c z;exact d z];grind
  rw[e,wa];have one:∀{xs:List Int} {k g:Nat},k<=g->g < k+xs.length->((xs.getD (g - k) 0:Int):Rat)=aD xs k (λi=>if i=g then 1 else 0):=λ{xs}=>by
   induction xs with
   | nil=>intro k g h1 h2;have:g < k+0:=h2;omega
   | cons x xs ih=>
    intro k g h1 h2;have h2:g < k+(xs.length+1):=h2;show _=(x:Rat) * (if k=g then 1 else 0)+aD xs (k+1) (λi=>if i=g then 1 else 0);by_cases c:k=g
    ·subst c;have z:aD xs (k+1) (λi=>if i=k then (1:Rat) else 0)=(0:Rat) * aD xs (k+1) (λ_=>1):=by rw[<-qG];exact fY λj _=>by rw[if_neg ()];grind
     rw[z,aaq rfl,abX];show(x:Rat)=_;grind
    ·have:=ih (k:=k+1) (g:=g) () ();rw[<-this,aau c,show g - k=(g - (k+1))+1 by omega];show((xs.getD (g - (k+1)) 0:Int):Rat)=_;grind
  have:=one (xs:=xs) (k:=0) (g:=g) (ab5 _) (by have:=hl g aad;omega);rw[Nat.sub_zero]at this;rw[this]
section
def Dw(fr:FR ε γ)(hm:Rw.τ "chance" ds∈γ){d:aO}(hd:d∈ds):d.2.2=[ν d]/\0 < (ν d).2/\(ν d).2<=1000000/\0<=(ν d).1/\(ν d).1<=(ν d).2:=by
 have EH:=b9 fr.pl hm;have co:wk (ds.map ν):=by
  rcases EH.kd with z| ⟨_,_,z⟩
  ·exact aay z @_
  ·exact z
 have Zu:ν d∈ds.map ν:=aan.mpr ⟨d,hd,rfl⟩;have u:=D5 co Zu;have⟨_,_,hB⟩:=fq (ds.map ν) 1 0 @_ (abT _) λc hc=>⟨(co.Gp.2 c hc).1,abT _⟩;have dv:=hB _ Zu;have le:=abZ co.b0 dv;have b1:=co.b1;have l1:=(EH.ro.2.2.1 rfl).1 d hd;refine⟨?_,u.1,?_,u.2.2.1.1,u.2.2.1.2⟩
 ·exact l1
 ·have:(ν d).2<=a_ (ds.map ν):=le;omega
end
def jU(k:Nat):(0:Int) < 2 ^ k:=by
 have:0 < 2 ^ k:=Nat.pow_pos @_
 exact_mod_cast this
def rH{k l:Nat}(h:k<=l):(2:Int) ^ k<=2 ^ l:=by
 have:2 ^ k<=2 ^ l:=abI @_ h
 exact_mod_cast this
def bT{n:Int}{k:Nat}(h0:0<=n)(h:n<=2 ^ k)(hk:k<=7999):fj n:=BA (k:=k+1) h0 (abh h (by
 rw[abG];have:=jU k;generalize (2:Int) ^ k=z at *
 omega)) ()
def fe{a b:Int}{k l:Nat}(a0:0<=a)(ha:a<=2 ^ k)(b0:0<=b)(hb:b<=2 ^ l):0<=a * b/\a * b<=2 ^ (k+l):=⟨abt a0 b0,by rw[Int.pow_add];exact acy ha hb b0 (aag (jU k))⟩
structure NQ(γ:List Rw)(B:Int):Prop where
 pos:0 < B
 le:B<=2 ^ 720
 dvd:∀ds,Rw.τ "chance" ds∈γ->∀d∈ds,(ν d).2∣B
def O4{c:Int}(hB:0 < B)(hc:0 < c):0 < (ax c B).1/\(ax c B).1<=c/\c∣B * (ax c B).1:=by
 have hx:=cD (t:=c) (show B≠0 by omega);have hp:=b_ (t:=c) (show B≠0 by omega);have hl:=qE (t:=c) (show B≠0 by omega);generalize ax c B=f at *
 have f0:0 < f.1:=by
  have h1:=abv hc hp;rcases acC 0 f.1 with z| z
  ·exact z
  ·have:B * f.1<=0:=Int.mul_nonpos_of_nonneg_of_nonpos (aag hB) z;omega
 exact⟨f0,(),⟨f.2,hx.symm⟩⟩
def TV:DF:=λas M q _=>∃(ε:Fr) (γ:List Rw),as=[.lst (γ.map Ι)]/\FR ε γ/\γ.length<=6/\∀B,NQ γ B->q (.int B) M
def fv:Γ ["_law_rows_here","_law_found","_law_row","_law_door"] ["_law_rows_here"] (χ lI):=.of rfl
def wA   (F:dE K "_law_bottom" "_law_bottom" lI f fd) (E:Ev K mg Cm)   (bu:aE P w K mg base 1 "_law_lowest" ["_law_top","_law_bottom_here"] LR gB gA):aw P w K mg base (cP P w) 2 f fd ["_law_rows_here"] (dw K TV):=by
 refine F.eF fv (λds M q x h=>?_) (λbz A outer s H E' hr=>⟨_,(ζ (ψ 1 fv.nd ο)
   (ζ (b6 (aR (jv 0)) (ae (i:=2) fv.nd rfl (Or.inl rfl)) aA (θ (aH (dz hr (Ε (jv 2) ο) eY) (θ (b6 (aR (Ε (jv 2) ο)) (ae (i:=3) fv.nd rfl (Or.inl rfl)) aA (θ (ψ 1 fv.nd (aP (jv 1) (Ε (ao bu hr ξ (ι (Ε (Ε (jv 3) ο) ο) (Ν (jv 1) η) b8)) ο)))))) Μ)))
   (θ (Δ (jv 1))))),λds M q x h=>?_⟩)
 ·have⟨ε,γ,rfl,_⟩:=h;rfl
 ·have⟨ε,γ,rfl,fr,l6,h⟩:=h;walk_at "vc";dsimp only[nI];refine aZ (i:=0) (d:=.lst (γ.map Ι)) rfl rfl ?_;refine aV (λzs ρ' M'=>M'=M/\∃(done rest:List Rw) (B:Int) (o2 o3:Option Dt),zs=rest.map Ι/\done++rest=γ/\0 < B/\B<=2 ^ (120 * done.length)/\(∀ds,Rw.τ "chance" ds∈done->∀d∈ds,(ν d).2∣B)/\ρ'=[some (.lst (γ.map Ι)),some (.int B),o2,o3]) (λxs ρ M' hj=>trivial) (λx xs ρ M' hj fH=>?_) (λρ M' hj=>?_) _ _ _ ⟨rfl,[],γ,1,none,none,rfl,rfl,@_,@_,λ_ z=>(nomatch z),rfl⟩
  ·have⟨rfl,done,rest,B,o2,o3,ex,ed,B0,Bl,Bd,rfl⟩:=hj;cases rest with
   | nil=>cases ex
   | cons r rest=>
    cases ex;have rm:r∈γ:=by rw[<-ed];exact aaA _ aad
    have ed':(done++[r])++rest=γ:=by rw[<-ed];simp
    have nx:∀(B':Int) (o3:Option Dt),0 < B'->B'<=2 ^ (120 * (done.length+1))->B∣B'->(∀ds,r= .τ "chance" ds->∀d∈ds,(ν d).2∣B')->_:=λB' o3 h1 h2 h3 h4=>fH [some (.lst (γ.map Ι)),some (.int B'),some (Ι r),o3] M' ⟨rfl,done++[r],rest,B',_,_,rfl,ed',h1,by rw[aah];exact h2,λds hd d hm=>by
     rcases aaR.mp hd with z| z
     ·exact Int.dvd_trans (Bd ds z d hm) h3
     ·exact h4 ds (aaV.mp z).symm d hm,rfl⟩
    have same:(∀ds,r≠ .τ "chance" ds)->_:=λNk=>nx B o3 B0 (aaL Bl (rH ())) (Int.dvd_refl _) λds e=>aay e (Nk ds);walk_at "vc";cases r with
    | fin e=>exact⟨nofun,λ_=>same λds z=>(nomatch z)⟩
    | τ k ds=>
     refine⟨λz=>?_,λz=>same λKx e=>?_⟩
     ·have z:k="chance":=aav z;subst z;have l6:=j4 fr.DL rm;dsimp only[nI,eS];walk_at "vc";refine zx ?_;refine aV (λzs ρ' M2=>M2=M'/\∃(d2 eO:List aO) (B':Int) (o3:Option Dt),zs=eO.map dD/\d2++eO=ds/\0 < B'/\B'<=2 ^ (120 * done.length+20 * d2.length)/\B∣B'/\(∀d∈d2,(ν d).2∣B')/\ρ'=[some (.lst (γ.map Ι)),some (.int B'),some (Ι (.τ "chance" ds)),o3]) (λxs ρ M' hj=>trivial) (λx xs ρ M2 hj OD=>?_) (λρ M2 hj=>?_) _ _ _ ⟨rfl,[],ds,B,o3,rfl,rfl,B0,by simpa using Bl,Int.dvd_refl _,λ_ z=>(nomatch z),rfl⟩
      ·have⟨rfl,d2,eO,B',o3,ex,AE,b0,bl,bd,bc,rfl⟩:=hj;cases eO with
       | nil=>cases ex
       | cons d eO=>
        cases ex;have hd:d∈ds:=by rw[<-AE];exact aaA _ aad
        have dl:d2.length<=6:=by have:=aaM List.length AE;rw[aah]at this;omega
        have ll:done.length<=6:=by have:=aaM List.length ed;rw[aah]at this;omega
        have⟨e2,c0,c1,_⟩:=Dw fr rm hd;have⟨x0,xl,xd⟩:=O4 b0 c0;have QL:(ν d).2<=2 ^ 20:=aaL c1 @_;have bb:fj B':=bT (aag b0) bl ();have⟨_,m2⟩:=fe (aag b0) bl (aag x0) (aaL xl QL);walk_at "vc";refine DU e2 ?_;refine(tF ?_:cR (av (ν d)) (.int 1) _ _);refine⟨(ν d).2,B',rfl,b0,bb,?_⟩;generalize ax (ν d).2 B'=f at *
        refine(qX ?_:cR (av f) (.int 0) _ _);refine⟨⟨bb,bT (k:=20) (aag x0) (aaL xl QL) @_⟩,?_⟩;refine OD _ _ ⟨rfl,d2++[d],eO,_,_,rfl,by rw[<-AE];simp,Int.mul_pos b0 x0,by rw[List.length_append];exact m2,Int.dvd_trans bd (Int.dvd_mul_right _ _),λd' FX=>?_,rfl⟩;rcases aaR.mp FX with z| z
        ·exact Int.dvd_trans (bc d' z) (Int.dvd_mul_right _ _)
        ·rw[aaV.mp z];exact xd
      ·have⟨rfl,d2,eO,B',o3,ex,AE,b0,bl,bd,bc,rfl⟩:=hj;cases eO with
       | cons d eO=>cases ex
       | nil=>
        rw[aaY]at AE;subst AE;refine nx B' o3 b0 (aaL bl (rH ())) bd λKx e d hd=>?_;have⟨_,e2⟩:=Rw.τ.inj e;rw[<-e2]at hd;exact bc d hd
     ·have⟨e1,_⟩:=Rw.τ.inj e;subst e1;exact nomatch z
  ·have⟨rfl,done,rest,B,o2,o3,ex,ed,B0,Bl,Bd,rfl⟩:=hj;cases rest with
   | cons d rest=>cases ex
   | nil=>
    rw[aaY]at ed;subst ed;exact h B ⟨B0,aaL Bl (rH ()),Bd⟩
def M6:DF:=λas M q _=>∃(th:List Int) (td:Dt) (tb:List Fr),as=[.lst (th.map Dt.int),td]/\WZ M td (tb.map av)/\LH tb th.length/\th.length<=6/\(∀x∈th,0<=x/\x<=2 ^ 5040)/\∀t b:Int,0 < b->b<=2 ^ 2400->0<=t->t<=2 ^ 7446->(t:Rat)=(b:Rat) * aD th 0 (V_ tb)->q (.tup [.int t,.int b]) M
def eZ:Γ ["_law_there","_law_table","_law_top","_law_bottom_here","_law_place","_law_one"] ["_law_there","_law_table"] (χ s_):=.of rfl
def AY(F:dE K "_law_mean" "_law_mean" s_ f fd)(E:Ev K mg Cm):aw P w K mg base (cP P w) 1 f fd ["_law_there","_law_table"] (dw K M6):=by
 refine F.eF eZ (λds M q x h=>?_) (λbz A outer s H E' hr=>⟨_,(ζ (ψ 2 eZ.nd ο)
   (ζ (ψ 3 eZ.nd ο)
   (ζ (kg (bO E.bI (ι (cZ E.bW (Ν (jv 0) η)) η bC)) (ae (i:=4) eZ.nd rfl (Or.inl rfl)) aA (ζ (ψ 5 eZ.nd (Ε (jv 1) (jv 4)))
   (ζ (ψ 2 eZ.nd (cJ (aP (jv 2) (Ε (jv 5) ο)) (aP (aP (Ε (jv 0) (jv 4)) (Ε (jv 5) ο)) (jv 3))))
   (θ (ψ 3 eZ.nd (aP (jv 3) (Ε (jv 5) ο)))))))
   (θ (Δ (cY (Ν (jv 2) (Ν (jv 3) η)))))))),λds M q x h=>?_⟩)
 ·have⟨th,td,tb,rfl,_⟩:=h;rfl
 ·have⟨th,td,tb,rfl,la,tk,l6,ht,h⟩:=h;have⟨ok,hk⟩:=la.k;have hs:=j3 hk;walk_at "vc";refine(aF (d:=.lst (th.map Dt.int)) (xs:=th.map Dt.int) rfl ?_:gH [.lst (th.map Dt.int)] _ _);rw[aae];refine⟨⟨(),()⟩,?_⟩;refine eL (λzs ρ M2=>∃(n k:Nat) (t b:Int) (o4 o5:Option Dt),zs=cw k n/\k+n=th.length/\0 < b/\b<=2 ^ (400 * k)/\0<=t/\t<=(k:Int) * 2 ^ 5040 * b/\(t:Rat)=(b:Rat) * aD (th.take k) 0 (V_ tb)/\M2=M/\ρ=[some (.lst (th.map Dt.int)),some td,some (.int t),some (.int b),o4,o5]) (λx zs ρ M2 hj fH=>?_) (λρ M2 hj=>?_) _ _ _ ⟨th.length,0,0,1,none,none,by simp,by simp,@_,@_,@_,by simp,by show((0:Int):Rat)=((1:Int):Rat) * 0;grind,rfl,rfl⟩
  ·have⟨n,k,t,b,o4,o5,ex,Qv,b0,bl,t0,tl,et,rfl,rfl⟩:=hj;have⟨m,rfl,rfl,rfl⟩:=d8 ex;have kl:k < th.length:=()
   have a1:iH (th.map Dt.int) (k:Int)=some (.int th[k]):=Υ (by rw[aak,aaa kl];rfl);have a3:iH (tb.map av) (k:Int)=some (av (tb.getD k (0,1))):=by have:=tk.at (t:=(k:Int)) () ();rwa[aaW]at this
   have rd:=tk.red k kl;have ut:=tk.YL k kl;have sz:=tk.sz k kl;have hx:=ht _ (aal kl);have etk:th.take (k+1)=th.take k++[th[k]]:=(List.take_append_getElem kl).symm;have ev:V_ tb k=val (tb.getD k (0,1)):=rfl;generalize tb.getD k (0,1)=f at *
   generalize th[k]=x at *
   have f2:f.2<=2 ^ 400:=by
    have:=sz.2.2;have fp:=rd.pos;have:(f.2.natAbs:Int) < ((2 ^ 400:Nat):Int):=abL.mpr this;rw[ab6]at this;have e:((2:Nat):Int) ^ 400=2 ^ 400:=rfl;rw[e]at this;generalize (2:Int) ^ 400=z at *
    omega
   have f1:f.1<=2 ^ 400:=aaL ut.2 f2;have x1:=fe hx.1 hx.2 ut.1 f1;have b1:=fe (aag b0) bl (aag rd.pos) f2;have tB:t<=2 ^ 7446:=by
    have k8:(k:Int)<=2 ^ 3:=by show(k:Int)<=8;omega
    have p1:=fe (a:=(k:Int)) (k:=3) (b:=2 ^ 5040) (l:=5040) () k8 (aag (jU _)) (acv _);have p2:=fe p1.1 p1.2 (aag b0) bl;exact aaL tl (aaL p2.2 (rH ()))
   have bx:∀{z:Int} {j:Nat},0<=z->z<=2 ^ j->j<=7999->fj z:=bT;walk_at "vc";refine(Β (d:=td) hs a3 ?_:cR td (.int (k:Int)) _ _);refine(tF ?_:cR (av f) (.int 1) _ _);refine⟨⟨bx t0 tB @_,bx (aag rd.pos) f2 @_⟩,?_⟩;refine(Β (d:=.lst (th.map Dt.int)) rfl a1 ?_:cR (.lst (th.map Dt.int)) (.int (k:Int)) _ _);refine(qX ?_:cR (av f) (.int 0) _ _);refine⟨⟨bx hx.1 hx.2 @_,bx ut.1 f1 @_⟩,⟨bx x1.1 x1.2 @_,bx (aag b0) bl ()⟩,?_⟩;dsimp only[zz];refine(tF ?_:cR (av f) (.int 1) _ _);refine⟨⟨bx (aag b0) bl (),bx (aag rd.pos) f2 @_⟩,?_⟩;refine fH _ _ ⟨m,k+1,_,_,_,_,by simp,(),Int.mul_pos b0 rd.pos,by rw[show 400 * (k+1)=400 * k+400 by omega];exact b1.2,Int.add_nonneg (Int.mul_nonneg t0 (Int.le_of_lt rd.pos)) (Int.mul_nonneg (Int.mul_nonneg hx.1 ut.1) (Int.le_of_lt b0)),?_,?_,rfl,rfl⟩
   ·have q1:t * f.2<=(k:Int) * 2 ^ 5040 * b * f.2:=aaF tl (aag rd.pos);have q2:x * f.1<=2 ^ 5040 * f.2:=acy hx.2 ut.2 ut.1 (aag (jU _));have q3:x * f.1 * b<=2 ^ 5040 * f.2 * b:=aaF q2 (aag b0);have e:((k+1:Nat):Int) * 2 ^ 5040 * (b * f.2)=(k:Int) * 2 ^ 5040 * b * f.2+2 ^ 5040 * f.2 * b:=by rw[show((k+1:Nat):Int)=(k:Int)+1 by omega];generalize (2:Int) ^ 5040=z;grind
    rw[e];exact Int.add_le_add q1 q3
   ·rw[etk,qw,ab1,abW (),aa7,ev];have z1:=bq (show f.2≠0 by have:=rd.pos;omega);unfold val;simp only[Rat.intCast_add,Rat.intCast_mul];rw[et];generalize aD (th.take k) 0 (V_ tb)=dd at *
    generalize (f.1:Rat)=y1 at *
    generalize (f.2:Rat)=y2 at *
    generalize (b:Rat)=bb at *
    generalize (x:Rat)=xx at *
    clear et ev a1 a3 fH;grind
  ·have⟨n,k,t,b,o4,o5,ex,Qv,b0,bl,t0,tl,et,rfl,rfl⟩:=hj;have hn:n=0:=by have:=aaM List.length ex;rw[c9]at this;exact this.symm
   have tY:k=th.length:=()
   subst tY;rw[List.take_length]at et;have tB:t<=2 ^ 7446:=by
    have k8:(th.length:Int)<=2 ^ 3:=by show(th.length:Int)<=8;omega
    have p1:=fe (a:=(th.length:Int)) (k:=3) (b:=2 ^ 5040) (l:=5040) () k8 (aag (jU _)) (acv _);have p2:=fe p1.1 p1.2 (aag b0) bl;exact aaL tl (aaL p2.2 (rH ()))
   walk_at "vc";exact⟨gV,h t b b0 (aaL bl (rH ())) t0 tB et⟩
def nk(n:Int):Nat->Int
 | 0=>n
 | k+1=>nk n k / 60
def cT(γ:List Rw)(pl:Pl)(kind:Str)(n:Int)(i:Nat):Nat:=match bV γ i with
 | .τ k ds=>if k=kind then ((Λ pl i).getD 0).toNat else (nk n i % 60 % (ds.length:Int)).toNat
 | _=>0
def mN(γ:List Rw)(c:Nat->Nat)(y:Nat->Rat)(i:Nat):Rat:=match bV γ i with
 | .fin _=>y i
 | .τ k ds=>if k="chance" then aj (λd=>cV d * y d.1.toNat) ds else y (ds.getD (c i) d0).1.toNat
structure Ht(γ:List Rw)(pl:Pl)(kind:Str)(B:Int)(th fs:List Int):Prop where
 len:fs.length=γ.length
 nn:∀x∈fs,0<=x
 ex:∃c:Nat->Nat,(∀(i:Nat) (k:Str) (ds:List aO),γ[i]? =some (.τ k ds)->k≠"chance"->c i < ds.length/\(k=kind->Λ pl i=some ((c i:Nat):Int)))/\∀y,aD fs 0 y=(B:Rat) * aD th 0 (mN γ c y)
structure Fd(n:Nat)(F:List Int)(D:(Nat->Rat)->Rat):Prop where
 len:F.length=n
 nn:∀x∈F,0<=x
 dot:∀y,aD F 0 y=D y
def Fd.add{n:Nat}{F:List Int}{D D':(Nat->Rat)->Rat}(h:Fd n F D){j:Nat}(jl:j < n){u:Int}(u0:0<=u)(e:∀y,D' y=D y+(u:Rat) * y j):(F.map Dt.int)[j]? =some (.int (F.getD j 0))/\j < (F.map Dt.int).length/\(F.map Dt.int).set j (.int (F.getD j 0+u))=(F.set j (F.getD j 0+u)).map Dt.int/\Fd n (F.set j (F.getD j 0+u)) D':=by
 have pG:j < F.length:=by rw[h.len];exact jl
 have eg:F[j]? =some (F.getD j 0):=by rw[aab,aaa pG];rfl
 have g0:0<=F.getD j 0:=h.nn _ (aai eg);refine⟨by rw[aak,eg];rfl,by rw[aae];exact pG,by rw[<-List.map_set],by rw[aa6];exact h.len,λx hx=>?_,λy=>?_⟩
 ·rcases List.mem_or_eq_of_mem_set hx with z| z
  ·exact h.nn x z
  ·rw[z];omega
 ·rw[Ea eg,h.dot,e,aa7]
def EV{c:Fr}(c0:0 < c.2)(h:c.2∣B):((B / c.2 * c.1:Int):Rat)=(B:Rat) * val c:=by
 have⟨e,rfl⟩:=h;rw[abn _ (show c.2≠0 by omega)];have z:=bq (show c.2≠0 by omega);unfold val;simp only[Rat.intCast_mul];generalize (c.2:Rat)=x at *
 generalize (c.1:Rat)=y at *
 generalize (e:Rat)=w at *
 clear c0;grind
def ND:DF:=λas M q _=>∃(ε:Fr) (γ:List Rw) (th:List Int) (kp:Nat) (pl:Pl) (kind:Str) (n B:Int),as=[.lst (γ.map Ι),.lst (th.map Dt.int),.loc kp,.str kind,.int n,.int B]/\FR ε γ/\M[kp]? =some (dP pl)/\(∀(i:Nat) (ds:List aO),γ[i]? =some (.τ kind ds)->∃j:Nat,Λ pl i=some (j:Int)/\j < ds.length)/\NQ γ B/\th.length=γ.length/\γ.length<=6/\(∀x∈th,0<=x/\x<=2 ^ 5040)/\∀fs,Ht γ pl kind B th fs->q (.loc M.length) (M++[.lst (fs.map Dt.int)])
def cM:Γ ["_law_rows_here","_law_there","_law_plan","_law_kind","_law_number_here","_law_bottom_here","_law_found","_law_place","_law_row","_law_door","_law_weight"] ["_law_rows_here","_law_there","_law_plan","_law_kind","_law_number_here","_law_bottom_here"] (χ rR):=.of rfl
def CC   (F:dE K "_law_turn" "_law_turn" rR f fd) (E:Ev K mg Cm):aw P w K mg base (cP P w) 1 f fd ["_law_rows_here","_law_there","_law_plan","_law_kind","_law_number_here","_law_bottom_here"] (dw K ND):=by
 refine F.eF cM (λds M q x h=>?_) (λbz A outer s H E' hr=>⟨_,(ζ (mW (i:=6) cM.nd rfl (Or.inl rfl) (ys:=[]) (Θ:=[]) (.of cM rfl rfl rfl) (aR (jv 0)) (λC s H fp=>ο))
   (ζ (kg (bO E.bI (ι (cZ E.bW (Ν (jv 0) η)) η bC)) (ae (i:=7) cM.nd rfl (Or.inl rfl)) aA (ζ (ψ 8 cM.nd (Ε (jv 0) (jv 7)))
   (ζ (ko (aH (dz hr (Ε (jv 8) ο) eY) (θ (rF (jv 6) (jv 7) (aP (Ε (jv 1) (jv 7)) (jv 5)))) (θ (aH (dz hr (Ε (jv 8) ο) eY) (θ (b6 (aR (Ε (jv 8) ο)) (ae (i:=9) cM.nd rfl (Or.inl rfl)) aA (ζ (ψ 10 cM.nd (aP (eJ (jv 5) (Ε (Ε (jv 9) ο) ο)) (Ε (Ε (jv 9) ο) ο)))
   (θ (rF (jv 6) (Ε (jv 9) ο) (aP (Ε (jv 1) (jv 7)) (jv 10))))))) (ζ (ψ 9 cM.nd (cQ (cQ (jv 4) ο) (cZ E.bW (ι (Ε (jv 8) ο) η b8))))
   (ζ (ko (aH (dz hr (Ε (jv 8) ο) (jv 3)) (θ (ψ 9 cM.nd (sX hr (jv 2) (jv 7)))) Μ))
   (θ (rF (jv 6) (Ε (Ε (Ε (jv 8) ο) (jv 9)) ο) (aP (Ε (jv 1) (jv 7)) (jv 5))))))))))
   (θ (ψ 4 cM.nd (eJ (jv 4) ο))))))
   (θ (Δ (jv 6))))),λds M q x h=>?_⟩)
 ·have⟨ε,γ,th,kp,pl,kind,n,B,rfl,_⟩:=h;rfl
 ·have⟨ε,γ,th,kp,pl,kind,n,B,rfl,fr,Rn,fE,bo,tl,l6,ht,h⟩:=h;have sl:∀{z:Nat},z<=1000->z<=sizeLine:=λh=>aaw h @_;have Bb:fj B:=bT (aag bo.pos) bo.le @_;have hc:∀(i:Nat) (k:Str) (ds:List aO),γ[i]? =some (.τ k ds)->cT γ pl kind n i < ds.length/\(k=kind->Λ pl i=some ((cT γ pl kind n i:Nat):Int))/\(k≠kind->((cT γ pl kind n i:Nat):Int)=nk n i % 60 % (ds.length:Int)):=λi k ds hi=>by
   have l1:=(j4 fr.DL (aai hi)).1;unfold cT;rw[br hi];dsimp only;by_cases c:k=kind
   ·rw[aaq c];rw[c]at hi;have⟨j,gj,jl⟩:=fE i ds hi;rw[gj];show((j:Int)).toNat < _/\_;rw[aaW];exact⟨jl,λ_=>rfl,λz=>aay c z⟩
   ·rw[aau c];have m0:=abj (nk n i % 60) (show(ds.length:Int)≠0 by omega);have m1:=abg (nk n i % 60) (show(0:Int) < (ds.length:Int) by omega);exact⟨(),λz=>aay z c,λ_=>ab0 m0⟩
  generalize hcT:cT γ pl kind n=c at *
  walk_at "vc";show eS _ _ _ _ _;refine aZ (i:=0) (d:=.lst (γ.map Ι)) rfl rfl ⟨by rw[aae];exact sl (),?_⟩;refine dt (f:=λ_=>Dt.int 0) trivial (λx hx q' ku=>ku) ?_;have e0:([]:List Dt)++(γ.map Ι).map (λ_=>Dt.int 0)=(List.replicate γ.length (0:Int)).map Dt.int:=by rw[aaH,List.map_replicate,List.map_const',aae]
  rw[e0];have F0:Fd γ.length (List.replicate γ.length (0:Int)) λy=>(B:Rat) * aD (th.take 0) 0 (mN γ c y):=⟨List.length_replicate,λx hx=>by rw[List.eq_of_mem_replicate hx];exact Int.le_refl _,λy=>by rw[zq,List.take_zero];show(0:Rat)=_ * 0;grind⟩;generalize List.replicate γ.length (0:Int)=F00 at *
  walk_at "vc";refine(aF (d:=.lst (γ.map Ι)) (xs:=γ.map Ι) rfl ?_:gH [.lst (γ.map Ι)] _ _);rw[aae];refine⟨⟨(),()⟩,?_⟩;refine eL (λzs ρ M2=>∃(m k:Nat) (F:List Int) (o7 o8 o9 Kv:Option Dt),zs=cw k m/\k+m=γ.length/\Fd γ.length F (λy=>(B:Rat) * aD (th.take k) 0 (mN γ c y))/\M2=M++[.lst (F.map Dt.int)]/\ρ=[some (.lst (γ.map Ι)),some (.lst (th.map Dt.int)),some (.loc kp),some (.str kind),some (.int (nk n k)),some (.int B),some (.loc M.length),o7,o8,o9,Kv]) (λx zs ρ M2 hj fH=>?_) (λρ M2 hj=>?_) _ _ _ ⟨γ.length,0,F00,none,none,none,none,by simp,by simp,F0,rfl,rfl⟩
  ·have⟨m,k,F,o7,o8,o9,Kv,ex,hkm,hF,rfl,rfl⟩:=hj;have⟨m',rfl,rfl,rfl⟩:=d8 ex;have kl:k < γ.length:=()
   have klt:k < th.length:=()
   have hi:=rw_at kl;have rm:=aai hi;have a1:iH (γ.map Ι) (k:Int)=some (Ι (bV γ k)):=Υ (m_ hi);have a2:iH (th.map Dt.int) (k:Int)=some (.int th[k]):=Υ (by rw[aak,aaa klt];rfl);have hx:=ht _ (aal klt);have Vg:∀z:Nat->Rat,aD (th.take (k+1)) 0 z=aD (th.take k) 0 z+(th[k]:Rat) * z k:=λz=>by rw[<-List.take_append_getElem klt,qw,ab1,abW (),aa7]
   generalize th[k]=v at *
   have vb:fj v:=bT hx.1 hx.2 @_;have vB:=abt hx.1 (aag bo.pos);walk_at "vc";refine(Β (d:=.lst (γ.map Ι)) rfl a1 ?_:cR (.lst (γ.map Ι)) (.int (k:Int)) _ _);refine⟨λρ M'=>∃(F':List Int) (o9 Kv:Option Dt),Fd γ.length F' (λy=>(B:Rat) * aD (th.take (k+1)) 0 (mN γ c y))/\M'=M++[.lst (F'.map Dt.int)]/\ρ=[some (.lst (γ.map Ι)),some (.lst (th.map Dt.int)),some (.loc kp),some (.str kind),some (.int (nk n k)),some (.int B),some (.loc M.length),some (.int (k:Int)),some (Ι (bV γ k)),o9,Kv],?_,?_⟩
   ·have Ku:∀{r:Rw},bV γ k=r->∀y,mN γ c y k=match r with| .fin _=>y k| .τ kd ds=>if kd="chance" then aj (λd=>cV d * y d.1.toNat) ds else y (ds.getD (c k) d0).1.toNat:=λhr y=>by unfold mN;rw[hr]
    cases hr:bV γ k with
    | fin e=>
     rw[hr]at hi;refine⟨λ_=>?_,nofun⟩
     have⟨g1,g2,g3,g4⟩:=hF.add (D':=λy=>(B:Rat) * aD (th.take (k+1)) 0 (mN γ c y)) kl vB (λy=>by
      have:=Ku hr y;have this:mN γ c y k=y k:=this
      rw[Vg,this,Rat.intCast_mul];grind)
     refine⟨M.length,k,_,_,rfl,rfl,aN,g1,?_⟩;walk_at "vc";refine(Β (d:=.lst (th.map Dt.int)) rfl a2 ?_:cR (.lst (th.map Dt.int)) (.int (k:Int)) _ _);refine⟨⟨vb,Bb⟩,_,_,rfl,aN,g2,?_⟩;exact⟨_,_,_,g4,by rw[dM,g3],rfl⟩
    | τ kd ds=>
     rw[hr]at hi rm;have ro:=(fr.DL.row _ rm).1;have dl:=j4 fr.DL rm;have Ku:=Ku hr;have Ku:∀y,mN γ c y k=if kd="chance" then aj (λd=>cV d * y d.1.toNat) ds else y (ds.getD (c k) d0).1.toNat:=Ku
     refine⟨λz=>aay (aav z) ro.1,λ_=>⟨λz=>?_,λz=>?_⟩⟩
     ·have z:kd="chance":=aav z;subst z;dsimp only[nI,eS];walk_at "vc";refine zx ?_;refine aV (λzs ρ' M2=>∃(d2 eO:List aO) (F':List Int) (o9 Kv:Option Dt),zs=eO.map dD/\d2++eO=ds/\Fd γ.length F' (λy=>(B:Rat) * aD (th.take k) 0 (mN γ c y)+(B:Rat) * (v:Rat) * aj (λd=>cV d * y d.1.toNat) d2)/\M2=M++[.lst (F'.map Dt.int)]/\ρ'=[some (.lst (γ.map Ι)),some (.lst (th.map Dt.int)),some (.loc kp),some (.str kind),some (.int (nk n k)),some (.int B),some (.loc M.length),some (.int (k:Int)),some (Ι (.τ "chance" ds)),o9,Kv]) (λxs ρ M' hj=>trivial) (λx xs ρ M2 hj OD=>?_) (λρ M2 hj=>?_) _ _ _ ⟨[],ds,F,_,_,rfl,rfl,⟨hF.len,hF.nn,λy=>by rw[hF.dot];show _=_+_ * (0:Rat);grind⟩,rfl,rfl⟩
      ·have⟨d2,eO,F',o9,Kv,ex,AE,N9,rfl,rfl⟩:=hj;cases eO with
       | nil=>cases ex
       | cons d eO=>
        cases ex;have hd:d∈ds:=by rw[<-AE];exact aaA _ aad
        have⟨e2,c0,c1,u0,u1⟩:=Dw fr rm hd;have⟨t0,t1⟩:=iF fr.DL rm hd;have we:=EV c0 (bo.dvd ds rm d hd);have q0:0<=B / (ν d).2:=acs (aag bo.pos) (aag c0);have q1:B / (ν d).2<=B:=ach _ (aag bo.pos);have QL:(ν d).2<=2 ^ 20:=aaL c1 @_;have wl:=fe q0 (aaL q1 bo.le) u0 (aaL u1 QL)
        have⟨g1,g2,g3,g4⟩:=N9.add (j:=d.1.toNat) (D':=λy=>(B:Rat) * aD (th.take k) 0 (mN γ c y)+(B:Rat) * (v:Rat) * aj (λd=>cV d * y d.1.toNat) (d2++[d])) () (abt hx.1 wl.1) (λy=>by
         have el:aj (λd=>cV d * y d.1.toNat) (d2++[d])=aj (λd=>cV d * y d.1.toNat) d2+cV d * y d.1.toNat:=by
          have:∀l:List aO,aj (λd=>cV d * y d.1.toNat) (l++[d])=aj (λd=>cV d * y d.1.toNat) l+cV d * y d.1.toNat:=λl=>by
           induction l with
           | nil=>show cV d * y d.1.toNat+0=0+cV d * y d.1.toNat;grind
           | cons a l ih=>
            show cV a * y a.1.toNat+aj (λd=>cV d * y d.1.toNat) (l++[d])=cV a * y a.1.toNat+aj (λd=>cV d * y d.1.toNat) l+cV d * y d.1.toNat;rw[ih];grind
          exact this d2
         rw[el,aa3,we];show _=_+(v:Rat) * ((B:Rat) * cV d) * y d.1.toNat;generalize aj (λd=>cV d * y d.1.toNat) d2=s1;generalize cV d=s2;generalize y d.1.toNat=s3;generalize aD (th.take k) 0 (mN γ c y)=s4;generalize (B:Rat)=s5;generalize (v:Rat)=s6
         grind)
        walk_at "vc";refine DU e2 ?_;refine(tF ?_:cR (av (ν d)) (.int 1) _ _);refine⟨⟨c0,bT (aag c0) QL @_⟩,?_⟩;refine DU e2 ?_;refine(qX ?_:cR (av (ν d)) (.int 0) _ _);refine⟨⟨bT q0 (aaL q1 bo.le) @_,bT u0 (aaL u1 QL) @_⟩,?_⟩;walk_at "vc";dsimp only[A5];walk_at "vc";refine pM ?_;refine⟨M.length,d.1.toNat,_,_,rfl,by rw[ab0 t0],aN,g1,?_⟩;refine(Β (d:=.lst (th.map Dt.int)) rfl a2 ?_:cR (.lst (th.map Dt.int)) (.int (k:Int)) _ _);refine⟨⟨vb,bT wl.1 wl.2 @_⟩,_,_,rfl,aN,g2,?_⟩;rw[dM,g3];exact OD _ _ ⟨d2++[d],eO,_,_,_,rfl,by rw[<-AE];simp,g4,rfl,rfl⟩
      ·have⟨d2,eO,F',o9,Kv,ex,AE,N9,rfl,rfl⟩:=hj;cases eO with
       | cons d eO=>cases ex
       | nil=>
        rw[aaY]at AE;subst AE;refine⟨F',_,_,⟨N9.len,N9.nn,λy=>?_⟩,rfl,rfl⟩;rw[N9.dot,Vg,Ku,if_pos rfl];grind
     ·have z:kd≠"chance":=aa1 z;have Ku:∀y,mN γ c y k=y (ds.getD (c k) d0).1.toNat:=λy=>by rw[Ku,aau z]
      have⟨cl,ck,cn⟩:=hc k kd ds hi;have gd:ds.getD (c k) d0=ds[c k]:=by rw[aab,aaa cl];rfl
      rw[gd]at Ku;have hd:=aal cl;have ad:iH (ds.map dD) ((c k:Nat):Int)=some (dD ds[c k]):=Υ (by rw[aak,aaa cl];rfl);generalize ds[c k]=d at *
      have⟨t0,t1⟩:=iF fr.DL rm hd;have⟨g1,g2,g3,g4⟩:=hF.add (j:=d.1.toNat) (D':=λy=>(B:Rat) * aD (th.take (k+1)) 0 (mN γ c y)) () vB (λy=>by rw[Vg,Ku,Rat.intCast_mul];grind);walk_at "vc";refine⟨@_,?_⟩;refine zx ?_;refine(aF (d:=.lst (ds.map dD)) (xs:=ds.map dD) rfl ?_:gH [.lst (ds.map dD)] _ _);rw[aae];refine⟨(),?_⟩;refine⟨λρ M'=>M'=M++[.lst (F.map Dt.int)]/\ρ=[some (.lst (γ.map Ι)),some (.lst (th.map Dt.int)),some (.loc kp),some (.str kind),some (.int (nk n k)),some (.int B),some (.loc M.length),some (.int (k:Int)),some (Ι (.τ kd ds)),some (.int ((c k:Nat):Int)),Kv],?_,?_⟩
      ·refine⟨λy=>?_,λy=>?_⟩
       ·have y:kd=kind:=aav y;have dg:eE (kP pl) (vP pl) (Sum.inl (k:Int))=some (.int ((c k:Nat):Int)):=by rw[y8,ck y];rfl
        exact⟨kp,_,_,Sum.inl (k:Int),_,rfl,bK Rn,rfl,dg,rfl,rfl⟩
       ·have y:kd≠kind:=aa1 y;exact⟨rfl,by rw[cn y]⟩
      ·rintro ρ3 M3 ⟨rfl,rfl⟩;walk_at "vc";dsimp only[A5];walk_at "vc";refine zx ?_;refine(Β (d:=.lst (ds.map dD)) rfl ad ?_:cR (.lst (ds.map dD)) (.int ((c k:Nat):Int)) _ _);refine pM ?_;refine⟨M.length,d.1.toNat,_,_,rfl,by rw[ab0 t0],aN,g1,?_⟩;refine(Β (d:=.lst (th.map Dt.int)) rfl a2 ?_:cR (.lst (th.map Dt.int)) (.int (k:Int)) _ _);refine⟨⟨vb,Bb⟩,_,_,rfl,aN,g2,?_⟩;exact⟨_,_,_,g4,by rw[dM,g3],rfl⟩
   ·rintro ρ3 M3 ⟨F',o9',aeV,N9,rfl,rfl⟩;walk_at "vc";exact⟨⟨@_,bg (k:=8) @_⟩,fH _ _ ⟨m',k+1,F',_,_,_,_,by simp,(),N9,rfl,rfl⟩⟩
  ·have⟨m,k,F,o7,o8,o9,Kv,ex,hkm,hF,rfl,rfl⟩:=hj;have hm:m=0:=by have:=aaM List.length ex;rw[c9]at this;exact this.symm
   have tY:k=γ.length:=()
   subst tY;refine h F ⟨hF.len,hF.nn,c,λi kd ds hi hn=>⟨(hc i kd ds hi).1,(hc i kd ds hi).2.1⟩,λy=>?_⟩;rw[hF.dot,<-tl,List.take_length]
def Em{xs:List Int}(h:i < xs.length):((xs.getD i 0:Int):Rat)=aD xs 0 (λj=>if j=i then 1 else 0):=by
 have e:=kN (xs:=xs) rfl (gs:=[i]) (List.pairwise_singleton _ _) (λg hg=>by rw[aaV.mp hg];exact h);have e1:(([i].map λg=>xs.getD g 0).sum:Int)=xs.getD i 0:=by show xs.getD i 0+0=_;omega
 rw[e1]at e;rw[e];exact fY λj _=>by simp only[List.mem_singleton]
def rG(st:Nat):Nat->Nat->List Int
 | _,0=>[]
 | k,n+1=>(if k=st then 1 else 0)::rG st (k+1) n
def C5{st:Nat}:∀{n k:Nat},(rG st k n).length=n
 | 0,_=>rfl
 | n+1,k=>aaM Nat.succ (C5 (n:=n) (k:=k+1))
def GW{st:Nat}:∀{n k:Nat},∀x∈rG st k n,0<=x/\x<=1
 | n+1,k,x,h=>by
  rcases aaD.mp h with z| z
  ·rw[z];split <;> omega
  ·exact GW x z
def Dg{st:Nat}:∀{n k i:Nat},i < n->(rG st k n).getD i 0=if k+i=st then 1 else 0
 | n+1,k,0,_=>rfl
 | n+1,k,i+1,h=>by show(rG st (k+1) n).getD i 0=_;rw[Dg (),show k+1+i=k+(i+1) by omega]
def D0{st:Nat}{y:Nat->Rat}:∀{n k:Nat},aD (rG st k n) k y=if k<=st/\st < k+n then y st else 0
 | 0,k=>by rw[aau ()];rfl
 | n+1,k=>by
  show(((if k=st then 1 else 0:Int)):Rat) * y k+aD (rG st (k+1) n) (k+1) y=_;rw[D0];by_cases c:k=st
  ·subst c;rw[aaq rfl,aau (),aaq ()];show((1:Int):Rat) * _+_=_;grind
  ·rw[aau c];by_cases d:k+1<=st/\st < k+1+n
   ·rw[aaq d,aaq ()];show((0:Int):Rat) * _+_=_;grind
   ·rw[aau d,aau ()];show((0:Int):Rat) * _+_=_;grind
section
variable{S2:Sp}{a:Pl}{k:Str}{c:Nat->Nat}
def cq.led(fr:FR ε γ)(t:cq γ gs S S2 p a tb)(hi:γ[i]? =some (.τ k ds))(hh:Ο k=true):(∀d∈ds,fi k * V_ tb d.1.toNat<=fi k * V_ tb i)/\∃(j:Nat) (jl:j < ds.length),Λ (if k="one" then p else a) i=some (j:Int)/\V_ tb ds[j].1.toNat=V_ tb i:=by
 have rm:=aai hi;have EH:=b9 fr.pl rm;have tn:∀d∈ds,d.1.toNat < γ.length:=λd hd=>by have:=EH.to d hd;omega
 have dl:=j4 fr.DL rm;have⟨j,jl,gj,al,_⟩:=t.hand fr hi hh
 have⟨bm,bb⟩:=qt (k:=k) (ns:=aG tb ds) (λz=>by
  have:=aaM List.length z;unfold aG at this;rw[aae]at this;have l1:=dl.1;rw[this]at l1
  exact aay l1 @_) λn NX=>by have⟨d,FX,rfl⟩:=aan.mp NX;exact(t.kp.ch.tab.red _ (tn d FX)).pos
 rw[<-t.best fr hi hh]at bm bb;have up:∀d∈ds,fi k * V_ tb d.1.toNat<=fi k * V_ tb i:=λd hd=>bb _ (aan.mpr ⟨d,hd,rfl⟩);refine⟨up,j,jl,gj,?_⟩;have⟨d,hd,ed⟩:=aan.mp bm;have ed:V_ tb d.1.toNat=V_ tb i:=aaM val ed;have h1:=al d hd;have h2:=up _ (aal jl);rw[ed]at h1;rcases gE fr hi with rfl| rfl| rfl
 ·rw[l9]at h1 h2;grind
 ·rw[oo]at h1 h2;grind
 ·exact aay hh @_
def sF{e:Fr}(hi:γ[i]? =some (.fin e)):mN γ c y i=y i:=by unfold mN;rw[br hi]
def sE(hi:γ[i]? =some (.τ "chance" ds)):mN γ c y i=aj (λd=>cV d * y d.1.toNat) ds:=by unfold mN;rw[br hi];exact aaq rfl
def sM(hi:γ[i]? =some (.τ k ds))(hk:k≠"chance")(hc:c i < ds.length):mN γ c y i=y ds[c i].1.toNat:=by unfold mN;rw[br hi];show(if k="chance" then _ else y (ds.getD (c i) d0).1.toNat)=_;rw[aau hk,aab,aaa hc];rfl
def CK(γ:List Rw)(pl:Pl)(kind:Str)(c:Nat->Nat):Prop:=∀(i:Nat) (k:Str) (ds:List aO),γ[i]? =some (.τ k ds)->k≠"chance"->c i < ds.length/\(k=kind->Λ pl i=some ((c i:Nat):Int))
def Cy(fr:FR ε γ)(hi:γ[i]? =some (.τ "chance" ds)):wk (ds.map ν):=by
 rcases(b9 fr.pl (aai hi)).kd with y| ⟨_,_,y⟩
 ·exact aay y @_
 ·exact y
def OX(fr:FR ε γ){pl:Pl}(hc:CK γ pl kind c)(il:i < γ.length):mN γ c (λ_=>1) i=1:=by
 have hi:=rw_at il;cases hr:bV γ i with
 | fin e=>rw[hr]at hi;rw[sF hi]
 | τ k ds=>
  rw[hr]at hi;by_cases hk:k="chance"
  ·subst hk;rw[sE hi,show(λd:aO=>cV d * 1)=cV from funext λd=>Rat.mul_one _];exact(mY (Cy fr hi)).1
  ·rw[sM hi hk (hc i k ds hi hk).1]
def CU{f:aO->Rat}:∀{l:List aO},(∀d∈l,0<=f d)->0<=aj f l
 | [],_=>abF
 | b::l,h=>by have h1:=CU (l:=l) λx hx=>h x (aac _ hx);have h2:=h b aad;show 0<=f b+aj f l;grind
def SF(fr:FR ε γ){pl:Pl}(hc:CK γ pl kind c)(il:i < γ.length)(hy:∀j,0<=y j):0<=mN γ c y i:=by
 have hi:=rw_at il;cases hr:bV γ i with
 | fin e=>rw[hr]at hi;rw[sF hi];exact hy _
 | τ k ds=>
  rw[hr]at hi;by_cases hk:k="chance"
  ·subst hk;rw[sE hi];exact CU λd hd=>Rat.mul_nonneg ((mY (Cy fr hi)).2 d hd) (hy _)
  ·rw[sM hi hk (hc i k ds hi hk).1];exact hy _
def DG(fr:FR ε γ)(hi:γ[i]? =some (.τ k ds))(hk:k≠"chance"):Ο k=true:=by
 rcases gE fr hi with rfl| rfl| rfl
 ·exact ak
 ·exact au
 ·exact aay rfl hk
def Sh(fr:FR ε γ)(t:cq γ gs S S2 p a tb)(hc:CK γ p "one" c)(il:i < γ.length):V_ tb i<=mN γ c (V_ tb) i:=by
 have hi:=rw_at il;cases hr:bV γ i with
 | fin e=>rw[hr]at hi;rw[sF hi];exact abF
 | τ k ds=>
  rw[hr]at hi;by_cases hk:k="chance"
  ·subst hk;rw[sE hi,t.Ck fr hi];exact abF
  ·have⟨cl,ck⟩:=hc i k ds hi hk;rw[sM hi hk cl];have⟨up,j,jl,gj,ej⟩:=t.led fr hi (DG fr hi hk);rcases gE fr hi with rfl| rfl| rfl
   ·rw[aaq rfl,ck rfl]at gj;have e:c i=j:=by have:=aao gj;omega
    subst e;rw[ej];exact abF
   ·have:=up _ (aal cl);rw[oo]at this;grind
   ·exact aay rfl hk
def Sw(fr:FR ε γ)(t:cq γ gs S S2 p a tb)(hc:CK γ a "other" c)(il:i < γ.length):mN γ c (V_ tb) i<=V_ tb i:=by
 have hi:=rw_at il;cases hr:bV γ i with
 | fin e=>rw[hr]at hi;rw[sF hi];exact abF
 | τ k ds=>
  rw[hr]at hi;by_cases hk:k="chance"
  ·subst hk;rw[sE hi,t.Ck fr hi];exact abF
  ·have⟨cl,ck⟩:=hc i k ds hi hk;rw[sM hi hk cl];have⟨up,j,jl,gj,ej⟩:=t.led fr hi (DG fr hi hk);rcases gE fr hi with rfl| rfl| rfl
   ·have:=up _ (aal cl);rw[l9]at this;grind
   ·rw[aau @_,ck rfl]at gj;have e:c i=j:=by have:=aao gj;omega
    subst e;rw[ej];exact abF
   ·exact aay rfl hk
def LV(fr:FR ε γ)(t:cq γ gs S S2 p a tb)(hc:CK γ p "one" c){u:Nat}(e:at_ S2 i=some u):∃i' u',at_ S2 i'=some u'/\u'<=u - 1/\0 < mN γ c (λj=>if j=i' then 1 else 0) i:=by
 have il:=t.Le e;have hi:=rw_at il;cases hr:bV γ i with
 | fin q=>
  rw[hr]at hi;have h2:=t.J7 fr hi;rw[e]at h2;refine⟨i,u,e,?_,by rw[sF hi,if_pos rfl];grind⟩;split at h2
  ·cases h2;omega
  ·cases h2
 | τ k ds=>
  rw[hr]at hi;have⟨es,sQ,iE,Nk,wt⟩:=t.H_ fr hi;cases u with
  | zero=>
   exfalso;unfold h7 at iE;rw[e]at iE;split at iE
   ·rcases iE with ⟨z,_⟩| ⟨v,z,_⟩ <;> cases z
   ·rcases iE with ⟨z,_⟩| ⟨v,z,_⟩ <;> cases z
  | succ u=>
   have⟨n1,d1,K6,Py⟩:=kH t.d2 sQ e;by_cases hk:k="chance"
   ·subst hk;rw[Nk @_]at K6;refine⟨d1.1.toNat,u,Py,(),?_⟩;rw[sE hi];have co:=Cy fr hi;refine yz (λd hd=>Rat.mul_nonneg ((mY co).2 d hd) (by split <;> grind)) K6 ?_;rw[aaq rfl,Rat.mul_one];exact wK co d1 K6
   ·have⟨cl,ck⟩:=hc i k ds hi hk;have hm:=aal cl;have key:∀u',at_ S2 ds[c i].1.toNat=some u'->u'<=u->∃i' u',at_ S2 i'=some u'/\u'<=u+1 - 1/\0 < mN γ c (λj=>if j=i' then 1 else 0) i:=λu' eu lu=>⟨ds[c i].1.toNat,u',eu,(),by rw[sM hi hk cl,if_pos rfl];grind⟩;rcases gE fr hi with rfl| rfl| rfl
    ·have⟨j,jl,gj,ee⟩:=wt rfl;rw[ck rfl]at gj;have ej:c i=j:=by have:=aao gj;omega
     subst ej;rw[ee]at K6;rw[aaV.mp K6]at Py;exact key u Py (aaj _)
    ·rw[Nk @_]at n1;have⟨u',eu,lu⟩:=n1 rfl _ hm;exact key u' eu lu
    ·exact aay rfl hk
structure Run(γ:List Rw)(S2:Sp)(tb:List Fr)(kind:Str)(B:Int)(st T:Nat)(th:List Int):Prop where
 len:th.length=γ.length
 nn:∀x∈th,0<=x
 one:aD th 0 (λ_=>1)=((B ^ T:Int):Rat)
 up:kind="one"->((B ^ T:Int):Rat) * V_ tb st<=aD th 0 (V_ tb)
 dn:kind≠"one"->aD th 0 (V_ tb)<=((B ^ T:Int):Rat) * V_ tb st
 live:kind="one"->∀s,at_ S2 st=some s->∃i u,at_ S2 i=some u/\u<=s - T/\0 < th.getD i 0
def Run.start{st:Nat}(hs:st < γ.length):Run γ S2 tb kind B st 0 (rG st 0 γ.length):=by
 have e:∀y:Nat->Rat,aD (rG st 0 γ.length) 0 y=y st:=λy=>by rw[D0,aaq ()]
 have p0:((B ^ 0:Int):Rat)=1:=by rw[acA];rfl
 refine⟨C5,λx hx=>(GW x hx).1,by rw[e,p0],λ_=>by rw[e,p0,acw];exact abF,λ_=>by rw[e,p0,acw];exact abF,λ_ s es=>⟨st,s,es,aaj _,?_⟩⟩;rw[Dg hs,aa7,aaq rfl];decide
def Run.le{st:Nat}(r:Run γ S2 tb kind B st T th):∀x∈th,0<=x/\x<=B ^ T:=λx hx=>by have⟨i,il,rfl⟩:=aba hx;have:=B4 (xs:=th) (k:=0) (j:=i) (y:=λ_=>1) r.nn (λ_ _=>by grind) (List.getElem?_eq_getElem il);rw[r.one,Rat.mul_one]at this;exact⟨r.nn _ hx,abc.mp this⟩
def Run.next(fr:FR ε γ)(t:cq γ gs S S2 p a tb){pl:Pl}(hk:kind="one"/\pl=p\/kind="other"/\pl=a)(hB:0 < B){st:Nat}{fs:List Int}(r:Run γ S2 tb kind B st T th)(h:Ht γ pl kind B th fs):Run γ S2 tb kind B st (T+1) fs:=by
 have⟨c,hc,hd⟩:=h.ex;have hc:CK γ pl kind c:=hc;have ep:((B ^ (T+1):Int):Rat)=(B:Rat) * ((B ^ T:Int):Rat):=by rw[Int.pow_succ,Rat.intCast_mul];grind
 have Bq:(0:Rat) < (B:Rat):=aaP.mpr hB;have B0:=Rat.le_of_lt Bq;have KP:∀j,j < th.length->j < γ.length:=λj hj=>by rw[<-r.len];exact hj
 refine⟨h.len,h.nn,?_,λk1=>?_,λk1=>?_,λk1 s es=>?_⟩
 ·rw[hd,ep,<-r.one]
  congr 1
  exact fY λj hj=>by rw[aa7];exact OX fr hc (KP j hj)
 ·rcases hk with ⟨e1,e2⟩| ⟨e1,_⟩
  ·subst e1 e2;rw[hd,ep,Rat.mul_assoc];refine abu ?_ B0;have:=r.up rfl;have m:=iJ (y:=V_ tb) (z:=mN γ c (V_ tb)) (k:=0) r.nn λj hj=>by rw[aa7];exact Sh fr t hc (KP j hj)
   grind
  ·rw[k1]at e1;exact aay e1 @_
 ·rcases hk with ⟨e1,_⟩| ⟨e1,e2⟩
  ·exact aay e1 k1
  ·subst e1 e2;rw[hd,ep,Rat.mul_assoc];refine abu ?_ B0;have:=r.dn k1;have m:=iJ (y:=mN γ c (V_ tb)) (z:=V_ tb) (k:=0) r.nn λj hj=>by rw[aa7];exact Sw fr t hc (KP j hj)
   grind
 ·rcases hk with ⟨e1,e2⟩| ⟨e1,_⟩
  ·subst e1 e2;have⟨i,u,eu,lu,pu⟩:=r.live rfl s es;have⟨i',u',ZM,lu',pu'⟩:=LV fr t hc eu;have il:=t.Le eu;have il':=t.Le ZM;refine⟨i',u',ZM,(),?_⟩;have nn:∀j,0<=(λj=>if j=i' then (1:Rat) else 0) j:=λj=>by dsimp only;split <;> grind
   have a1:=B4 (xs:=th) (k:=0) (j:=i) (v:=th.getD i 0) (y:=mN γ c (λj=>if j=i' then 1 else 0)) r.nn (λj hj=>by rw[aa7];exact SF fr hc (KP j hj) nn) (by rw[aab,aaa (show i < th.length by rw[r.len];exact il)];rfl);rw[aa7]at a1;have a2:=hd (λj=>if j=i' then 1 else 0);rw[<-Em (by rw[h.len];exact il')]at a2;have a3:(0:Rat) < ((th.getD i 0:Int):Rat):=aaP.mpr pu;have a4:=Rat.mul_pos a3 pu';have a5:(0:Rat) < aD th 0 (mN γ c (λj=>if j=i' then 1 else 0)):=by grind
   have a6:=Rat.mul_pos Bq a5;rw[<-a2]at a6;exact aaP.mp a6
  ·rw[k1]at e1;exact aay e1 @_
def nV(t:cq γ gs S S2 p a tb)(go:bZ γ gs){g:Nat}(hg:g∈gs):g < γ.length/\V_ tb g=1:=by have⟨q,hq⟩:=go.fin g hg;refine⟨(aaf.mp hq).1,?_⟩;unfold V_;rw[t.fin hq,aaq hg];exact k_
def g6(γ:List Rw)(S2:Sp):List Nat:=(List.range γ.length).filter λi=>decide (bP γ i≠"end")&&(at_ S2 i).isSome
def Run.RL(fr:FR ε γ)(t:cq γ gs S S2 p a tb)(go:bZ γ gs){st:Nat}(r:Run γ S2 tb "one" B st T th):((B ^ T:Int):Rat) * V_ tb st<=(((gs.map λg=>th.getD g 0).sum+((g6 γ S2).map λg=>th.getD g 0).sum:Int):Rat):=by
 have ndf:(g6 γ S2).Nodup:=aci.filter _;have fl:∀g∈g6 γ S2,g < γ.length:=λg hg=>aa5.mp (acp.mp hg).1;have TR:gs.Nodup:=go.up.imp λh=>aaK h;rw[acu,kN r.len TR (λg hg=>(nV t go hg).1),kN r.len ndf fl,<-wa];have u:=r.up rfl;have m:=iJ (y:=V_ tb) (z:=λi=>(if i∈gs then 1 else 0)+(if i∈g6 γ S2 then 1 else 0)) (k:=0) r.nn λj hj=>by
  rw[aa7];rw[r.len]at hj;have un:=t.unit fr j hj;have hi:=rw_at hj;have Zz:∀P:Prop,[Decidable P]->(0:Rat)<=if P then 1 else 0:=λP _=>by split <;> grind
  have q1:=Zz (j∈gs);have q2:=Zz (j∈g6 γ S2);cases hr:bV γ j with
  | fin e=>
   rw[hr]at hi;have e1:V_ tb j=val (if j∈gs then (1,1) else (0,1)):=aaM val (t.fin hi);by_cases c:j∈gs
   ·rw[aaq c]at e1 q1⊢;rw[e1,k_];grind
   ·rw[aau c]at e1;rw[e1,lB];grind
  | τ k ds=>
   rw[hr]at hi;by_cases c:at_ S2 j=none
   ·have v0:¬0 < V_ tb j:=λz=>t.NK fr hj z c;grind
   ·have mf:j∈g6 γ S2:=acp.mpr ⟨aa5.mpr hj,by
     have ro:=(fr.DL.row _ (aai hi)).1.1;rw[gW hi,aaC]
     exact⟨aaE ro,by cases hz:at_ S2 j with| none=>exact aay hz c| some v=>rfl⟩⟩
    rw[aaq mf]at q2⊢;grind
 grind
def Run.yJ(fr:FR ε γ)(t:cq γ gs S S2 p a tb)(go:bZ γ gs)(hk:kind≠"one"){st:Nat}(r:Run γ S2 tb kind B st T th):(((gs.map λg=>th.getD g 0).sum:Int):Rat)<=((B ^ T:Int):Rat) * V_ tb st:=by
 have TR:gs.Nodup:=go.up.imp λh=>aaK h;rw[kN r.len TR (λg hg=>(nV t go hg).1)];have d:=r.dn hk;have m:=iJ (y:=λi=>if i∈gs then 1 else 0) (z:=V_ tb) (k:=0) r.nn λj hj=>by
  rw[aa7];rw[r.len]at hj;have un:=t.unit fr j hj;by_cases c:j∈gs
  ·rw[aaq c,(nV t go c).2];exact abF
  ·rw[aau c];exact un.1
 grind
def Run.last(fr:FR ε γ)(t:cq γ gs S S2 p a tb)(go:bZ γ gs){st:Nat}(r:Run γ S2 tb "one" B st T th)(hs:st < γ.length)(hT:γ.length<=T)(hv:0 < V_ tb st):0 < (gs.map λg=>th.getD g 0).sum:=by
 cases e:at_ S2 st with
 | none=>exact aay e (t.NK fr hs hv)
 | some s=>
  have sl:=GV t.d2 e;rw[e7]at sl;have⟨i,u,eu,lu,pu⟩:=r.live rfl s e;have u0:u=0:=()
  subst u0;have il:=t.Le eu;have hi:=rw_at il;have ig:i∈gs:=by
   cases hr:bV γ i with
   | fin q=>
    rw[hr]at hi;have h2:=t.J7 fr hi;rw[eu]at h2;split at h2
    ·assumption
    ·cases h2
   | τ k ds=>
    exfalso;rw[hr]at hi;have⟨es,sQ,iE,Nk,wt⟩:=t.H_ fr hi;unfold h7 at iE;rw[eu]at iE;split at iE
    ·rcases iE with ⟨z,_⟩| ⟨v,z,_⟩ <;> cases z
    ·rcases iE with ⟨z,_⟩| ⟨v,z,_⟩ <;> cases z
  have TR:gs.Nodup:=go.up.imp λh=>aaK h;have d:=kN r.len TR (λg hg=>(nV t go hg).1);have m:=iJ (y:=λj=>if j=i then 1 else 0) (z:=λj=>if j∈gs then (1:Rat) else 0) (k:=0) r.nn λj hj=>by
   by_cases c:0+j=i
   ·rw[aaq c,aaq (by rw[c];exact ig)];exact abF
   ·rw[if_neg c];split <;> grind
  rw[<-d,<-Em (by rw[r.len];exact il)]at m;have:=abc.mp m;omega
end
def Eh{st:Nat}:∀(n k:Nat),(cw (k:Int) n).map (λx=>match x with| .int j=>Dt.int (if decide (j=(st:Int)) then 1 else 0)| _=>.aY)=(rG st k n).map Dt.int
 | 0,_=>rfl
 | n+1,k=>by
  have e:cw (k:Int) (n+1)= .int (k:Int)::cw ((k+1:Nat):Int) n:=by
   unfold cw;rw[abC,aaU,aaN];refine congr (aaM List.cons (aaM Dt.int ())) (abi λj _=>?_);show Dt.int ((k:Int)+((j+1:Nat):Int))=Dt.int (((k+1:Nat):Int)+(j:Int))
   congr 1
   omega
  rw[e,aaU,Eh n (k+1)];show _=Dt.int (if k=st then 1 else 0)::_
  congr 2
  by_cases c:k=st
  ·show Dt.int (if decide ((k:Int)=(st:Int)) then 1 else 0)=_;rw[aaq c,aaE ()];rfl
  ·show Dt.int (if decide ((k:Int)=(st:Int)) then 1 else 0)=_;rw[aau c,aar ()];rfl
def pw_B{B:Int}(h0:0 < B)(h:B<=2 ^ 720):∀T:Nat,0 < B ^ T/\B ^ T<=2 ^ (720 * T)
 | 0=>⟨by rw[acA];decide,by rw[acA];decide⟩
 | T+1=>by have⟨a,b⟩:=pw_B h0 h T;have m:=fe (aag a) b (aag h0) h;rw[abG];exact⟨abv a h0,by rw[show 720 * (T+1)=720 * T+720 by omega];exact m.2⟩
def Ma{t b s:Int}{f:Fr}{x:Rat}(hf:0 < f.2)(hb:0 < b)(e:(t:Rat)=(b:Rat) * x):((t * f.2 - f.1 * s * b:Int):Rat)=((b * f.2:Int):Rat) * (x - (s:Rat) * val f):=by
 have z:=bq (show f.2≠0 by omega);unfold val;rw[Int.sub_eq_add_neg,acu,Rat.intCast_neg];simp only[Rat.intCast_mul];rw[e];generalize (f.1:Rat)=y1 at *
 generalize (f.2:Rat)=y2 at *
 generalize (b:Rat)=bb at *
 generalize (s:Rat)=ss at *
 clear e hf hb;grind
def vn{h s:Int}{f:Fr}(hf:0 < f.2):((h * f.2 - f.1 * s:Int):Rat)=(f.2:Rat) * ((h:Rat) - (s:Rat) * val f):=by
 have z:=bq (show f.2≠0 by omega);unfold val;rw[Int.sub_eq_add_neg,acu,Rat.intCast_neg];simp only[Rat.intCast_mul];generalize (f.1:Rat)=y1 at *
 generalize (f.2:Rat)=y2 at *
 generalize (h:Rat)=bb at *
 generalize (s:Rat)=ss at *
 clear hf;grind
section
variable{S2:Sp}{a:Pl}
def Run.ask(fr:FR ε γ)(t:cq γ gs S S2 p a tb)(go:bZ γ gs){st:Nat}(r:Run γ S2 tb kind B st T th){f:Fr}(hf:0 < f.2)(ef:V_ tb st=val f){x y:Int}(hy:0 < y)(e:(x:Rat)=(y:Rat) * aD th 0 (V_ tb)):(kind="one"->¬x * f.2 - f.1 * B ^ T * y < 0/\¬((gs.map λg=>th.getD g 0).sum+((g6 γ S2).map λg=>th.getD g 0).sum) * f.2 < f.1 * B ^ T)/\(kind≠"one"->¬0 < x * f.2 - f.1 * B ^ T * y/\¬f.1 * B ^ T < (gs.map λg=>th.getD g 0).sum * f.2):=by
 have gv:=Ma (s:=B ^ T) hf hy e;have yf:(0:Rat) < ((y * f.2:Int):Rat):=aaP.mpr (abv hy hf);have ff:(0:Rat) < (f.2:Rat):=aaP.mpr hf;have c0:((0:Int):Rat)=0:=rfl;refine⟨λk1=>⟨λz=>?_,λz=>?_⟩,λk1=>⟨λz=>?_,λz=>?_⟩⟩
 ·have u:=r.up k1;rw[ef]at u;have z:=aaP.mpr z;rw[gv,c0]at z;have:=Rat.mul_nonneg (Rat.le_of_lt yf) (show 0<=aD th 0 (V_ tb) - ((B ^ T:Int):Rat) * val f by grind);grind
 ·subst k1;have u:=r.RL fr t go;rw[ef]at u;have cv:=vn (h:=(gs.map λg=>th.getD g 0).sum+((g6 γ S2).map λg=>th.getD g 0).sum) (s:=B ^ T) hf;generalize (gs.map λg=>th.getD g 0).sum+((g6 γ S2).map λg=>th.getD g 0).sum=h at *
  have:=Rat.mul_nonneg (Rat.le_of_lt ff) (show 0<=(h:Rat) - ((B ^ T:Int):Rat) * val f by grind);rw[<-cv]at this;have:=abc.mp (show((0:Int):Rat)<=_ from this);omega
 ·have u:=r.dn k1;rw[ef]at u;have z:=aaP.mpr z;rw[gv,c0]at z;have:=Rat.mul_nonneg (Rat.le_of_lt yf) (show 0<=((B ^ T:Int):Rat) * val f - aD th 0 (V_ tb) by grind);grind
 ·have u:=r.yJ fr t go k1;rw[ef]at u;have cv:=vn (h:=(gs.map λg=>th.getD g 0).sum) (s:=B ^ T) hf;generalize (gs.map λg=>th.getD g 0).sum=h at *
  have:=Rat.mul_nonneg (Rat.le_of_lt ff) (show 0<=((B ^ T:Int):Rat) * val f - (h:Rat) by grind);have e2:(f.2:Rat) * (((B ^ T:Int):Rat) * val f - (h:Rat))= -((f.2:Rat) * ((h:Rat) - ((B ^ T:Int):Rat) * val f)):=by grind
  rw[e2,<-cv]at this;have:((h * f.2 - f.1 * B ^ T:Int):Rat)<=((0:Int):Rat):=by rw[c0];grind
  have:=abc.mp this;omega
end
def DM:DF:=λas M q _=>∃(ns:List Int) (ε:Fr) (γ:List Rw) (gs:List Nat) (S S2:Sp) (p a:Pl) (tb:List Fr) (kt kp ks:Nat) (kind:Str) (pl:Pl),as=[.hW ns,.lst (γ.map Ι),.lst (gs.map bH),.loc kt,.loc kp,.loc ks,.str kind]/\FR ε γ/\γ.length<=6/\bZ γ gs/\gs.length<=12/\cq γ gs S S2 p a tb/\(kind="one"/\pl=p\/kind="other"/\pl=a)/\M[kp]? =some (dP pl)/\M[kt]? =some (.lst (tb.map av))/\M[ks]? =some (.lst (S2.map eU))/\q (.bl true) M
def aC:Γ ["_law_script","_law_rows_here","_law_goals_here","_law_table","_law_plan","_law_steps","_law_kind","_law_bottom_here","_law_start","_law_there","_law_scale","_law_first","_law_home","_law_turn_here","_law_top","_law_below","_law_gap","_law_free","_law_still"] ["_law_script","_law_rows_here","_law_goals_here","_law_table","_law_plan","_law_steps","_law_kind"] (χ rN):=.of rfl
def CL(F:dE K "_law_held" "_law_held" rN f fd)(E:Ev K mg Cm){BH:Addr}{BE:FuncData}(jA:aE P w K mg base 2 "_law_bottom" ["_law_rows_here"] TV BH BE)(Ψ:aE P w K mg base 2 "_law_number" ["_law_script","_law_k"] Af cC cE){HU:Addr}{Kf:FuncData}(nU:aE P w K mg base 1 "_law_turn" ["_law_rows_here","_law_there","_law_plan","_law_kind","_law_number_here","_law_bottom_here"] ND HU Kf){JJ:Addr}{J6:FuncData}(oC:aE P w K mg base 1 "_law_mean" ["_law_there","_law_table"] M6 JJ J6):aw P w K mg base (cP P w) 3 f fd ["_law_script","_law_rows_here","_law_goals_here","_law_table","_law_plan","_law_steps","_law_kind"] (dw K DM):=by
 refine F.eF aC (λds M q x h=>?_) (λbz A outer s H E' hr=>⟨_,(ζ (ψ 7 aC.nd (ao jA hr ξ (Ν (jv 1) η)))
   (ζ (ψ 8 aC.nd (cQ (ao Ψ hr ξ (Ν (jv 0) (ι ο η bX))) (cZ E.bW (Ν (jv 1) η))))
   (ζ (ψ 9 aC.nd (Jm (ys:=["_law_start"]) (Θ:=[8]) (.of aC rfl rfl rfl) (bO E.bI (ι (cZ E.bW (Ν (jv 1) η)) η bC)) (λC s H fp=>(SA E.Dd (ι (LO hr (jv 0) (jv 1)) η NM)))))
   (ζ (ψ 10 aC.nd ο)
   (ζ (ψ 11 aC.nd (Ε (jv 3) (jv 8)))
   (ζ (ψ 12 aC.nd ο)
   (ζ (kg (bO E.bI (ι (cJ (cZ E.bW (Ν (jv 1) η)) ο) η cz)) (ae (i:=13) aC.nd rfl (Or.inl rfl)) aA (ζ (ψ 9 aC.nd (cK (ao nU hr ξ (Ν (jv 1) (Ν (jv 9) (Ν (jv 4) (Ν (jv 6) (ι (ao Ψ hr ξ (Ν (jv 0) (ι (cJ ο (jv 13)) η cz))) (Ν (jv 7) η) bC))))))))
   (ζ (ψ 10 aC.nd (aP (jv 10) (jv 7)))
   (ζ (Lr (ao oC hr ξ (Ν (jv 9) (Ν (jv 3) η))) (lV rfl (bf (ae (i:=14) aC.nd rfl (Or.inl rfl)) (bf (ae (i:=15) aC.nd rfl (Or.inl rfl)) i7))))
   (ζ (ψ 16 aC.nd (sN (aP (jv 14) (Ε (jv 11) ο)) (aP (aP (Ε (jv 11) ο) (jv 10)) (jv 15))))
   (ζ (ψ 12 aC.nd (DZ E.rP (ι (gZ (ys:=["_law_there"]) (Θ:=[9]) (.of aC rfl rfl rfl) (aR (jv 2)) (λC s H fp=>(Ε (jv 1) (jv 0)))) η)))
   (ζ (xa (i:=17) aC.nd rfl (Or.inl rfl) (ys:=["_law_steps","_law_rows_here"]) (Θ:=[5,1]) (.of aC rfl rfl rfl) (uZ (bO E.bI (ι (cZ E.bW (Ν (jv 1) η)) η bC))) (λC s H fp=>(JW.jt (yg (rV hr (Ε (Ε (jv 2) (jv 0)) ο) eY) (qp (xo (Ε (jv 1) (jv 0)) yi))))) (λC s H fp=>(jv 0)))
   (ζ (ψ 18 aC.nd (cJ (jv 12) (DZ E.rP (ι (gZ (ys:=["_law_there"]) (Θ:=[9]) (.of aC rfl rfl rfl) (aR (jv 17)) (λC s H fp=>(Ε (jv 1) (jv 0)))) η))))
   (θ (aH (dz hr (jv 6) eY) (θ (aH (JW.jt (tj (pL (jv 16) ο) (oJ (pL (aP (jv 18) (Ε (jv 11) ο)) (aP (Ε (jv 11) ο) (jv 10)))))) (θ (Δ L6)) Μ)) (θ (aH (JW.jt (tj (pw (jv 16) ο) (oJ (pw (aP (jv 12) (Ε (jv 11) ο)) (aP (Ε (jv 11) ο) (jv 10)))))) (θ (Δ L6)) Μ))))))))))))
   (θ (Δ (Kq (LO hr (jv 6) eY) (Kq (LO hr (Ε (jv 11) ο) ο) (jZ (V5 (jv 12) ο))))))))))))),λds M q x h=>?_⟩)
 ·have⟨ns,ε,γ,gs,S,S2,p,a,tb,kt,kp,ks,kind,pl,rfl,_⟩:=h;rfl
 ·have⟨ns,ε,γ,gs,S,S2,p,a,tb,kt,kp,ks,kind,pl,rfl,fr,l6,go,U3,t,hk,Rn,zY,UM,h⟩:=h;have sl:∀{z:Nat},z<=1000->z<=sizeLine:=λh=>aaw h @_;have r1:=fr.n1;have tk:=t.tk fr;have fE:∀(i:Nat) (ds:List aO),γ[i]? =some (.τ kind ds)->∃j:Nat,Λ pl i=some (j:Int)/\j < ds.length:=λi ds hi=>by
   rcases hk with ⟨rfl,rfl⟩| ⟨rfl,rfl⟩
   ·exact(aU (i:=i) fr ak t.fp).1 ds hi
   ·exact(aU (i:=i) fr au t.kp.fa).1 ds hi
  refine⟨ε,γ,rfl,fr,l6,λB bo=>?_⟩;refine⟨ns,46,rfl,@_,@_,λUX _=>?_⟩
  try walk_at "vc"
  refine(aF (d:=.lst (γ.map Ι)) (xs:=γ.map Ι) rfl ?_:gH [.lst (γ.map Ι)] _ _);rw[aae];have m0:=abj UX (show(γ.length:Int)≠0 by omega);have m1:=abg UX (show(0:Int) < (γ.length:Int) by omega);refine⟨(),?_⟩;obtain⟨st,KZ,QB⟩:∃st:Nat,UX % (γ.length:Int)=(st:Int)/\st < γ.length:=⟨(UX % (γ.length:Int)).toNat,(),()⟩;rw[KZ];dsimp only[vw,AV]
  try walk_at "vc"
  refine(aF (d:=.lst (γ.map Ι)) (xs:=γ.map Ι) rfl ?_:gH [.lst (γ.map Ι)] _ _);rw[aae];refine⟨⟨(),()⟩,by rw[c9];exact sl (),?_⟩;refine nO (f:=λx=>match x with| .int j=>Dt.int (if decide (j=(st:Int)) then 1 else 0)| _=>.aY) _ _ (λx PK q' hq=>?_) ?_
  ·have⟨j,hj,rfl⟩:=gy PK;exact hq
  rw[aaH,show((γ.length:Int)).toNat=γ.length by omega];have e0:=Eh (st:=st) γ.length 0;rw[show((0:Nat):Int)=0 from rfl]at e0;rw[e0];have r0:=Run.start (γ:=γ) (S2:=S2) (tb:=tb) (kind:=kind) (B:=B) QB;generalize rG st 0 γ.length=th0 at *
  have a3:iH (tb.map av) (st:Int)=some (av (tb.getD st (0,1))):=by have:=tk.at (t:=(st:Int)) () ();rwa[aaW]at this
  have rd:=tk.red st QB;have ut:=tk.YL st QB;have sz:=tk.sz st QB;have ev:V_ tb st=val (tb.getD st (0,1)):=rfl;generalize tb.getD st (0,1)=f at *
  have f2:f.2<=2 ^ 400:=by
   have:=sz.2.2;have fp:=rd.pos;have:(f.2.natAbs:Int) < ((2 ^ 400:Nat):Int):=abL.mpr this;rw[ab6]at this;have e:((2:Nat):Int) ^ 400=2 ^ 400:=rfl;rw[e]at this;generalize (2:Int) ^ 400=z at *
   omega
  have f1:f.1<=2 ^ 400:=aaL ut.2 f2;refine(Β (d:=.loc kt) (rE zY) a3 ?_:cR (.loc kt) (.int (st:Int)) _ _);refine(aF (d:=.lst (γ.map Ι)) (xs:=γ.map Ι) rfl ?_:gH [.lst (γ.map Ι)] _ _);rw[aae];dsimp only[zz];refine⟨(),?_⟩;rw[show((γ.length:Int)+1).toNat=γ.length+1 by omega];refine eL (λzs ρ M2=>∃(m T:Nat) (th:List Int) (yJ:Int) (VO X1 V4 VQ Xn Sm:Option Dt),zs=cw T m/\T+m=γ.length+1/\Run γ S2 tb kind B st T th/\(T≠0->yJ=(gs.map λg=>th.getD g 0).sum)/\M2=M/\ρ=[some (.hW ns),some (.lst (γ.map Ι)),some (.lst (gs.map bH)),some (.loc kt),some (.loc kp),some (.loc ks),some (.str kind),some (.int B),some (.int (st:Int)),some (.lst (th.map Dt.int)),some (.int (B ^ T)),some (av f),some (.int yJ),VO,X1,V4,VQ,Xn,Sm]) (λx zs ρ M2 hj fH=>?_) (λρ M2 hj=>?_) _ _ _ ⟨γ.length+1,0,th0,0,none,none,none,none,none,none,by simp,by simp,r0,λz=>absurd rfl z,rfl,by rw[Int.pow_zero];rfl⟩
  ·have⟨m,T,th,yJ,VO,X1,V4,VQ,Xn,Sm,ex,hTm,r,_,rfl,rfl⟩:=hj;have⟨m',rfl,rfl,rfl⟩:=d8 ex;have pB:=pw_B bo.pos bo.le;have pT:∀T,T<=7->B ^ T<=2 ^ 5040:=λT hT=>aaL (pB T).2 (rH ())
   try walk_at "vc"
   refine⟨ns,47+(T:Int),rfl,(),(),λnT _=>?_⟩;refine⟨ε,γ,th,kp,pl,kind,nT,B,rfl,fr,Rn,fE,bo,r.len,l6,λx hx=>⟨(r.le x hx).1,aaL (r.le x hx).2 (pT T ())⟩,λfs WK=>dF (kI fs) ?_⟩;have r':=r.next fr t hk bo.pos WK;have hx:∀x∈fs,0<=x/\x<=2 ^ 5040:=λx hx=>⟨(r'.le x hx).1,aaL (r'.le x hx).2 (pT (T+1) ())⟩
   try walk_at "vc"
   refine⟨⟨bT (aag (pB T).1) (pT T ()) @_,bT (aag bo.pos) bo.le @_⟩,?_⟩;rw[<-abG];have sc:=pT (T+1) ();have Vf:=aag (pB (T+1)).1;refine⟨fs,.loc kt,tb,rfl,.inr ⟨kt,rfl,zY⟩,by rw[r'.len];exact tk,by rw[r'.len];exact l6,hx,λtop below b0 bl t0 tl et=>?_⟩;have ask:=r'.ask fr t go rd.pos ev b0 et;have fx:=fe ut.1 f1 Vf sc
   try walk_at "vc"
   refine(tF ?_:cR (av f) (.int 1) _ _);refine⟨⟨bT t0 tl @_,bT (aag rd.pos) f2 @_⟩,?_⟩;refine(qX ?_:cR (av f) (.int 0) _ _);refine⟨⟨bT ut.1 f1 @_,bT Vf sc @_⟩,⟨bT fx.1 fx.2 @_,bT (aag b0) bl @_⟩,?_⟩;have gx:∀g,g < γ.length->iH (fs.map Dt.int) (g:Int)=some (.int (fs.getD g 0)):=λg hg=>Υ (by rw[aak,aab,aaa (show g < fs.length by rw[r'.len];exact hg)];rfl);have em:∀l:List Nat,l.map (λg=>Dt.int (fs.getD g 0))=(l.map λg=>fs.getD g 0).map Dt.int:=λl=>by rw[aaN];rfl
   dsimp only[nQ]
   try walk_at "vc"
   refine aZ (i:=2) (d:=.lst (gs.map bH)) rfl rfl ⟨by rw[aae];exact sl (),?_⟩;refine cW (F:=λx g=>x=bH g/\g∈gs) (f:=λg=>Dt.int (fs.getD g 0)) trivial (λx g Vi q' ku=>?_) (gK bH gs gs λ_ h=>h) ?_
   ·have⟨rfl,hg⟩:=Vi;exact Β (d:=.lst (fs.map Dt.int)) rfl (gx g (nV t go hg).1) ku
   rw[aaH,em];refine⟨_,rfl,⟨_,_,rfl⟩,?_⟩;dsimp only[xr,W9]
   try walk_at "vc"
   refine(aF (d:=.lst (γ.map Ι)) (xs:=γ.map Ι) rfl ?_:gH [.lst (γ.map Ι)] _ _);rw[aae];refine⟨⟨(),()⟩,by rw[c9];exact sl (),?_⟩;refine dh trivial (λx=>match x with| .int j=>decide (bP γ j.toNat≠"end")&&(at_ S2 j.toNat).isSome| _=>false) (λx=>x) _ _ (λx hx q' p' h1 h2=>?_) ?_
   ·have⟨j,YV,rfl⟩:=gy hx;have jl:j < γ.length:=()
    have h1:(decide (bP γ (0+(j:Int)).toNat≠"end")&&(at_ S2 (0+(j:Int)).toNat).isSome)=true->q' (.int (0+(j:Int))) M2:=h1;have h2:(decide (bP γ (0+(j:Int)).toNat≠"end")&&(at_ S2 (0+(j:Int)).toNat).isSome)=false->p' M2:=h2;rw[show(0+(j:Int)).toNat=j by omega]at h1 h2;rw[show(0+(j:Int))=(j:Int) by omega]at h1⊢
    try walk_at "vc"
    have hi:=rw_at jl;have a1:iH (γ.map Ι) (j:Int)=some (Ι (bV γ j)):=Υ (m_ hi);have a2:iH (S2.map eU) (j:Int)=some (eU (at_ S2 j)):=by
     have hS:j < S2.length:=by have:=t.d2.1;rw[e7]at this;omega
     have e:at_ S2 j=S2[j]:=by unfold at_;rw[List.getD_eq_getElem?_getD,List.getElem?_eq_getElem hS];rfl
     rw[e];exact Υ (by rw[aak,aaa hS];rfl)
    refine(Β (d:=.lst (γ.map Ι)) rfl a1 ?_:cR (.lst (γ.map Ι)) (.int (j:Int)) _ _);cases hr:bV γ j with
    | fin e=>
     rw[hr]at hi;have ek:bP γ j="end":=by unfold bP;rw[hi];rfl
     rw[ek,aar (λz=>z rfl),Bool.false_and]at h2;exact⟨nofun,λ_=>h2 rfl⟩
    | τ k ds=>
     rw[hr]at hi;have ro:=(fr.DL.row _ (aai hi)).1.1;rw[gW hi,aaE ro,Bool.true_and]at h1 h2;refine⟨λ_=>?_,λz=>absurd (of_decide_eq_true (show decide (k="end")=true by simpa using z)) ro⟩;refine(Β (d:=.loc ks) (rE UM) a2 ?_:cR (.loc ks) (.int (j:Int)) _ _);cases e:at_ S2 j with
     | none=>rw[e]at h2;exact h2 rfl
     | some v=>rw[e]at h1;exact h1 rfl
   have e3:((cw 0 ((γ.length:Int)).toNat).filter (λx=>match x with| .int j=>decide (bP γ j.toNat≠"end")&&(at_ S2 j.toNat).isSome| _=>false))=(g6 γ S2).map bH:=by
    unfold cw g6;rw[List.filter_map,show((γ.length:Int)).toNat=γ.length by omega];have e4:((λx:Dt=>match x with| .int j=>decide (bP γ j.toNat≠"end")&&(at_ S2 j.toNat).isSome| _=>false) ∘ λk:Nat=>Dt.int (0+(k:Int)))=λj:Nat=>decide (bP γ j≠"end")&&(at_ S2 j).isSome:=by
     funext j
     show(decide (bP γ (0+(j:Int)).toNat≠"end")&&(at_ S2 (0+(j:Int)).toNat).isSome)=_;rw[show(0+(j:Int)).toNat=j by omega]
    rw[e4];exact List.map_congr_left λj _=>by unfold bH;rw[Int.zero_add]
   have fl:∀g∈g6 γ S2,g < γ.length:=λg hg=>aa5.mp (acp.mp hg).1;have fl6:(g6 γ S2).length<=6:=by have:=ab7 (λi=>decide (bP γ i≠"end")&&(at_ S2 i).isSome) (List.range γ.length);rw[aa8]at this;exact aaw this l6
   rw[aaH,List.map_id',e3];generalize g6 γ S2=Nh at *
   try dsimp only[nQ]
   try walk_at "vc"
   refine aZ (i:=17) (d:=.lst (Nh.map bH)) rfl rfl ⟨by rw[aae];exact sl (),?_⟩;refine cW (F:=λx g=>x=bH g/\g∈Nh) (f:=λg=>Dt.int (fs.getD g 0)) trivial (λx g Vi q' ku=>?_) (gK bH Nh Nh λ_ h=>h) ?_
   ·have⟨rfl,hg⟩:=Vi;exact Β (d:=.lst (fs.map Dt.int)) rfl (gx g (fl g hg)) ku
   rw[aaH,em];refine⟨_,rfl,⟨_,_,rfl⟩,?_⟩;dsimp only[zz];have YR:∀l:List Nat,l.length<=12->(∀g∈l,g < γ.length)->0<=(l.map λg=>fs.getD g 0).sum/\(l.map λg=>fs.getD g 0).sum<=(l.length:Int) * 2 ^ 5040:=λl=>by
    induction l with
    | nil=>intro _ _;exact⟨acv _,by show(0:Int)<=((0:Nat):Int) * _;rw[Int.natCast_zero,Int.zero_mul];exact acv _⟩
    | cons g l ih=>
     intro h1 h2;have h1:l.length+1<=12:=h1;have⟨i1,i2⟩:=ih () λx hx=>h2 x (aac _ hx);have gl:=h2 g aad;have hg:=hx (fs.getD g 0) (by rw[aab,aaa (show g < fs.length by rw[r'.len];exact gl)];exact aal _);show 0<=fs.getD g 0+(l.map λg=>fs.getD g 0).sum/\fs.getD g 0+(l.map λg=>fs.getD g 0).sum<=((l.length+1:Nat):Int) * 2 ^ 5040;rw[show((l.length+1:Nat):Int)=(l.length:Int)+1 by omega,Int.add_mul,Int.one_mul];generalize (2:Int) ^ 5040=z at *
     omega
   have sg:=YR gs U3 λg hg=>(nV t go hg).1;have sf:=YR Nh () fl;have nx:_:=λSm=>fH [some (.hW ns),some (.lst (γ.map Ι)),some (.lst (gs.map bH)),some (.loc kt),some (.loc kp),some (.loc ks),some (.str kind),some (.int B),some (.int (st:Int)),some (.lst (fs.map Dt.int)),some (.int (B ^ (T+1))),some (av f),some (.int (gs.map λg=>fs.getD g 0).sum),some (.int (T:Int)),some (.int top),some (.int below),some (.int (top * f.2 - f.1 * B ^ (T+1) * below)),some (.lst (Nh.map bH)),Sm] M2 ⟨m',T+1,fs,_,_,_,_,_,_,_,by simp,(),r',λ_=>rfl,rfl,rfl⟩;generalize hhg:(gs.map λg=>fs.getD g 0).sum=hg at *
   generalize (Nh.map λg=>fs.getD g 0).sum=hf at *
   have bb:∀{z:Int},0<=z->z<=24 * 2 ^ 5040->fj z:=λz0 z1=>bT (k:=5045) z0 (aaL z1 (by
    rw[show 5045=5+5040 from rfl,Int.pow_add];have:=jU 5040;generalize (2:Int) ^ 5040=z at *
    omega)) @_
   have bg1:fj hg:=bb sg.1 (aaL sg.2 (by
    have:=jU 5040;have Wk:(gs.length:Int)<=24:=()
    exact aaF Wk (aag this)))
   have bg2:fj (hg+hf):=bb (Int.add_nonneg sg.1 sf.1) (by
    have t0:=jU 5040;have q1:(gs.length:Int) * 2 ^ 5040<=12 * 2 ^ 5040:=aaF () (aag t0);have q2:(Nh.length:Int) * 2 ^ 5040<=12 * 2 ^ 5040:=aaF () (aag t0);have:=sg.2;have:=sf.2;generalize (2:Int) ^ 5040=z at *
    omega)
   have Y1:fj f.2:=bT (aag rd.pos) f2 @_;have Y9:fj f.1:=bT ut.1 f1 @_;have bs:fj (B ^ (T+1)):=bT Vf sc @_;rcases hk with ⟨rfl,_⟩| ⟨rfl,_⟩
   ·have⟨k1,k2⟩:=ask.1 rfl;refine⟨λ_=>⟨λz=>aay (aav z) k1,λ_=>?_⟩,λz=>aay z @_⟩;refine(tF ?_:cR (av f) (.int 1) _ _);refine⟨⟨bg2,Y1⟩,?_⟩;refine(qX ?_:cR (av f) (.int 0) _ _);exact⟨⟨Y9,bs⟩,λz=>aay (aav z) k2,λ_=>nx _⟩
   ·have⟨k1,k2⟩:=ask.2 @_;refine⟨λz=>aay z @_,λ_=>⟨λz=>aay (aav z) k1,λ_=>?_⟩⟩;refine(tF ?_:cR (av f) (.int 1) _ _);refine⟨⟨bg1,Y1⟩,?_⟩;refine(qX ?_:cR (av f) (.int 0) _ _);exact⟨⟨Y9,bs⟩,λz=>aay (aav z) k2,λ_=>nx _⟩
  ·have⟨m,T,th,yJ,VO,X1,V4,VQ,Xn,Sm,ex,hTm,r,hh,rfl,rfl⟩:=hj;have hm:m=0:=by have:=aaM List.length ex;rw[c9]at this;exact this.symm
   have hT:T=γ.length+1:=()
   have hh:=hh ();rcases hk with ⟨rfl,_⟩| ⟨rfl,_⟩
   ·refine⟨λz=>aay z @_,λ_=>?_⟩
    try walk_at "vc"
    refine(qX ?_:cR (av f) (.int 0) _ _);refine⟨λ_=>h,λz=>?_⟩;have z:f.1≠0:=aa1 z;have hp:0 < yJ:=by
     rw[hh];refine r.last fr t go QB () ?_;have un:=(t.unit fr st QB).1;have nz:V_ tb st≠0:=λy=>by rw[ev]at y;have c:=(nF (a:=f) (b:=(0,1)) rd.pos @_).mpr (by rw[y,lB];exact abF);have c:f.1 * 1<=0 * f.2:=c;have:=ut.1;omega
     grind
    show q (.bl (decide (0 < yJ))) M2;rw[aaE hp];exact h
   ·exact⟨λ_=>h,λz=>aay z @_⟩
def zX{M:Ms}:∀rs:List Rw,Paired (jk M) (rs.map Ι) rs
 | []=>.nil
 | r::rs=>.cons (x_ _ r) (zX rs)
def Hk{q:DQ}{A:Addr}(h:q (ar A ε γ) M):pZ M q (.loc M.length) ((M++[MO.ins A [] []]).set M.length (.ins A ["kept_share","kept_rows"] [av ε,.lst (γ.map Ι)])):=by rw[dM];exact ie (d':=ar A ε γ) (.QX (Nat.le_refl _) (by simp) (.cons (.old (oU ε)) (.cons (.old (jT γ)) .nil))) h
def FR.of(hs:iQ ε=true)(n1:1<=γ.length)(GF:γ.length<=12)(hg:∀r∈γ,QJ γ.length r):FR ε γ:=⟨⟨hs,GF,λr hr=>(hg r hr).1⟩,n1,λk ds hm hh d hd=>(hg _ hm).2 k ds rfl hh d hd⟩
def K'{q:DQ}{m:MO}{ds:List Dt}(u:Dt.bj M.length ds)(h:q (.lst ds) M):pZ M q (.loc (M.length+1)) (M++[m,.lst ds]):=ie (.yu (Nat.le_succ _) (by rw[aby];rfl) (fP.old u)) h
def rT:Γ ["_law_script","_law_rows_here","_law_goals_here","_law_table","_law_plan_one","_law_plan_other","_law_steps"] ["_law_script"] (χ Qt):=.of rfl
def P4(F:dE K "law" "law" Qt f fd)(E:Ev K mg Cm){Iw:Addr}{Ho:FuncData}(pf:aE P w K mg base 5 "_law_rows" ["_law_script"] Dp Iw Ho){Ga:Addr}{Gg:FuncData}(mi:aE P w K mg base 1 "_law_goals" ["_law_rows_here","_law_number_here"] Ki Ga Gg)(Ψ:aE P w K mg base 2 "_law_number" ["_law_script","_law_k"] Af cC cE){Jj:Addr}{Ji:FuncData}(pj:aE P w K mg base 9 "chances" ["floor","goals"] (yH Cm) Jj Ji){l3:Addr}{mH:FuncData}(d9:Lc P w K mg base 5 "Floor" Cm ["self","share","rows"] (Hu Cm) l3 mH){I_:Addr}{GQ:FuncData}(kS:aE P w K mg base 3 "_law_held" ["_law_script","_law_rows_here","_law_goals_here","_law_table","_law_plan","_law_steps","_law_kind"] DM I_ GQ):aw P w K mg base (cP P w) 11 f fd ["_law_script"] (dw K PV):=by
 refine F.eF rT (λds M q x h=>?_) (λbz A outer s H E' hr=>⟨_,(ζ (ψ 1 rT.nd (cK (ao pf hr ξ (Ν (jv 0) η))))
   (ζ (ψ 2 rT.nd (cK (ao mi hr ξ (Ν (jv 1) (ι (ao Ψ hr ξ (Ν (jv 0) (ι ο η bX))) η bC)))))
   (ζ (KJ (ao pj hr ξ (ι (cK (Hl d9 hr ξ (ι (cY (ι ο (ι ο η bX) bX)) (ι (cK (wL E.mC (Ν (jv 1) η))) η bC) lq))) (ι (cK (wL E.mC (Ν (jv 2) η))) η bC) bC)) (lV rfl (bf (ae (i:=3) rT.nd rfl (Or.inl rfl)) (bf (ae (i:=4) rT.nd rfl (Or.inl rfl)) (bf (ae (i:=5) rT.nd rfl (Or.inl rfl)) (bf (ae (i:=6) rT.nd rfl (Or.inl rfl)) i7))))))
   (ζ (aH (BJ (gG (ao kS hr ξ (Ν (jv 0) (Ν (jv 1) (Ν (jv 2) (Ν (jv 3) (Ν (jv 4) (Ν (jv 6) (ι eY η bX)))))))))) (θ (Δ L6)) Μ)
   (θ (Δ (ao kS hr ξ (Ν (jv 0) (Ν (jv 1) (Ν (jv 2) (Ν (jv 3) (Ν (jv 5) (Ν (jv 6) (ι eY η bX)))))))))))))),λds M q x h=>?_⟩)
 ·have⟨ns,rfl,_⟩:=h;rfl
 ·have⟨ns,rfl,hl,hq⟩:=h;refine⟨ns,rfl,λγ r1 r6 hg m0=>K' (jT γ) ?_⟩;refine⟨ns,2,rfl,@_,@_,λn2 QO=>⟨γ,n2,rfl,(),λr hr=>(hg r hr).1.1,λgs go U3=>dF (qk gs) ?_⟩⟩;have fr:FR (1,2) γ:=.of @_ r1 () hg;dsimp only[M9];walk_at "vc";refine⟨gV,?_⟩;refine C2 (jT γ) ?_;refine⟨M.length,.lst (γ.map Ι),(1,2),γ.map Ι,γ,λ_=>True,rfl,aN,rfl,zX γ,@_,r1,(),λr hr=>(hg r hr).1,rfl,Hk ?_⟩;refine C2 (qk gs) ?_;refine⟨(1,2),γ,.lst (gs.map bH),gs,rfl,fr,.inl rfl,go,λS S2 p a tb E1 kt ka ks t Zf SM ks1 EN zY UM=>?_⟩;have Rn:(M++[dP p]++E1)[M.length]? =some (dP p):=bK aN;generalize M++[dP p]++E1=M1 at *
  generalize M.length=kp at *
  try walk_at "vc"
  refine⟨ns,(1,2),γ,gs,S,S2,p,a,tb,kt,kp,ks,"one",p,rfl,fr,r6,go,U3,t,.inl ⟨rfl,rfl⟩,Rn,zY,UM,?_⟩;refine⟨nofun,λ_=>?_⟩;exact⟨ns,(1,2),γ,gs,S,S2,p,a,tb,kt,ka,ks,"other",a,rfl,fr,r6,go,U3,t,.inr ⟨rfl,rfl⟩,EN,zY,UM,hq _⟩
structure FT(K:fI)(f:Addr)(x:Str)(st:Stmt):Prop where
 a:PySem.W.nsIn K mainGlobals x=some (some (.ref f))
 e:∃fd,dE K x x st f fd
structure FM(K:fI)(C f:Addr)(m x:Str)(st:Stmt):Prop where
 a:PySem.W.findIn K (.ref C) m=some (some (.ref f))
 i:PySem.W.isFn K (.ref f)=true
 e:∃fd,dE K m x st f fd
section
variable{K:fI}{C:Addr}{m x:Str}{st:Stmt}{oc:Value}{od an:Option Addr}{Kl:Array (Option Value)}{kV doc pm bz ct:Value}
def FT.of(a:PySem.W.nsIn K mainGlobals x=some (some (.ref f)))(l:K.lookup f=some ⟨oc,od,.func (PySem.W.fnOf x x (kU st) (hV st) (χ st) .none kV doc pm an bz ct),Kl⟩)(c:PySem.W.codeIn K bz x=true)(k:PySem.W.keepIn K (.ref f)=true):FT K f x st:=⟨a,_,J9 l c k⟩
def FM.of(a:PySem.W.findIn K (.ref C) m=some (some (.ref f)))(i:PySem.W.isFn K (.ref f)=true)(l:K.lookup f=some ⟨oc,od,.func (PySem.W.fnOf m x (kU st) (hV st) (χ st) .none kV doc pm an bz ct),Kl⟩)(c:PySem.W.codeIn K bz x=true)(k:PySem.W.keepIn K (.ref f)=true):FM K C f m x st:=⟨a,i,_,J9 l c k⟩
end
section
variable{P:List Value->Prop}
def Tu(h:P []):∀us:List Value,us.length=0->P us
 | [],_=>h
 | _::_,e=>nomatch e
def fF(h:∀a0:Value,P [a0]):∀us:List Value,us.length=1->P us
 | [],e=>nomatch e
 | a::us,e=>Tu (P:=λus=>P (a::us)) (h a) us (aco e)
def cI(h:∀a0 a1:Value,P [a0,a1]):∀us:List Value,us.length=2->P us
 | [],e=>nomatch e
 | a::us,e=>fF (P:=λus=>P (a::us)) (h a) us (aco e)
def kf(h:∀a0 a1 a2:Value,P [a0,a1,a2]):∀us:List Value,us.length=3->P us
 | [],e=>nomatch e
 | a::us,e=>cI (P:=λus=>P (a::us)) (h a) us (aco e)
def zL(h:∀a0 a1 a2 a3:Value,P [a0,a1,a2,a3]):∀us:List Value,us.length=4->P us
 | [],e=>nomatch e
 | a::us,e=>kf (P:=λus=>P (a::us)) (h a) us (aco e)
def Iy(h:∀a0 a1 a2 a3 a4:Value,P [a0,a1,a2,a3,a4]):∀us:List Value,us.length=5->P us
 | [],e=>nomatch e
 | a::us,e=>zL (P:=λus=>P (a::us)) (h a) us (aco e)
def MY(h:∀a0 a1 a2 a3 a4 a5:Value,P [a0,a1,a2,a3,a4,a5]):∀us:List Value,us.length=6->P us
 | [],e=>nomatch e
 | a::us,e=>Iy (P:=λus=>P (a::us)) (h a) us (aco e)
def Ti(h:∀a0 a1 a2 a3 a4 a5 a6:Value,P [a0,a1,a2,a3,a4,a5,a6]):∀us:List Value,us.length=7->P us
 | [],e=>nomatch e
 | a::us,e=>MY (P:=λus=>P (a::us)) (h a) us (aco e)
end
def wW{K:fI}(h:PySem.W.subIn K (.type "int") (.type "bool")=some false):PySem.W.kitOne K (.type "int") (.type "bool")=some false:=by unfold PySem.W.kitOne PySem.W.kitCls;rw[aau (by decide+kernel)];show(if PySem.W.kitMeta "bool"=true then _ else _)=_;rw[aaq (by decide+kernel)];exact h
def yP{K:fI}(h:PySem.W.subIn K (.type "int") (.type "str")=some false):PySem.W.kitOne K (.type "int") (.type "str")=some false:=by unfold PySem.W.kitOne PySem.W.kitCls;rw[aau (by decide+kernel)];show(if PySem.W.kitMeta "str"=true then _ else _)=_;rw[aaq (by decide+kernel)];exact h
def t_{K:fI}(h:PySem.W.subIn K (.type "tuple") (.type "str")=some false):PySem.W.kitOne K (.type "tuple") (.type "str")=some false:=by unfold PySem.W.kitOne PySem.W.kitCls;rw[aau (by decide+kernel)];show(if PySem.W.kitMeta "str"=true then _ else _)=_;rw[aaq (by decide+kernel)];exact h
def uh{K:fI}(h:PySem.W.subIn K (.type "tuple") (.type "int")=some false):PySem.W.kitOne K (.type "tuple") (.type "int")=some false:=by unfold PySem.W.kitOne PySem.W.kitCls;rw[aau (by decide+kernel)];show(if PySem.W.kitMeta "int"=true then _ else _)=_;rw[aaq (by decide+kernel)];exact h
def vF{K:fI}(h:PySem.W.subIn K (.type "list") (.type "str")=some false):PySem.W.kitOne K (.type "list") (.type "str")=some false:=by unfold PySem.W.kitOne PySem.W.kitCls;rw[aau (by decide+kernel)];show(if PySem.W.kitMeta "str"=true then _ else _)=_;rw[aaq (by decide+kernel)];exact h
def xy{K:fI}(h:PySem.W.subIn K (.type "list") (.type "int")=some false):PySem.W.kitOne K (.type "list") (.type "int")=some false:=by unfold PySem.W.kitOne PySem.W.kitCls;rw[aau (by decide+kernel)];show(if PySem.W.kitMeta "int"=true then _ else _)=_;rw[aaq (by decide+kernel)];exact h
def so{K:fI}(h:PySem.W.subIn K (.type "tuple") (.type "list")=some false):PySem.W.kitOne K (.type "tuple") (.type "list")=some false:=by unfold PySem.W.kitOne PySem.W.kitCls;rw[aau (by decide+kernel)];show(if PySem.W.kitMeta "list"=true then _ else _)=_;rw[aaq (by decide+kernel)];exact h
def qx{K:fI}(h:PySem.W.subIn K (.type "list") (.type "tuple")=some false):PySem.W.kitOne K (.type "list") (.type "tuple")=some false:=by unfold PySem.W.kitOne PySem.W.kitCls;rw[aau (by decide+kernel)];show(if PySem.W.kitMeta "tuple"=true then _ else _)=_;rw[aaq (by decide+kernel)];exact h
open PySem.W in
def all_mk{l:OpenLaw}{w:World}{K:Frag}{h:Heap}{fa Cm CZ f1 f2 f3 f4 f5 f6 f7 f8 f9 f10 f11 Uj f13 f14 f15 f16 f17 f18 f19 f20 f21 f22 f23 f24 f25 f26 f27 f28 f29 f30 f31 f32 f33 f34 f35 f36 f37 f38 f39 f40 f41 f42 f43 f44 f45 f46 f47 f48 f49 f50 f51 f52 f53 f54 f55 f56 f57 f58 f59:Addr}(X:K.In h)(G:h.Ns mainGlobals mg)(hfa:mg "law"=some (.ref fa))
  {yo tR ui kX:Tok}
  (xF:nsIn K mainGlobals "MOST_DOORS"=some (some (.int (6) yo)))
  (uc:nsIn K mainGlobals "MOST_BOTTOM"=some (some (.int (1000000) tR)))
  (ug:nsIn K mainGlobals "MOST_PLACES"=some (some (.int (12) ui)))
  (k4:nsIn K mainGlobals "MOST_SHARE_BOTTOM"=some (some (.int (1000) kX)))
  (Mt:nsIn K mainGlobals "Floor"=some (some (.ref Cm))) (kC:plainGet K Cm Str.empty=true) (kD:hasDictIn K Cm=true) (kQ:plainOver K Cm=true) (kR:findIn K (.ref Cm) "__setattr__"=some (some (.builtin "object.__setattr__"))) (Mu:makesIn K Cm=true) (L7:keepIn K (.ref Cm)=true)
  (xg:findIn K (.ref Cm) "kept_rows"=some none)
  (tM:findIn K (.ref Cm) "kept_share"=some none)
  {G_ HL:Tok} {HN:Option Addr} {HX:Array (Option Value)} {Jg:Nat} (Kr:nsIn K mainGlobals "HANDS"=some (some (.ref CZ))) (J5:K.lookup CZ=some ⟨.type "tuple",HN,.seq #[(.str "one" G_),(.str "other" HL)] Jg,HX⟩)
  (Ap:subIn K (.type "int") (.type "bool")=some false)
  (A_:subIn K (.type "int") (.type "str")=some false)
  (vD:subIn K (.type "tuple") (.type "str")=some false)
  (wI:subIn K (.type "tuple") (.type "int")=some false)
  (zW:subIn K (.type "list") (.type "str")=some false)
  (z4:subIn K (.type "list") (.type "int")=some false)
  (uk:subIn K (.type "tuple") (.type "list")=some false)
  (tS:subIn K (.type "list") (.type "tuple")=some false)
  (t1:FT K f1 "_law_far" vK)
  (t2:FT K f2 "_law_number" mw)
  (t3:FT K f3 "_law_lowest" lQ)
  (t4:FT K f4 "_law_pay" wB)
  (t5:FT K f5 "_law_rest" rJ)
  (t6:FT K f6 "_law_doors" oQ)
  (t7:FT K f7 "_law_rows" qN)
  (t8:FT K f8 "_law_goals" oV)
  (t9:FM K Cm f9 "kind" "Floor.kind" lX)
  (t10:FM K Cm f10 "size" "Floor.size" lT)
  (t11:FT K f11 "check_goals" jP)
  (t12:FM K Cm Uj "doors" "Floor.doors" jJ)
  (t13:FT K f13 "is_drawn" tD)
  (t14:FT K f14 "drawn_next" mh)
  (t15:FT K f15 "draw" Ii)
  (t16:FT K f16 "places_of" oW)
  (t17:FT K f17 "drawn_door" mI)
  (t18:FT K f18 "drawn_plan" ma)
  (t19:FT K f19 "first_plan" my)
  (t20:FT K f20 "with_weights" i8)
  (t21:FT K f21 "number_of_head" h_)
  (t22:FT K f22 "moved_ahead" j8)
  (t23:FT K f23 "cleared_line" iU)
  (t24:FT K f24 "cleared" sZ)
  (t25:FT K f25 "common_divisor" gJ)
  (t26:FT K f26 "fraction" oI)
  (t27:FT K f27 "quotients" mx)
  (t28:FT K f28 "answer_of" oz)
  (t29:FT K f29 "minus" Cd)
  (t30:FT K f30 "times" B9)
  (t31:FT K f31 "common_bottom" ia)
  (t32:FT K f32 "whole_row" oH)
  (t33:FT K f33 "led_row" wX)
  (t34:FT K f34 "ways_from" nY)
  (t35:FT K f35 "chance_row" mG)
  (t36:FT K f36 "chances_by" mB)
  (t37:FT K f37 "under" AR)
  (t38:FT K f38 "greatest" nZ)
  (t39:FT K f39 "least" Bm)
  (t40:FT K f40 "better_led" lS)
  (t41:FT K f41 "kept_least" md)
  (t42:FT K f42 "copied_row" lN)
  (t43:FM K Cm f43 "rows" "Floor.rows" lZ)
  (t44:FT K f44 "held_row" q_)
  (t45:FT K f45 "fits_share" lP)
  (t46:FT K f46 "fits_pay" rK)
  (t47:FT K f47 "fits_door" ph)
  (t48:FT K f48 "fits_doors" lM)
  (t49:FT K f49 "fits_chances" iV)
  (t50:FT K f50 "fits_row" tq)
  (t51:FM K Cm f51 "__init__" "Floor.__init__" me)
  (t52:FM K Cm f52 "share" "Floor.share" j9)
  (t53:FT K f53 "steps_by" qY)
  (t54:FT K f54 "chances" qJ)
  (t55:FT K f55 "_law_bottom" lI)
  (t56:FT K f56 "_law_turn" rR)
  (t57:FT K f57 "_law_mean" s_)
  (t58:FT K f58 "_law_held" rN)
  (t59:FT K f59 "law" Qt)
  (Q8:nsIn K mainGlobals "len"=some none)
  (Rp:nsIn K mainGlobals "abs"=some none)
  (xw:nsIn K mainGlobals "isinstance"=some none)
  (RV:nsIn K mainGlobals "int"=some none)
  (OO:nsIn K mainGlobals "bool"=some none)
  (RE:nsIn K mainGlobals "str"=some none)
  (L8:nsIn K mainGlobals "tuple"=some none)
  (Qs:nsIn K mainGlobals "list"=some none)
  (LY:nsIn K mainGlobals "range"=some none)
  (Ad:nsIn K mainGlobals "enumerate"=some none)
  (SS:nsIn K mainGlobals "any"=some none)
  (RF:nsIn K mainGlobals "all"=some none)
  (RX:nsIn K mainGlobals "sum"=some none)
  (Ro:nsIn K mainGlobals "zip"=some none)
  (OH:nsIn K mainGlobals "dict"=some none)
  (RN:nsIn K mainGlobals "min"=some none)
  :∃fd:FuncData,(∀(s:Shared) (v:Value),BindsTo s fd ⟨[v],[]⟩ [("_law_script",v)])/\∀base:Heap,K.In base->base.Ns mainGlobals mg->aw l.prog w K mg base UL 11 fa fd ["_law_script"] (zR K):=by
 have⟨a1,_,F1⟩:=t1;have⟨a2,_,F2⟩:=t2;have⟨a3,_,F3⟩:=t3;have⟨a4,_,F4⟩:=t4;have⟨a5,_,F5⟩:=t5;have⟨a6,_,F6⟩:=t6;have⟨a7,_,F7⟩:=t7;have⟨a8,_,F8⟩:=t8;have⟨a9,i9,_,F9⟩:=t9;have⟨XQ,i10,_,Vp⟩:=t10;have⟨a11,_,Vo⟩:=t11;have⟨a12,i12,_,Wf⟩:=t12;have⟨a13,_,Yt⟩:=t13;have⟨a14,_,Yu⟩:=t14;have⟨a15,_,VP⟩:=t15;have⟨a16,_,Ws⟩:=t16;have⟨a17,_,Xm⟩:=t17;have⟨a18,_,WU⟩:=t18;have⟨a19,_,W_⟩:=t19;have⟨a20,_,Yr⟩:=t20;have⟨a21,_,Yg⟩:=t21;have⟨a22,_,Vu⟩:=t22;have⟨a23,_,WD⟩:=t23;have⟨a24,_,V0⟩:=t24;have⟨a25,_,Xk⟩:=t25;have⟨a26,_,XE⟩:=t26;have⟨Z',_,Wj⟩:=t27;have⟨a28,_,Xv⟩:=t28;have⟨a29,_,Xz⟩:=t29;have⟨a30,_,VF⟩:=t30;have⟨a31,_,Xr⟩:=t31;have⟨a32,_,XR⟩:=t32;have⟨a33,_,Xy⟩:=t33;have⟨a34,_,Xq⟩:=t34;have⟨a35,_,X2⟩:=t35;have⟨a36,_,WW⟩:=t36;have⟨a37,_,Yh⟩:=t37;have⟨a38,_,Yi⟩:=t38;have⟨a39,_,Yc⟩:=t39;have⟨a40,_,Wy⟩:=t40;have⟨a41,_,VM⟩:=t41;have⟨a42,_,V'⟩:=t42;have⟨a43,i43,_,VG⟩:=t43;have⟨a44,_,Wz⟩:=t44;have⟨a45,_,WI⟩:=t45;have⟨a46,_,W2⟩:=t46;have⟨a47,_,VD⟩:=t47;have⟨a48,_,Yx⟩:=t48;have⟨a49,_,X_⟩:=t49;have⟨a50,_,V3⟩:=t50;have⟨a51,i51,_,ZL⟩:=t51;have⟨a52,i52,_,X4⟩:=t52;have⟨a53,_,Yv⟩:=t53;have⟨a54,_,VA⟩:=t54;have⟨a55,_,Wh⟩:=t55;have⟨a56,_,Wo⟩:=t56;have⟨a57,_,Yy⟩:=t57;have⟨a58,_,VX⟩:=t58;have⟨a59,dL,ZV⟩:=t59;have e:=hfa.symm.trans (mg_of X G a59);cases e;have yb:=mg_of X G xF;have tU:=mg_of X G uc;have ue:=mg_of X G ug;have kY:=mg_of X G k4;have bW:=mg_none_of X G Q8;have qM:=mg_none_of X G Rp;have iW:=mg_none_of X G xw;have Dd:=mg_none_of X G RV;have AW:=mg_none_of X G OO;have Hn:=mg_none_of X G RE;have ya:=mg_none_of X G L8;have mC:=mg_none_of X G Qs;have bI:=mg_none_of X G LY;have cB:=mg_none_of X G Ad;have yM:=mg_none_of X G SS;have yS:=mg_none_of X G RF;have rP:=mg_none_of X G RX;have Aj:=mg_none_of X G Ro;have vZ:=mg_none_of X G OH;have CT:=mg_none_of X G RN;have E:Ev K mg Cm:={bW:=bW,qM:=qM,iW:=iW,Dd:=Dd,AW:=AW,Hn:=Hn,ya:=ya,mC:=mC,bI:=bI,cB:=cB,yM:=yM,yS:=yS,rP:=rP,Aj:=Aj,vZ:=vZ,CT:=CT,ib:=wW Ap,kis:=yP A_,kts:=t_ vD,kti:=uh wI,kls:=vF zW,kli:=xy z4,Uv:=so uk,klt:=qx tS,fB:=⟨kC,kD,kQ,kR⟩,de:=xg,ir:=tM,Cg:=⟨_,_,_,_,mg_of X G Kr,J5,rfl,rfl,gV,.cons ⟨_,rfl⟩ (.cons ⟨_,rfl⟩ .nil)⟩,pI:=⟨_,yb⟩,i5:=⟨_,tU⟩,mZ:=⟨_,ue⟩,gp:=⟨_,kY⟩};refine⟨dL,λs v=>by have⟨_,_,_,_,_,_,_,_,_,rfl,_⟩:=ZV.ex;exact .of_eq rfl,λbase _ _=>?_⟩;have mc:=@aE.mk l.prog w K mg base;have iD:=(FY F1 E)&&&(F1,a1,cI λ_ _=>rfl);have Ψ:=(vH F2 E iD)&&&(F2,a2,cI λ_ _=>rfl);have bu:=(vS F3 E)&&&(F3,a3,cI λ_ _=>rfl);have iO:=(Gf F4 E bu)&&&(F4,a4,fF λ_=>rfl);have pb:=(By F5 E Ψ iD)&&&(F5,a5,cI λ_ _=>rfl);have mj:=(zi F6 E Ψ iO pb bu)&&&(F6,a6,Iy λ_ _ _ _ _=>rfl);have pf:=(AL F7 E Ψ iO mj)&&&(F7,a7,fF λ_=>rfl);have mi:=(Aa F8 E)&&&(F8,a8,cI λ_ _=>rfl);have af:fG l.prog w K mg base _ Cm "kind" _ _ _ _:=(x8 F9 E)|||(F9,a9,i9,cI λ_ _=>rfl);have ai:fG l.prog w K mg base _ Cm "size" _ _ _ _:=(vM Vp E)|||(Vp,XQ,i10,fF λ_=>rfl);have iY:=(tX Vo E af ai)&&&(Vo,a11,cI λ_ _=>rfl);have aM:fG l.prog w K mg base _ Cm "doors" _ _ _ _:=(tL Wf E af)|||(Wf,a12,i12,cI λ_ _=>rfl);have oX:=(AJ Yt E af aM)&&&(Yt,a13,kf λ_ _ _=>rfl);have gX:=(xN Yu E ai oX)&&&(Yu,a14,cI λ_ _=>rfl);have nR:=(Lu VP E iY ai gX)&&&(VP,a15,cI λ_ _=>rfl);have eW:=(zN Ws E ai af)&&&(Ws,a16,cI λ_ _=>rfl);have jY:=(wZ Xm E aM)&&&(Xm,a17,kf λ_ _ _=>rfl);have km:=(vG WU E eW jY)&&&(WU,a18,cI λ_ _=>rfl);have jG:=(yc W_ E eW)&&&(W_,a19,cI λ_ _=>rfl);have h8:=(rh Yr E)&&&(Yr,a20,fF λ_=>rfl);have gL:=(pW Yg E)&&&(Yg,a21,kf λ_ _ _=>rfl);have jh:=(tQ Vu E)&&&(Vu,a22,kf λ_ _ _=>rfl);have fc:=(qI WD E)&&&(WD,a23,zL λ_ _ _ _=>rfl);have og:=(AG V0 E h8 gL jh fc)&&&(V0,a24,cI λ_ _=>rfl);have bN:=(oh Xk E)&&&(Xk,a25,cI λ_ _=>rfl);have cF:=(Ac XE E bN)&&&(XE,a26,cI λ_ _=>rfl);have jV:=(wc Wj E cF)&&&(Wj,Z',zL λ_ _ _ _=>rfl);have lW:=(zu Xv E og jV)&&&(Xv,a28,fF λ_=>rfl);have wu:=(GO Xz E cF)&&&(Xz,a29,cI λ_ _=>rfl);have wR:=(Hi VF E cF)&&&(VF,a30,cI λ_ _=>rfl);have cj:=(pY Xr E bN)&&&(Xr,a31,fF λ_=>rfl);have mD:=(Ak XR E cj)&&&(XR,a32,fF λ_=>rfl);have j0:=(EX Xy E ai wu wR mD)&&&(Xy,a33,Iy λ_ _ _ _ _=>rfl);have mr:=(zD Xq E aM af)&&&(Xq,a34,kf λ_ _ _=>rfl);have j_:=(wU X2 E j0 mr)&&&(X2,a35,zL λ_ _ _ _=>rfl);have jy:=(xU WW E lW ai j_)&&&(WW,a36,zL λ_ _ _ _=>rfl);have kO:=(IQ Yh E)&&&(Yh,a37,cI λ_ _=>rfl);have lK:=(Ah Yi E kO)&&&(Yi,a38,fF λ_=>rfl);have yr:=(Ih Yc E kO)&&&(Yc,a39,fF λ_=>rfl);have d7:=(vC Wy E aM af lK yr)&&&(Wy,a40,kf λ_ _ _=>rfl);have jS:=(wC VM E jG jy d7)&&&(VM,a41,kf λ_ _ _=>rfl);have dZ:=(wM V' E)&&&(V',a42,fF λ_=>rfl);have jz:fG l.prog w K mg base _ Cm "rows" _ _ _ _:=(wF VG E dZ)|||(VG,a43,i43,fF λ_=>rfl);have n9:=(Ce Wz E)&&&(Wz,a44,kf λ_ _ _=>rfl);have jR:=(wV WI E)&&&(WI,a45,fF λ_=>rfl);have fX:=(Cw W2 E)&&&(W2,a46,fF λ_=>rfl);have lU:=(zm VD E fX)&&&(VD,a47,cI λ_ _=>rfl);have gR:=(wH Yx E lU)&&&(Yx,a48,cI λ_ _=>rfl);have ic:=(sv X_ E cj)&&&(X_,a49,fF λ_=>rfl);have pe:=(AU V3 E fX gR ic)&&&(V3,a50,cI λ_ _=>rfl);have d9:Lc l.prog w K mg base _ "Floor" Cm _ _ _ _:=⟨v_ ZL E jR pe dZ,(ZL.binds λ_ _ _ _ _ _=>kf λ_ _ _=>rfl),⟨Mu,a51,i51,L7⟩,mg_of X G Mt⟩;have jd:fG l.prog w K mg base _ Cm "share" _ _ _ _:=(uj X4 E)|||(X4,a52,i52,fF λ_=>rfl);have oF:=(A4 Yv E jz n9 nR d9 jd)&&&(Yv,a53,kf λ_ _ _=>rfl);have pj:=(AK VA E nR km jS d7 oF)&&&(VA,a54,cI λ_ _=>rfl);have jA:=(wA Wh E bu)&&&(Wh,a55,fF λ_=>rfl);have nU:=(CC Wo E)&&&(Wo,a56,MY λ_ _ _ _ _ _=>rfl);have oC:=(AY Yy E)&&&(Yy,a57,cI λ_ _=>rfl);have kS:=(CL VX E jA Ψ nU oC)&&&(VX,a58,Ti λ_ _ _ _ _ _ _=>rfl);exact OG (P4 ZV E pf mi Ψ pj d9 kS)
def walk{l:PySem.W.OpenLaw}{q:Program}{loose:List Str}{XP:(Str->Option Value)->Heap->Prop}{YP:World->Heap->Prop}{d:DefRec}{K:Params->fI}(hn:l.most=some 63)(TQ:d.params.defaults=[])
  (hY:∀(w:World) (h:Heap),YP w h->(K w.params).In h)
  (F:∀(w:World) (mg:Str->Option Value) (fa:Addr) (h:Heap),(K w.params).In h->h.Ns mainGlobals mg->mg d.name=some (.ref fa)->
   ∃fd:FuncData,(∀(s:Shared) (u:Value),BindsTo s fd ⟨[u],[]⟩ [("_law_script",u)])/\∀base:Heap,(K w.params).In base->base.Ns mainGlobals mg->aw l.prog w (K w.params) mg base UL 11 fa fd ["_law_script"] (zR (K w.params))):
  PySem.W.WalkO q loose XP YP l.row.toRowW d [] (λf vs=>PySem.call f vs):=
 L2.xT (n:=63) (k:=11) (x:="_law_script") (CX:=λ_=>UL) (sp:=λw=>zR (K w.params)) hn @_ TQ ⟨rfl,@_,@_⟩ hY F (λ_ _ a ns hl _ hS=>⟨a,ns,rfl,hS,hl,λ_=>rfl⟩) λ_ _ _ _ _ z=>z
end
end Pg
open PySem PySem.W PyProof.Rows
set_option maxRecDepth 100000 in
set_option maxHeartbeats 0 in
theorem PySem.Challenge.cw_chanceduel_k45_whole_whatever_the_hand_d_holds : PySem.Challenge.rw_chanceduel_k45_whole_whatever_the_hand_d.Holds := by
 w_on;o_law
 refine holds_open (q:=Hd.q) (loose:=[]) (Xt:=Hd.Xt) (XP:=XL Hd.q [])
  (Yf:=Hd.H.obs) (Ya:=Hd.H.val) (YP:=Hd.H.says) Hd.left Hd.H.of Hd.H.keeps
  (λs e=>xl_of s (Bool.and_eq_true_iff.mp e).1) XL.keeps (by rfl) (by rfl) (by rfl)
  (λs e=>recFacts_of (Bool.and_eq_true_iff.mp e).2) (by rfl) (by assumption) (by decide+kernel)
  ⟨rfl,rfl,rfl,rfl,rfl,by decide+kernel⟩ ?hw ?hc
 (case hw=>w_witness2)
 refine Pg.walk (l:=PySem.Challenge.rw_chanceduel_k45_whole_whatever_the_hand_d) rfl rfl (fun w h Y=>PySem.W.kIn_of Y) ?F
 case F=>
  k_fill
  intro w mg fa h KX G Ls
  refine' Pg.all_mk KX G Ls ?_ ?_ ?_ ?_ ?_ ?_ ?_ ?_ ?_ ?_ ?_ ?_ ?_ ?_ ?_ ?_ ?_ ?_ ?_ ?_ ?_ ?_ ?_ ?_ ?_ ?_ ?_ ?_ ?_ ?_ ?_ ?_ ?_ ?_ ?_ ?_ ?_ ?_ ?_ ?_ ?_ ?_ ?_ ?_ ?_ ?_ ?_ ?_ ?_ ?_ ?_ ?_ ?_ ?_ ?_ ?_ ?_ ?_ ?_ ?_ ?_ ?_ ?_ ?_ ?_ ?_ ?_ ?_ ?_ ?_ ?_ ?_ ?_ ?_ ?_ ?_ ?_ ?_ ?_ ?_ ?_ ?_ ?_ ?_ ?_ ?_ ?_ ?_ ?_ ?_ ?_ ?_ ?_ ?_ ?_ ?_ ?_ ?_
  all_goals try first| (refine' Pg.FT.of ?_ ?_ ?_ ?_ <;> try k_is)| (refine' Pg.FM.of ?_ ?_ ?_ ?_ ?_ <;> try k_is)| k_is| k_exc| kernel_rfl
