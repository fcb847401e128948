import PyProof.Rows.All
import Wide.All
import OpenK.AllK
import Wide.FinOn
import Lean
import PyProof.EqAt
import PyProof.EqKinds
import PyProof.TupleCall
import PyProof.NeKinds
import PyProof.ZipIter
import PyProof.DictUpdate
import PyProof.FactsAll.dict_1
import PyProof.DictIter
import PyProof.DictWalks
import PySem.Challenge.RW_chanceduel_k32_worths_of_rounds
set_option Elab.async false
set_option linter.all false
set_option maxRecDepth 100000
set_option maxHeartbeats 4000000
set_option compiler.extract_closed false
def aaa:=@List.getElem?_eq_getElem
def aab:=@List.getD_eq_getElem?_getD
def aac:=@List.length_map
def aae:=@List.getElem?_eq_some_iff
def aaf:=@List.mem_cons_self
def aah:=@List.mem_cons_of_mem
def aaj:=@List.length_append
def aao:=@List.mem_of_getElem?
def aap:=@List.mem_map
def aaq:=@PySem.wpAny_bind
def aar:=@PySem.Heap.get?_push_of_some
def aas:=@Nat.le_refl
def aav:=@Int.le_of_lt
def aaw:=@List.getElem?_map
def aaB:=@List.getElem?_append_right
def aaD:=@decide_eq_true_iff
def aaH:=@of_decide_eq_true
def aaI:=@Option.some.inj
def aaJ:=@List.getElem?_append_left
def aaM:=@PySem.Heap.lt_size
def aaP:=@List.mem_append_right
def aaQ:=@List.length_cons
def aaR:=@Nat.le_trans
def aaS:=@Int.mul_le_mul_of_nonneg_left
def aaT:=@decide_eq_true
def aaV:=@Nat.lt_of_lt_of_le
def aaW:=@Bool.and_eq_true
def aaX:=@List.map_cons
def aaY:=@List.size_toArray
def aa1:=@if_pos
def aa2:=@if_neg
def aa4:=@decide_eq_false
def aa7:=@Bool.false_ne_true
def aa9:=@List.getElem_mem
def aba:=@List.mem_cons
def abc:=@absurd
def abd:=@PySem.wpAny_pure
def abe:=@List.mem_singleton
def abf:=@List.map_map
def abl:=@Int.lt_of_le_of_lt
def abm:=@Int.mul_le_mul_of_nonneg_right
def abn:=@PySem.Heap.get?_push_size
def abo:=@Int.mul_pos
def abq:=@Rat.intCast_mul
def abr:=@Nat.ne_of_lt
def abt:=@List.mem_append
def abw:=@List.map_append
def aby:=@List.getElem?_range
def abz:=@Nat.lt_of_le_of_lt
def abB:=@List.nil_append
def abH:=@List.getElem?_set_self
def abI:=@congrArg
def abK:=@Int.eq_of_mul_eq_mul_left
def abL:=@List.getElem?_set_ne
def abM:=@Rat.mul_le_mul_of_nonneg_left
def abN:=@Int.emod_lt_of_pos
def abO:=@of_decide_eq_false
def abP:=@List.length_range
def abS:=@List.mem_range
def abU:=@List.append_nil
def abW:=@Int.emod_nonneg
def abY:=@List.length_replicate
def abZ:=@Int.mul_comm
def ab0:=@List.zip_cons_cons
def ab1:=@List.length_zip
def ab3:=@List.map_congr_left
def ab4:=@Rat.intCast_le_intCast
def ab6:=@List.append_assoc
def ab9:=@Int.mul_nonneg
def acb:=@Int.natAbs_mul
def acd:=@List.getElem_of_mem
def acg:=@List.drop_eq_getElem_cons
def ach:=@Int.natAbs_of_nonneg
def aci:=@Nat.lt_irrefl
def acj:=@List.length_set
def acr:=@List.replicate_succ
def acs:=@Int.ne_of_gt
def acu:=@Nat.lt_succ_self
def acv:=@List.ext_getElem
def acw:=@List.exists_cons_of_ne_nil
def acx:=@List.lookup_cons
def acy:=@List.all_eq_true
def acz:=@Option.isSome_iff_exists
def acA:=@Int.mul_ediv_cancel_left
def acC:=@Int.mul_le_mul
def acD:=@List.nodup_cons
def acE:=@List.foldl_cons
def acF:=@Int.natCast_add
def acG:=@Int.le_trans
def acH:=@List.range_succ_eq_map
def acI:=@Rat.intCast_lt_intCast
def acJ:=@Int.toNat_natCast
def acK:=@List.flatten_cons
def acL:=@List.getElem?_zip_eq_some
def acM:=@List.of_mem_zip
def acN:=@List.getElem?_eq_none
def acO:=@Nat.not_lt_zero
def acP:=@Rat.mul_le_mul_of_nonneg_right
def acQ:=@List.length_drop
def acR:=@List.filter_cons_of_pos
def acS:=@List.filter_cons_of_neg
def acT:=@Int.ofNat_lt
def acU:=@beq_iff_eq
def acV:=@List.take_of_length_le
def acW:=@Option.map_eq_some_iff
def acX:=@Int.fmod_eq_emod_of_nonneg
def acY:=@Nat.le_add_right
def acZ:=@Int.pow_succ
def ac0:=@Nat.zero_le
def ac1:=@Int.pow_nonneg
def ac2:=@Int.mul_neg_of_pos_of_neg
def ac3:=@List.set_append_left
def ac4:=@Nat.pow_le_pow_right
def ac5:=@Nat.lt_succ_of_lt
def ac6:=@List.getElem?_replicate
def ac7:=@List.all_cons
def ac8:=@List.any_cons
def ada:=@Int.le_of_dvd
def adb:=@PySem.wpAny_mono
def ade:=@List.drop_eq_nil_of_le
def adf:=@List.drop_of_length_le
def adg:=@List.range_succ
def adh:=@List.length_filter_le
def adi:=@Array.getElem?_eq_some_iff
def adj:=@Int.fdiv_eq_ediv_of_nonneg
def adk:=@PySem.F.slot_dict_getitem
def adl:=@Array.getElem?_eq_getElem
def adm:=@Int.le_of_mul_le_mul_left
def adn:=@List.length_take
def ado:=@Int.ediv_le_self
def adp:=@List.filterMap_cons
def adq:=@List.getElem?_take_of_lt
def ads:=@List.map_nil
def adt:=@Nat.min_self
def adu:=@List.mem_of_mem_eraseIdx
def adv:=@Int.lt_or_le
def adw:=@Int.lt_trans
def adx:=@List.mem_filter
def ady:=@List.mem_filterMap
def adz:=@Nat.min_eq_left
def adA:=@Int.mul_assoc
def adC:=@List.map_take
def adD:=@List.map_drop
def adE:=@List.nodup_append
def adF:=@List.ext_getElem?
def adG:=@List.drop_zero
def adH:=@Nat.ne_of_gt
def adI:=@Nat.lt_or_ge
def adJ:=@Nat.sub_self
def adK:=@Int.dvd_zero
def adL:=@Nat.succ.inj
namespace Hd
open PySem PySem.W PyProof.Rows
def at_(i:Nat):Stmt:=PySem.Challenge.pw_chanceduel_k32_worths_of_rounds.main.body.getD i (.Pass ⟨0,0,0,0⟩)
def Nn:Stmt->Nat->Stmt
  | .ClassDef _ _ _ b _ _ _ _ _ _ _,j=>b.getD j (.Pass ⟨0,0,0,0⟩)
  | s,_=>s
def dA:Stmt->Arguments
  | .FunctionDef _ a _ _ _ _ _ _ _ _=>a
  | _=>⟨[],[],none,[],[],none,[]⟩
def dB:Stmt->List Stmt
  | .FunctionDef _ _ b _ _ _ _ _ _ _=>b
  | _=>[]
def dS:Stmt->Scope
  | .FunctionDef _ _ _ _ _ _ c _ _ _=>c
  | _=>{kind:= .function,names:=[],isGenerator:=false,isCoroutine:=false}
abbrev row:=PySem.Challenge.rw_chanceduel_k32_worths_of_rounds.row
abbrev en(P:Params)(x:Str)(t:Tok)(v:Value):DictEntry:=⟨PyData.keyHash P x, .str x t,v⟩
def q:Program:={PySem.Challenge.pw_chanceduel_k32_worths_of_rounds with main:={PySem.Challenge.pw_chanceduel_k32_worths_of_rounds.main with body:=[at_ 1,at_ 2,at_ 3,at_ 4,at_ 5,at_ 6,at_ 7,at_ 9,at_ 10,at_ 11,at_ 12,at_ 13,at_ 14,at_ 16,at_ 17,at_ 18,at_ 19,at_ 20,at_ 21,at_ 22,at_ 23,at_ 24,at_ 25,at_ 27,at_ 28,at_ 29,at_ 30,at_ 31,at_ 32,at_ 33,at_ 34,at_ 36,at_ 37,at_ 38,at_ 39,at_ 40,at_ 41,at_ 42,at_ 43,at_ 45,at_ 46,at_ 47,at_ 48,at_ 49,at_ 50,at_ 51,at_ 52,at_ 53,at_ 54,at_ 56,at_ 57,at_ 59,at_ 62,at_ 63,at_ 64,at_ 65,at_ 66,at_ 67,at_ 68,at_ 69,at_ 70,at_ 71,at_ 72,at_ 73,at_ 74,at_ 75,at_ 76,at_ 77,at_ 78,at_ 79,at_ 80,at_ 81,at_ 82,at_ 83]}}
abbrev cO(x q:Str)(t l n f a m:Nat):Obj:=⟨.type "code",none, .fields #[.str x t, .str q (t+1), .str "/claim/cut.py" (t+2), .int l 0, .int n 0, .int 0 0, .int 0 0, .int f 0, .ref a, .bool true, .int 181 0, .ref (a+1), .none, .ref (a+2), .ref (a+3), .ref (a+4), .int m 0, .int l 0, .str "/claim/cut.py" (m+1)], #[]⟩
abbrev dO(x q:Str)(t l n f a m:Nat):Obj:=⟨.type "code",none, .fields #[.str x t, .str q (t+1), .str "/claim/cut.py" (t+2), .int l 0, .int n 0, .int 0 0, .int 0 0, .int f 0, .ref a, .bool true, .int 181 0, .ref (a+1), .none, .none, .none, .ref (a+2), .int m 0, .int l 0, .str "/claim/cut.py" (m+1)], #[]⟩
abbrev fO(x q:Str)(s:Stmt)(m:Value)(c:Nat):Obj:=⟨.type "function",none, .func ⟨x,q,(dA s), .stmts (dB s),(dS s),3,[], .none, .none, .none,m,none, .ref c, .none,0⟩, #[]⟩
abbrev m0:Value:= .str "chanceduel.parts" 341
abbrev m1:Value:= .str "chanceduel.places" 395
abbrev m2:Value:= .str "chanceduel.floors" 453
abbrev m3:Value:= .str "chanceduel.rows" 606
abbrev m4:Value:= .str "chanceduel.plans" 682
abbrev m5:Value:= .str "chanceduel.answers" 773
abbrev m6:Value:= .str "chanceduel.mending" 798
abbrev m7:Value:= .str "law_chanceduel_k32_worths_of_rounds" 823
noncomputable def K:Params->Frag:=λP=>
(nat_lit 2,⟨.none,none,(.dict #[] 0), #[]⟩)::
(nat_lit 3,⟨(.type "dict"),none,(.dict #[(en P "__name__" 165 m7),(en P "__doc__" 166 .none),(en P "__package__" 167 .none),(en P "__loader__" 168 (.builtin "__main__.__loader__#opaque")),(en P "__spec__" 169 .none),(en P "__annotations__" 170 (.ref 6)),(en P "__builtins__" 171 (.ref 4)),(en P "__file__" 173 (.str "/claim/cut.py" 172)),(en P "__cached__" 174 .none),(en P "DuelError" 206 (.ref 24)),(en P "NoNumber" 222 (.ref 37)),(en P "NoFloor" 238 (.ref 49)),(en P "NoPlace" 263 (.ref 68)),(en P "NoAnswer" 288 (.ref 87)),(en P "ManyAnswers" 315 (.ref 106)),(en P "NoPlan" 340 (.ref 125)),(en P "common_divisor" 353 (.ref 134)),(en P "fraction" 362 (.ref 141)),(en P "plus" 370 (.ref 148)),(en P "minus" 378 (.ref 155)),(en P "times" 386 (.ref 162)),(en P "under" 394 (.ref 169)),(en P "HANDS" 399 (.ref 170)),(en P "MOST_DOORS" 401 (.int 6 400)),(en P "MOST_BOTTOM" 403 (.int 1000000 402)),(en P "fits_pay" 410 (.ref 177)),(en P "fits_door" 418 (.ref 184)),(en P "common_bottom" 427 (.ref 191)),(en P "fits_chances" 433 (.ref 196)),(en P "fits_doors" 439 (.ref 201)),(en P "fits_row" 445 (.ref 206)),(en P "copied_row" 452 (.ref 213)),(en P "MOST_PLACES" 456 (.int 12 455)),(en P "MOST_SHARE_BOTTOM" 458 (.int 1000 457)),(en P "TURNED_KINDS" 468 (.ref 214)),(en P "fits_share" 475 (.ref 221)),(en P "weighed" 486 (.ref 228)),(en P "greatest" 495 (.ref 235)),(en P "least" 504 (.ref 242)),(en P "Floor" 605 (.ref 319)),(en P "with_weights" 618 (.ref 330)),(en P "number_of_head" 628 (.ref 337)),(en P "moved_ahead" 637 (.ref 344)),(en P "cleared_line" 643 (.ref 349)),(en P "cleared" 649 (.ref 354)),(en P "quotients" 662 (.ref 361)),(en P "still_of" 668 (.ref 366)),(en P "answer_of" 681 (.ref 373)),(en P "places_of" 689 (.ref 378)),(en P "first_plan" 699 (.ref 385)),(en P "has_door" 708 (.ref 392)),(en P "doors_of" 719 (.ref 399)),(en P "better_doors" 731 (.ref 406)),(en P "ways_from" 741 (.ref 413)),(en P "whole_row" 747 (.ref 418)),(en P "led_row" 760 (.ref 425)),(en P "row_of" 766 (.ref 430)),(en P "worths_by" 772 (.ref 435)),(en P "worths_against" 784 (.ref 442)),(en P "against" 797 (.ref 449)),(en P "started" 808 (.ref 456)),(en P "mended" 822 (.ref 464)),(en P "_law_at" 834 (.ref 471)),(en P "_law_stream" 845 (.ref 478)),(en P "_law_lowest" 855 (.ref 485)),(en P "_law_pay" 864 (.ref 492)),(en P "_law_doors" 870 (.ref 497)),(en P "_law_by_digits" 877 (.ref 504)),(en P "_law_things" 890 (.ref 511)),(en P "_law_share_of" 900 (.ref 518)),(en P "_law_floor" 920 (.ref 525)),(en P "_law_copy" 926 (.ref 530)),(en P "_law_plan" 942 (.ref 537)),(en P "_law_less" 950 (.ref 544)),(en P "_law_shown" 961 (.ref 551)),(en P "_law_due" 967 (.ref 556)),(en P "_law_whole" 974 (.ref 563)),(en P "_law_table" 983 (.ref 570)),(en P "_law_plan_told" 989 (.ref 575)),(en P "_law_rounds_told" 999 (.ref 582)),(en P "_law_meets" 1011 (.ref 589)),(en P "_law_held" 1023 (.ref 596)),(en P "_law_between" 1039 (.ref 603)),(en P "law" 1045 (.ref 608))] 84), #[]⟩)::
(nat_lit 133,cO "common_divisor" "common_divisor" 343 30 2 3 128 351)::
(nat_lit 134,fO "common_divisor" "common_divisor" (at_ 9) m0 133)::
(nat_lit 140,cO "fraction" "fraction" 354 38 2 3 135 360)::
(nat_lit 141,fO "fraction" "fraction" (at_ 10) m0 140)::
(nat_lit 147,cO "plus" "plus" 363 45 2 3 142 368)::
(nat_lit 148,fO "plus" "plus" (at_ 11) m0 147)::
(nat_lit 154,cO "minus" "minus" 371 47 2 3 149 376)::
(nat_lit 155,fO "minus" "minus" (at_ 12) m0 154)::
(nat_lit 161,cO "times" "times" 379 49 2 3 156 384)::
(nat_lit 162,fO "times" "times" (at_ 13) m0 161)::
(nat_lit 168,cO "under" "under" 387 51 2 3 163 392)::
(nat_lit 169,fO "under" "under" (at_ 14) m0 168)::
(nat_lit 170,⟨(.type "tuple"),none,(.seq #[(.str "one" 397),(.str "other" 398)] 0), #[]⟩)::
(nat_lit 176,cO "fits_pay" "fits_pay" 404 57 1 3 171 408)::
(nat_lit 177,fO "fits_pay" "fits_pay" (at_ 19) m1 176)::
(nat_lit 183,cO "fits_door" "fits_door" 411 59 2 3 178 416)::
(nat_lit 184,fO "fits_door" "fits_door" (at_ 20) m1 183)::
(nat_lit 190,cO "common_bottom" "common_bottom" 419 61 1 3 185 425)::
(nat_lit 191,fO "common_bottom" "common_bottom" (at_ 21) m1 190)::
(nat_lit 195,dO "fits_chances" "fits_chances" 428 66 1 3 192 431)::
(nat_lit 196,fO "fits_chances" "fits_chances" (at_ 22) m1 195)::
(nat_lit 200,dO "fits_doors" "fits_doors" 434 72 2 3 197 437)::
(nat_lit 201,fO "fits_doors" "fits_doors" (at_ 23) m1 200)::
(nat_lit 205,dO "fits_row" "fits_row" 440 76 2 3 202 443)::
(nat_lit 206,fO "fits_row" "fits_row" (at_ 24) m1 205)::
(nat_lit 212,cO "copied_row" "copied_row" 446 85 1 3 207 450)::
(nat_lit 213,fO "copied_row" "copied_row" (at_ 25) m1 212)::
(nat_lit 214,⟨(.type "dict"),none,(.dict #[(en P "one" 459 (.str "other" 460)),(en P "other" 461 (.str "one" 462)),(en P "chance" 463 (.str "chance" 464))] 3), #[]⟩)::
(nat_lit 220,cO "fits_share" "fits_share" 469 93 1 3 215 473)::
(nat_lit 221,fO "fits_share" "fits_share" (at_ 30) m2 220)::
(nat_lit 227,cO "weighed" "weighed" 476 95 2 3 222 484)::
(nat_lit 228,fO "weighed" "weighed" (at_ 31) m2 227)::
(nat_lit 234,cO "greatest" "greatest" 487 100 1 3 229 493)::
(nat_lit 235,fO "greatest" "greatest" (at_ 32) m2 234)::
(nat_lit 241,cO "least" "least" 496 106 1 3 236 502)::
(nat_lit 242,fO "least" "least" (at_ 33) m2 241)::
(nat_lit 253,dO "__init__" "Floor.__init__" 517 114 3 3 250 520)::
(nat_lit 254,fO "__init__" "Floor.__init__" (Nn (at_ 34) 0) m2 253)::
(nat_lit 260,cO "size" "Floor.size" 523 125 1 3 255 527)::
(nat_lit 261,fO "size" "Floor.size" (Nn (at_ 34) 1) m2 260)::
(nat_lit 267,cO "share" "Floor.share" 530 128 1 3 262 534)::
(nat_lit 268,fO "share" "Floor.share" (Nn (at_ 34) 2) m2 267)::
(nat_lit 274,cO "kind" "Floor.kind" 537 131 2 3 269 542)::
(nat_lit 275,fO "kind" "Floor.kind" (Nn (at_ 34) 3) m2 274)::
(nat_lit 281,cO "doors" "Floor.doors" 545 134 2 3 276 550)::
(nat_lit 282,fO "doors" "Floor.doors" (Nn (at_ 34) 4) m2 281)::
(nat_lit 288,cO "pay" "Floor.pay" 553 139 2 3 283 558)::
(nat_lit 289,fO "pay" "Floor.pay" (Nn (at_ 34) 5) m2 288)::
(nat_lit 300,cO "shown" "Floor.shown" 567 147 4 3 295 575)::
(nat_lit 301,fO "shown" "Floor.shown" (Nn (at_ 34) 7) m2 300)::
(nat_lit 305,dO "all_shown" "Floor.all_shown" 578 151 3 3 302 581)::
(nat_lit 306,fO "all_shown" "Floor.all_shown" (Nn (at_ 34) 8) m2 305)::
(nat_lit 310,dO "look" "Floor.look" 584 154 3 3 307 587)::
(nat_lit 311,fO "look" "Floor.look" (Nn (at_ 34) 9) m2 310)::
(nat_lit 315,dO "best" "Floor.best" 590 164 3 3 312 593)::
(nat_lit 316,fO "best" "Floor.best" (Nn (at_ 34) 10) m2 315)::
(nat_lit 318,⟨(.type "dict"),none,(.dict #[(en P "__module__" 512 m2),(en P "__firstlineno__" 516 (.int 112 515)),(en P "__init__" 522 (.ref 254)),(en P "size" 529 (.ref 261)),(en P "share" 536 (.ref 268)),(en P "kind" 544 (.ref 275)),(en P "doors" 552 (.ref 282)),(en P "pay" 560 (.ref 289)),(en P "rows" 566 (.ref 294)),(en P "shown" 577 (.ref 301)),(en P "all_shown" 583 (.ref 306)),(en P "look" 589 (.ref 311)),(en P "best" 595 (.ref 316)),(en P "__static_attributes__" 598 (.ref 317)),(en P "__dict__" 600 (.ref 320)),(en P "__weakref__" 602 (.ref 321)),(en P "__doc__" 603 .none)] 4), #[]⟩)::
(nat_lit 319,⟨(.type "type"),none,(.cls ⟨"Floor",[(.type "object")],[(.ref 319),(.type "object")],318,"Floor",true,[],[],false,none,false⟩), #[none,none,(some (.str "Floor" 505)),(some (.str "Floor" 513)),(some (.builtin "object.__new__")),(some (.bool true))]⟩)::
(nat_lit 329,cO "with_weights" "with_weights" 608 170 1 3 324 616)::
(nat_lit 330,fO "with_weights" "with_weights" (at_ 36) m3 329)::
(nat_lit 336,cO "number_of_head" "number_of_head" 619 177 3 3 331 626)::
(nat_lit 337,fO "number_of_head" "number_of_head" (at_ 37) m3 336)::
(nat_lit 343,cO "moved_ahead" "moved_ahead" 629 182 3 3 338 635)::
(nat_lit 344,fO "moved_ahead" "moved_ahead" (at_ 38) m3 343)::
(nat_lit 348,dO "cleared_line" "cleared_line" 638 184 4 3 345 641)::
(nat_lit 349,fO "cleared_line" "cleared_line" (at_ 39) m3 348)::
(nat_lit 353,dO "cleared" "cleared" 644 186 2 3 350 647)::
(nat_lit 354,fO "cleared" "cleared" (at_ 40) m3 353)::
(nat_lit 360,cO "quotients" "quotients" 650 203 4 3 355 660)::
(nat_lit 361,fO "quotients" "quotients" (at_ 41) m3 360)::
(nat_lit 372,cO "answer_of" "answer_of" 669 213 1 3 367 679)::
(nat_lit 373,fO "answer_of" "answer_of" (at_ 43) m3 372)::
(nat_lit 377,dO "places_of" "places_of" 684 226 2 3 374 687)::
(nat_lit 378,fO "places_of" "places_of" (at_ 45) m4 377)::
(nat_lit 384,cO "first_plan" "first_plan" 690 228 2 3 379 697)::
(nat_lit 385,fO "first_plan" "first_plan" (at_ 46) m4 384)::
(nat_lit 391,cO "has_door" "has_door" 700 233 3 3 386 706)::
(nat_lit 392,fO "has_door" "has_door" (at_ 47) m4 391)::
(nat_lit 398,cO "doors_of" "doors_of" 709 235 2 3 393 717)::
(nat_lit 399,fO "doors_of" "doors_of" (at_ 48) m4 398)::
(nat_lit 405,cO "better_doors" "better_doors" 720 245 3 3 400 729)::
(nat_lit 406,fO "better_doors" "better_doors" (at_ 49) m4 405)::
(nat_lit 412,cO "ways_from" "ways_from" 732 252 3 3 407 739)::
(nat_lit 413,fO "ways_from" "ways_from" (at_ 50) m4 412)::
(nat_lit 417,dO "whole_row" "whole_row" 742 257 1 3 414 745)::
(nat_lit 418,fO "whole_row" "whole_row" (at_ 51) m4 417)::
(nat_lit 424,cO "led_row" "led_row" 748 260 5 3 419 758)::
(nat_lit 425,fO "led_row" "led_row" (at_ 52) m4 424)::
(nat_lit 429,dO "row_of" "row_of" 761 266 3 3 426 764)::
(nat_lit 430,fO "row_of" "row_of" (at_ 53) m4 429)::
(nat_lit 434,dO "worths_by" "worths_by" 767 272 2 3 431 770)::
(nat_lit 435,fO "worths_by" "worths_by" (at_ 54) m4 434)::
(nat_lit 441,cO "worths_against" "worths_against" 775 275 3 3 436 782)::
(nat_lit 442,fO "worths_against" "worths_against" (at_ 56) m5 441)::
(nat_lit 448,cO "against" "against" 785 279 3 3 443 795)::
(nat_lit 449,fO "against" "against" (at_ 57) m5 448)::
(nat_lit 455,cO "started" "started" 800 290 3 3 450 806)::
(nat_lit 456,fO "started" "started" (at_ 59) m6 455)::
(nat_lit 457,⟨(.type "tuple"),none,(.seq #[(.str "one" 809), .none] 0), #[]⟩)::
(nat_lit 463,cO "mended" "mended" 810 294 3 3 458 820)::
(nat_lit 464,⟨(.type "function"),none,(.func ⟨"mended","mended",(dA (at_ 60)),(.stmts (dB (at_ 60))),(dS (at_ 60)),3,[],(.ref 457), .none, .none,m6,none,(.ref 463), .none,0⟩), #[]⟩)::
(nat_lit 470,cO "_law_at" "_law_at" 825 305 2 3 465 832)::
(nat_lit 471,fO "_law_at" "_law_at" (at_ 62) m7 470)::
(nat_lit 477,cO "_law_stream" "_law_stream" 835 312 2 3 472 843)::
(nat_lit 478,fO "_law_stream" "_law_stream" (at_ 63) m7 477)::
(nat_lit 484,cO "_law_lowest" "_law_lowest" 846 319 2 3 479 853)::
(nat_lit 485,fO "_law_lowest" "_law_lowest" (at_ 64) m7 484)::
(nat_lit 491,cO "_law_pay" "_law_pay" 856 324 2 3 486 862)::
(nat_lit 492,fO "_law_pay" "_law_pay" (at_ 65) m7 491)::
(nat_lit 496,dO "_law_doors" "_law_doors" 865 329 4 3 493 868)::
(nat_lit 497,fO "_law_doors" "_law_doors" (at_ 66) m7 496)::
(nat_lit 503,cO "_law_by_digits" "_law_by_digits" 871 338 1 3 498 875)::
(nat_lit 504,fO "_law_by_digits" "_law_by_digits" (at_ 67) m7 503)::
(nat_lit 510,cO "_law_things" "_law_things" 878 340 4 3 505 888)::
(nat_lit 511,fO "_law_things" "_law_things" (at_ 68) m7 510)::
(nat_lit 517,cO "_law_share_of" "_law_share_of" 891 349 2 3 512 898)::
(nat_lit 518,fO "_law_share_of" "_law_share_of" (at_ 69) m7 517)::
(nat_lit 524,cO "_law_floor" "_law_floor" 901 353 1 3 519 918)::
(nat_lit 525,fO "_law_floor" "_law_floor" (at_ 70) m7 524)::
(nat_lit 529,dO "_law_copy" "_law_copy" 921 375 1 3 526 924)::
(nat_lit 530,fO "_law_copy" "_law_copy" (at_ 71) m7 529)::
(nat_lit 536,cO "_law_plan" "_law_plan" 927 377 4 3 531 940)::
(nat_lit 537,fO "_law_plan" "_law_plan" (at_ 72) m7 536)::
(nat_lit 543,cO "_law_less" "_law_less" 943 388 2 3 538 948)::
(nat_lit 544,fO "_law_less" "_law_less" (at_ 73) m7 543)::
(nat_lit 550,cO "_law_shown" "_law_shown" 951 390 3 3 545 959)::
(nat_lit 551,fO "_law_shown" "_law_shown" (at_ 74) m7 550)::
(nat_lit 555,dO "_law_due" "_law_due" 962 394 4 3 552 965)::
(nat_lit 556,fO "_law_due" "_law_due" (at_ 75) m7 555)::
(nat_lit 562,cO "_law_whole" "_law_whole" 968 413 1 3 557 972)::
(nat_lit 563,fO "_law_whole" "_law_whole" (at_ 76) m7 562)::
(nat_lit 569,cO "_law_table" "_law_table" 975 415 2 3 564 981)::
(nat_lit 570,fO "_law_table" "_law_table" (at_ 77) m7 569)::
(nat_lit 574,dO "_law_plan_told" "_law_plan_told" 984 424 3 3 571 987)::
(nat_lit 575,fO "_law_plan_told" "_law_plan_told" (at_ 78) m7 574)::
(nat_lit 581,cO "_law_rounds_told" "_law_rounds_told" 990 432 3 3 576 997)::
(nat_lit 582,fO "_law_rounds_told" "_law_rounds_told" (at_ 79) m7 581)::
(nat_lit 588,cO "_law_meets" "_law_meets" 1000 443 4 3 583 1009)::
(nat_lit 589,fO "_law_meets" "_law_meets" (at_ 80) m7 588)::
(nat_lit 595,cO "_law_held" "_law_held" 1012 449 4 3 590 1021)::
(nat_lit 596,fO "_law_held" "_law_held" (at_ 81) m7 595)::
(nat_lit 602,cO "_law_between" "_law_between" 1024 454 6 3 597 1037)::
(nat_lit 603,fO "_law_between" "_law_between" (at_ 82) m7 602)::
(nat_lit 607,dO "law" "law" 1040 460 1 3 604 1043)::
(nat_lit 608,fO "law" "law" (at_ 83) m7 607)::[]
noncomputable abbrev H:Hook:=kHook K [2,3,133,134,140,141,147,148,154,155,161,162,168,169,170,176,177,183,184,190,191,195,196,200,201,205,206,212,213,214,220,221,227,228,234,235,241,242,253,254,260,261,267,268,274,275,281,282,288,289,300,301,305,306,310,311,315,316,318,319,329,330,336,337,343,344,348,349,353,354,360,361,372,373,377,378,384,385,391,392,398,399,405,406,412,413,417,418,424,425,429,430,434,435,441,442,448,449,455,456,457,463,464,470,471,477,478,484,485,491,492,496,497,503,504,510,511,517,518,524,525,529,530,536,537,543,544,550,551,555,556,562,563,569,570,574,575,581,582,588,589,595,596,602,603,607,608] (λ_=>by kernel_rfl)
abbrev Xt:Shared->Bool:=λs=>xlAt q [] s&&recOk (RowW.records row.toRowW) s
theorem acn{A B C:Type}{o:Option C}{f:C->A}{g:C->B}{a:A}{b:B}(h:o.map f=some a)(k:o.map g=some b):o.map (λs=>(f s,g s))=some (a,b):=by
  cases o with
  | none=>exact nomatch h
  | some c=>injection h with h;injection k with k;subst h;subst k;rfl
section
variable{A B C D E F G X:Type}{o:Option X}{f:X->A×B×C×D×E×F×G}{t:A×B×C×D×E×F×G}
def p1:A×B×C×D×E×F×G->A
  | (a,_,_,_,_,_,_)=>a
def p2:A×B×C×D×E×F×G->B×C
  | (_,b,c,_,_,_,_)=>(b,c)
def p3:A×B×C×D×E×F×G->D
  | (_,_,_,d,_,_,_)=>d
def p5:A×B×C×D×E×F×G->E
  | (_,_,_,_,e,_,_)=>e
def p6:A×B×C×D×E×F×G->F
  | (_,_,_,_,_,f,_)=>f
def p4:A×B×C×D×E×F×G->G
  | (_,_,_,_,_,_,g)=>g
theorem pr(h:o.map (λx=>p1 (f x))=some t.1)(g:o.map (λx=>p2 (f x))=some (t.2.1,t.2.2.1))(k:o.map (λx=>p3 (f x))=some t.2.2.2.1)(k1:o.map (λx=>p5 (f x))=some t.2.2.2.2.1)(k2:o.map (λx=>p6 (f x))=some t.2.2.2.2.2.1)(l:o.map (λx=>p4 (f x))=some t.2.2.2.2.2.2):o.map f=some t:=by
  cases o with
  | none=>exact nomatch h
  | some x=>
    replace h:p1 (f x)=t.1:=aaI h;replace g:p2 (f x)=(t.2.1,t.2.2.1):=aaI g;replace k:p3 (f x)=t.2.2.2.1:=aaI k;replace k1:p5 (f x)=t.2.2.2.2.1:=aaI k1;replace k2:p6 (f x)=t.2.2.2.2.2.1:=aaI k2;replace l:p4 (f x)=t.2.2.2.2.2.2:=aaI l;show some (f x)=some t;revert h g k k1 k2 l;generalize f x=u;obtain ⟨a,b,c,d,e,f',y⟩:=u;obtain ⟨a',b',c',d',e',f'',y'⟩:=t;intro h g k k1 k2 l;cases (h:a=a');cases (g:(b,c)=(b',c'));cases (k:d=d');cases (k1:e=e');cases (k2:f'=f'');cases (l:y=y');rfl
end
def Yo{A B:Type}(o:Option A)(c:A->Bool)(T:A->Option B):Option (A×B):=o.bind λa=>match c a with
  | true=>(T a).map λb=>(a,b)
  | false=>none
def Yq {A B:Type} (o:Option A) (c:A->Bool) (T:A->Option B) (k:A->B->Bool):Option B:=o.bind λa=>match c a with
  | true=>(T a).bind λb=>match k a b with
    | true=>some b
    | false=>none
  | false=>none
theorem bnd {A B C:Type} {o:Option A} {c:A->Bool} {T:A->Option B} {k:A->B->Bool} {g:B->C} {v:C} (h:(Yo o c T).map (λx=>k x.1 x.2)=some true) (l:(Yo o c T).map (λx=>g x.2)=some v):(Yq o c T k).map g=some v:=by
  unfold Yo at h l;unfold Yq;cases o with
  | none=>exact nomatch h
  | some a=>
    dsimp only [Option.bind] at h l⊢;cases hc:c a with
    | false=>rw [hc] at h;exact nomatch h
    | true=>
      rw [hc] at h l;dsimp only at h l⊢;cases hT:T a with
      | none=>rw [hT] at h;exact nomatch h
      | some b=>
        rw [hT] at h l;injection h with h;injection l with l
        dsimp only [Option.bind];rw [show k a b=true from h];exact abI some l
noncomputable abbrev oA(p:Program)(w:World)(N:Nat):Option Shared:=(Fast.tw10274390034422433532 Fast.tw14364793385576792824 (opening p) w N (Fast.tw1435165496053646825 (opening p)).1 (Fast.tw1435165496053646825 (opening p)).2).bind (fenceModules? p)
abbrev cA(s:Shared):Bool:=s.heap.isNs mainGlobals&&s.gens.size==0
noncomputable abbrev tA(p:Program)(w:World)(N:Nat)(s₀:Shared):Option Shared:=Fast.tw14082659384304107361 Fast.tw14364793385576792824 p w s₀.heap.objs.size (s₀.heap.nsMap mainGlobals "__annotations__") N s₀ (topStub p)
abbrev kA(p:Program)(s₀ s₁:Shared):Bool:=staticsOk (importedModules p.main.body) s₀.heap s₁.heap&&namesBound p s₁.heap&&gensDone s₁&&laidKept s₀.heap s₁.heap
theorem oe(p:Program)(w:World)(N:Nat):openEnds treeTable p w N=Yq (oA p w N) cA (tA p w N) (kA p):=by unfold openEnds fencedOpening topFrom Yq oA tA;rewrite [Fast.te14082659384304107361,Fast.te14364793385576792824,Fast.te10274390034422433532,Fast.te1435165496053646825];rfl
noncomputable abbrev go(w:World):=Yo (oA row.prog w 8490) cA (tA row.prog w 8490)
abbrev gd:=openGood q ["TURNED_KINDS","mended"]
noncomputable abbrev sn(x:Shared×Shared):=Fast.tw4187177175401517315 q ["TURNED_KINDS","mended"] (importedModules row.prog.main.body) Xt true x.2
abbrev Lf(w:World):Prop:=(openEnds treeTable row.prog w 8490).map (λs=>(openSeen q ["TURNED_KINDS","mended"] (importedModules row.prog.main.body) Xt true s,H.obs s))=some (openGood q ["TURNED_KINDS","mended"],H.val w)
theorem mS{α β γ}{o:Option α}{f:α->β}{g:α->γ}{a b}(h:o.map (λx=>(f x,g x))=some (a,b)):o.map f=some a∧o.map g=some b:=by cases o<;>simp_all
theorem lf{w:World}(la:(go w).map (λx=>p1 (sn x))=some gd.1)(lc:(go w).map (λx=>p3 (sn x))=some gd.2.2.2.1)(lg:(go w).map (λx=>p6 (sn x))=some gd.2.2.2.2.2.1)(h:(go w).map (λx=>(p2 (sn x),p5 (sn x),p4 (sn x)))=some ((gd.2.1,gd.2.2.1),gd.2.2.2.2.1,gd.2.2.2.2.2.2))(u:(go w).map (λx=>(kA row.prog x.1 x.2,H.obs x.2))=some (true,(H.val w))):Lf w:=acn (by
    rewrite [oe,Fast.te4187177175401517315]
    exact bnd (mS u).1 (pr la (mS h).1 lc (mS (mS h).2).1 lg (mS (mS h).2).2)) (by
    rewrite [oe]
    exact bnd (mS u).1 (mS u).2)
theorem la0(w:World):(go (w.withFollow "special-get-raises" false)).map (λx=>p1 (sn x))=some gd.1:=by kernel_rfl
theorem lc0(w:World):(go (w.withFollow "special-get-raises" false)).map (λx=>p3 (sn x))=some gd.2.2.2.1:=by kernel_rfl
theorem lg0(w:World):(go (w.withFollow "special-get-raises" false)).map (λx=>p6 (sn x))=some gd.2.2.2.2.2.1:=by kernel_rfl
theorem lh0(w:World):(go (w.withFollow "special-get-raises" false)).map (λx=>(p2 (sn x),p5 (sn x),p4 (sn x)))=some ((gd.2.1,gd.2.2.1),gd.2.2.2.2.1,gd.2.2.2.2.2.2):=by kernel_rfl
theorem lo0(w:World):(go (w.withFollow "special-get-raises" false)).map (λx=>(kA row.prog x.1 x.2,H.obs x.2))=some (true,(H.val (w.withFollow "special-get-raises" false))):=by kernel_rfl
theorem la1(w:World):(go (w.withFollow "special-get-raises" true)).map (λx=>p1 (sn x))=some gd.1:=by kernel_rfl
theorem lc1(w:World):(go (w.withFollow "special-get-raises" true)).map (λx=>p3 (sn x))=some gd.2.2.2.1:=by kernel_rfl
theorem lg1(w:World):(go (w.withFollow "special-get-raises" true)).map (λx=>p6 (sn x))=some gd.2.2.2.2.2.1:=by kernel_rfl
theorem lh1(w:World):(go (w.withFollow "special-get-raises" true)).map (λx=>(p2 (sn x),p5 (sn x),p4 (sn x)))=some ((gd.2.1,gd.2.2.1),gd.2.2.2.2.1,gd.2.2.2.2.2.2):=by kernel_rfl
theorem lo1(w:World):(go (w.withFollow "special-get-raises" true)).map (λx=>(kA row.prog x.1 x.2,H.obs x.2))=some (true,(H.val (w.withFollow "special-get-raises" true))):=by kernel_rfl
theorem left:LeftO row.prog q ["TURNED_KINDS","mended"] Xt H.obs H.val 8490:=byRow2 "special-get-raises" (P:=Lf) (λw=>lf (la0 w) (lc0 w) (lg0 w) (lh0 w) (lo0 w)) (λw=>lf (la1 w) (lc1 w) (lg1 w) (lh1 w) (lo1 w))
end Hd
local macro_rules|`(())=>`(by omega)
local macro_rules|`(@_)=>`(by decide)
open Lean in
def rpt:Nat → Term → MacroM (TSyntax `rcasesPat)
|0,_=>Macro.throwUnsupported
|n+1,t=>match t with
|`(($c,$d,*))=>do rpt n (←`(⟨$c,$d,*⟩))
|`(⟨$a,*⟩)=>do
 let b←a.getElems.mapM (rpt n)
 let b←b.mapM λp=>`(Lean.Parser.Tactic.rcasesPatLo|$p:rcasesPat)
 `(rcasesPat|⟨$b,*⟩)
|`(_)=>`(rcasesPat|_)
|`($x:ident)=>`(rcasesPat|$x:ident)
|_=>Macro.throwUnsupported
open Lean in
local macro_rules|`(tactic|have ⟨$a,*⟩:=$e)=>do
 let p←rpt 99 (←`(⟨$a,*⟩))
 `(tactic|obtain $p:rcasesPat:=$e)
open Lean in
local macro_rules|`(λ$xs*=>$b)=>do
 let mut ys:=#[]
 let mut ts:=#[]
 if (←MonadRef.getRef)[0].isToken "fun" then Macro.throwUnsupported
 for x in xs do
  if x.1.isOfKind `Lean.Parser.Term.anonymousCtor||x.1.isOfKind `Lean.Parser.Term.tuple then
   let p←rpt 99 ⟨x.1⟩
   let y←withFreshMacroScope `(h)
   ys:=ys.push y
   ts:=ts.push (←`(tactic|obtain $p:rcasesPat:=$y))
  else ys:=ys.push ⟨x.1⟩
 if ts.isEmpty then Macro.throwUnsupported
 `(λ$ys*=>by{$[$ts]*;exact $b})
set_option hygiene false in
local macro_rules|`($g &&& ($F,$a,$n))=>`(mc $g (($F).binds λ_ _ _ _ _ _=>$n) (mg_of X G $a) ($F).kp)
set_option hygiene false in
local macro_rules|`($g ||| ($F,$a,$i,$n))=>`(⟨$g,(($F).binds λ_ _ _ _ _ _=>$n),⟨gs,gF,gz,gG⟩,⟨$a,$i,($F).kp⟩⟩)
set_option genSizeOf false
set_option bootstrap.genMatcherCode false
noncomputable def PySem.W.Fast.tw1333634583831630318:=PySem.Challenge.pw_chanceduel_k32_worths_of_rounds
theorem PySem.W.Fast.te1333634583831630318:PySem.Challenge.pw_chanceduel_k32_worths_of_rounds=PySem.W.Fast.tw1333634583831630318:=rfl
noncomputable section
open Lean in
def og(t:Syntax):MacroM Unit:=match t.getHeadInfo with
|.original _ _ t _=>if t.bsize>0 then Macro.throwUnsupported else pure .unit
|_=>Macro.throwUnsupported
open Lean in
def oh(t:Syntax):MacroM Unit:=match t.getHeadInfo with
|.original _ _ t _=>if t.bsize>1 then Macro.throwUnsupported else pure .unit
|_=>Macro.throwUnsupported
local macro_rules|`(($a,%$t$b,*))=>do og t;`(⟨$a,$b,*⟩)
def xu(h:True:=by rfl):=h
def xv(h:True:=by decide):=h
def xw(h:True:=by intro _;rfl):=h
def xx(h:True:=by first| exact .inl rfl| exact .inr rfl| assumption):=h
def xy(h:True:=by first| exact PassesOwn.never| exact PassesOwn.leaving):=h
local macro_rules|`($a|>1)=>`(autoParam $a xu._auto_1)|`($a|>2)=>`(autoParam $a xv._auto_1)|`($a|>3)=>`(autoParam $a xw._auto_1)|`($a|>4)=>`(autoParam $a xx._auto_1)|`($a|>5)=>`(autoParam $a xy._auto_1)
local macro_rules|`(-%$t$a)=>do og t;`(($a).length)
local macro_rules|`(!%$t$a)=>do og t;`(some $a)
local macro_rules|`(tactic|show%$t $e)=>do oh t;`(tactic|refine $e)
local macro_rules|`(tactic|let%$t $e:letDecl)=>do oh t;`(tactic|have $e:letDecl)
open Lean in
local macro_rules|`(tactic|let ($a,$b,*):=$e)=>do
 let p←rpt 99 (←`(⟨$a,$b,*⟩))
 `(tactic|obtain $p:rcasesPat:=$e)
def gV:2<=PySem.sizeLine:=@_
abbrev fI:=PySem.W.Frag
set_option tactic.hygienic false
set_option genInjectivity false
namespace L2
open PySem PySem.Spec PyProof.Rows
variable{us:List Value}{a b dx C:Addr}{P prog:Program}{w:World}{h h' base:Heap}{η:List (Addr×Obj)}{s:Shared}{g':Array GenState}{ch fp:List Addr}{i:Nat}{x:Str}{M:Model}{A:Around}{E Q:Value->Shared->Prop}{u:Value}{pos:Pos}{e c tg:Expr}{es:List Expr}{body:List Stmt}{f:Value->Value->Sem Value}{op:CmpOp}{mA mg:Str->Option Value}{kw:List (Str×Value)}{outer:List Env}{ps:List Str}
abbrev Key:=Sum Int Str
def xv:Key->Value->Bool
 | .inl k,v=>Value.isInt k v
 | .inr x,v=>Value.isStrOf x v
def Y_(w:World):Key->Int
 | .inl k=>hashInt k
 | .inr x=>hashStr w x
def bT:∀{k:Key} {v:Value},xv k v=true->(∃i t,k=Sum.inl i/\v=Value.int i t)\/(∃x t,k=Sum.inr x/\v=Value.str x t)
 | .inl i,v,h=>by let(t,e):=Value.isInt_shape (k:=i) (v:=v) h;show .inl (i,t,rfl,e)
 | .inr x,v,h=>by let(t,e):=Value.isStrOf_shape (x:=x) (v:=v) h;show .inr (x,t,rfl,e)
def HF(i:Int)(t:Tok):xv (.inl i) (.int i t)=true:=by simp[xv,Value.isInt]
def HV(x:Str)(t:Tok):xv (.inr x) (.str x t)=true:=by simp[xv,Value.isStrOf]
def T8(a b:Int):decide ((Sum.inl a:Key)=Sum.inl b)=(a==b):=by
 by_cases e:a=b
 .subst e;simp
 .let h:¬(Sum.inl a:Key)=Sum.inl b:=λq=>e (Sum.inl.inj q);rw[aa4 h];show(beq_eq_false_iff_ne.mpr e).symm
def RD(a b:Str):decide ((Sum.inr a:Key)=Sum.inr b)=decide (a=b):=by
 by_cases e:a=b
 .subst e;simp
 .let h:¬(Sum.inr a:Key)=Sum.inr b:=λq=>e (Sum.inr.inj q);rw[aa4 h,aa4 e]
def SD(a:Int)(b:Str):decide ((Sum.inl a:Key)=Sum.inr b)=false:=aa4 nofun
def Sk(a:Str)(b:Int):decide ((Sum.inr a:Key)=Sum.inl b)=false:=aa4 nofun
def bJ(prog:Program)(w:World):PySem.KeyKind prog w Key where
 is:=xv
 hash:=Y_ w
 inj:=λv a b ha hb=>by
  rcases bT ha with ⟨i,t,rfl,rfl⟩| ⟨x,t,rfl,rfl⟩
  .rcases bT hb with ⟨j,u,rfl,e⟩| ⟨y,u,rfl,e⟩
   .injection e with e1 _;rw[e1]
   .show nomatch e
  .rcases bT hb with ⟨j,u,rfl,e⟩| ⟨y,u,rfl,e⟩
   .show nomatch e
   .injection e with e1 _;rw[e1]
 byValue:=λk v h=>by rcases bT h with ⟨i,t,rfl,rfl⟩| ⟨x,t,rfl,rfl⟩ <;> rfl
 pyHash:=λhv h=>by
  rcases bT hv with ⟨i,t,rfl,rfl⟩| ⟨x,t,rfl,rfl⟩
  .show wpAny_pyHash_int h
  .show wpAny_pyHash_str h
 eqBool:=λhu hv h=>by
  rcases bT hu with ⟨i,t,rfl,rfl⟩| ⟨x,t,rfl,rfl⟩
  .rcases bT hv with ⟨j,u,rfl,rfl⟩| ⟨y,u,rfl,rfl⟩
   .rw[T8]at h;show wpAny_eqBool_int h
   .rw[SD]at h;show SeqAt.EqAt.int_str i t y u _ _ _ _ h
  .rcases bT hv with ⟨j,u,rfl,rfl⟩| ⟨y,u,rfl,rfl⟩
   .rw[Sk]at h;show SeqAt.EqAt.str_int x t j u _ _ _ _ h
   .rw[RD]at h;show wpAny_eqBool_str h
 «strs»:=λk x t v h=>by
  rcases bT h with ⟨i,u,rfl,e⟩| ⟨y,u,rfl,e⟩
  .show nomatch e
  .injection e with e1 _
   subst e1;cases v <;> rfl
def BU(prog:Program)(w:World)(i:Int)(t:Tok):(bJ prog w).is (.inl i) (.int i t)=true:=HF i t
def BE(prog:Program)(w:World)(x:Str)(t:Tok):(bJ prog w).is (.inr x) (.str x t)=true:=HV x t
set_option genInjectivity true in
inductive V where
 | bt| bl (b:Bool)| int (i:Int)| str (x:Str)| JH (b:Array UInt8)| Ss (b:UInt64)| ref (a:Addr)| ty (n:String)
 deriving DecidableEq
variable{v:V}
def az:V->Value->Prop
 | .bt,u=>u=Value.none
 | .bl b,u=>u=Value.bool b
 | .int i,u=>∃t,u=Value.int i t
 | .str x,u=>∃t,u=Value.str x t
 | .JH b,u=>∃t,u=Value.bytes b t
 | .Ss b,u=>∃t,u=Value.float b t
 | .ref a,u=>u=Value.ref a
 | .ty n,u=>u=Value.type n
abbrev aD:List V->List Value->Prop:=Paired az
def aD.length(r:aD xs us):-xs=-us:=Paired.length r
def aD.get:∀{xs:List V} {us:List Value} {i:Nat} {x:V},aD xs us->xs[i]? =!x->∃u,us[i]? =!u/\az x u
 | _,_,_,_,.nil,e=>by simp at e
 | _,_,0,_,.cons r _,e=>by simp at e;subst e;show(_,rfl,r)
 | _,_,i+1,x,.cons _ t,e=>by let(u,h1,h2):=aD.get (i:=i) (x:=x) t (by simpa using e);show(u,by simpa using h1,h2)
def aD.set{x:V}{u:Value}(r:az x u):∀{xs:List V} {us:List Value} (i:Nat),aD xs us->aD (xs.set i x) (us.set i u)
 | _,_,_,.nil=>.nil
 | _,_,0,.cons _ t=>.cons r t
 | _,_,i+1,.cons q t=>.cons q (aD.set r i t)
def aD.append:∀{xs ys:List V} {us ws:List Value},aD xs us->aD ys ws->aD (xs++ys) (us++ws)
 | _,_,_,_,.nil,s=>s
 | _,_,_,_,.cons r t,s=>.cons r (aD.append t s)
def aD.take:∀{xs:List V} {us:List Value} (n:Nat),aD xs us->aD (xs.take n) (us.take n)
 | _,_,0,_=>.nil
 | _,_,_+1,.nil=>.nil
 | _,_,n+1,.cons r t=>.cons r (aD.take n t)
def aD.drop:∀{xs:List V} {us:List Value} (n:Nat),aD xs us->aD (xs.drop n) (us.drop n)
 | _,_,0,r=>r
 | _,_,_+1,.nil=>.nil
 | _,_,n+1,.cons _ t=>aD.drop n t
def kB:Option V->Option Value->Prop
 | some v,!u=>az v u
 | none,none=>True
 | _,_=>False
def KV{κ:Type}:List (κ×V)->List (κ×Value)->Prop:=Paired λ(p:κ×V) (q:κ×Value)=>p.1=q.1/\az p.2 q.2
def kV:Key->V
 | .inl i=>.int i
 | .inr x=>.str x
inductive HO where
 | lst (xs:List V)
 | tup (xs:List V)
 | dK (Κ:List (Key×V))| dT (Κ:List (List Key×V))
 | set (S:Int->Bool) (n:Nat)
 | ins (C dx:Addr) (fs:List (Str×V))
 | own (x:Addr)
 | xd (fs:List (Str×V))
 | met (f x:Addr)
 | rng (lo hi:Int)
 | w4 (o:Obj) (u:HO)
 | Pr (ps:Array Value)
 | ext (φ:Heap->Prop)
variable{o:HO}
abbrev Hp:=Addr->Option HO
def upd(H:Hp)(a:Addr)(o:HO):Hp:=λb=>if b=a then !o else H b
def au{H:Hp}:upd H a o a=!o:=by unfold upd;rw[if_pos rfl]
def Ρ{H:Hp}(h:b≠a):upd H a o b=H b:=by unfold upd;rw[if_neg h]
def VE{H:Hp}{u:HO}(h:H a=!o)(h':H b=!u)(d:o≠u):a≠b:=by intro e;subst e;rw[h]at h';show d (aaI h')
def cy{H:Hp}(h:H a=!o)(h':H b=none):a≠b:=by intro e;subst e;rw[h]at h';cases h'
section
variable(P:Program)(w:World)
def cf(H:Hp)(h:Heap)(a:Addr):HO->Prop
 | .lst xs=>-xs<=sizeLine/\∃(its:List Value) (n:Nat),aD xs its/\h.get? a=some {cls:=.type "list",data:=.seq its.toArray n}
 | .tup xs=>-xs<=sizeLine/\∃its:List Value,aD xs its/\IsTup h a its.toArray
 | .dK Κ=>-Κ<=sizeLine/\(a==sysModules)=false/\∃vs,KV Κ vs/\h.DictOf (bJ P w) a vs
 | .dT Κ=>-Κ<=sizeLine/\(a==sysModules)=false/\∃xs:List (List Key×Addr×Value),
   Paired (λ(p:List Key×V) (q:List Key×Addr×Value)=>p.1=q.1/\H q.2.1=!(.tup (p.1.map kV))/\az p.2 q.2.2) Κ xs/\
   ∃o es ep,h.get? a=!o/\o.ExactDict/\o.data= .dict es ep/\es.toList=xs.map (entryOfKey (tupleKind (bJ P w)))/\(xs.map (·.1)).Nodup
 | .set S n=>h.SetOf (intKind P w) a S n
 | .ins C dx fs=>H dx=!(.own a)/\-fs<=1000/\dx≠a/\h.get? a=!(PySem.W.instObj C dx)/\
   ∃mA,h.Ns1 dx mA/\(∀f,kB (fs.lookup f) (mA f))/\PySem.Within mA (fs.map (·.1))
 | .own _=>∃o,h.get? a=!o
 | .xd fs=>∃mA,h.Ns1 a mA/\∀f,kB (fs.lookup f) (mA f)
 | .rng lo hi=>∃t u v,h.get? a=some {cls:=.type "range",data:=.fields #[.int lo t,.int hi u,.int 1 v]}
 | .w4 o u=>h.get? a=!o/\cf H h a u
 | .Pr ps=>h.get? a=some {cls:=.none,data:=.fields ps}
 | .met f x=>h.get? a=!(PySem.W.methodObj (.ref f) (.ref x))
 | .ext φ=>φ h/\(∃o,h.get? a=!o)/\∀h1 h2:Heap,φ h1->(∀o,h1.get? a=!o->h2.get? a=!o)->φ h2
def mN(H:Hp)(h:Heap):Prop:=∀a o,H a=!o->cf P w H h a o
end
section
variable{H H':Hp}
def cf.lt(x:cf P w H h a o):a < h.objs.size:=by
 cases o with
 | lst xs=>let(_,_,_,_,e):=x;show aaM e
 | tup xs=>let(_,_,_,p):=x;show p.lt
 | dK Κ=>let(_,_,_,_,o,_,_,e,_):=x;show aaM e
 | dT Κ=>let(_,_,_,_,o,_,_,e,_):=x;show aaM e
 | set S n=>let(o,_,_,_,e,_):=x;show aaM e
 | ins C dx fs=>let(_,_,_,e,_):=x;show aaM e
 | own y=>let(_,e):=x;show aaM e
 | xd fs=>let(_,(_,_,_,e,_),_):=x;show aaM e
 | rng lo hi=>let(_,_,_,e):=x;show aaM e
 | w4 ob u=>let(e,_):=x;show aaM e
 | Pr ps=>show aaM (show h.get? a=!_ from x)
 | met f y=>show aaM (show h.get? a=!_ from x)
 | ext φ=>have⟨_,⟨_,e⟩,_⟩:=x;show aaM e
def Paired.SF{α β:Type}{F G:α->β->Prop}:∀{l₁:List α} {l₂:List β},Paired F l₁ l₂->(∀a b,F a b->G a b)->Paired G l₁ l₂
 | _,_,.nil,_=>.nil
 | _,_,.cons r t,f=>.cons (f _ _ r) (Paired.SF t f)
def cf.Dq(x:cf P w H h a o)(k:∀b u,(b=a\/H b=!(.own a))->h.get? b=!u->h'.get? b=!u)
  (ho:∀b,H b=!(.own a)->H' b=!(.own a)) (ht:∀b xs,H b=!(.tup xs)->H' b=!(.tup xs)):cf P w H' h' a o:=by
 induction o with
 | lst xs=>let(z,its,n,r,e):=x;show(z,its,n,r,k _ _ (.inl rfl) e)
 | tup xs=>let(z,its,r,ob,e,c):=x;show(z,its,r,ob,k _ _ (.inl rfl) e,c)
 | dK Κ=>let(z,y,vs,r,ob,es,ep,e,c):=x;show(z,y,vs,r,ob,es,ep,k _ _ (.inl rfl) e,c)
 | dT Κ=>
  let(z,y,xs,r,ob,es,ep,e,c):=x;show(z,y,xs,Paired.SF r λp q z=>(z.1,ht _ _ z.2.1,z.2.2),ob,es,ep,k _ _ (.inl rfl) e,c)
 | set S n=>let(ob,es,ep,t,e,c):=x;show(ob,es,ep,t,k _ _ (.inl rfl) e,c)
 | ins C dx fs=>
  let(d,z,ne,e,mA,(od,es,ep,e2,c),r):=x;show(ho _ d,z,ne,k _ _ (.inl rfl) e,mA,(od,es,ep,k _ _ (.inr d) e2,c),r)
 | own y=>let(ob,e):=x;show(ob,k _ _ (.inl rfl) e)
 | xd fs=>let(mA,(od,es,ep,e,c),r):=x;show(mA,(od,es,ep,k _ _ (.inl rfl) e,c),r)
 | rng lo hi=>let(t,u,v,e):=x;show(t,u,v,k _ _ (.inl rfl) e)
 | w4 ob u ih=>let(e,q):=x;show(k _ _ (.inl rfl) e,ih q)
 | Pr ps=>
  let e:h.get? a=some {cls:=.none,data:=.fields ps}:=x;change h'.get? a=some {cls:=.none,data:=.fields ps};show k a _ (.inl rfl) e
 | met f y=>
  let e:h.get? a=!(PySem.W.methodObj (.ref f) (.ref y)):=x;change h'.get? a=!(PySem.W.methodObj (.ref f) (.ref y));show k a _ (.inl rfl) e
 | ext φ=>have⟨p,⟨o,e⟩,st⟩:=x;show(st _ _ p λo q=>k _ _ (.inl rfl) q,(o,k _ _ (.inl rfl) e),st)
def mN.lt(x:mN P w H h)(e:H a=!o):a < h.objs.size:=(x a o e).lt
def mN.fresh(x:mN P w H h)(e:h.objs.size<=a):H a=none:=by
 cases q:H a with
 | none=>rfl
 | some u=>show abc (aaV (x.lt q) e) (aci _)
def mN.kept(x:mN P w H h)(k:∀b u,h.get? b=!u->h'.get? b=!u):mN P w H h':=λa o e=>
 (x a o e).Dq (λb u _ q=>k b u q) (λ_ q=>q) λ_ _ q=>q
def mN.laid(x:mN P w H h)(k:∀b u,h.get? b=!u->h'.get? b=!u)(hp:h.objs.size<=a)(new:cf P w (upd H a o) h' a o):mN P w (upd H a o) h':=λb u e=>by
 let hn:=x.fresh hp;by_cases hb:b=a
 .subst hb;rw[au]at e;cases e;show new
 .rw[Ρ hb]at e;show(x b u e).Dq (λc v _ q=>k c v q) (λc q=>by rw[Ρ (cy q hn)];show q) λc xs q=>by rw[Ρ (cy q hn)];show q
end
def Rd(H:Hp)(a:Addr)(u:HO):Prop:=H a=!u\/∃o,H a=!(.w4 o u)
def Rd.ok{H:Hp}{u:HO}(r:Rd H a u)(x:mN P w H h):cf P w H h a u:=by
 rcases r with r| ⟨o,r⟩
 .show x a u r
 .let(_,q):=x a _ r;show q
def UP:Option HO->Prop
 | some (.lst _)=>True
 | some (.dK _)=>True
 | some (.dT _)=>True
 | some (.set _ _)=>True
 | some (.ins _ _ _)=>True
 | some (.ext _)=>True
 | _=>False
section
variable{H:Hp}{x e:Addr}{o':HO}
def mN.write(ok:mN P w H h)(mu:UP (H x))(he:e=x\/H e=!(.own x))(k:∀b u,b≠e->h.get? b=!u->h'.get? b=!u)(UD:∃u,h'.get? e=!u)
  (new:cf P w (upd H x o') h' x o'):mN P w (upd H x o') h':=λb u q=>by
 let V5:∀c y,H c=!(.own y)->c≠x:=λc y r z=>by subst z;rw[r]at mu;show mu
 let aa0:∀c xs,H c=!(.tup xs)->c≠x:=λc xs r z=>by subst z;rw[r]at mu;show mu
 by_cases hb:b=x
 .subst hb;rw[au]at q;cases q;show new
 .rw[Ρ hb]at q;by_cases TY:b=e
  .let q':H b=!(.own x):=by
    rcases he with z| z
    .show abc (TY.trans z) hb
    .rw[TY];show z
   rw[q]at q';cases q';let(v,hv):=UD;show(v,by rw[TY];show hv)
  .show(ok b u q).Dq (λc v hc r=>k c v ?_ r) (λc r=>by rw[Ρ (V5 c b r)];show r) λc xs r=>by rw[Ρ (aa0 c xs r)];show r
   rcases hc with rfl| hc
   .show TY
   .rintro rfl;rcases he with z| z
    .show V5 c b hc z
    .rw[hc]at z;cases z;show hb rfl
end
structure Un(fs ex:List Addr)(H H':Hp)(h h':Heap):Prop where
 keep:∀b o,h.get? b=!o->H b=none->b∉fs->b∉ex->h'.get? b=!o
 slot:∀b o,h.get? b=!o->H b=none->b∈fs->b∉ex->∃sl,h'.get? b=some {o with slots:=sl}
 free:∀b o,h.get? b=!o->H b=none->b∉ex->H' b=none
 there:∀b o,h.get? b=!o->b∉ex->∃o',h'.get? b=!o'
 r9:∀b xs,H b=!(.tup xs)->H' b=!(.tup xs)
 qa:∀b o u,H b=!(.w4 o u)->H' b=!(.w4 o u)
 sk:∀b ps,H b=!(.Pr ps)->∃more,H' b=!(.Pr (ps++more))
section
variable{fs YO ex ex':List Addr}{H H1 H2:Hp}{h1 h2:Heap}{x e:Addr}
def Un.any(u:Un fs ex H H1 h h1){ob:Obj}(q:h.get? b=!ob)(n:H b=none)(hx:b∉ex):∃sl,h1.get? b=some {ob with slots:=sl}:=by
 by_cases hb:b∈fs
 .show u.slot b ob q n hb hx
 .show(ob.slots,u.keep b ob q n hb hx)
def Un.kept(k:∀b u,h.get? b=!u->h'.get? b=!u):Un fs ex H H h h':=
 (λb ob q _ _ _=>k b ob q,λb ob q _ _ _=>(ob.slots,k b ob q),λ_ _ _ n _=>n,λb ob q _=>(ob,k b ob q),λ_ _ q=>q,λ_ _ _ q=>q,λ_ ps q=>(#[],by rw[q];simp))
def Un.refl:Un fs ex H H h h:=Un.kept λ_ _ q=>q
def Un.laid(k:∀b u,h.get? b=!u->h'.get? b=!u)(hp:h.objs.size<=a)(hn:H a=none):Un fs ex H (upd H a o) h h' where
 keep:=λb u q _ _ _=>k b u q
 slot:=λb u q _ _ _=>(u.slots,k b u q)
 free:=λb u q n _=>by rw[Ρ (abr (aaV (aaM q) hp))];show n
 there:=λb u q _=>(u,k b u q)
 r9:=λb xs q=>by rw[Ρ (cy q hn)];show q
 qa:=λb u xs q=>by rw[Ρ (cy q hn)];show q
 sk:=λb ps q=>(#[],by rw[Ρ (cy q hn),q];simp)
def Un.write(mu:UP (H x))(he:e=x\/H e=!(.own x))(k:∀b u,b≠e->h.get? b=!u->h'.get? b=!u)(UD:∃u,h'.get? e=!u):Un fs ex H (upd H x o) h h':=by
 let hx:∀b,H b=none->b≠x:=λb n z=>by subst z;rw[n]at mu;show mu
 let hb:∀b,H b=none->b≠e:=λb n z=>by
  subst z;rcases he with r| r
  .show hx b n r
  .rw[n]at r;cases r
 let hm:∀b u,H b=!u->¬UP (!u)->b≠x:=λb u q nm z=>by subst z;rw[q]at mu;show nm mu
 show(λb u q n _ _=>k b u (hb b n) q,λb u q n _ _=>(u.slots,k b u (hb b n) q),λb u q n _=>by rw[Ρ (hx b n)];show n,λb u q _=>?_,
  λb xs q=>by rw[Ρ (hm b _ q λz=>z)];show q,λb u xs q=>by rw[Ρ (hm b _ q λz=>z)];show q,λb ps q=>(#[],by rw[Ρ (hm b _ q λz=>z),q];simp))
 by_cases TY:b=e
 .subst TY;show UD
 .show(u,k b u TY q)
end
def XQ(h:Heap)(H:Hp):List Addr:=(List.range h.objs.size).filter λa=>(H a).isSome
def Ak(h:Heap)(H:Hp):Heap:=PySem.W.hideAll h (XQ h H)
def IT(h:Heap)(H:Hp):(Ak h H).objs.size=h.objs.size:=PySem.W.hideAll_size _ _
def JX{H:Hp}{o:Obj}(e:h.get? b=!o)(n:H b=none):(Ak h H).get? b=!o:=
 PySem.W.hideAll_get _ e λhm=>by let q:(H b).isSome=true:=(adx.mp hm).2;rw[n]at q;simp at q
def OQ{H:Hp}{o:Obj}(e:(Ak h H).get? b=!o):h.get? b=!o/\H b=none:=by
 let e':h.get? b=!o:=PySem.W.of_hideAll (XQ h H) e;show(e',?_);cases q:H b with
 | none=>rfl
 | some x=>
  let hm:b∈XQ h H:=List.mem_filter.mpr (List.mem_range.mpr (Heap.lt_size e'),by simp[q]);let z:(Ak h H).get? b=none:=PySem.W.hideAll_none (XQ h H) hm;rw[z]at e;cases e
structure Mod(K:fI)(mg:Str->Option Value)(base:Heap):Prop where
 XM:K.In base
 glob:base.Ns mainGlobals mg
 blt:∃mb,base.Ns builtinsNs mb/\∀x:Str,x≠"__name__"->mb x=bootBuiltins x
 nolimit:base.NoLimit
structure Cx where
 prog:Program
 w:World
 K:fI
 mg:Str->Option Value
 base:Heap
 A:Around
 N:List Str
 s₀:Shared
 H₀:Hp
 env:Env
 outer:List Env
 stack:List Env
 ex:List Addr
 fn:Str->Bool
 calm:Bool
 pn:List (Addr×Obj)
 xe:Value->Shared->Prop
variable{X:Cx}
def sy(l:List Env):List Addr:=l.filterMap (·.frame)
abbrev Cx.fs(X:Cx):List Addr:=sy X.outer
def Vis(sc:Scope)(x:Str):Prop:=sc.names.lookup x=some .local\/sc.names.lookup x=some .cell\/sc.names.lookup x=some .free
def Loc(sc:Scope)(x:Str):Prop:=sc.names.lookup x=some .local\/sc.names.lookup x=some .cell
def aco(env:Env)(h:Heap)(m:Str->Option Value)(x:Str)(u:Value):Prop:=
 (env.kindOf x=some .local/\m x=!u)\/((env.kindOf x=some .cell\/env.kindOf x=some .free)/\∃c,env.cells.lookup x=!c/\h.IsCell c (!u))
structure Cx.Ok(X:Cx):Prop where
 mod:Mod X.K X.mg X.base
 kind:X.env.scope.kind= .function
 glob:X.env.globals=mainGlobals
 blt:X.env.builtins=builtinsNs
 above:X.s₀.heap.objs.size<=X.env.locals
 inj:∀x y c,X.env.cells.lookup x=!c->X.env.cells.lookup y=!c->x=y
 has:∀x,(X.env.kindOf x=some .cell\/X.env.kindOf x=some .free)->∃c,X.env.cells.lookup x=!c
 Zl:∀x c,X.fn x=true->X.env.cells.lookup x=!c->X.s₀.heap.objs.size<=c
 hd:X.calm=true->X.A.handled=none
 frames:X.A.frames=!X.stack
 stk:X.stack=X.outer\/(X.stack=X.env::X.outer/\X.env.frame=!X.env.locals)
 exf:∀b∈X.ex,b≠X.env.locals/\∀x c,X.env.cells.lookup x=!c->c≠b
 bs:∀b o,X.base.get? b=!o->X.s₀.heap.get? b=!o/\X.H₀ b=none
 vY:X.base.objs.size<=X.s₀.heap.objs.size
 RI:∀b o,X.base.get? b=!o->b∉X.ex
 RT:∀b∈X.ex,b∉X.fs
 v_:X.s₀.heap.FunFrames X.base X.outer
 UU:∀b∈X.fs,X.H₀ b=none
structure Inv(X:Cx)(η:List (Addr×Obj))(σ:List (Option V))(H:Hp)(s:Shared):Prop where
 ok:X.Ok
 os:s.os=X.s₀.os
 bare:AllBare s.gens
 base:Un X.fs X.ex X.H₀ H X.s₀.heap s.heap
 loc:∃m,s.heap.Ns X.env.locals m/\∀(i:Nat) (x:Str) (v:V),X.N[i]? =!x->σ[i]? =!(!v)->Vis X.env.scope x->∃u,az v u/\aco X.env s.heap m x u
 cell:∀x c,X.env.cells.lookup x=!c->∃v,s.heap.IsCell c v
 free:H X.env.locals=none
 rH:∀x c,X.env.cells.lookup x=!c->H c=none
 pin:∀p∈X.pn++η,s.heap.get? p.1=!p.2/\H p.1=none/\p.1≠X.env.locals/\p.1∉X.fs/\∀v,p.2.data≠ .cell v
 aN:mN X.prog X.w H s.heap
 len:-σ=-X.N
section
variable{σ:List (Option V)}{H H':Hp}
def Cx.Ok.abJ(ok:X.Ok){o:Obj}(e:X.base.get? b=!o):b∉X.fs:=λhb=>by have:=(ok.v_.mem hb).1;rw[e]at this;cases this
def Inv.bs(I:Inv X η σ H s):∀b o,X.base.get? b=!o->s.heap.get? b=!o/\H b=none:=λb o e=>
 (I.base.keep b o (I.ok.bs b o e).1 (I.ok.bs b o e).2 (I.ok.abJ e) (I.ok.RI b o e),I.base.free b o (I.ok.bs b o e).1 (I.ok.bs b o e).2 (I.ok.RI b o e))
def Inv.bk(I:Inv X η σ H s):∀b o,X.base.get? b=!o->s.heap.get? b=!o:=λb o e=>(I.bs b o e).1
def Inv.mod(I:Inv X η σ H s):Mod X.K X.mg X.base:=I.ok.mod
def Inv.rP(I:Inv X η σ H s):X.K.In s.heap:=I.ok.mod.XM.keeps I.bk
def Inv.lt(I:Inv X η σ H s):X.env.locals < s.heap.objs.size:=let (_,hn,_):=I.loc;hn.lt
def Inv.sz(I:Inv X η σ H s):X.s₀.heap.objs.size<=s.heap.objs.size:=aaR I.ok.above (Nat.le_of_lt I.lt)
def Inv.ab5(I:Inv X η σ H s)(h:s.heap.objs.size<=a):a∉X.fs:=λhb=>by let(_,o,ho,_):=I.ok.v_.mem hb;show abc (aaV (aaM ho) (aaR I.sz h)) (aci _)
def Inv.OJ(I:Inv X η σ H s):∀x c,X.env.cells.lookup x=!c->c≠X.env.locals:=λx c e z=>by let(v,o,ho,hd):=I.cell x c e;let(m,(o',es,ep,IV,Pj,_),_):=I.loc;rw[z,IV]at ho;cases ho;rw[Pj]at hd;cases hd
def Inv.v_(I:Inv X η σ H s):s.heap.FunFrames X.base X.outer:=by
 let all:∀(l:List Env),(∀b∈sy l,b∈X.fs)->X.s₀.heap.FunFrames X.base l->s.heap.FunFrames X.base l:=by
  intro l
  induction l with
  | nil=>intro _ _;trivial
  | cons env r ih=>
   intro hs hl;let(hk,(L,o,hf,hn,ho,hd),hr):=hl;let hL:L∈X.fs:=hs L (by unfold sy;rw[List.filterMap_cons,hf];show List.mem_cons_self);let(sl,e):=I.base.slot L o ho (I.ok.UU L hL) hL λz=>I.ok.RT L z hL;show(hk,(L,_,hf,hn,e,hd),ih (λb hb=>hs b (by unfold sy;rw[List.filterMap_cons,hf];show List.mem_cons_of_mem _ hb)) hr)
 show all X.outer (λ_ hb=>hb) I.ok.v_
def Inv.stack(I:Inv X η σ H s):s.heap.FunFrames X.base X.stack:=by
 rcases I.ok.stk with e| ⟨e,hf⟩
 .rw[e];show I.v_
 .rw[e];let(m,hn,_):=I.loc;show .cons (by rw[I.ok.kind];decide) hf hn ?_ I.v_;show Heap.get?_none_of_le (aaR I.ok.vY I.ok.above)
def Inv.yF(I:Inv X η σ H s):∀b∈sy X.stack,b∈X.env.locals::X.fs:=λb hb=>by
 rcases I.ok.stk with e| ⟨e,hf⟩
 .rw[e]at hb;show aah _ hb
 .rw[e]at hb;unfold sy at hb;rw[adp,hf]at hb;show hb
def Inv.zy(I:Inv X η σ H s):∀b∈sy X.stack,H b=none:=λb hb=>by
 rcases aba.mp (I.yF b hb) with e| hb
 .rw[e];show I.free
 .let(_,o,ho,_):=I.ok.v_.mem hb;show I.base.free b o ho (I.ok.UU b hb) λz=>I.ok.RT b z hb
def Inv.step{t':Nat}{d':Drawn}(I:Inv X η σ H s)
  (CV:∀b∈ch,(b∈X.ex\/X.s₀.heap.objs.size<=b)/\b≠X.env.locals/\(∀x c,X.env.cells.lookup x=!c->c≠b)/\∀p∈X.pn++η,p.1≠b)
  (keep:∀b o,b≠X.env.locals->b∉X.fs->b∉ch->s.heap.get? b=!o->H b=none->h'.get? b=!o)
  (slot:∀b o,b≠X.env.locals->b∈X.fs->b∉ch->s.heap.get? b=!o->H b=none->∃sl,h'.get? b=some {o with slots:=sl}) (free:∀b o,b∉ch->s.heap.get? b=!o->H b=none->H' b=none)
  (there:∀b o,b∉ch->s.heap.get? b=!o->∃o',h'.get? b=!o')
  (r9:∀b xs,H b=!(.tup xs)->H' b=!(.tup xs)) (qa:∀b o u,H b=!(.w4 o u)->H' b=!(.w4 o u)) (sk:∀b ps,H b=!(.Pr ps)->∃more,H' b=!(.Pr (ps++more)))
  (ns:∀m,s.heap.Ns X.env.locals m->h'.Ns X.env.locals m) (aN:mN X.prog X.w H' h') (hg:AllBare g'):
  Inv X η σ H' {s with heap:=h',gens:=g',drawn:=d',toks:=t'}:=by
 let neL:∀b o,X.s₀.heap.get? b=!o->b≠X.env.locals:=λb o e=>abr (aaV (aaM e) I.ok.above);let XR:∀b o,X.s₀.heap.get? b=!o->b∉X.ex->b∉ch:=λb o e hx hb=>by
  rcases(CV b hb).1 with z| z
  .show hx z
  .show abc (aaV (aaM e) z) (aci _)
 let cellK:∀x c,X.env.cells.lookup x=!c->∀v,s.heap.IsCell c v->h'.IsCell c v:=λx c e v (o,ho,hd)=>by
  let V':c∉ch:=λz=>(CV c z).2.2.1 x c e rfl;by_cases hc:c∈X.fs
  .let(sl,q):=slot c o (I.OJ x c e) hc V' ho (I.rH x c e);show(_,q,hd)
  .show(o,keep c o (I.OJ x c e) hc V' ho (I.rH x c e),hd)
 show(I.ok,I.os,hg,(λb o e n hb hx=>?_,λb o e n hb hx=>?_,λb o e n hx=>?_,λb o e hx=>?_,λb xs e=>r9 b xs (I.base.r9 b xs e),λb o xs e=>qa b o xs (I.base.qa b o xs e),λb ps e=>?_),?_,λx c e=>?_,?_,λx c e=>?_,λp hp=>?_,aN,I.len)
 .show keep b o (neL b o e) hb (XR b o e hx) (I.base.keep b o e n hb hx) (I.base.free b o e n hx)
 .let(sl,e1):=I.base.slot b o e n hb hx;let(sl',e2):=slot b _ (neL b o e) hb (XR b o e hx) e1 (I.base.free b o e n hx);show(sl',e2)
 .let(o',e1):=I.base.there b o e hx;show free b o' (XR b o e hx) e1 (I.base.free b o e n hx)
 .let(o',e1):=I.base.there b o e hx;show there b o' (XR b o e hx) e1
 .let(m1,e1):=I.base.sk b ps e;let(m2,e2):=sk b _ e1;show(m1++m2,by rw[e2,Array.append_assoc])
 .let(m,hn,hl):=I.loc;show(m,ns m hn,λi x v e1 e2 e3=>?_);let(u,r,l):=hl i x v e1 e2 e3;show(u,r,?_);rcases l with l| ⟨k,c,e,z⟩
  .show .inl l
  .show .inr (k,c,e,cellK x c e _ z)
 .let(v,z):=I.cell x c e;show(v,cellK x c e v z)
 .let(m,(o,_,_,ho,_),_):=I.loc;show free _ o (λz=>(CV _ z).2.1 rfl) ho I.free
 .let(v,o,ho,hd):=I.cell x c e;show free c o (λz=>(CV c z).2.2.1 x c e rfl) ho (I.rH x c e)
 .let(e,n,ne,nf,d):=I.pin p hp;let V':p.1∉ch:=λz=>(CV p.1 z).2.2.2 p hp rfl;show(keep p.1 p.2 ne nf V' e n,free p.1 p.2 V' e n,ne,nf,d)
def Inv.un{t':Nat}(I:Inv X η σ H s)(u:Un X.fs [] H H' s.heap h')(aN:mN X.prog X.w H' h'):Inv X η σ H' {s with heap:=h',toks:=t'}:=by
 let(m,(o,es,ep,ho,r),_):=id I.loc;let(sl,hL):=u.any ho I.free (by simp)
 show I.step (g':=s.gens) (d':=s.drawn) (ch:=[]) (λ_ z=>nomatch z) (λb o _ hb _ e n=>u.keep b o e n hb (by simp)) (λb o _ hb _ e n=>u.slot b o e n hb (by simp)) (λb o _ e n=>u.free b o e n (by simp)) (λb o _ e=>u.there b o e (by simp)) u.r9 u.qa u.sk (λm' hm=>by
  let(o',es',YI,IV,r'):=hm;rw[ho]at IV;cases IV
  show(_,es',YI,hL,r')) aN I.bare
def Inv.call{t':Nat}{d':Drawn}(I:Inv X η σ H s)(u:Un (sy X.stack) ch H H' s.heap h')(aN:mN X.prog X.w H' h')(hg:AllBare g')
  (CV:∀b∈ch,(b∈X.ex\/X.s₀.heap.objs.size<=b)/\b≠X.env.locals/\(∀x c,X.env.cells.lookup x=!c->c≠b)/\∀p∈X.pn++η,p.1≠b):
  Inv X η σ H' {s with heap:=h',gens:=g',drawn:=d',toks:=t'}:=by
 let(m,(o,es,ep,ho,r),_):=id I.loc;let(sl,hL):=u.any ho I.free λz=>(CV _ z).2.1 rfl
 show I.step (ch:=ch) CV (λb o hL hb hc e n=>u.keep b o e n (λz=>(aba.mp (I.yF b z)).elim hL hb) hc) (λb o _ _ hc e n=>u.any e n hc) (λb o hc e n=>u.free b o e n hc) (λb o hc e=>u.there b o e hc) u.r9 u.qa u.sk (λm' hm=>by
  let(o',es',YI,IV,r'):=hm;rw[ho]at IV;cases IV
  show(_,es',YI,hL,r')) aN hg
def Inv.turned{t':Nat}{it:Addr}(I:Inv X η σ H s)(k:∀b o,b≠it->s.heap.get? b=!o->h'.get? b=!o)(hn:H it=none)(hL:it≠X.env.locals)
  (h1:it∈X.ex\/X.s₀.heap.objs.size<=it) (h2:∀x c,X.env.cells.lookup x=!c->c≠it) (h3:∀p∈X.pn++η,p.1≠it):Inv X η σ H {s with heap:=h',toks:=t'}:=by
 let nit:∀b u,H b=!u->b≠it:=λb u e z=>by rw[z,hn]at e;cases e
 show I.step (g':=s.gens) (d':=s.drawn) (ch:=[it]) (λb hb=>?_) (λb o _ _ hc e _=>k b o (λz=>hc (by simp[z])) e) (λb o _ _ hc e _=>(o.slots,k b o (λz=>hc (by simp[z])) e)) (λ_ _ _ _ n=>n)
  (λb o hc e=>(o,k b o (λz=>hc (by simp[z])) e)) (λ_ _ e=>e) (λ_ _ _ e=>e) (λb ps e=>(#[],by rw[e];simp)) (λm hm=>?_) (λb u e=>?_) I.bare
 .let e:b=it:=by simpa using hb
  subst e;show(h1,hL,h2,h3)
 .let(o,es,ep,ho,r):=hm;show(o,es,ep,k _ o (Ne.symm hL) ho,r)
 .show(I.aN b u e).Dq (λc v hc q=>k c v ?_ q) (λ_ q=>q) λ_ _ q=>q;rcases hc with z| z
  .rw[z];show nit b u e
  .show nit c _ z
def Inv.tok(I:Inv X η σ H s)(t:Nat):Inv X η σ H {s with toks:=t}:=I.un (h':=s.heap) (t':=t) Un.refl I.aN
def Inv.kept{t':Nat}(I:Inv X η σ H s)(k:∀b u,s.heap.get? b=!u->h'.get? b=!u):Inv X η σ H {s with heap:=h',toks:=t'}:=I.un (Un.kept k) (I.aN.kept k)
def Inv.laid{t':Nat}(I:Inv X η σ H s)(k:∀b u,s.heap.get? b=!u->h'.get? b=!u)(hp:s.heap.objs.size<=a)(new:cf X.prog X.w (upd H a o) h' a o):
  Inv X η σ (upd H a o) {s with heap:=h',toks:=t'}:=I.un (Un.laid k hp (I.aN.fresh hp)) (I.aN.laid k hp new)
def Inv.write{x e:Addr}{t':Nat}(I:Inv X η σ H s)(mu:UP (H x))(he:e=x\/H e=!(.own x))(k:∀b u,b≠e->s.heap.get? b=!u->h'.get? b=!u)(UD:∃u,h'.get? e=!u)
  (new:cf X.prog X.w (upd H x o) h' x o):Inv X η σ (upd H x o) {s with heap:=h',toks:=t'}:=I.un (Un.write mu he k UD) (I.aN.write mu he k UD new)
def Inv.Fx{QT:List (Addr×Obj)}(I:Inv X η σ H s)(h:∀p∈QT,s.heap.get? p.1=!p.2/\H p.1=none/\p.1≠X.env.locals/\p.1∉X.fs/\∀v,p.2.data≠ .cell v):Inv X QT σ H s:=
 (I.ok,I.os,I.bare,I.base,I.loc,I.cell,I.free,I.rH,λp hp=>(abt.mp hp).elim (λz=>I.pin p (List.mem_append_left _ z)) (h p),I.aN,I.len)
def BV{N:List Str}(hN:N.Nodup){j:Nat}(a:N[i]? =!x)(b:N[j]? =!x):i=j:=by let(h1,e1):=aae.mp a;let(h2,e2):=aae.mp b;show(List.getElem_inj hN).mp (e1.trans e2.symm)
def xU{Q:Unit->Shared->Prop}(I:Inv X η σ H s)(hN:X.N.Nodup)(hi:X.N[i]? =!x)(hx:Loc X.env.scope x)(r:az v u)
  (h:∀s',Inv X η (σ.set i (!v)) H s'->(∃a,Heap.SameBut a s.heap s'.heap/\(a=X.env.locals\/X.env.cells.lookup x=!a))->Q Unit.unit s') (hf:X.fn x=true\/X.env.scope.names.lookup x=some .local|>4):wpAny M A (storeName X.env x u) Q E s:=by
 let(m,hn,hl):=id I.loc;let ZI:(X.env.scope.kind== .class|| (X.env.scope.kind== .module&&X.env.locals != X.env.globals))=false:=by rw[I.ok.kind];rfl
 let US:i < -σ:=by rw[I.len];show(aae.mp hi).1
 let OJ:=I.OJ;let tracked:∀{a:Addr} {h':Heap},(∃o,s.heap.get? a=!o/\H a=none)->Heap.SameBut a s.heap h'->mN X.prog X.w H h':=λ{a h'} ha hs b ob e=>by
  let(_,_,Qr):=ha;show(I.aN b ob e).Dq (λc w' hc q=>(hs.2 c ?_).trans q) (λ_ q=>q) λ_ _ q=>q;rintro rfl;rcases hc with rfl| hc
  .rw[Qr]at e;cases e
  .rw[Qr]at hc;cases hc
 rcases hx with hk| hk
 .show wpAny_storeName_local hk hn (λh' Xm hs=>?_) ZI;let(oL,_,_,hoL,_):=id hn;show h _ (I.ok,I.os,I.bare,(λb o e n hb hx=>?_,λb o e n hb hx=>?_,I.base.free,λb o e hx=>?_,I.base.r9,I.base.qa,I.base.sk),(_,Xm,λj y v' e1 e2 e3=>?_),λy c e=>?_,I.free,I.rH,λp hp=>?_,tracked (oL,hoL,I.free) hs,by simpa using I.len) (_,hs,.inl rfl)
  .show(hs.2 b (abr (aaV (aaM e) I.ok.above))).trans (I.base.keep b o e n hb hx)
  .let(sl,e1):=I.base.slot b o e n hb hx;show(sl,(hs.2 b (abr (aaV (aaM e) I.ok.above))).trans e1)
  .let(o',e1):=I.base.there b o e hx;show(o',(hs.2 b (abr (aaV (aaM e) I.ok.above))).trans e1)
  .by_cases hj:j=i
   .subst hj;rw[hi]at e1;cases e1;rw[abH US]at e2;cases e2;show(u,r,.inl (hk,by simp))
   .rw[abL (Ne.symm hj)]at e2;let(u',r',q):=hl j y v' e1 e2 e3;show(u',r',?_);rcases q with ⟨k,e⟩| ⟨k,c,e,z⟩
    .show .inl (k,?_);have:y≠x:=λe=>hj (BV hN e1 (e▸hi));simp[this,e]
    .show .inr (k,c,e,z.sameBut hs (OJ y c e))
  .let(w',z):=I.cell y c e;show(w',z.sameBut hs (OJ y c e))
  .let(e,n,ne,nf,d):=I.pin p hp;show((hs.2 p.1 ne).trans e,n,ne,nf,d)
 .let hfn:X.fn x=true:=by
   rcases hf with z| z
   .show z
   .rw[z]at hk;cases hk
  let(c,hc):=I.ok.has x (.inl hk);let(w',z):=I.cell x c hc;show wpAny_storeName_cell I.ok.kind hk hc z (λh' CF hs=>?_);let(oc,hoc,ace):=id z;show h {s with heap:=h'} (I.ok,I.os,I.bare,(λb o e n hb hx=>?_,λb o e n hb hx=>?_,I.base.free,λb o e hx=>?_,I.base.r9,I.base.qa,I.base.sk),(m,hn.sameBut hs (Ne.symm (OJ x c hc)),λj y v' e1 e2 e3=>?_),λy c' e=>?_,I.free,I.rH,λp hp=>?_,tracked (oc,hoc,I.rH x c hc) hs,by simpa using I.len) (c,hs,.inr hc)
  .show(hs.2 b (abr (aaV (aaM e) (I.ok.Zl x c hfn hc)))).trans (I.base.keep b o e n hb hx)
  .let(sl,e1):=I.base.slot b o e n hb hx;show(sl,(hs.2 b (abr (aaV (aaM e) (I.ok.Zl x c hfn hc)))).trans e1)
  .let(o',e1):=I.base.there b o e hx;show(o',(hs.2 b (abr (aaV (aaM e) (I.ok.Zl x c hfn hc)))).trans e1)
  .by_cases hj:j=i
   .subst hj;rw[hi]at e1;cases e1;rw[abH US]at e2;cases e2;show(u,r,.inr (.inl hk,c,hc,CF))
   .rw[abL (Ne.symm hj)]at e2;let(u',r',q):=hl j y v' e1 e2 e3;show(u',r',?_);rcases q with q| ⟨k,c',e,z'⟩
    .show .inl q
    .show .inr (k,c',e,z'.sameBut hs ?_);rintro rfl;show hj (BV hN e1 (I.ok.inj _ _ _ e hc▸hi))
  .by_cases Rk:c'=c
   .subst Rk;show(_,CF)
   .let(w2,z2):=I.cell y c' e;show(w2,z2.sameBut hs Rk)
  .let(e,n,ne,nf,d):=I.pin p hp;show((hs.2 p.1 ?_).trans e,n,ne,nf,d);intro q;rw[q,hoc]at e;let q':oc=p.2:=aaI e;show d w' (by rw[<-q'];show ace)
def pe{Q:Unit->Shared->Prop}(I:Inv X η σ H s)(hN:X.N.Nodup)(hi:X.N[i]? =!x)(hx:Loc X.env.scope x)(r:az v u)
  (h:∀s',Inv X η (σ.set i (!v)) H s'->Q Unit.unit s') (hf:X.fn x=true\/X.env.scope.names.lookup x=some .local|>4):wpAny M A (storeName X.env x u) Q E s:=
 xU I hN hi hx r (λs' I' _=>h s' I') hf
def Inv.XC{s':Shared}(I:Inv X η σ H s)(ho:s'.os=s.os)(u:Un (sy X.stack) ch H H' s.heap s'.heap)(aN:mN X.prog X.w H' s'.heap)(hg:AllBare s'.gens)
  (CV:∀b∈ch,(b∈X.ex\/X.s₀.heap.objs.size<=b)/\b≠X.env.locals/\(∀x c,X.env.cells.lookup x=!c->c≠b)/\∀p∈X.pn++η,p.1≠b):Inv X η σ H' s':=by
 let(h',g',d',t',o'):=s';let e:o'=s.os:=ho;subst e;show I.call (g':=g') (t':=t') (d':=d') u aN hg CV
end
abbrev XK:=Value->Option Addr->Hp->Prop
abbrev St:=List (Option V)
variable{σ:St}
abbrev VK:=V->Hp->Prop
abbrev TE:=St->Hp->VK->Prop
variable{ta te:TE}
abbrev TT:=St->Hp->(Bool->Hp->Prop)->Prop
abbrev TA:=St->Hp->(List V->Hp->Prop)->Prop
structure AA where
 nx:St->Hp->Prop
 rt:VK
 bk:St->Hp->Prop:=λ_ _=>False
 ct:St->Hp->Prop:=λ_ _=>False
abbrev TS:=AA->St->Hp->Prop
def EP(X:Cx)(η:List (Addr×Obj))(σ:St)(Q:VK)(u:Value)(s':Shared):Prop:=∃v H',Inv X η σ H' s'/\az v u/\Q v H'
def TP(X:Cx)(η:List (Addr×Obj))(σ:St)(Q:Bool->Hp->Prop)(b:Bool)(s':Shared):Prop:=∃H',Inv X η σ H' s'/\Q b H'
def AP(X:Cx)(η:List (Addr×Obj))(σ:St)(Q:List V->Hp->Prop)(us:List Value)(s':Shared):Prop:=∃vs H',Inv X η σ H' s'/\aD vs us/\Q vs H'
def SP(X:Cx)(η:List (Addr×Obj))(D:AA)(f:Flow)(s':Shared):Prop:=
 match f with
 | .next=>∃σ' H',Inv X η σ' H' s'/\D.nx σ' H'
 | .brk=>∃σ' H',Inv X η σ' H' s'/\D.bk σ' H'
 | .cont=>∃σ' H',Inv X η σ' H' s'/\D.ct σ' H'
 | .ret u=>∃v σ' H',Inv X η σ' H' s'/\az v u/\D.rt v H'
def PE(X:Cx)(e:Expr)(t:TE):Prop:=
 ∀(η:List (Addr×Obj)) (s:Shared) (σ:St) (H:Hp) (Q:VK),Inv X η σ H s->t σ H Q->wpAny (model X.prog X.w) X.A (eval e X.env) (EP X η σ Q) X.xe s
def PT(X:Cx)(e:Expr)(t:TT):Prop:=
 ∀(η:List (Addr×Obj)) (s:Shared) (σ:St) (H:Hp) (Q:Bool->Hp->Prop),Inv X η σ H s->t σ H Q->wpAny (model X.prog X.w) X.A (isTrue e X.env (eval e X.env)) (TP X η σ Q) X.xe s
def PW(X:Cx)(e:Expr)(t:TT):Prop:=
 ∀(whole:Sem Value) (η:List (Addr×Obj)) (s:Shared) (σ:St) (H:Hp) (Q:Bool->Hp->Prop),Inv X η σ H s->t σ H Q->wpAny (model X.prog X.w) X.A (isTrue e X.env whole) (TP X η σ Q) X.xe s
def PA(X:Cx)(es:List Expr)(t:TA):Prop:=
 ∀(pos:Pos) (η:List (Addr×Obj)) (s:Shared) (σ:St) (H:Hp) (Q:List V->Hp->Prop),Inv X η σ H s->t σ H Q->wpAny (model X.prog X.w) X.A (spliced (backTo pos (starEach es X.env))) (AP X η σ Q) X.xe s
def PS(X:Cx)(st:Stmt)(t:TS):Prop:=
 ∀(η:List (Addr×Obj)) (s:Shared) (σ:St) (H:Hp) (D:AA),Inv X η σ H s->t D σ H->wpAny (model X.prog X.w) X.A (exec st X.env) (SP X η D) X.xe s
def JD(X:Cx)(st:List Stmt)(t:TS):Prop:=
 ∀(η:List (Addr×Obj)) (s:Shared) (σ:St) (H:Hp) (D:AA),Inv X η σ H s->t D σ H->wpAny (model X.prog X.w) X.A (execs st X.env) (SP X η D) X.xe s
def bP{α:Type}{t:Sem α}{Q Q':α->Shared->Prop}(h:wpAny M A t Q E s)(hQ:∀a s,Q a s->Q' a s):wpAny M A t Q' E s:=adb h hQ λ_ _ x=>x
section
def Zj(i:Nat):TE:=λσ H Q=>∃v,σ[i]? =!(!v)/\Q v H
def tC(v:V):TE:=λ_ H Q=>Q v H
def T'(hN:X.N[i]? =!x)(hv:Vis X.env.scope x)(hd:(x==("__debug__":Str))=false|>2)(Gg:(x==("__classdict__":Str))=false|>2):PE X (.Name x pos) (Zj i):=by
 intro η s σ H Q I h;let(v,e,h):=h;let(m,hn,hl):=I.loc;let(u,r,l):=hl i x v hN e hv;let fin:EP X η σ Q u s:=(v,H,I,r,h);rcases l with ⟨hk,hm⟩| ⟨hk,c,hc,Ql⟩
 .show wpAny_Name (wpAny_loadName_local I.ok.kind hk hn hm fin) hd
 .rcases hk with hk| hk
  .show wpAny_Name (wpAny_loadName_cell I.ok.kind hk hc Ql fin) hd
  .show wpAny_Name (wpAny_loadName_free I.ok.kind hk hc Ql fin Gg) hd
def T_{i j pos}:PE X (.Constant (.int i) j pos) (tC (.int i)):=λ_ _ _ H _ I h=>wpAny_Constant_int (.int i,H,I.tok _,(_,rfl),h)
def WW{b j pos}:PE X (.Constant (.bool b) j pos) (tC (.bl b)):=λ_ _ _ H _ I h=>Constant_bool (.bl b,H,I,rfl,h)
def R3{j pos}:PE X (.Constant .none j pos) (tC .bt):=λ_ _ _ H _ I h=>Constant_none (.bt,H,I,rfl,h)
def Tt{x j pos}:PE X (.Constant (.str x) j pos) (tC (.str x)):=λ_ _ _ H _ I h=>Calls.Constant_str (.str x,H,I.tok _,(_,rfl),h)
def Gl(X:Cx)(x:Str):Prop:=X.env.kindOf x=some .globalImplicit
def sT{H:Hp}(I:Inv X η σ H s)(hg:Gl X x)(hm:X.mg x=!u)(h:Q u s)
  (hd:(x==("__debug__":Str))=false|>2):wpAny (model X.prog X.w) X.A (eval (.Name x pos) X.env) Q E s:=
 Calls.Name_function_global I.ok.kind hg (Calls.loadGlobal_global (by rw[I.ok.glob];show I.mod.glob.keeps I.bk) hm h) hd
def nW{H:Hp}(I:Inv X η σ H s)(hg:Gl X x)(hm:X.mg x=none)(hv:bootBuiltins x=!u)(h:Q u s)
  (hn:x≠"__name__"|>2) (hd:(x==("__debug__":Str))=false|>2):wpAny (model X.prog X.w) X.A (eval (.Name x pos) X.env) Q E s:=by
 let(mb,h1,h2):=I.mod.blt;show Calls.Name_function_global I.ok.kind hg (Calls.loadGlobal_builtin (by rw[I.ok.glob];show I.mod.glob.keeps I.bk) hm (by rw[I.ok.blt];show h1.keeps I.bk) ((h2 x hn).trans hv) h) hd
def GL(hg:Gl X x)(hm:X.mg x=!u)(r:az v u)(hd:(x==("__debug__":Str))=false|>2):PE X (.Name x pos) (tC v):=
 λ_ _ _ H _ I h=>sT I hg hm (v,H,I,r,h) hd
def NS(hg:Gl X x)(hm:X.mg x=none)(hv:bootBuiltins x=!u)(r:az v u)(hn:x≠"__name__"|>2)(hd:(x==("__debug__":Str))=false|>2):PE X (.Name x pos) (tC v):=
 λ_ _ _ H _ I h=>nW I hg hm hv (v,H,I,r,h) hn hd
variable{a b:Expr}{tb:TE}
def tB(t:TE):TT:=λσ H Q=>t σ H λx H1=>∃c,x= .bl c/\Q c H1
def RW(h:PE X e t)(he:(∀whole,isTrue e X.env whole=(do let  v<-whole;standAt e.pos;holding [v] (truthy v)))|>3):PT X e (tB t):=by intro η s σ H Q I hw;show isTrue_plain (bP (h η s σ H _ I hw) λv s1 xz=>?_) (he _);let(x,H1,I1,r1,q1):=xz;let(d,rfl,q):=q1;cases r1;show wpAny_truthy_bool (H1,I1,q)
variable{tA V4:TT}{rest:List Expr}
def aaG(t u:TT):TT:=λσ H Q=>t σ H λc H1=>if c=true then u σ H1 Q else Q false H1
def tOr(t u:TT):TT:=λσ H Q=>t σ H λc H1=>if c=true then Q true H1 else u σ H1 Q
def ab7(t:TT):TT:=λσ H Q=>t σ H λc H1=>Q (! c) H1
def pw_and1(ha:PT X a tA):PW X (.BoolOp .And [a] pos) tA:=by
 intro wh η s σ H Q I h;show isTrue_and (bP (ha η s σ H Q I h) λc s1 e=>?_);cases c with
 | true=>show isTrue_and_nil e
 | false=>show e
def pw_or1(ha:PT X a tA):PW X (.BoolOp .Or [a] pos) tA:=by
 intro wh η s σ H Q I h;show isTrue_or (bP (ha η s σ H Q I h) λc s1 e=>?_);cases c with
 | false=>show isTrue_or_nil e
 | true=>show e
def pw_and(ha:PT X a tA)(hb:PW X (.BoolOp .And (b::rest) pos) V4):PW X (.BoolOp .And (a::b::rest) pos) (aaG tA V4):=by
 intro wh η s σ H Q I h;show isTrue_and (bP (ha η s σ H _ I h) λc s1 xz=>?_);let(H1,I1,q1):=xz;cases c with
 | true=>show hb wh η s1 σ H1 Q I1 q1
 | false=>show(H1,I1,q1)
def pw_or(ha:PT X a tA)(hb:PW X (.BoolOp .Or (b::rest) pos) V4):PW X (.BoolOp .Or (a::b::rest) pos) (tOr tA V4):=by
 intro wh η s σ H Q I h;show isTrue_or (bP (ha η s σ H _ I h) λc s1 xz=>?_);let(H1,I1,q1):=xz;cases c with
 | true=>show(H1,I1,q1)
 | false=>show hb wh η s1 σ H1 Q I1 q1
def To(ha:PT X a tA):PT X (.UnaryOp .Not a pos) (ab7 tA):=by intro η s σ H Q I h;show isTrue_not (ha η s σ H (λc H1=>Q (! c) H1) I h)
def WT(ta tb:TE):TE:=λσ H Q=>ta σ H λx H1=>∃c,x= .bl c/\if c=true then tb σ H1 Q else Q (.bl false) H1
def XJ(ta:TE):TE:=λσ H Q=>ta σ H λx H1=>∃c,x= .bl c/\Q (.bl (! c)) H1
def Se{op}(h:PE X a t):PE X (.BoolOp op [a] pos) t:=λη s σ H Q I hw=>BoolOp_one (h η s σ H Q I hw)
def S3(ha:PE X a ta)(hb:PE X (.BoolOp .And (b::rest) pos) tb):PE X (.BoolOp .And (a::b::rest) pos) (WT ta tb):=by
 intro η s σ H Q I h;show BoolOp_and (bP (ha η s σ H _ I h) λv s1 xz=>?_);let(x,H1,I1,r1,q1):=xz;let(c,rfl,q1):=q1;cases r1;show wpAny_truthy_bool ?_;cases c with
 | true=>show hb η s1 σ H1 Q I1 q1
 | false=>show(.bl false,H1,I1,rfl,q1)
def TL(ha:PE X a ta):PE X (.UnaryOp .Not a pos) (XJ ta):=by intro η s σ H Q I h;show UnaryOp_ (bP (ha η s σ H _ I h) λv s1 xz=>?_);let(x,H1,I1,r1,q1):=xz;let(c,rfl,q1):=q1;cases r1;show not_of (wpAny_truthy_bool (.bl (! c),H1,I1,rfl,q1))
def tIf(t:TT)(ta tb:TE):TE:=λσ H Q=>t σ H λc H1=>if c=true then ta σ H1 Q else tb σ H1 Q
def K0(hc:PT X c tA)(ha:PE X a ta)(hb:PE X b tb):PE X (.IfExp c a b pos) (tIf tA ta tb):=by
 intro η s σ H Q I h;show wpAny_IfExp (bP (hc η s σ H _ I h) λd s1 xz=>?_);let(H1,I1,q1):=xz;cases d with
 | true=>show ha η s1 σ H1 Q I1 q1
 | false=>show hb η s1 σ H1 Q I1 q1
end
def gY(K:fI)(H:Hp)(a:Addr)(xs:List V):Prop:=
 Rd H a (.lst xs)\/
  ∃(o:Obj) (its:Array Value) (n:Nat),K.lookup a=!o/\o.cls= .type "list"/\o.dict=none/\o.data= .seq its n/\its.size<=sizeLine/\aD xs its.toList
def nj(K:fI)(H:Hp)(a:Addr)(xs:List V):Prop:=
 Rd H a (.tup xs)\/
  ∃(o:Obj) (its:Array Value) (n:Nat),K.lookup a=!o/\o.cls= .type "tuple"/\o.data= .seq its n/\its.size<=sizeLine/\aD xs its.toList
noncomputable def abu:Value->Option V
 | .none=>some .bt
 | .bool b=>!(.bl b)
 | .int i _=>!(.int i)
 | .str x _=>!(.str x)
 | .bytes b _=>!(.JH b)
 | .float b _=>!(.Ss b)
 | .ref a=>!(.ref a)
 | .type n=>!(.ty n)
 | _=>none
def az.abs{x:V}(r:az x u):abu u=!x:=by
 cases x with
 | bt=>cases r;rfl
 | bl _=>cases r;rfl
 | int _=>let(t,rfl):=r;rfl
 | str _=>let(t,rfl):=r;rfl
 | JH _=>let(t,rfl):=r;rfl
 | Ss _=>let(t,rfl):=r;rfl
 | ref _=>cases r;rfl
 | ty _=>cases r;rfl
def az.inj{x:V}{u:Value}(r:az x u)(q:az y u):x=y:=aaI (r.abs.symm.trans q.abs)
def aD.inj:∀{xs ys:List V} {us:List Value},aD xs us->aD ys us->xs=ys
 | _,_,_,.nil,.nil=>rfl
 | _,_,_,.cons r t,.cons r' t'=>by rw[r.inj r',aD.inj t t']
section
variable{H:Hp}{xs ys:List V}
def gY.of{K:fI}(h:H a=!(.lst xs)):gY K H a xs:=.inl (.inl h)
def nj.of{K:fI}(h:H a=!(.tup xs)):nj K H a xs:=.inl (.inl h)
def Inv.list(I:Inv X η σ H s)(h:gY X.K H a xs):∃its:List Value,aD xs its/\PlainL s.heap a its.toArray/\-xs<=sizeLine:=by
 rcases h with h| ⟨o,its,n,hk,hc,hd,hs,hz,r⟩
 .let(z,its,n,r,e):=h.ok I.aN;show(its,r,(_,n,e,rfl,rfl,rfl),z)
 .show(its.toList,r,(o,n,I.rP a o hk,hc,hd,by simpa using hs),?_);let e:=-r;simp only[Array.length_toList]at e;omega
def Inv.tuple(I:Inv X η σ H s)(h:nj X.K H a xs):∃its:List Value,aD xs its/\IsTup s.heap a its.toArray/\-xs<=sizeLine:=by
 rcases h with h| ⟨o,its,n,hk,hc,hs,hz,r⟩
 .let(z,its,r,p):=h.ok I.aN;show(its,r,p,z)
 .show(its.toList,r,(o,I.rP a o hk,hc,n,by simpa using hs),?_);let e:=-r;simp only[Array.length_toList]at e;omega
def Inv.iB(I:Inv X η σ H s)(h:gY X.K H a xs)(h':gY X.K H a ys):xs=ys:=by
 let(its,r,(o,n,e,_,_,d),_):=I.list h;let(its',r',(o',n',e',_,_,d'),_):=I.list h';rw[e]at e';cases e';rw[d]at d';injection d' with d1 _
 have:its=its':=by simpa using congrArg Array.toList d1
 subst this;show r.inj r'
def Inv.wY(I:Inv X η σ H s)(h:nj X.K H a xs)(h':nj X.K H a ys):xs=ys:=by
 let(its,r,(o,e,_,n,d),_):=I.tuple h;let(its',r',(o',e',_,n',d'),_):=I.tuple h';rw[e]at e';cases e';rw[d]at d';injection d' with d1 _
 have:its=its':=by simpa using congrArg Array.toList d1
 subst this;show r.inj r'
end
section
variable{st:Stmt}{rest:List Stmt}{t u:TS}
def Vy:TS:=λD σ H=>D.nx σ H
def aca(t u:TS):TS:=λD σ H=>t {D with nx:=u D} σ H
def OA:JD X [] Vy:=λ_ _ σ H _ I h=>wpAny_execs_nil (σ,H,I,h)
def MJ(h1:PS X st t)(h2:JD X rest u):JD X (st::rest) (aca t u):=by
 intro η s σ H D I h;show wpAny_execs_cons (bP (h1 η s σ H {D with nx:=u D} I h) λf s1 q=>?_);cases f with
 | next=>
  let(σ',H',I',q):=q;show h2 η s1 σ' H' D I' q
 | ret v=>show q
 | brk=>show q
 | cont=>show q
def Oj(h1:PS X st t):JD X [st] t:=by
 intro η s σ H D I h;show wpAny_execs_cons (bP (h1 η s σ H D I h) λf s1 q=>?_);cases f with
 | next=>show wpAny_execs_nil q
 | ret v=>show q
 | brk=>show q
 | cont=>show q
def W6:TS:=λD σ H=>D.ct σ H
def CI:PS X (.Continue pos) W6:=λ_ _ σ H _ I h=>wpAny_Continue (σ,H,I,h)
def Inv.quiet{H:Hp}(I:Inv X η σ H s):interactive X.env=false:=by simp[interactive,I.ok.kind]
def We(te:TE):TS:=λD σ H=>te σ H λ_ H1=>D.nx σ H1
def O_(he:PE X e te)(hs:swapsWith e none pos.line X.env=pure false|>1):PS X (.Expr e pos) (We te):=by intro η s σ H D I h;show wpAny_Expr_any (bP (he η s σ H _ I h) λv s1 (x,H1,I1,r1,q1)=>(σ,H1,I1,q1)) I.quiet hs
def abj(te:TE):TS:=λD σ H=>te σ H D.rt
def TZ(he:PE X e te):PS X (.Return (!e) pos) (abj te):=by intro η s σ H D I h;show wpAny_Return_some (bP (he η s σ H _ I h) λv s1 (x,H1,I1,r1,q1)=>(x,σ,H1,I1,r1,q1))
def ZS(c:TT)(t u:TS):TS:=λD σ H=>c σ H λb H1=>if b=true then t D σ H1 else u D σ H1
def Xp{a b:List Stmt}(hc:PT X c tc)(ha:JD X a t)(hb:JD X b u):PS X (.If c a b pos) (ZS tc t u):=by
 intro η s σ H D I h;show wpAny_If (bP (hc η s σ H _ I h) λd s1 xz=>?_);let(H1,I1,q1):=xz;cases d with
 | true=>show ha η s1 σ H1 D I1 q1
 | false=>show hb η s1 σ H1 D I1 q1
end
abbrev TG:=V->St->Hp->(St->Hp->Prop)->Prop
abbrev T9:=List V->St->Hp->(St->Hp->Prop)->Prop
def PG(X:Cx)(target:Expr)(t:TG):Prop:=
 ∀(η:List (Addr×Obj)) (s:Shared) (σ:St) (H:Hp) (v:V) (u:Value) (Q:St->Hp->Prop),Inv X η σ H s->az v u->t v σ H Q->
  wpAny (model X.prog X.w) X.A (assign target X.env u) (λ_ s'=>∃σ' H',Inv X η σ' H' s'/\Q σ' H') X.xe s
def XX(X:Cx)(ts:List Expr)(t:T9):Prop:=
 ∀(η:List (Addr×Obj)) (s:Shared) (σ:St) (H:Hp) (vs:List V) (us:List Value) (Q:St->Hp->Prop),Inv X η σ H s->aD vs us->t vs σ H Q->
  wpAny (model X.prog X.w) X.A (assignInOrder ((assignEach ts X.env).map (·.2)) us) (λ_ s'=>∃σ' H',Inv X η σ' H' s'/\Q σ' H') X.xe s
abbrev R9:=V->V->V->Hp->(Hp->Prop)->Prop
def Xw(X:Cx)(t:R9):Prop:=
 ∀(η:List (Addr×Obj)) (s:Shared) (σ:St) (H:Hp) (o i v:V) (ov iv u:Value) (Q:Hp->Prop),Inv X η σ H s->az o ov->az i iv->az v u->t o i v H Q->
  wpAny (model X.prog X.w) X.A (setItem ov iv u) (λ_ s'=>∃H',Inv X η σ H' s'/\Q H') X.xe s
section
def gX(i:Nat):TG:=λv σ H Q=>Q (σ.set i (!v)) H
def Ω(hN:X.N.Nodup)(hi:X.N[i]? =!x)(hx:Loc X.env.scope x)(hf:X.fn x=true\/X.env.scope.names.lookup x=some .local|>4):PG X (.Name x pos) (gX i):=by intro η s σ H v u Q I r h;show wpAny_assign_Name (pe I hN hi hx r (λs' I'=>(_,H,I',h)) hf)
def Jl:T9:=λvs σ H Q=>vs=[]/\Q σ H
def kW(t:TG)(u:T9):T9:=λvs σ H Q=>∃v r,vs=v::r/\t v σ H λσ' H'=>u r σ' H' Q
def iV:XX X [] Jl:=by intro η s σ H vs us Q I r h;let(e,h):=h;subst e;cases r;show assignInOrder_nil (σ,H,I,h)
def bG{u:T9}(h1:PG X e t)(h2:XX X es u)
  (hs:(assignEach (e::es) X.env).map (·.2)=assign e X.env::(assignEach es X.env).map (·.2)|>1):XX X (e::es) (kW t u):=by
 intro η s σ H vs us Q I r h;let(v,vr,e1,h):=h;subst e1;cases r with
 | cons r rr=>
  rw[hs];show assignInOrder_cons (bP (h1 η s σ H _ _ _ I r h) λ_ s1 xz=>?_);let(σ1,H1,I1,q1):=xz;show h2 η s1 σ1 H1 _ _ Q I1 rr q1
def Hj(K:fI)(n:Nat)(t:T9):TG:=λv σ H Q=>∃a xs,v= .ref a/\nj K H a xs/\-xs=n/\t xs σ H Q
def lX{k:Nat}{n:Nat}(hc:X.calm=true)(h:XX X es t)
  (hn:-(assignEach es X.env)=n|>1) (Ud:(assignEach es X.env).findIdx? (·.1)=none|>1):PG X (.Tuple es k pos) (Hj X.K n t):=by
 intro η s σ H v u Q I r hw;let(a,xs,e1,hq,hl,hw):=hw;subst e1;cases r;let(its,rv,ht,hz):=I.tuple hq;show assign_Tuple_tuple (I.ok.hd hc) ht (by simp[hn,<-hl,(-rv)]) Ud λh' hx=>?_;let I1:Inv X η σ H {s with heap:=h'}:=I.kept (t':=s.toks) λb o e=>hx b o (abr (aaM e)) e;show h η _ σ H xs _ Q I1 (by simpa using rv) hw
def ZF(to ti:TE)(t:R9):TG:=λv σ H Q=>to σ H λo H1=>ti σ H1 λi H2=>t o i v H2 λH3=>Q σ H3
def Rn{o i:Expr}(ho:PE X o to)(hi:PE X i ti)(hs:Xw X t)
  (ha:(∀v,assign (.Subscript o i pos) X.env v=(do
   let  ov<-holding [v] (eval o X.env)
   let  iv<-holding [v,ov] (eval i X.env)
   standAt pos
   holding [v,ov,iv] (setItem ov iv v)
   release [v,ov,iv] []))|>3):PG X (.Subscript o i pos) (ZF to ti t):=by
 intro η s σ H v u Q I r h;rw[ha];show aaq (wpAny_holding (bP (ho η s σ H _ I h) λov s1 xz=>?_));let(x,H1,I1,r1,q1):=xz;show aaq (wpAny_holding (bP (hi η s1 σ H1 _ I1 q1) λiv s2 xz=>?_));let(y,H2,I2,r2,q2):=xz;show aaq (wpAny_standAt (aaq (wpAny_holding (bP (hs η s2 σ H2 x y v ov iv u _ I2 r1 r2 r q2) λ_ s3 xz=>?_))));let(H3,I3,q3):=xz;show wpAny_release (σ,H3,I3,q3)
def UY(te:TE)(g:TG):TS:=λD σ H=>te σ H λx H1=>g x σ H1 D.nx
def K2{g:TG}(he:PE X e te)(hg:PG X tg g)(hs:swapsWithSole [tg] e pos.line X.env=pure false|>1)(hw:swappedStores [tg] e X.env=pure none|>1)
  (h1:(assignEach [tg] X.env).map (·.2)=[assign tg X.env]|>1):PS X (.Assign [tg] e pos) (UY te g):=by
 intro η s σ H D I h;show wpAny_Assign_stores (bP (he η s σ H _ I h) λv s1 xz=>?_) hs hw;let(x,H1,I1,r1,q1):=xz;rw[h1];show bP (hg η s1 σ H1 x v _ I1 r1 q1) λ_ s2 q=>q
def S4(hN:X.N.Nodup)(hi:X.N[i]? =!x)(hx:Loc X.env.scope x)(he:PE X e te)(hs:swapsWith e (!(.Name x pos')) pos.line X.env=pure false|>1)(hf:X.fn x=true\/X.env.scope.names.lookup x=some .local|>4):
  PS X (.Assign [.Name x pos'] e pos) (UY te (gX i)):=by
 intro η s σ H D I h;show wpAny_Assign_Name (bP (he η s σ H _ I h) λv s1 xz=>?_) hs;let(y,H1,I1,r1,q1):=xz;show pe I1 hN hi hx r1 (λs2 I2=>(_,H1,I2,q1)) hf
def aa8(i j:Nat)(ta:TA):TS:=λD σ H=>ta σ H λvs H1=>∃v w,vs=[v,w]/\D.nx ((σ.set i (!v)).set j (!w)) H1
def RS{j:Nat}{a b:Expr}{ta:TA}{kt k2 RL}(hc:X.calm=true)(hN:X.N.Nodup)(hi:X.N[i]? =!x)(hj:X.N[j]? =!y)(hij:i≠j)
  (hx:X.env.scope.names.lookup x=some .local) (hy:X.env.scope.names.lookup y=some .local) (ha:PA X [a,b] ta)
  (hw:swappedStores [.Tuple [.Name x px,.Name y py] kt pt] (.Tuple [a,b] k2 RL) X.env=pure (![x,y]))
  (hs:swapsWithSole [.Tuple [.Name x px,.Name y py] kt pt] (.Tuple [a,b] k2 RL) pos.line X.env=pure false|>1):
  PS X (.Assign [.Tuple [.Name x px,.Name y py] kt pt] (.Tuple [a,b] k2 RL) pos) (aa8 i j ta):=by
 intro η s σ H D I h;rw[exec_Assign_arm];show aaq (wpAny_standAt ?_);rw[hs];show aaq (abd ?_);rw[aa2 @_];show aaq (Tuple_ (bP (ha _ η s σ H _ I h) λus s1 xz=>?_));let(vs,H1,I1,r1,q1):=xz;let(v,w,e1,q1):=q1;subst e1;obtain⟨u1,u2,rfl,rv,Ff⟩:∃u1 u2,us=[u1,u2]/\az v u1/\az w u2:=by
  cases r1 with
  | cons p q=>
   cases q with
   | cons p' q'=>
    cases q';show(_,_,rfl,p,p')
 show wpAny_newObj_type ?_ gV;let I2:Inv X η σ H1 {s1 with heap:=s1.heap.push {cls:=.type "tuple",data:=.seq [u1,u2].toArray}}:=I1.kept (t':=s1.toks) λb o e=>aar _ e;rw[hw];show aaq (abd ?_);change wpAny (model X.prog X.w) X.A (do rule "assign.swapped-stores";let  items<-unpackItems (.ref s1.heap.objs.size) 2 none;assignInOrder [λv=>bindName X.env y v,λv=>bindName X.env x v] items.reverse;pure Flow.next) _ _ _;show aaq (wpAny_rule (aaq (unpackItems_tuple (items:= #[u1,u2]) (I.ok.hd hc) (IsTup.new s1.heap _) λh' Uk=>?_)));let I3:=I2.kept (h':=h') (t':=s1.toks) λb o e=>Uk b o (abr (aaM e)) e;change wpAny _ _ (assignInOrder [λv=>bindName X.env y v,λv=>bindName X.env x v] [u2,u1] >>= λ_=>pure Flow.next) _ _ _;show aaq (assignInOrder_cons (wpAny_bindName (pe I3 hN hj (.inl hy) Ff (λs2 I4=>?_) (.inr hy))));show assignInOrder_cons (wpAny_bindName (pe I4 hN hi (.inl hx) rv (λs3 I5=>assignInOrder_nil (abd ?_)) (.inr hx)));rw[List.set_comm _ _ (Ne.symm hij)]at I5;show(_,H1,I5,q1)
end
section
def TJ(c:TT)(tb:TS):TS:=λD σ H=>∃W:Nat->St->Hp->Prop,(∃m,W m σ H)/\∀m σ H,W m σ H->
 c σ H λb H1=>if b=true then∃N:St->Hp->Prop,(∀σ' H',N σ' H'->∃m',m' < m/\W m' σ' H')/\tb {D with nx:=N,ct:=N,bk:=D.nx} σ H1 else D.nx σ H1
def MS(hp:PassesOwn (model X.prog X.w) X.A X.env X.xe)(hc:PT X c tc)(hb:JD X body tb):PS X (.While c body [] pos) (TJ tc tb):=by
 intro η s σ H D I h;let(W,(m0,w0),turn):=h;show wpAny_While (codeAny_whileLoop (λn s'=>∃σ' H',Inv X η σ' H' s'/\W n σ' H') ?_ m0 (σ,H,I,w0));rintro n s1 ⟨σ1,H1,I1,w1⟩;show wpAny_passesOwn hp (bP (hc η s1 σ1 H1 _ I1 (turn n σ1 H1 w1)) λb s2 xz=>?_);let(H2,I2,q2):=xz;cases b with
 | true=>
  let(N,hN,q2):=q2;rw[aa1 rfl];show wpAny_passesOwn hp (bP (hb η s2 σ1 H2 _ I2 q2) λf s3 q3=>?_);cases f with
  | next=>
   let(σ3,H3,I3,n3):=q3;let(m',hm,w3):=hN σ3 H3 n3;show(m',hm,σ3,H3,I3,w3)
  | cont=>
   let(σ3,H3,I3,n3):=q3;let(m',hm,w3):=hN σ3 H3 n3;show(m',hm,σ3,H3,I3,w3)
  | brk=>show q3
  | ret v=>show q3
 | false=>
  rw[aa2 aa7];show wpAny_execs_nil (σ1,H2,I2,q2)
end
structure It where
 go:Nat->Hp->Prop
 Vv:Nat->Hp->V->Hp->Prop
 stop:Nat->Hp->Prop
def u6(X:Cx)(η:List (Addr×Obj))(H:Hp)(b:Addr):Prop:=
 H b=none/\b≠X.env.locals/\b∉X.fs/\(b∈X.ex\/X.s₀.heap.objs.size<=b)/\(∀x c,X.env.cells.lookup x=!c->c≠b)/\∀p∈X.pn++η,p.1≠b
def Inv.E8{H H':Hp}(I:Inv X η σ H s)(hb:s.heap.objs.size<=b)(hn:H' b=none):u6 X η H' b:=by
 show(hn,adH (aaV I.lt hb),I.ab5 hb,.inr (aaR I.sz hb),λx c e z=>?_,λp hp z=>?_)
 .let(v,q):=I.cell x c e;show abc (aaV q.lt (by rw[z];show hb)) (aci _)
 .show abc (aaV (aaM (I.pin p hp).1) (by rw[z];show hb)) (aci _)
structure Turn(P:Program)(w:World)(K:fI)(tg:Expr)(J:It)(fp:List Addr)(it:Addr)(tn:Nat->Heap->Prop):Prop where
 mem:it∈fp
 obj:∀i h,tn i h->∀b∈fp,∃o,h.get? b=!o/\∀v,o.data≠ .cell v
 keep:∀i h h',tn i h->(∀b∈fp,∀o,h.get? b=!o->h'.get? b=!o)->tn i h'
 item:∀(X:Cx),X.prog=P->X.w=w->X.K=K->X.calm=true->∀(i:Nat) (η:List (Addr×Obj)) (s:Shared) (σ:St) (H:Hp) (E:Value->Shared->Prop),Inv X η σ H s->(∀b∈fp,u6 X η H b)->tn i s.heap->J.go i H->
  wpAny (model P w) X.A (pyNext (.ref it)) (λr s1=>∃u,r=!u/\
   wpAny (model P w) X.A (letOwnedTupleGo tg (.ref it) u) (λ_ s2=>∃x H',Inv X η σ H' s2/\az x u/\J.Vv i H x H'/\tn (i+1) s2.heap/\∀b∈fp,H' b=none) E s1) E s
 done:∀(X:Cx),X.prog=P->X.w=w->X.K=K->X.calm=true->∀(i:Nat) (η:List (Addr×Obj)) (s:Shared) (σ:St) (H:Hp) (E:Value->Shared->Prop),Inv X η σ H s->(∀b∈fp,u6 X η H b)->tn i s.heap->J.stop i H->
  wpAny (model P w) X.A (pyNext (.ref it)) (λr s1=>r=none/\Inv X η σ H s1) E s
 self:∀(A:Around) (i:Nat) (s:Shared) (Q:Value->Shared->Prop) (E:Value->Shared->Prop),tn i s.heap->Q (.ref it) s->wpAny (model P w) A (pyIter (.ref it)) Q E s
abbrev TI:=St->Hp->(It->Hp->Prop)->Prop
def Np(X:Cx)(η:List (Addr×Obj))(σ:St)(tg:Expr)(R:It->Hp->Prop)(X7:Value)(s2:Shared):Prop:=
 ∃(it:Addr) (fp:List Addr) (tn:Nat->Heap->Prop) (J:It) (H':Hp),X7= .ref it/\Inv X η σ H' s2/\Turn X.prog X.w X.K tg J fp it tn/\tn 0 s2.heap/\(∀b∈fp,u6 X η H' b)/\R J H'
def PI(X:Cx)(tg iter:Expr)(wi:TI):Prop:=
 ∀(η:List (Addr×Obj)) (s:Shared) (σ:St) (H:Hp) (R:It->Hp->Prop),Inv X η σ H s->wi σ H R->
  wpAny (model X.prog X.w) X.A (eval iter X.env) (λv s1=>wpAny (model X.prog X.w) X.A (pyIter v) (Np X η σ tg R) X.xe s1) X.xe s
def xk{E : Value -> Shared -> Prop}     {o : Obj}   {Q : Unit -> Shared -> Prop} (ho : s.heap.get? it = !o) (hc : o.cls = .type n) (hd : o.data = .fields vs)
    (hn : ["enumerate","zip","dict_itemiterator","dict_reverseitemiterator","odict_iterator","itertools.zip_longest","itertools.pairwise"].contains n = false) (hQ : Q Unit.unit s) : wpAny M A (letOwnedTupleGo tg (.ref it) u) Q E s :=by
  unfold letOwnedTupleGo
  cases tg <;> first
    | show abd hQ
    | (cases u <;> first
        | show abd hQ
        | (show aaq (wpAny_load ho ?_)
           rw[hc,hd];change wpAny M A (if (["enumerate","zip","dict_itemiterator","dict_reverseitemiterator","odict_iterator","itertools.zip_longest","itertools.pairwise"].contains n && vs[0]? == !(rawInt _)) = true then _ else _) Q E s;rw[aa2 (by intro h;rw[hn,Bool.false_and]at h;cases h)]
           show abd hQ))
def XY(K:fI)(a:Addr):It:=
 ⟨λi H=>∃xs x,gY K H a xs/\xs[i]? =!x,λi H x H'=>H'=H/\∀xs,gY K H a xs->xs[i]? =!x,λi H=>∃xs,gY K H a xs/\-xs<=i⟩
def Itt(K:fI)(a:Addr):It:=
 ⟨λi H=>∃xs x,nj K H a xs/\xs[i]? =!x,λi H x H'=>H'=H/\∀xs,nj K H a xs->xs[i]? =!x,λi H=>∃xs,nj K H a xs/\-xs<=i⟩
def U5(lo:Int)(n:Nat):It:=(λi _=>i < n,λi H x H'=>H'=H/\x= .int (lo+i),λi _=>n<=i)
def Iv{K:fI}(a it:Addr):Turn P w K tg (XY K a) [it] it (λi h=>h.IsListIter it a i) where
 mem:=by simp
 obj:=λi h st b hb=>by
  let e:b=it:=by simpa using hb
  subst e;let(o,e,c,d):=st;show(o,e,λv z=>by rw[d]at z;cases z)
 keep:=λi h h' st k=>st.at λo e=>k it (by simp) o e
 item:=by intro X hP hw hK hc i η s σ H E I hf st hg;subst hP hw hK;let(xs,x,hq,hx):=hg;let(its,rv,p,hz):=I.list hq;let(u,hu,ru):=rv.get hx;let(f0,f1,f2,f3,f4,f5):=hf it (by simp);show wpAny_pyNext_list_item st p.isList (x:=u) (by simpa using hu) λh' An sb=>?_;let I1:Inv X η σ H {s with heap:=h'}:=I.turned (t':=s.toks) (λb o hb e=>(sb.2 b hb).trans e) f0 f1 f3 f4 f5;let(o,e,c,d):=id An;show(u,rfl,xk (s:={s with heap:=h'}) e c d @_ (x,H,I1,ru,(rfl,λys hy=>by rw[I.iB hy hq];show hx),An,λb hb=>(hf b hb).1))
 done:=by intro X hP hw hK hc i η s σ H E I hf st hg;subst hP hw hK;let(xs,hq,hx):=hg;let(its,rv,p,hz):=I.list hq;let(f0,f1,f2,f3,f4,f5):=hf it (by simp);let hl:=-rv;show wpAny_pyNext_list_end (I.ok.hd hc) st p.isList (by simp;omega) λh' eb=>(rfl,I.turned (t':=s.toks) (λb o hb e=>eb b o hb e) f0 f1 f3 f4 f5)
 self:=λ_ _ _ _ _ st h=>wpAny_pyIter_listiter st h
def C7{K:fI}(a it:Addr):Turn P w K tg (Itt K a) [it] it (λi h=>h.IsTupleIter it a i) where
 mem:=by simp
 obj:=λi h st b hb=>by
  let e:b=it:=by simpa using hb
  subst e;let(o,e,c,d):=st;show(o,e,λv z=>by rw[d]at z;cases z)
 keep:=λi h h' st k=>st.at λo e=>k it (by simp) o e
 item:=by intro X hP hw hK hc i η s σ H E I hf st hg;subst hP hw hK;let(xs,x,hq,hx):=hg;let(its,rv,p,hz):=I.tuple hq;let(u,hu,ru):=rv.get hx;let(f0,f1,f2,f3,f4,f5):=hf it (by simp);show wpAny_pyNext_tuple_item st (show s.heap.IsTuple a its.toArray from p) (x:=u) (by simpa using hu) λh' An sb=>?_;let I1:Inv X η σ H {s with heap:=h'}:=I.turned (t':=s.toks) (λb o hb e=>(sb.2 b hb).trans e) f0 f1 f3 f4 f5;let(o,e,c,d):=id An;show(u,rfl,xk (s:={s with heap:=h'}) e c d @_ (x,H,I1,ru,(rfl,λys hy=>by rw[I.wY hy hq];show hx),An,λb hb=>(hf b hb).1))
 done:=by intro X hP hw hK hc i η s σ H E I hf st hg;subst hP hw hK;let(xs,hq,hx):=hg;let(its,rv,p,hz):=I.tuple hq;let(f0,f1,f2,f3,f4,f5):=hf it (by simp);let hl:=-rv;show wpAny_pyNext_tuple_end (I.ok.hd hc) st (show s.heap.IsTuple a its.toArray from p) (by simp;omega) λh' eb=>(rfl,I.turned (t':=s.toks) (λb o hb e=>eb b o hb e) f0 f1 f3 f4 f5)
 self:=λ_ _ _ _ _ st h=>wpAny_pyIter_tupleiter st h
def DR{K:fI}(it:Addr)(lo:Int)(n:Nat):Turn P w K tg (U5 lo n) [it] it (λi h=>IsRangeIter h it (lo+(i:Nat) * 1) ((n:Int) - (i:Nat)) 1) where
 mem:=by simp
 obj:=λi h st b hb=>by
  let e:b=it:=by simpa using hb
  subst e
  show(_,st,λv z=>by
   let z':Data.fields _=Data.cell v:=z
   cases z')
 keep:=λi h h' st k=>k it (by simp) _ st
 item:=by intro X hP hw hK hc i η s σ H E I hf st hg;subst hP hw hK;let(f0,f1,f2,f3,f4,f5):=hf it (by simp);let W:=Walks.range (prog:=X.prog) (w:=X.w) (I.ok.hd hc) it lo 1 n;show W.item i s _ _ hg st λv h' tk hv An kk=>?_;let(t,rfl):=hv;let I1:Inv X η σ H {s with heap:=h',toks:=tk}:=I.turned (λb o hb e=>kk b o (by simpa using hb) e) f0 f1 f3 f4 f5;show(_,rfl,xk (s:={s with heap:=h',toks:=tk}) (n:="range_iterator") An rfl rfl @_ (.int (lo+i),H,I1,(t,?_),(rfl,rfl),An,λb hb=>(hf b hb).1));rw[Int.mul_one]
 done:=by intro X hP hw hK hc i η s σ H E I hf st hg;subst hP hw hK;let(f0,f1,f2,f3,f4,f5):=hf it (by simp);show wpAny_pyNext_range_end (I.ok.hd hc) st (by have:n<=i:=hg;omega) λh' eb=>(rfl,I.turned (t':=s.toks) (λb o hb e=>eb b o hb e) f0 f1 f3 f4 f5)
 self:=λ_ _ _ _ _ st h=>wpAny_pyIter_rangeiter st h
section
def Cp{H:Hp}{R:It->Hp->Prop}{lo hi:Int}{u v:Tok}{tk:Nat}(I:Inv X η σ H s)(h1: - (2 ^ 62)<=lo)(h2:lo < 2 ^ 62)(h3: - (2 ^ 62)<=hi)(h4:hi < 2 ^ 62)
  (q:R (U5 lo (hi - lo).toNat) H):wpAny (model X.prog X.w) X.A (pyIter (.ref s.heap.objs.size)) (Np X η σ tg R) E {s with heap:=s.heap.push {cls:=.type "range",data:=.fields #[.int lo t,.int hi u,.int 1 v]},toks:=tk}:=by
 show wpAny_pyIter_range (IsRange.new ..) (small_one h1 h2 h3 h4) ?_;let I1:Inv X η σ H {s with heap:=s.heap.push {cls:=.type "range",data:=.fields #[.int lo t,.int hi u,.int 1 v]},toks:=tk}:=I.kept λb o e=>aar _ e
 show((s.heap.push {cls:=.type "range",data:=.fields #[.int lo t,.int hi u,.int 1 v]}).objs.size,[(s.heap.push {cls:=.type "range",data:=.fields #[.int lo t,.int hi u,.int 1 v]}).objs.size],_,_,H,rfl,
  I1.kept (t':=tk) λb o e=>aar _ e,DR _ lo (hi - lo).toNat,?_,λb hb=>?_,q)
 .let e1:lo+((0:Nat):Int) * 1=lo:=by simp
  let e2:(((hi - lo).toNat:Nat):Int) - ((0:Nat):Int)=Builtin.Range.rangeSize lo hi 1:=by rw[rangeSize_one];split <;> omega
  change IsRangeIter _ _ (lo+((0:Nat):Int) * 1) ((((hi - lo).toNat:Nat):Int) - ((0:Nat):Int)) 1;rw[e1,e2];show abn _ rfl
 .let e:b=(s.heap.push {cls:=.type "range",data:=.fields #[.int lo t,.int hi u,.int 1 v]}).objs.size:=by simpa using hb
  subst e;show I1.E8 (aas _) (I1.aN.fresh (aas _))
def WK(ta:TA):TI:=λσ H R=>ta σ H λvs H1=>∃j:Int,vs=[.int j]/\ - (2 ^ 62)<=j/\j < 2 ^ 62/\R (U5 0 j.toNat) H1
def Wh(ta:TA):TI:=λσ H R=>ta σ H λvs H1=>∃i j:Int,vs=[.int i,.int j]/\(- (2 ^ 62)<=i/\i < 2 ^ 62/\ - (2 ^ 62)<=j/\j < 2 ^ 62)/\R (U5 i (j - i).toNat) H1
def H_{a:Expr}{ta:TA}(hg:Gl X "range")(hm:X.mg "range"=none)(ha:PA X [a] ta)(hs:starEach [a] X.env=[(false, eval a X.env)]|>1):PI X tg (.Call (.Name "range" p) [a] [] pos) (WK ta):=by
 intro η s σ H R I h;show Call_ (nW I hg hm boot_range (PyProof.Rows.callWith_type1 (bP (ha pos η s σ H _ I h) λus s1 xz=>?_) hs rfl));let(vs,H1,I1,r1,q1):=xz;let(j,e,q1,q2,q):=q1;subst e;cases r1 with
 | cons r rr=>
  cases rr;let(t,rfl):=r;show call_range_1 (Cp I1 () () q1 q2 (by simpa using q))
def Ir{a b:Expr}{ta:TA}(hg:Gl X "range")(hm:X.mg "range"=none)(ha:PA X [a,b] ta)(hs:starEach [a,b] X.env=[(false, eval a X.env),(false, eval b X.env)]|>1)(Sa:starEach [b] X.env=[(false, eval b X.env)]|>1):
  PI X tg (.Call (.Name "range" p) [a,b] [] pos) (Wh ta):=by
 intro η s σ H R I h;show Call_ (nW I hg hm boot_range (PyProof.Rows.callWith_type1 (bP (ha pos η s σ H _ I h) fun us s1 (vs,H1,I1,r1,q1)=>?_) (by rw[hs,Sa]) (by rw[Sa];rfl)));let(i,j,e,(q1,q2,q3,q4),q):=q1;subst e;cases r1 with
 | cons r rr=>
  cases rr with
  | cons r' rr=>
   cases rr;let(t,rfl):=r;let(t',rfl):=r';show call_range_2 (Cp I1 q1 q2 q3 q4 q)
def abD(wi:TI)(g:TG)(tb:TS):TS:=λD σ H=>wi σ H λJ H1=>∃W:Nat->Nat->St->Hp->Prop,(∃m,W 0 m σ H1)/\∀i m σ H,W i m σ H->
 (J.stop i H/\D.nx σ H)\/(J.go i H/\∃N:St->Hp->Prop,(∀σ' H',N σ' H'->∃m',m' < m/\W (i+1) m' σ' H')/\∀x H',J.Vv i H x H'->g x σ H' λσ2 H2=>tb {D with nx:=N,ct:=N,bk:=D.nx} σ2 H2)
def zv(fp:List Addr)(h:Heap):List (Addr×Obj):=fp.filterMap λb=>(h.get? b).map λo=>(b, o)
def gh{o:Obj}(hb:b∈fp)(e:h.get? b=!o):(b, o)∈zv fp h:=ady.mpr (b,hb,by rw[e];rfl)
def Hf{p:Addr×Obj}(hp:p∈zv fp h):p.1∈fp/\h.get? p.1=!p.2:=by
 let(b,hb,e):=ady.mp hp;cases q:h.get? b with
 | none=>rw[q]at e;cases e
 | some o=>
  rw[q]at e;let e':(b, o)=p:=aaI e;subst e';show(hb,q)
def Inv.pinned{H:Hp}(I:Inv X η σ H s)(hf:∀b∈fp,u6 X η H b)(ho:∀b∈fp,∃o,s.heap.get? b=!o/\∀v,o.data≠ .cell v):Inv X (η++zv fp s.heap) σ H s:=
 I.Fx λp hp=>(abt.mp hp).elim (λz=>I.pin p (aaP _ z)) λz=>by let(hb,e):=Hf z;let(f0,f1,f2,_):=hf p.1 hb;let(o,e',d):=ho p.1 hb;rw[e]at e';cases e';show(e,f0,f1,f2,d)
def Inv.lR{pl:List (Addr×Obj)}{H:Hp}(I:Inv X (η++pl) σ H s):Inv X η σ H s:=I.Fx λp hp=>I.pin p (aaP _ (List.mem_append_left _ hp))
def DW{g:TG}(hp:PassesOwn (model X.prog X.w) X.A X.env X.xe)(hc:X.calm=true)(hi:PI X tg iter wi)(hg:PG X tg g)(hb:JD X body tb)
  (hs:(∀x,foldedSetIterable iter X.env x=pure x)|>3):PS X (.For tg iter body [] pos) (abD wi g tb):=by
 intro η s σ H D I h;show wpAny_For (bP (hi η s σ H _ I h) λv s1 h1=>bP h1 λX7 s2 h2=>?_) hs;let(it,fp,tn,J,H2,e,I2,T,st2,f2,W,(m0,w0),turn):=h2;subst e;let Td:∀{H':Hp},(∀b∈fp,H' b=none)->∀b∈fp,u6 X η H' b:=λhn b hb=>(hn b hb,(f2 b hb).2);show codeAny_forLoop_any (λn s'=>∃i σ' H',Inv X η σ' H' s'/\tn i s'.heap/\(∀b∈fp,H' b=none)/\W i n σ' H') ?_ m0 (0,σ,H2,I2,st2,λb hb=>(f2 b hb).1,w0);rintro n s3 ⟨i,σ3,H3,I3,st3,fr3,w3⟩;rcases turn i n σ3 H3 w3 with ⟨stop,qn⟩| ⟨go,N,hN,step⟩
 .show wpAny_passesOwn hp (bP (T.done X rfl rfl rfl hc i η s3 σ3 H3 X.xe I3 (Td fr3) st3 stop) λr s4 xz=>?_);let(hr,I4):=xz;subst hr;show wpAny_execs_nil (σ3,H3,I4,qn)
 .show wpAny_passesOwn hp (bP (T.item X rfl rfl rfl hc i η s3 σ3 H3 X.xe I3 (Td fr3) st3 go) λr s4 xz=>?_);let(u,hr,h4):=xz;subst hr;show wpAny_passesOwn hp (bP h4 λ_ s5 xz=>?_);let(x,H5,I5,r5,y5,Y2,Yd):=xz;let I5':=I5.pinned (Td Yd) (T.obj _ _ Y2);show wpAny_passesOwn hp (bP (hg _ s5 σ3 H5 x u _ I5' r5 (step x H5 y5)) λ_ s6 xz=>?_);let(σ6,H6,I6,q6):=xz;show wpAny_passesOwn hp (bP (hb _ s6 σ6 H6 _ I6 q6) λf s7 q7=>?_);let again:∀{σ7:St} {H7:Hp},Inv X (η++zv fp s5.heap) σ7 H7 s7->N σ7 H7->∃m,m < n/\∃i σ' H',Inv X η σ' H' s7/\tn i s7.heap/\(∀b∈fp,H' b=none)/\W i m σ' H':=λ{σ7 H7} I7 n7=>by let(m',hm,w7):=hN σ7 H7 n7;show(m',hm,i+1,σ7,H7,I7.lR,T.keep _ _ _ Y2 λb hb o e=>(I7.pin (b, o) (aaP _ (aaP _ (gh hb e)))).1,λb hb=>?_,w7);let(o,e,d):=T.obj _ _ Y2 b hb;show(I7.pin (b, o) (aaP _ (aaP _ (gh hb e)))).2.1
  cases f with
  | next=>let(σ7,H7,I7,n7):=q7;show again I7 n7
  | cont=>let(σ7,H7,I7,n7):=q7;show again I7 n7
  | brk=>let(σ7,H7,I7,q7):=q7;show(σ7,H7,I7.lR,q7)
  | ret v=>let(x7,σ7,H7,I7,r7,q7):=q7;show(x7,σ7,H7,I7.lR,r7,q7)
end
abbrev R2:=V->V->Hp->VK->Prop
def jW(X:Cx)(f:Value->Value->Sem Value)(r:R2):Prop:=
 ∀(η:List (Addr×Obj)) (s:Shared) (σ:St) (H:Hp) (x y:V) (v u:Value) (Q:VK),Inv X η σ H s->az x v->az y u->r x y H Q->
  wpAny (model X.prog X.w) X.A (f v u) (EP X η σ Q) X.xe s
def X0(X:Cx)(f:Value->Sem Value)(r:V->Hp->VK->Prop):Prop:=
 ∀(η:List (Addr×Obj)) (s:Shared) (σ:St) (H:Hp) (x:V) (v:Value) (Q:VK),Inv X η σ H s->az x v->r x H Q->
  wpAny (model X.prog X.w) X.A (f v) (EP X η σ Q) X.xe s
def eC(X:Cx)(f:Value)(r:List V->Hp->VK->Prop):Prop:=
 ∀(η:List (Addr×Obj)) (s:Shared) (σ:St) (H:Hp) (xs:List V) (us:List Value) (Q:VK),Inv X η σ H s->aD xs us->r xs H Q->
  wpAny (model X.prog X.w) X.A (call f us) (EP X η σ Q) X.xe s
def U'(r:R2)(ta tb:TE):TE:=λσ H Q=>ta σ H λx H1=>tb σ H1 λy H2=>r x y H2 Q
def tUn(r:V->Hp->VK->Prop)(ta:TE):TE:=λσ H Q=>ta σ H λx H1=>r x H1 Q
def rI(C:Int->Int->Prop)(g:Int->Int->V):R2:=λx y H Q=>∃i j,x= .int i/\y= .int j/\C i j/\Q (g i j) H
def Jg(g:Int->Int->V):R2:=λx y H Q=>∃i j,x= .int i/\y= .int j/\Q (g i j) H
def rU(g:Int->V):V->Hp->VK->Prop:=λx H Q=>∃i,x= .int i/\Q (g i) H
section
variable{a b:Expr}{tb tc:TE}
def Ti(ha:PE X a ta)(hb:PE X b tb){H:Hp}{R:V->V->Hp->Prop}(I:Inv X η σ H s)
  (h:ta σ H λx H1=>tb σ H1 λy H2=>R x y H2)
  (hf:∀v u s2 x y H2,Inv X η σ H2 s2->az x v->az y u->R x y H2->wpAny (model X.prog X.w) X.A (f v u) Q X.xe s2):
  wpAny (model X.prog X.w) X.A (eval a X.env) (λv s₁=>wpAny (model X.prog X.w) X.A (eval b X.env) (λu s₂=>wpAny (model X.prog X.w) X.A (f v u) Q X.xe s₂) X.xe s₁) X.xe s:=by
 show bP (ha η s σ H _ I h) λv s1 xz=>?_;let(x,H1,I1,r1,q1):=xz;show bP (hb η s1 σ H1 _ I1 q1) λu s2 xz=>?_;let(y,H2,I2,r2,q2):=xz;show hf v u s2 x y H2 I2 r1 r2 q2
def WI{op:Operator}(ho:jW X (binaryOp op) r)(ha:PE X a ta)(hb:PE X b tb):PE X (.BinOp a op b pos) (U' r ta tb):=by intro η s σ H Q I h;show wpAny_BinOp (Ti ha hb I h λv u s2 x y H2 I2 rx ry q=>ho η s2 σ H2 x y v u Q I2 rx ry q)
def XG{op:UnaryOp}(ho:X0 X (unaryOp op) r)(ha:PE X a ta):PE X (.UnaryOp op a pos) (tUn r ta):=by intro η s σ H Q I h;show UnaryOp_ (bP (ha η s σ H _ I h) λv s1 (x,H1,I1,r1,q1)=>ho η s1 σ H1 x v Q I1 r1 q1)
def Yx{C:Int->Int->Prop}{g:Int->Int->Int}
  (rule:∀(i j:Int) (t u:Tok) (s:Shared) (Q:Value->Shared->Prop) (E:Value->Shared->Prop),C i j->Q (.int (g i j) s.toks) {s with toks:=s.toks+1}->wpAny (model X.prog X.w) X.A (f (.int i t) (.int j u)) Q E s):
  jW X f (rI C λi j=>.int (g i j)):=by
 intro η s σ H x y v u Q I rx ry h;let(i,j,rfl,rfl,hc,q):=h;let(t,rfl):=rx;let(t',rfl):=ry;show rule i j t t' s _ _ hc (.int (g i j),H,I.tok _,(_,rfl),q)
def VI{g:Int->Int->Int}
  (rule:∀(i j:Int) (t u:Tok) (s:Shared) (Q:Value->Shared->Prop) (E:Value->Shared->Prop),Q (.int (g i j) s.toks) {s with toks:=s.toks+1}->wpAny (model X.prog X.w) X.A (f (.int i t) (.int j u)) Q E s):
  jW X f (Jg λi j=>.int (g i j)):=by
 intro η s σ H x y v u Q I rx ry h;let(i,j,rfl,rfl,q):=h;let(t,rfl):=rx;let(t',rfl):=ry;show rule i j t t' s _ _ (.int (g i j),H,I.tok _,(_,rfl),q)
def P7{g:Int->Int->Bool}
  (rule:∀(i j:Int) (t u:Tok) (s:Shared) (Q:Value->Shared->Prop) (E:Value->Shared->Prop),Q (.bool (g i j)) s->wpAny (model X.prog X.w) X.A (f (.int i t) (.int j u)) Q E s):
  jW X f (Jg λi j=>.bl (g i j)):=by
 intro η s σ H x y v u Q I rx ry h;let(i,j,rfl,rfl,q):=h;let(t,rfl):=rx;let(t',rfl):=ry;show rule i j t t' s _ _ (.bl (g i j),H,I,rfl,q)
def CG(i j:Int):Prop:=0<=j/\j<=1000000/\i.natAbs < 2 ^ 64
def Tw:jW X (binaryOp .Add) (Jg λi j=>.int (i+j)):=VI λ_ _ _ _ _ _ _ q=>add_int q
def SR:jW X (binaryOp .Sub) (Jg λi j=>.int (i - j)):=VI λ_ _ _ _ _ _ _ q=>sub_int q
def RN:jW X (binaryOp .Mod) (rI (λ_ j=>0 < j) λi j=>.int (i % j)):=Yx λi j _ _ _ _ _ hc q=>by let h1:(0:Int) < j:=hc;show mod_int' () (by rw[acX i ()];show q)
def Sv:jW X (binaryOp .Pow) (rI CG λi j=>.int (i ^ j.toNat)):=Yx λ_ _ _ _ _ _ _ hc q=>pow_int_small hc.1 hc.2.1 hc.2.2 q
def unI{f:Value->Sem Value}{g:Int->Int}
  (rule:∀(i:Int) (t:Tok) (s:Shared) (Q:Value->Shared->Prop) (E:Value->Shared->Prop),Q (.int (g i) s.toks) {s with toks:=s.toks+1}->wpAny (model X.prog X.w) X.A (f (.int i t)) Q E s):
  X0 X f (rU λi=>.int (g i)):=by
 intro η s σ H x v Q I rx h;let(i,rfl,q):=h;let(t,rfl):=rx;show rule i t s _ _ (.int (g i),H,I.tok _,(_,rfl),q)
def RZ:X0 X (unaryOp .USub) (rU λi=>.int (- i)):=unI λ_ _ _ _ _ q=>neg_int q
end
def W3:V->V->Bool
 | .bt,.bt=>true| .bt,.int _=>true| .int _,.bt=>true| .bt,.bl _=>true| .bl _,.bt=>true| .bt,.str _=>true| .str _,.bt=>true
 | .int _,.int _=>true| .bl _,.bl _=>true| .str _,.str _=>true| .JH _,.JH _=>true
 | .int _,.str _=>true| .str _,.int _=>true| .bl _,.str _=>true| .str _,.bl _=>true
 | _,_=>false
def rEq:R2:=λx y H Q=>W3 x y=true/\Q (.bl (decide (x=y))) H
def rNe:R2:=λx y H Q=>W3 x y=true/\Q (.bl (! decide (x=y))) H
def Fm{i:Int}:decide (V.int i=V.int j)=(i==j):=by rw[Bool.eq_iff_iff];simp
def LG{i:Bool}:decide (V.bl i=V.bl j)=(i==j):=by rw[Bool.eq_iff_iff];simp
def FY{i:Str}:decide (V.str i=V.str j)=(i==j):=by rw[Bool.eq_iff_iff];simp
def Gj{i:Array UInt8}:decide (V.JH i=V.JH j)=(i.toList==j.toList):=by rw[Bool.eq_iff_iff];cases i;cases j;simp
section
variable{a b:Expr}{tb tc:TE}
def aS{H:Hp}{Q:VK}{k k':Bool}(I:Inv X η σ H s)(q:Q (.bl k) H)(e:k=k'):EP X η σ Q (.bool k') s:=by subst e;show(.bl k,H,I,rfl,q)
def QD:jW X (compareOp .Eq) rEq:=by
 intro η s σ H x y v u Q I rx ry h;let(hs,q):=h;cases x with
 | bt=>
  cases rx;cases y with
  | bt=>cases ry;show PySem.EqNone.eq_none_none (aS I q (by simp))
  | bl j=>cases ry;show PySem.EqNone.eq_none_bool (aS I q (by simp))
  | int j=>let(t',rfl):=ry;show PySem.EqNone.eq_none_int (aS I q (by simp))
  | str j=>let(t',rfl):=ry;show PySem.EqNone.eq_none_str (aS I q (by simp))
  | _=>show abc (show false=true from hs) aa7
 | bl i=>
  cases rx;cases y with
  | bt=>cases ry;show PySem.EqNone.eq_bool_none (aS I q (by simp))
  | bl j=>cases ry;show eq_bool (aS I q LG)
  | str j=>let(t',rfl):=ry;show PySem.EqMixed.eq_bool_str (aS I q (by simp))
  | _=>show abc (show false=true from hs) aa7
 | int i=>
  let(t,rfl):=rx;cases y with
  | bt=>cases ry;show PySem.EqNone.eq_int_none (aS I q (by simp))
  | int j=>let(t',rfl):=ry;show eq_int (aS I q Fm)
  | str j=>let(t',rfl):=ry;show PySem.EqMixed.eq_int_str (aS I q (by simp))
  | _=>show abc (show false=true from hs) aa7
 | str i=>
  let(t,rfl):=rx;cases y with
  | bt=>cases ry;show PySem.EqNone.eq_str_none (aS I q (by simp))
  | bl j=>cases ry;show PySem.EqMixed.eq_str_bool (aS I q (by simp))
  | int j=>let(t',rfl):=ry;show PySem.EqMixed.eq_str_int (aS I q (by simp))
  | str j=>let(t',rfl):=ry;show eq_str (aS I q FY)
  | _=>show abc (show false=true from hs) aa7
 | JH i=>
  let(t,rfl):=rx;cases y with
  | JH j=>let(t',rfl):=ry;show PySem.W.eq_bytes (aS I q Gj)
  | _=>show abc (show false=true from hs) aa7
 | _=>cases y <;> show abc (show false=true from hs) aa7
def UR:jW X (compareOp .NotEq) rNe:=by
 intro η s σ H x y v u Q I rx ry h;let(hs,q):=h;cases x with
 | bt=>
  cases rx;cases y with
  | bt=>cases ry;show PySem.EqNone.ne_none_none (aS I q (by simp))
  | bl j=>cases ry;show PySem.EqNone.ne_none_bool (aS I q (by simp))
  | int j=>let(t',rfl):=ry;show PySem.EqNone.ne_none_int (aS I q (by simp))
  | str j=>let(t',rfl):=ry;show PySem.EqNone.ne_none_str (aS I q (by simp))
  | _=>show abc (show false=true from hs) aa7
 | bl i=>
  cases rx;cases y with
  | bt=>cases ry;show PySem.EqNone.ne_bool_none (aS I q (by simp))
  | bl j=>cases ry;show ne_bool (aS I q (abI not LG))
  | str j=>let(t',rfl):=ry;show PySem.EqMixed.ne_bool_str (aS I q (by simp))
  | _=>show abc (show false=true from hs) aa7
 | int i=>
  let(t,rfl):=rx;cases y with
  | bt=>cases ry;show PySem.EqNone.ne_int_none (aS I q (by simp))
  | int j=>let(t',rfl):=ry;show ne_int (aS I q (abI not Fm))
  | str j=>let(t',rfl):=ry;show PySem.EqMixed.ne_int_str (aS I q (by simp))
  | _=>show abc (show false=true from hs) aa7
 | str i=>
  let(t,rfl):=rx;cases y with
  | bt=>cases ry;show PySem.EqNone.ne_str_none (aS I q (by simp))
  | bl j=>cases ry;show PySem.EqMixed.ne_str_bool (aS I q (by simp))
  | int j=>let(t',rfl):=ry;show PySem.EqMixed.ne_str_int (aS I q (by simp))
  | str j=>let(t',rfl):=ry;show ne_str (aS I q (abI not FY))
  | _=>show abc (show false=true from hs) aa7
 | JH i=>
  let(t,rfl):=rx;cases y with
  | JH j=>let(t',rfl):=ry;show PySem.W.ne_bytes (aS I q (abI not Gj))
  | _=>show abc (show false=true from hs) aa7
 | _=>cases y <;> show abc (show false=true from hs) aa7
def Qh:jW X (compareOp .Lt) (Jg λi j=>.bl (decide (i < j))):=P7 λ_ _ _ _ _ _ _ q=>lt_int q
def Ww:jW X (compareOp .LtE) (Jg λi j=>.bl (decide (i<=j))):=P7 λ_ _ _ _ _ _ _ q=>le_int q
def V6:jW X (compareOp .Gt) (Jg λi j=>.bl (decide (j < i))):=P7 λ_ _ _ _ _ _ _ q=>gt_int q
def Qf:jW X (compareOp .GtE) (Jg λi j=>.bl (decide (j<=i))):=P7 λ_ _ _ _ _ _ _ q=>ge_int q
def Kd:jW X (compareOp .Is) (λx y H Q=>y= .bt/\Q (.bl (decide (x= .bt))) H):=by
 intro η s σ H x y v u Q I rx ry h;let(rfl,q):=h;cases ry;show is_none_gen (aS I q ?_)
 cases x <;> first
  | (cases rx;rfl)
  | (let(t,rfl):=rx;rfl)
def O2:jW X (compareOp .IsNot) (λx y H Q=>y= .bt/\Q (.bl (! decide (x= .bt))) H):=by
 intro η s σ H x y v u Q I rx ry h;let(rfl,q):=h;cases ry;show isnot_none_gen (aS I q ?_)
 cases x <;> first
  | (cases rx;rfl)
  | (let(t,rfl):=rx;rfl)
def jW.or(h:jW X f r)(h':jW X f r'):jW X f (λx y H Q=>r x y H Q\/r' x y H Q):=by
 intro η s σ H x y v u Q I rx ry q;rcases q with q| q
 .show h η s σ H x y v u Q I rx ry q
 .show h' η s σ H x y v u Q I rx ry q
def gU(b:Expr)(h:op≠ .In|>2)(h2:op≠ .NotIn|>2):behindInMarks op b=false:=by
 let e1:(op==CmpOp.In)=false:=by cases op <;> first| rfl| show abc rfl h
 let e2:(op==CmpOp.NotIn)=false:=by cases op <;> first| rfl| show abc rfl h2
 cases b <;> simp[behindInMarks,e1,e2]
def O0(ho:jW X (compareOp op) r)(ha:PE X a ta)(hb:PE X b tb)(hm:behindInMarks op b=false):PE X (.Compare a [op] [b] pos) (U' r ta tb):=by intro η s σ H Q I h;show wpAny_Compare1 (Ti ha hb I h λv u s2 x y H2 I2 rx ry q=>ho η s2 σ H2 x y v u Q I2 rx ry q) hm
def UQ(t:TE):TT:=λσ H Q=>t σ H λx H'=>∃k,x= .bl k/\Q k H'
def Oz(ho:jW X (compareOp op) r)(ha:PE X a ta)(hb:PE X b tb)(hm:behindInMarks op b=false):PT X (.Compare a [op] [b] pos) (UQ (U' r ta tb)):=by
 intro η s σ H Q I h
 show wpAny_isTrue_Compare1 (bP (ha η s σ H _ I h) fun v s1 (x,H1,I1,r1,q1)=>bP (hb η s1 σ H1 _ I1 q1) fun u s2 (y,H2,I2,r2,q2)=>
  bP (ho η s2 σ H2 x y v u _ I2 r1 r2 q2) fun c s3 (z,H3,I3,r3,k,e,q3)=>?_) hm
 subst e;cases r3;show wpAny_truthy_bool (H3,I3,q3)
def qD:(sizeLine:Nat) < 2 ^ 63:=by rw[sizeLine_eq];decide
def DM:jW X (binaryOp .Add) (λx y H Q=>∃i j,x= .str i/\y= .str j/\-i+-j<=sizeLine/\Q (.str (i++j)) H):=by intro η s σ H x y v u Q I rx ry h;let(i,j,rfl,rfl,hz,q):=h;let(t,rfl):=rx;let(t',rfl):=ry;show add_str (λt' tk=>(.str (i++j),H,I.tok _,(_,rfl),q)) hz
def k_{x:V}(r:aD [x] us):∃u,us=[u]/\az x u:=by
 cases r with
 | cons r1 r2=>cases r2;show(_,rfl,r1)
def Rc{x y:V}(r:aD [x,y] us):∃u w',us=[u,w']/\az x u/\az y w':=by
 cases r with
 | cons r1 r2=>
  cases r2 with
  | cons r3 r4=>cases r4;show(_,_,rfl,r1,r3)
def MN:eC X (.builtin "abs") (λxs H Q=>∃i,xs=[.int i]/\Q (.int (if i < 0 then - i else i)) H):=by intro η s σ H xs us Q I r h;let(i,rfl,q):=h;let(u,rfl,t,rfl):=k_ r;show call_abs_int λu tk=>(.int (if i < 0 then - i else i),H,I.tok _,(_,rfl),q)
def IG(hc:X.calm=true):eC X (.builtin "min") (λxs H Q=>∃i j,xs=[.int i,.int j]/\Q (.int (if j < i then j else i)) H):=by
 intro η s σ H xs us Q I r h;let(i,j,rfl,q):=h;let(u,w',rfl,(t,rfl),(t',rfl)):=Rc r;show min_two_ints (I.ok.hd hc) λh' tk k=>(_,H,I.kept k,?_,q);by_cases hj:j < i
 .rw[aa1 hj,aa1 hj];show(_,rfl)
 .rw[aa2 hj,aa2 hj];show(_,rfl)
def HI:eC X (.type "int") (λxs H Q=>(∃i,xs=[.int i]/\Q (.int i) H)\/∃k,xs=[.bl k]/\Q (.int (if k then 1 else 0)) H):=by
 intro η s σ H xs us Q I r h;rcases h with ⟨i,rfl,q⟩| ⟨k,rfl,q⟩
 .let(u,rfl,t,rfl):=k_ r;show call_int_int (.int i,H,I,(_,rfl),q)
 .let(u,rfl,r1):=k_ r;cases r1;show call_int_bool (.int (if k then 1 else 0),H,I.tok _,(_,rfl),q)
end
structure Ec(h:Heap)(x dx C:Addr)(mA:Str->Option Value):Prop where
 obj:h.get? x=!(PySem.W.instObj C dx)
 ns:h.Ns1 dx mA
 ne:dx≠x
set_option tactic.hygienic true in
def IU(n:h.Ns1 dx mA):∃od,h.get? dx=!od/\∀name,PySem.W.lookIn name od=!(mA name):=by
 let(o,es,ep,ho,hd,hk,_,hm):=n;show(o,ho,λname=>?_);let e:=hm name;unfold nsFind findBy at e;rw[<-Array.find?_toList]at e;unfold PySem.W.lookIn;rw[hd];dsimp only;split
 .rename_i y q;rw[q]at e;show abI some e
 .rename_i q;rw[q]at e;let a:es.toList.any (·.refKey)=false:=by rw[List.any_eq_false];intro y hy;let(z,t,MP):=hk y (Array.mem_toList_iff.mp hy);simp[DictEntry.refKey,MP]
  let a':¬es.toList.any (·.refKey)=true:=by rw[a];show aa7
  rw[aa2 a'];show abI some e
def Ec.look{x:Addr}(I:Ec h x dx C mA):∃od,PySem.W.InstAt h x (PySem.W.instObj C dx) C (!od)/\∀name,PySem.W.lookIn name od=!(mA name):=
 let (od,ho,hl):=IU I.ns
 (od,(I.obj,rfl,rfl,ho),hl)
section
variable{K:fI}{x f:Addr}{name:Str}{v:Value}
def sU(X:K.In s.heap)(I:Ec s.heap x dx C mA)(hg:PySem.W.plainGet K C name=true)(hh:PySem.W.hasDictIn K C=true)
  (ha:PySem.W.findIn K (.ref C) name=!none) (hv:mA name=!v) (hv':PySem.W.handedIn v=true) (h:Q v {s with toks:=s.toks+1}):
  wpAny (model prog w) A (getAttr (.ref x) name expr) Q E s:=by
 let(od,J,hl):=I.look;show PySem.W.get_value X J (PySem.W.plainGet_of hg).1 (PySem.W.findObj_own hh ha rfl (by rw[hl,hv])) hv' h
def JQ{Q:Value×List Value->Shared->Prop}(X:K.In s.heap)(I:Ec s.heap x dx C mA)(hg:PySem.W.plainGet K C name=true)
  (hf:PySem.W.findIn K (.ref C) name=!(!(.ref f))) (ht:PySem.W.isFn K (.ref f)=true) (hv:mA name=none) (h:Q (.ref f, [.ref x]) s):
  wpAny (model prog w) A (getMethod (.ref x) name pl) Q E s:=by
 let(od,J,hl):=I.look;show PySem.W.method_fn X J (PySem.W.plainGet_of hg).1 (PySem.W.plainGet_of hg).2 hf (acU.mp ht) (by change(PySem.W.lookIn name od).map (·.isSome)=!false;rw[hl,hv];rfl) h
def NT{Q:Unit->Shared->Prop}(X:K.In s.heap)(I:Ec s.heap x dx C mA)
  (hs:PySem.W.findIn K (.ref C) "__setattr__"=!(!(.builtin "object.__setattr__"))) (hp:PySem.W.plainOver K C=true) (ht:PySem.W.takerIn K C name=!none) (hh:PySem.W.hasDictIn K C=true)
  (hw:PySem.Within mA ns) (hsz:-ns<=sizeLine)
  (h:∀h',Ec h' x dx C (λy=>if y=name then !v else mA y)->Heap.SameBut dx s.heap h'->Q Unit.unit {s with heap:=h',toks:=s.toks+2}):
  wpAny (model prog w) A (setAttr (.ref x) name v) Q E s:=by
 let(od,J,hl):=I.look;show PySem.W.set_plain X J hs (PySem.W.osa_open (s:={s with toks:=s.toks+1}) (r:=none) X J hp ht λb=>?_);let(cd,hc,Pj):=PySem.W.any_some hh;let hx:s.heap.get? x=!(.ref C,!dx,.plain,#[]):=I.obj;show aaq (abd (aaq (aaq (wpAny_loadPart hx (aaq (PySem.W.Looks.here (s:={s with toks:=s.toks+1}) (PySem.W.looks_clsIn X hc) ?_))))));rw[Pj];show abd (a:=!dx) (aaq (abd (aaq ?_)));show wpAny_nsSet1 (s:={s with toks:=s.toks+1}) I.ns λh' U_ Sa=>?_;let(oD,esD,epD,hoD,hdD,hcD):=U_.count (PySem.Within.cons name v hw);show aaq (wpAny_lookBehind hoD (by rw[hdD];show pastItsLine_dict (aaR hcD (by rw[aaQ];omega))) ?_);show abd (h _ ((Sa.2 _ (Ne.symm I.ne)).trans I.obj,U_,I.ne) Sa)
def Mm{vs:List Value}(X:K.In s.heap)(hm:PySem.W.makesIn K C=true)
  (hi:PySem.W.findIn K (.ref C) "__init__"=!(!(.ref f))) (hf:PySem.W.typeIn K (.ref f)=!(.type "function"))
  (h:codeAny (model prog w) (A.under (.builtin "type.__call__" (.ref C::vs,kw))) (.call (.ref f) (.ref (s.heap.objs.size+1)::vs,kw)) (PySem.W.InitBack (s.heap.objs.size+1) R)
   {s with heap:=(s.heap.push PySem.W.emptyDict).push (PySem.W.instObj C s.heap.objs.size)}):
  codeAny (model prog w) A (.call (.ref C) (vs,kw)) R s:=by
 let(hh,g,d,t,os):=s;show PySem.W.make_core (PySem.W.makes_of X hm) (PySem.W.looks_findIn X hi) (λself=>PySem.W.bind_fn X self hf) (.inl rfl) h
end
noncomputable def lh(f:Str)(v:V):List (Str×V)->List (Str×V)
 | []=>[(f, v)]
 | (g, x)::r=>if g=f then (g, v)::r else (g, x)::lh f v r
def rT(f g:Str)(v:V):∀fs:List (Str×V),(lh f v fs).lookup g=if g=f then !v else fs.lookup g
 | []=>by
  change List.lookup g [(f, v)]=_;by_cases h:g=f
  .let hb:(g==f)=true:=acU.mpr h;simp only[List.lookup,hb,if_pos h]
  .let hb:(g==f)=false:=beq_eq_false_iff_ne.mpr h;simp only[List.lookup,hb,if_neg h]
 | (k, x)::r=>by
  let ih:=rT f g v r;rw[show lh f v ((k, x)::r)=(if k=f then (k, v)::r else (k, x)::lh f v r) from rfl];by_cases hk:k=f
  .rw[aa1 hk];by_cases h:g=k
   .let hb:(g==k)=true:=acU.mpr h;simp only[List.lookup,hb,if_pos (h.trans hk)]
   .let hb:(g==k)=false:=beq_eq_false_iff_ne.mpr h;simp only[List.lookup,hb,if_neg (λe:g=f=>h (e.trans hk.symm))]
  .rw[aa2 hk];by_cases h:g=k
   .let hb:(g==k)=true:=acU.mpr h;simp only[List.lookup,hb,if_neg (λe:g=f=>hk (h.symm.trans e))]
   .let hb:(g==k)=false:=beq_eq_false_iff_ne.mpr h;simp only[List.lookup,hb];show ih
def pX(f:Str)(v:V):∀fs:List (Str×V),f∈(lh f v fs).map (·.1)/\∀g,g∈fs.map (·.1)->g∈(lh f v fs).map (·.1)
 | []=>(by simp[lh],λg h=>by simp at h)
 | (k, x)::r=>by
  let(i1,i2):=pX f v r;rw[show lh f v ((k, x)::r)=(if k=f then (k, v)::r else (k, x)::lh f v r) from rfl];by_cases hk:k=f
  .rw[aa1 hk];subst hk;show(by simp,λg h=>by simpa using h)
  .rw[aa2 hk];show(?_,λg h=>?_)
   .rw[aaX];show aah _ i1
   .rw[aaX]at h⊢;rcases aba.mp h with e| e
    .show aba.mpr (.inl e)
    .show aah _ (i2 g e)
def rV(f:Str)(v:V):∀fs:List (Str×V),-(lh f v fs)<=-fs+1
 | []=>by simp[lh]
 | (k, x)::r=>by
  let ih:=rV f v r;rw[show lh f v ((k, x)::r)=(if k=f then (k, v)::r else (k, x)::lh f v r) from rfl];by_cases hk:k=f
  .rw[aa1 hk,aaQ,aaQ];omega
  .rw[aa2 hk,aaQ,aaQ];omega
def kB.some_of{o:Option Value}(r:kB (!v) o):∃u,o=!u/\az v u:=by
 cases o with
 | none=>show(show False from r).elim
 | some u=>show(u,rfl,r)
def kB.none_of{o:Option Value}(r:kB none o):o=none:=by
 cases o with
 | none=>rfl
 | some u=>show(show False from r).elim
def Hn(r:az v u):PySem.W.handedIn u=true:=by
 cases v with
 | bt=>cases(show u=Value.none from r);rfl
 | bl b=>cases(show u=Value.bool b from r);rfl
 | int i=>let(t,e):=(show∃t,u=Value.int i t from r);cases e;rfl
 | str x=>let(t,e):=(show∃t,u=Value.str x t from r);cases e;rfl
 | JH b=>let(t,e):=(show∃t,u=Value.bytes b t from r);cases e;rfl
 | Ss b=>let(t,e):=(show∃t,u=Value.float b t from r);cases e;rfl
 | ref a=>cases(show u=Value.ref a from r);rfl
 | ty n=>cases(show u=Value.type n from r);rfl
section
variable{H H':Hp}{fs YO:List (Str×V)}
def sL(aN:mN P w H h)(e:H a=!(.ins C dx fs)):∃mA,Ec h a dx C mA/\(∀f,kB (fs.lookup f) (mA f))/\PySem.Within mA (fs.map (·.1))/\-fs<=1000/\H dx=!(.own a):=by let(d,z,ne,ob,mA,n,r,q):=(show cf P w H h a (.ins C dx fs) from aN a _ e);show(mA,(ob,n,ne),r,q,z,d)
end
structure GY(K:fI)(C:Addr):Prop where
 pg:PySem.W.plainGet K C Str.empty=true
 hd:PySem.W.hasDictIn K C=true
 po:PySem.W.plainOver K C=true
 sa:PySem.W.findIn K (.ref C) "__setattr__"=!(!(.builtin "object.__setattr__"))
def GY.get{K:fI}{C:Addr}(c:GY K C)(f:Str):PySem.W.plainGet K C f=true:=c.pg
def jg(K:fI)(C:Addr)(f:Str):Prop:=PySem.W.findIn K (.ref C) f=!none
def jg.W8{K:fI}{f:Str}(n:jg K C f):PySem.W.takerIn K C f=!none:=by unfold PySem.W.takerIn;rw[show PySem.W.findIn K (.ref C) f=!none from n];rfl
structure P8(K:fI)(C:Addr)(m:Str)(f:Addr):Prop where
 at_:PySem.W.findIn K (.ref C) m=!(!(.ref f))
 fn:PySem.W.isFn K (.ref f)=true
 kp:PySem.W.keepIn K (.ref f)=true
section
variable{H:Hp}{fs:List (Str×V)}{f:Str}
def DC{b:Bool}(I:Inv X η σ H s)(e:H a=!(.ins C dx fs))(c:GY X.K C)(n:jg X.K C f)(l:fs.lookup f=!v)
  (h:∀u s',Inv X η σ H s'->az v u->Q u s'):wpAny (model X.prog X.w) A (getAttr (.ref a) f b) Q E s:=by
 let(mA,O,r,_,_,_):=sL I.aN e;let(u,hu,ru):=kB.some_of (v:=v) (o:=mA f) (by rw[<-l];show r f);show sU I.rP O (c.get f) c.hd n hu (Hn ru) (h u _ (I.tok _) ru)
def vQ{g:Addr}{Q:Value×List Value->Shared->Prop}(I:Inv X η σ H s)(e:H a=!(.ins C dx fs))(c:GY X.K C)(k:P8 X.K C m g)(l:fs.lookup m=none)
  (h:Q (.ref g, [.ref a]) s):wpAny (model X.prog X.w) A (getMethod (.ref a) m pl) Q E s:=by
 let(mA,O,r,_,_,_):=sL I.aN e;let hn:mA m=none:=kB.none_of (by rw[<-l];show r m);show JQ I.rP O (c.get m) k.at_ k.fn hn h
def Em{Q:Unit->Shared->Prop}(I:Inv X η σ H s)(e:H a=!(.ins C dx fs))(c:GY X.K C)(n:jg X.K C f)(hl:-fs < 1000)(ry:az y u)
  (h:∀s',Inv X η σ (upd H a (.ins C dx (lh f y fs))) s'->Q Unit.unit s'):wpAny (model X.prog X.w) A (setAttr (.ref a) f u) Q E s:=by
 let(mA,O,r,wi,_,ho):=sL I.aN e;let hz:-(fs.map (·.1))<=sizeLine:=by rw[aac,sizeLine_eq];omega
 show NT I.rP O c.sa c.po n.W8 c.hd wi hz λh' O' sb=>h _ ?_;let hd:∃o,h'.get? dx=!o:=let (o,_,_,e',_):=O'.ns;(o,e')
 show I.write (x:=a) (e:=dx) (by rw[e];show True.intro) (.inr ho) (λb q hb z=>(sb.2 b hb).trans z) hd ?_;show(by rw[Ρ O.ne];show ho,?_,O.ne,O'.obj,_,O'.ns,λg=>?_,λg hg=>?_)
 .have:=rV f y fs;omega
 .change kB ((lh f y fs).lookup g) (if g=f then !u else mA g);rw[rT];by_cases q:g=f
  .rw[aa1 q,aa1 q];show ry
  .rw[aa2 q,aa2 q];show r g
 .by_cases q:g=f
  .rw[q];show(pX f y fs).1
  .show(pX f y fs).2 g (wi g λz=>hg ?_);change(if g=f then !u else mA g)=none;rw[aa2 q];show z
def Inv.made(I:Inv X η σ H s):Inv X η σ (upd (upd H s.heap.objs.size (.own (s.heap.objs.size+1))) (s.heap.objs.size+1) (.ins C s.heap.objs.size []))
  {s with heap:=(s.heap.push PySem.W.emptyDict).push (PySem.W.instObj C s.heap.objs.size)}:=by
 let e1:(s.heap.push PySem.W.emptyDict).get? s.heap.objs.size=!PySem.W.emptyDict:=abn s.heap rfl;let e2:((s.heap.push PySem.W.emptyDict).push (PySem.W.instObj C s.heap.objs.size)).get? (s.heap.objs.size+1)=!(PySem.W.instObj C s.heap.objs.size):=by have:=abn (s.heap.push PySem.W.emptyDict) (o:=PySem.W.instObj C s.heap.objs.size) rfl;rwa[Heap.size_push]at this
 let e3:(s.heap.push PySem.W.emptyDict).Ns s.heap.objs.size (λ_=>none):=(PySem.W.emptyDict,#[],_,e1,rfl,(λe he=>absurd he (by simp)),λ_=>rfl);let I1:=I.laid (a:=s.heap.objs.size) (o:=.own (s.heap.objs.size+1)) (h':=s.heap.push PySem.W.emptyDict) (t':=s.toks) (λb u q=>aar _ q) (aas _) (_,e1);show I1.laid (a:=s.heap.objs.size+1) (o:=.ins C s.heap.objs.size []) (t':=s.toks) (λb u q=>aar _ q) (Nat.le_of_eq (Heap.size_push _ _)) ?_;let ne:s.heap.objs.size≠s.heap.objs.size+1:=abr (acu _);show(by rw[Ρ ne,au],ac0 _,ne,e2,λ_=>none,(Heap.Ns1.of_empty e3).at λo q=>aar _ q,λ_=>True.intro,λy hy=>abc rfl hy)
def Ot{f:Str}(hb:attributeBase e f env (eval e env)=eval e env)
  (h:wpAny (model prog w) A (eval e env) (λo s₁=>wpAny (model prog w) A (getAttr o f true) Q E s₁) E s):wpAny (model prog w) A (eval (.Attribute e f pos) env) Q E s:=
 Attribute_any_ h (by rw[arm_eval_Attribute,hb])
end
def ZT(K:fI)(ta:TE)(f:Str):TE:=λσ H Q=>ta σ H λx H1=>∃a C dx fs v,x= .ref a/\H1 a=!(.ins C dx fs)/\GY K C/\jg K C f/\fs.lookup f=!v/\Q v H1
def Y6(K:fI)(ta tv:TE)(f:Str):TS:=λD σ H=>tv σ H λy H1=>ta σ H1 λx H2=>∃a C dx fs,x= .ref a/\H2 a=!(.ins C dx fs)/\GY K C/\jg K C f/\-fs < 1000/\
 D.nx σ (upd H2 a (.ins C dx (lh f y fs)))
section
variable{o value:Expr}{f:Str}{pos' wG:Pos}{tv:TE}
def T2(he:PE X e ta)(hb:attributeBase e f X.env (eval e X.env)=eval e X.env):PE X (.Attribute e f pos) (ZT X.K ta f):=by intro η s σ H Q I h;show Ot hb (bP (he η s σ H _ I h) λu s1 xz=>?_);let(x,H1,I1,rx,a,C,dx,fs,v,ex,ea,c,n,l,q):=xz;subst ex;obtain rfl:u=Value.ref a:=rx;show DC I1 ea c n l λu' s2 I2 ru=>(v,H1,I2,ru,q)
def R5(ha:PE X o ta)(hv:PE X value tv)(hs:swapsWith value (!(.Attribute o f pos')) pos.line X.env=pure false):PS X (.Assign [.Attribute o f pos'] value pos) (Y6 X.K ta tv f):=by intro η s σ H D I h;show plainObj_wpAny_Assign_Attribute (bP (hv η s σ H _ I h) fun u s1 (y,H1,I1,ry,q)=>bP (ha η s1 σ H1 _ I1 q) λov s2 xz=>?_) hs;let(x,H2,I2,rx,a,C,dx,fs,ex,ea,c,n,l,q2):=xz;subst ex;obtain rfl:ov=Value.ref a:=rx;show Em I2 ea c n l ry λs3 I3=>(σ,_,I3,q2)
end
section
variable{H:Hp}{c:Value}{b:Bool}
inductive l_(K:fI)(H:Hp):V->Value->Prop where
 | bt:l_ K H .bt (.type "NoneType")
 | bl (x:Bool):l_ K H (.bl x) (.type "bool")
 | int (i:Int):l_ K H (.int i) (.type "int")
 | str (x:Str):l_ K H (.str x) (.type "str")
 | Ss (x:UInt64):l_ K H (.Ss x) (.type "float")
 | lst {a:Addr} {xs:List V} (e:H a=!(.lst xs)):l_ K H (.ref a) (.type "list")
 | w4 {a:Addr} {o:Obj} {xs:List V} (e:H a=!(.w4 o (.lst xs))):l_ K H (.ref a) (.type "list")
 | tup {a:Addr} {xs:List V} (e:H a=!(.tup xs)):l_ K H (.ref a) (.type "tuple")
 | dK {a:Addr} {Κ:List (Key×V)} (e:H a=!(.dK Κ)):l_ K H (.ref a) (.type "dict")
 | dT {a:Addr} {Κ:List (List Key×V)} (e:H a=!(.dT Κ)):l_ K H (.ref a) (.type "dict")
 | ins {a C dx:Addr} {fs:List (Str×V)} (e:H a=!(.ins C dx fs)) (cl:GY K C) (ha:PySem.W.findIn K (.ref C) "__class__"=!(!(.builtin "object.__class__")))
   (hn:PySem.W.specialIn K (.builtin "object.__class__") "__get__"=!(!(.builtin "getset_descriptor.__get__"))) (UL:PySem.W.takesIn K (.builtin "object.__class__")=!true)
   (hm:PySem.W.mroIn K C (.type "object")=!true):l_ K H (.ref a) (.ref C)
def Hw{x:V}(I:Inv X η σ H s)(rx:az x u)(ty:l_ X.K H x t)(e:PySem.W.kitOne X.K t c=!b)(h:∀tk,Q (.bool b) {s with toks:=tk}):
  wpAny (model X.prog X.w) A (call (.builtin "isinstance") [u,c]) Q E s:=by
 cases ty with
 | bt=>cases(show u=Value.none from rx);show PySem.W.kia_one PySem.W.kitx_none I.rP True.intro e nofun h
 | bl y=>cases(show u=Value.bool y from rx);show PySem.W.kia_one PySem.W.kitx_bool I.rP True.intro e nofun h
 | int i=>let(t,q):=(show∃t,u=Value.int i t from rx);cases q;show PySem.W.kia_one PySem.W.kitx_int I.rP True.intro e nofun h
 | str y=>let(t,q):=(show∃t,u=Value.str y t from rx);cases q;show PySem.W.kia_one PySem.W.kitx_str I.rP True.intro e nofun h
 | Ss y=>let(t,q):=(show∃t,u=Value.float y t from rx);cases q;show PySem.W.kia_one PySem.W.kitx_float I.rP True.intro e nofun h
 | @lst a xs ea=>
  cases(show u=Value.ref a from rx);let(_,_,n,_,h1):=(show cf X.prog X.w H s.heap a (.lst xs) from I.aN a _ ea);show PySem.W.kia_one PySem.W.kitx_list I.rP (_,h1,rfl) e nofun h
 | @w4 a ob xs ea=>
  cases(show u=Value.ref a from rx);let(_,_,_,n,_,h1):=(show cf X.prog X.w H s.heap a (.w4 ob (.lst xs)) from I.aN a _ ea);show PySem.W.kia_one PySem.W.kitx_list I.rP (_,h1,rfl) e nofun h
 | @tup a xs ea=>
  cases(show u=Value.ref a from rx);let(_,_,_,p):=(show cf X.prog X.w H s.heap a (.tup xs) from I.aN a _ ea);let(o,h1,h2,_):=p;show PySem.W.kia_one PySem.W.kitx_tuple I.rP (o,h1,h2) e nofun h
 | @dK a Κ ea=>
  cases(show u=Value.ref a from rx);let(_,_,vs,_,p):=(show cf X.prog X.w H s.heap a (.dK Κ) from I.aN a _ ea);let(o,es,ep,h1,h2,_):=p;show PySem.W.kia_one PySem.W.kitx_dict I.rP (o,h1,h2.1) e nofun h
 | @dT a Κ ea=>
  cases(show u=Value.ref a from rx);let(_,_,xs,_,o,es,ep,h1,h2,_):=(show cf X.prog X.w H s.heap a (.dT Κ) from I.aN a _ ea);show PySem.W.kia_one PySem.W.kitx_dict I.rP (o,h1,h2.1) e nofun h
 | @ins a C dx fs ea cl ha hn UL hm=>
  cases(show u=Value.ref a from rx);let(mA,O,_):=sL I.aN ea;let(od,J,_):=O.look;show PySem.W.kia_one (PySem.W.kitx_own (cl.get _) cl.hd ha hn UL hm) I.rP J e nofun h
end
structure bV(k:Nat)(A:Around):Prop where
 hd:A.handled=none
 dp:A.depth+3 * k+5 < recursionLimit
 un:A.units+16 * k+200 < cLine
def bV.mono{j k:Nat}(r:bV k A)(h:j<=k):bV j A:=(r.hd,by have:=r.dp;omega,by have:=r.un;omega)
def bV.deeper{k:Nat}(r:bV (k+1) A)(env:Env):bV k (A.deeper env):=
 (r.hd,by have:=r.dp;change A.depth+1+3 * k+5 < _;omega,by have:=r.un;change A.units+3+16 * k+200 < _;omega)
def EU:(A.under (.builtin "type.__call__" (.ref C::us,kw))).depth=A.depth+1:=by
 first| rfl| simp[Around.under,Code.weight,Code.isCreation,Code.isGuard,Code.isCaller,Code.frames,Code.isFrame,guardIds]
def Ef:(A.under (.builtin "type.__call__" (.ref C::us,kw))).units=A.units+1:=by
 first| rfl| simp[Around.under,Code.cUnits,Code.frames,Code.isFrame]
def bV.make{k:Nat}(r:bV (k+1) A)(C:Addr)(us:List Value)(kw:List (Str×Value)):bV k (A.under (.builtin "type.__call__" (.ref C::us,kw))):=
 (r.hd,by have:=r.dp;rw[EU];omega,by have:=r.un;rw[Ef];omega)
def bV.depth{k:Nat}(r:bV k A):A.depth < recursionLimit:=by have:=r.dp;omega
def bV.units{k:Nat}(r:bV k A):A.units+64 < cLine:=by have:=r.un;omega
def bV.Dk{k:Nat}(r:bV k A):A.units < cLine:=by have:=r.un;omega
def VJ:TA:=λ_ H Q=>Q [] H
def Vh(ta:TE)(tr:TA):TA:=λσ H Q=>ta σ H λx H1=>tr σ H1 λxs H2=>Q (x::xs) H2
section
variable{t:TA}
def SO:PA X [] VJ:=λ_ _ _ _ H Q I h=>Calls.spliced_nil ([],H,I,.nil,h)
def Pb(ha:PE X e te)(hr:PA X es t)(hs:starEach (e::es) X.env=(false, eval e X.env)::starEach es X.env|>1):PA X (e::es) (Vh te t):=by intro pos η s σ H Q I h;rw[hs];change wpAny _ _ (spliced ((false, eval e X.env)::backTo pos (starEach es X.env))) _ _ s;show Calls.spliced_cons (bP (ha η s σ H _ I h) λu s1 xz=>?_);let(x,H1,I1,r1,q1):=xz;show bP (hr pos η s1 σ H1 _ I1 q1) λus s2 (xs,H2,I2,r2,q2)=>(x::xs,H2,I2,.cons r1 r2,q2)
def aaL(t:TA):TE:=λσ H Q=>t σ H λxs H1=>-xs<=sizeLine/\∀p,H1 p=none->Q (.ref p) (upd H1 p (.tup xs))
def aat(t:TA):TE:=λσ H Q=>t σ H λxs H1=>-xs<=sizeLine/\∀p,H1 p=none->Q (.ref p) (upd H1 p (.lst xs))
def Su{x1}(h:PA X es t):PE X (.Tuple es x1 pos) (aaL t):=by intro η s σ H Q I hq;show wpAny_Tuple_spliced (bP (h pos η s σ H _ I hq) fun us s1 (xs,H1,I1,r,z,q)=>(by rw[<--r];show z,?_));let hf:H1 s1.heap.objs.size=none:=I1.aN.fresh (aas _);show(.ref s1.heap.objs.size,upd H1 s1.heap.objs.size (.tup xs),I1.laid (t':=s1.toks) (λb u e=>aar _ e) (aas _) ?_,rfl,q _ hf);show(z,us,r,(_,abn _ rfl,rfl,_,rfl))
def Kt(h:PA X es t):PE X (.List es pos) (aat t):=by intro η s σ H Q I hq;show wpAny_List_spliced (bP (h pos η s σ H _ I hq) fun us s1 (xs,H1,I1,r,z,q)=>(by rw[<--r];show z,?_));let hf:H1 s1.heap.objs.size=none:=I1.aN.fresh (aas _);show(.ref s1.heap.objs.size,upd H1 s1.heap.objs.size (.lst xs),I1.laid (t':=s1.toks) (λb u e=>aar _ e) (aas _) ?_,rfl,q _ hf);show(z,us,0,r,abn _ rfl)
end
abbrev Sp:=List V->Hp->VK->XK->Prop
abbrev C2:=List Env->Hp->Shared->XK->Value->Shared->Prop
structure EV(P:Program)(w:World)(K:fI)(mg:Str->Option Value)(base:Heap)(A:Around)(outer:List Env)(s:Shared)(H:Hp):Prop where
 frames:A.frames=!outer
 mod:Mod K mg base
 bs:∀b o,base.get? b=!o->s.heap.get? b=!o/\H b=none
 vY:base.objs.size<=s.heap.objs.size
 v_:s.heap.FunFrames base outer
 UU:∀b∈sy outer,H b=none
 aN:mN P w H s.heap
 bare:AllBare s.gens
def CE(outer:List Env)(P:Program)(w:World)(H:Hp)(s:Shared)(Q:VK)(u:Value)(s':Shared):Prop:=
 ∃v H',s'.os=s.os/\AllBare s'.gens/\Un (sy outer) [] H H' s.heap s'.heap/\mN P w H' s'.heap/\az v u/\Q v H'
def CR(CX:C2)(outer:List Env)(P:Program)(w:World)(H:Hp)(s:Shared)(Q:VK)(E:XK)(r:Result)(s':Shared):Prop:=
 match r with
 | .ok (.ret u)=>CE outer P w H s Q u s'
 | .ok _=>False
 | .error e=>CX outer H s E e s'
structure aq(P:Program)(w:World)(K:fI)(mg:Str->Option Value)(base:Heap)(CX:C2)(k:Nat)(f:Addr)(fd:FuncData)(ps:List Str)(sp:Sp):Prop where
 len:∀vs H Q E,sp vs H Q E->-vs=-ps
 run:∀(A:Around) (outer:List Env) (s:Shared) (H:Hp) (args:Args) (us:List Value) (vs:List V) (Q:VK) (E:XK),bV k A->EV P w K mg base A outer s H->BindsTo s fd args (ps.zip us)->aD vs us->sp vs H Q E->
  codeAny (model P w) A (.call (.ref f) args) (CR CX outer P w H s Q E) s
def EV.make{K:fI}{H:Hp}(e:EV P w K mg base A outer s H)(C:Addr)(us:List Value)(kw:List (Str×Value)):
  EV P w K mg base (A.under (.builtin "type.__call__" (.ref C::us,kw))) outer s H:=(by first| show e.frames| (simpa [Around.under,Code.envs,Code.isFrame,pushEnvs] using e.frames),e.mod,e.bs,e.vY,e.v_,e.UU,e.aN,e.bare)
section
variable{H:Hp}{s':Shared}
def Inv.UX(I:Inv X η σ H s):EV X.prog X.w X.K X.mg X.base X.A X.stack s H:=
 (I.ok.frames,I.ok.mod,I.bs,aaR I.ok.vY I.sz,I.stack,I.zy,I.aN,I.bare)
def Inv.after{Q:VK}(I:Inv X η σ H s)(h:CE X.stack X.prog X.w H s Q u s'):EP X η σ Q u s':=by let(v,H',os,bare,un,aN,r,q):=h;let(hh,g,d,t,X9):=s';obtain rfl:X9=s.os:=os;show(v,H',I.call (h':=hh) (g':=g) (d':=d) (t':=t) (ch:=[]) un aN bare (λb z=>absurd z (by simp)),r,q)
end
def jd(K:fI)(fd:FuncData)(ps:List Str)(ds:List Value):Prop:=
 ∀(s:Shared) (us:List Value),K.In s.heap->-(us++ds)=-ps->BindsTo s fd (us,[]) (ps.zip (us++ds))
def jd.all{K:fI}(h:∀us:List Value,-us=-ps->bindArgs fd (us,[])=pure (ps.zip us)):jd K fd ps []:=λs us _ hl=>by rw[abU]at hl⊢;show .of_eq (h us hl)
section
variable{CX:C2}{k:Nat}{f:Addr}{fd:FuncData}{sp:Sp}{pW:List V}{ds:List Value}{E:XK}{m:Str}{p apos:Pos}{o:Expr}{t:TA}
structure Mk(K:fI)(C f:Addr):Prop where
 makes:PySem.W.makesIn K C=true
 init:PySem.W.findIn K (.ref C) "__init__"=!(!(.ref f))
 fn:PySem.W.isFn K (.ref f)=true
 kp:PySem.W.keepIn K (.ref C)=true
end
structure Ζ(N P:List Str)(sc:Scope):Prop where
 kind:sc.kind= .function
 co:sc.isCoroutine=false
 gen:sc.isGenerator=false
 nd:N.Nodup
 pre:N.take (-P)=P
 par:∀x∈P,sc.names.lookup x=some .local\/sc.names.lookup x=some .cell
 Ue:∀y∈sc.names,y.2≠ .free
def xn{kindOf:Str->Option NameKind}{x:Str}:∀{binds:List (Str×Value)} {m:Str->Option Value},(∀v,(x, v)∉binds)->bindL kindOf binds m x=m x
 | [],_,_=>rfl
 | (n, v)::r,m,h=>by
  unfold bindL;rw[xn λw hw=>h w (aah _ hw)];split
  .have:x≠n:=by rintro rfl;show h v aaf
   simp[this]
  .rfl
def xA{kindOf:Str->Option NameKind}{x:Str}:∀{binds:List (Str×Value)} {m:Str->Option Value},(∀v,(x, v)∉binds)->bindC kindOf binds m x=m x
 | [],_,_=>rfl
 | (n, v)::r,m,h=>by
  unfold bindC;rw[xA λw hw=>h w (aah _ hw)];split
  .rfl
  .have:x≠n:=by rintro rfl;show h v aaf
   simp[this]
def xx{kindOf:Str->Option NameKind}{x:Str}{v:Value}:∀{P:List Str} {vs:List Value} {i:Nat} {m:Str->Option Value},P.Nodup->P[i]? =!x->vs[i]? =!v->kindOf x=some .local->
  bindL kindOf (P.zip vs) m x=!v
 | [],_,_,_,_,h,_,_=>by simp at h
 | _::_,[],_,_,_,_,h,_=>by simp at h
 | p::P,w::vs,0,m,nd,h1,h2,hk=>by simp at h1 h2;subst h1;subst h2;change bindL kindOf ((p, w)::P.zip vs) m p=_;unfold bindL;rw[xn λv hv=>(acD.mp nd).1 (acM hv).1,aa1 hk];simp
 | p::P,w::vs,i+1,m,nd,h1,h2,hk=>by change bindL kindOf ((p, w)::P.zip vs) m x=_;unfold bindL;show xx (i:=i) (List.nodup_cons.mp nd).2 (by simpa using h1) (by simpa using h2) hk
def wM{kindOf:Str->Option NameKind}{x:Str}{v:Value}:∀{P:List Str} {vs:List Value} {i:Nat} {m:Str->Option Value},P.Nodup->P[i]? =!x->vs[i]? =!v->kindOf x≠some .local->
  bindC kindOf (P.zip vs) m x=!v
 | [],_,_,_,_,h,_,_=>by simp at h
 | _::_,[],_,_,_,_,h,_=>by simp at h
 | p::P,w::vs,0,m,nd,h1,h2,hk=>by simp at h1 h2;subst h1;subst h2;change bindC kindOf ((p, w)::P.zip vs) m p=_;unfold bindC;rw[xA λv hv=>(acD.mp nd).1 (acM hv).1,aa2 hk];simp
 | p::P,w::vs,i+1,m,nd,h1,h2,hk=>by change bindC kindOf ((p, w)::P.zip vs) m x=_;unfold bindC;show wM (i:=i) (List.nodup_cons.mp nd).2 (by simpa using h1) (by simpa using h2) hk
def start(N:List Str)(vs:List V):St:=vs.map some++List.replicate (-N - -vs) none
def wB(CX:C2)(P:Program)(w:World)(K:fI)(mg:Str->Option Value)(base:Heap)(N:List Str)(qual:Str)(scope:Scope)(f:Addr)(cd:Value)(A:Around)(outer:List Env)(s:Shared)(H:Hp)(E:XK):Cx where
 prog:=P
 w:=w
 K:=K
 mg:=mg
 base:=base
 A:=A.deeper (envOfC qual scope s.heap.objs.size f cd)
 N:=N
 s₀:=s
 H₀:=H
 env:=envOfC qual scope s.heap.objs.size f cd
 outer:=outer
 stack:=envOfC qual scope s.heap.objs.size f cd::outer
 ex:=[]
 calm:=true
 fn:=λ_=>true
 pn:=[]
 xe:=λe s'=>wpAny (model P w) (A.deeper (envOfC qual scope s.heap.objs.size f cd)) (leaving (envOfC qual scope s.heap.objs.size f cd) e) (λ_ Uv=>CX outer H s E e Uv) (λe' Uv=>CX outer H s E e' Uv) s'
def BQ{sc:Scope}(h:sc.names.lookup x=some .cell):∃c,(cellsFrom n sc.names []).lookup x=!c:=by let q:=PySem.W.cellsFrom_some sc.names n [] (.inl h);show acz.mp q
def Ip{K:fI}{f:Addr}{H:Hp}{E:XK}{vs:List V}
  (S:Ζ N ps scope) (hd:A.handled=none) (e0:EV P w K mg base A outer s H) (hl:-vs=-ps) (r:aD vs us)
  (x:InCallC s s.heap.objs.size (bindL (envOfC qual scope s.heap.objs.size f cd).kindOf (ps.zip us) λ_=>none) (cellsFrom (s.heap.objs.size+1) scope.names []) (bindC (envOfC qual scope s.heap.objs.size f cd).kindOf (ps.zip us) λ_=>none) s1):
  Inv (wB CX P w K mg base N qual scope f cd A outer s H E) [] (start N vs) H s1:=by
 let gL:-ps<=-N:=by have:=abI List.length S.pre;rw[adn]at this;omega
 let(h1,tk,rfl,hk):=x.done;let Xl:∀b:Addr,b∉(wB CX P w K mg base N qual scope f cd A outer s H E).ex:=λb z=>absurd (show b∈([]:List Addr) from z) (by simp)
 show⟨(e0.mod,S.kind,rfl,rfl,aas _,λy z c h1 h2=>?_,λy hy=>?_,λy c _ h=>?_,λ_=>hd,Around.frames_deeper e0.frames,.inr (rfl,rfl),λb z=>abc z (Xl b),e0.bs,e0.vY,λb _ _=>Xl b,λb z=>abc z (Xl b),e0.v_,e0.UU),
  rfl,e0.bare,Un.kept hk,(_,x.toInCall.ns,λi y v h1 h2 h3=>?_),λy c h=>(_,x.cell y c h),e0.aN.fresh (Nat.le_refl _),λy c h=>?_,λp hp=>absurd (show p∈([]:List (Addr×Obj)) from hp) (by simp),e0.aN.kept hk,?_⟩
 .show name_of_addr x.apart (PySem.mem_of_lookup h1) (PySem.mem_of_lookup h2)
 .let hy:scope.names.lookup y=some .cell\/scope.names.lookup y=some .free:=hy;rcases hy with hy| hy
  .show BQ hy
  .show abc rfl (S.Ue _ (PySem.mem_of_lookup hy))
 .show Nat.le_of_lt (x.above y c (PySem.mem_of_lookup h))
 .let hi:i < -vs:=by
   unfold start at h2;by_cases hi:i < -vs
   .show hi
   .rw[List.getElem?_append_right (by simpa using hi)]at h2;rw[ac6]at h2;split at h2 <;> cases h2
  let ha:vs[i]? =!v:=by
   unfold start at h2;rw[List.getElem?_append_left (by simpa using hi),List.getElem?_map]at h2;cases e:vs[i]? with
   | none=>rw[e]at h2;cases h2
   | some a=>rw[e]at h2;cases h2;rfl
  let(u,hu,rv):=r.get ha;let hp:ps[i]? =!y:=by rw[<-S.pre,adq ()];show h1
  let ndP:ps.Nodup:=by rw[<-S.pre];show S.nd.sublist (List.take_sublist _ _)
  show(u,rv,?_);rcases S.par y (aao hp) with k| k
  .show .inl (k,xx ndP hp hu k)
  .let(c,e):=BQ (n:=s.heap.objs.size+1) k;show .inr (.inl k,c,e,?_);let q:=x.cell y c e;rw[wM ndP hp hu (by change scope.names.lookup y≠_;rw[k];decide)]at q;show q
 .show e0.aN.fresh (Nat.le_of_lt (x.above y c (PySem.mem_of_lookup h)))
 .unfold start;change _=-N;rw[aaj,aac,abY];omega
def Q6{K:fI}{k:Nat}{f:Addr}{kV oc:Value}{od:Option Addr}
  {CY:Array (Option Value)}  {sp:Sp} (lk:K.lookup f=!(oc,od,.func (PySem.W.fnOf name qual params body scope dV kV doc pm an bf ct),CY)) (Gg:PySem.W.codeIn K bf qual=true) (S:Ζ N ps scope)
  (len:∀vs H Q E,sp vs H Q E->-vs=-ps)
  (tj:∀(A:Around) (outer:List Env) (s:Shared) (H:Hp) (vs:List V) (Q:VK) (E:XK),bV k (A.deeper (envOfC qual scope s.heap.objs.size f bf))->sp vs H Q E->
   ∃t,JD (wB CX P w K mg base N qual scope f bf A outer s H E) body t/\t {nx:=λ_ H'=>Q .bt H',rt:=Q} (start N vs) H):
  aq P w K mg base CX (k+1) f (PySem.W.fnOf name qual params body scope dV kV doc pm an bf ct) ps sp:=by
 show(len,λA outer s H args us vs Q E hr e0 hb r Ra=>?_);let hl:=len _ _ _ _ Ra;let KX:K.In s.heap:=e0.mod.XM.keeps λb o e=>(e0.bs b o e).1;let lim:s.heap.NoLimit:=e0.mod.nolimit.keeps λb o e=>(e0.bs b o e).1;let KP:∀y∈ps.zip us,scope.names.lookup y.1=some .local\/(scope.names.lookup y.1=some .cell/\((cellsFrom (s.heap.objs.size+1) scope.names []).lookup y.1).isSome=true):=λ(n,v) hy=>by
  rcases S.par n (acM hy).1 with q| q
  .show .inl q
  .show .inr (q,PySem.W.cellsFrom_some _ _ _ (.inl q))
 show codeAny_call_function hr.depth (KX _ _ lk) rfl S.co S.gen rfl (PySem.W.codeRec_of KX Gg) (hb _ _ _ _ ?_);show wpAny_newFunctionEnv_cells S.kind KP λenv he s1 x=>?_;subst he;show(lim.keeps x.toInCall.keep,codeAny_func ?_);let(t,ht,hq):=tj A outer s H vs Q E (hr.deeper _) Ra;let I:Inv (wB CX P w K mg base N qual scope f bf A outer s H E) [] (start N vs) H s1:=Ip S hr.hd e0 hl r x;show adb (ht [] s1 (start N vs) H _ I hq) (λfl s' hs=>?_) λe s' hs=>hs
 let fin:∀{σ':St} {H':Hp} {v:V} {u:Value},Inv (wB CX P w K mg base N qual scope f bf A outer s H E) [] σ' H' s'->az v u->Q v H'->CE outer P w H s Q u s':=
  λ{σ' H' v u} J rv q=>(v,H',J.os,J.bare,J.base,J.aN,rv,q)
 cases fl with
 | ret u=>
  let(v,σ',H',J,rv,q):=hs;show fin J rv q
 | next=>
  let(σ',H',J,q):=hs;show fin (v:=V.bt) (u:=Value.none) J rfl q
 | brk=>
  let(_,_,_,q):=hs;show False.elim q
 | cont=>
  let(_,_,_,q):=hs;show False.elim q
section
variable{p:Pos}{t:TA}{id T:String}{r:List V->Hp->VK->Prop}
def tCB(r:List V->Hp->VK->Prop)(t:TA):TE:=λσ H Q=>t σ H λvs H1=>r vs H1 Q
def MW(hc:eC X (.builtin id) r)(hg:Gl X x)(hm:X.mg x=none)(hv:bootBuiltins x=!(.builtin id))(ha:PA X (e::es) t)(hn:x≠"__name__"|>2)(pv:(x==("__debug__":Str))=false|>2)
  (he:starEach (e::es) X.env=(false, eval e X.env)::starEach es X.env|>1) (gL:(backTo pos (starEach es X.env)).any (·.1)=false|>1):PE X (.Call (.Name x p) (e::es) [] pos) (tCB r t):=by
 intro η s σ H Q I h;show wpAny_Call_Name_kw (nW I hg hm hv ?_ hn pv);show PyProof.Rows.callWith_builtin1 (bP (ha pos η s σ H _ I h) λus s1 (vs,H1,I1,r1,q1)=>hc η s1 σ H1 vs us Q I1 r1 q1) he gL
def Js(hc:eC X (.type T) r)(hg:Gl X x)(hm:X.mg x=none)(hv:bootBuiltins x=!(.type T))(ha:PA X (e::es) t)(hn:x≠"__name__"|>2)(pv:(x==("__debug__":Str))=false|>2)
  (he:starEach (e::es) X.env=(false, eval e X.env)::starEach es X.env|>1) (gL:(backTo pos (starEach es X.env)).any (·.1)=false|>1):PE X (.Call (.Name x p) (e::es) [] pos) (tCB r t):=by
 intro η s σ H Q I h;show wpAny_Call_Name_kw (nW I hg hm hv ?_ hn pv);show PyProof.Rows.callWith_type1 (bP (ha pos η s σ H _ I h) λus s1 (vs,H1,I1,r1,q1)=>hc η s1 σ H1 vs us Q I1 r1 q1) he gL
end
end L2
namespace HT
open PySem PyProof.Rows
section
variable{prog:Program}{w:World}{A:Around}{E:Value->Shared->Prop}{s:Shared}
def PN{vs ws:List Value}{Q:Value->Shared->Prop}(ht:IsTup s.heap t vs.toArray)(hb:IsTup s.heap b ws.toArray)(hv:vs≠[])
  (h1:ws=[]->Q (.ref t) s) (h2:ws≠[]->Q (.ref s.heap.objs.size) {s with heap:=s.heap.push {cls:=.type "tuple",data:=.seq (vs++ws).toArray}})
  (hsz:-vs+-ws<=sizeLine):wpAny (model prog w) A (binaryOp .Add (.ref t) (.ref b)) Q E s:=by
 let((cls,dd,data,sl),ho,hc,n,hd):=id ht;let((ajS,JN,data2,Nz),Yi,hc2,n2,hd2):=id hb;simp only at hc hd hc2 hd2;subst hc hd hc2 hd2;let e:vs.toArray++ws.toArray=(vs++ws).toArray:=by simp
 by_cases hw:ws=[]
 .show concat_meets (_,ho,rfl) (_,Yi,rfl) noFill_tuple_add seq_tuple_add PySem.F.slot_tuple_add PySem.F.entry_tuple_add (PySem.F.args_tuple_add_2 _ _)
   (tuple_addW1 t b vs.toArray ws.toArray n n2 dd JN sl Nz (by simpa using hv) (by simp[hw])) (ho,Yi,h1 hw)
 .show concat_meets (_,ho,rfl) (_,Yi,rfl) noFill_tuple_add seq_tuple_add PySem.F.slot_tuple_add PySem.F.entry_tuple_add (PySem.F.args_tuple_add_2 _ _)
   (tuple_addW2 t b vs.toArray ws.toArray n n2 dd JN sl Nz (by simpa using hv) (by simpa using hw) (by rw[List.size_toArray,List.size_toArray];show hsz)) (ho,Yi,?_)
  rw[e];show h2 hw
def Cc(n d:Nat):Option Int->Nat
 | none=>d
 | some v=>if v < 0 then (v+(n:Int)).toNat else min v.toNat n
def Cv(n d:Nat):Cc n d none=d:=rfl
def sH(n d k:Nat):Cc n d (!(k:Int))=min k n:=by change(if (k:Int) < 0 then ((k:Int)+(n:Int)).toNat else min (k:Int).toNat n)=min k n;rw[aa2 (),acJ]
end
end HT
namespace L2
open PySem PySem.Spec PyProof.Rows
variable{X:Cx}{n:Nat}{η:List (Addr×Obj)}{s:Shared}{its:List Value}
abbrev TO:=St->Hp->(Option Int->Hp->Prop)->Prop
def PO(X:Cx)(e:Option Expr)(t:TO):Prop:=
 ∀(η:List (Addr×Obj)) (s:Shared) (σ:St) (H:Hp) (Q:Option Int->Hp->Prop),Inv X η σ H s->t σ H Q->
  wpAny (model X.prog X.w) X.A (evalPart e X.env) (λu s'=>∃o H',Inv X η σ H' s'/\IsPart u o/\Q o H') X.xe s
def OY:TO:=λ_ H Q=>Q none H
def Xd(t:TE):TO:=λσ H Q=>t σ H λx H1=>∃i,x= .int i/\Q (!i) H1
section
variable{e:Expr}{te:TE}{lo hi:Option Expr}{tl th:TO}{pos p2:Pos}
def G8:PO X none OY:=by intro η s σ H Q I h;rw[evalPart_none];show abd (none,H,I,.none,h)
def mJ(h:PE X e te):PO X (!e) (Xd te):=by intro η s σ H Q I hw;rw[evalPart_some];show bP (h η s σ H _ I hw) λu s1 xz=>?_;let(x,H1,I1,r1,q1):=xz;let(i,rfl,q):=q1;let(t,rfl):=r1;show(!i,H1,I1,.int i t,q)
def SlR(X:Cx)(r:V->Option Int->Option Int->Hp->VK->Prop):Prop:=
 ∀(η:List (Addr×Obj)) (s:Shared) (σ:St) (H:Hp) (x:V) (v vl vu:Value) (lo hi:Option Int) (sl:Addr) (Q:VK),Inv X η σ H s->az x v->s.heap.IsSliceOf sl vl vu .none->IsPart vl lo->IsPart vu hi->r x lo hi H Q->
  ∃T id,typeLookup (.type T) "__getitem__"=pure (!(.builtin id))/\s.TypeIs v T/\wpAny (model X.prog X.w) X.A (getItem v (.ref sl)) (EP X η σ Q) X.xe s
def tSl(r:V->Option Int->Option Int->Hp->VK->Prop)(te:TE)(tl th:TO):TE:=λσ H Q=>te σ H λx H1=>tl σ H1 λl H2=>th σ H2 λu H3=>r x l u H3 Q
def uz(hr:SlR X r)(he:PE X e te)(hl:PO X lo tl)(hu:PO X hi th):PE X (.Subscript e (.Slice lo hi none p2) pos) (tSl r te tl th):=by intro η s σ H Q I h;show Subscript_ (bP (he η s σ H _ I h) λv s1 xz=>?_);let(x,H1,I1,r1,q1):=xz;show wpAny_Slice (bP (hl η s1 σ H1 _ I1 q1) fun vl s2 (l,H2,I2,pl,q2)=>bP (hu η s2 σ H2 _ I2 q2) λvu s3 xz=>?_);let(u,H3,I3,pu,q3):=xz;rw[evalPart_none];show abd ?_;let I4:Inv X η σ H3 {s3 with heap:=s3.heap.push {cls:=.type "slice",data:=.fields #[vl,vu,.none]}}:=I3.kept (t':=s3.toks) λb ob q=>aar _ q;let(T,id,hT,ht,hg):=hr η {s3 with heap:=s3.heap.push {cls:=.type "slice",data:=.fields #[vl,vu,.none]}} σ H3 x v vl vu l u s3.heap.objs.size Q I4 r1 (Heap.IsSliceOf.new ..) pl pu q3;change wpAny (model X.prog X.w) X.A (subscriptTail e (.Slice lo hi none p2) v (.ref s3.heap.objs.size)) (EP X η σ Q) X.xe {s3 with heap:=s3.heap.push {cls:=.type "slice",data:=.fields #[vl,vu,.none]}};show tail_any (ops:=[.ref s3.heap.objs.size,v]) ht hT hg (by with_unfolding_all rfl)
def wx(xs:List V)(lo hi:Option Int):List V:=(xs.drop (HT.Cc (-xs) 0 lo)).take (HT.Cc (-xs) (-xs) hi - HT.Cc (-xs) 0 lo)
def BA(xs:List V)(lo hi:Option Int):-(wx xs lo hi)<=-xs:=by unfold wx;rw[adn,acQ];omega
def Q4(K:fI):R2:=λx y H Q=>∃a b xs ys,x= .ref a/\y= .ref b/\nj K H a xs/\nj K H b ys/\xs≠[]/\-xs+-ys<=sizeLine/\
 (ys=[]->Q (.ref a) H)/\(ys≠[]->∀p,H p=none->Q (.ref p) (upd H p (.tup (xs++ys))))
def aD.zi(r:aD xs us):us=[]↔xs=[]:=by
 cases r with
 | nil=>simp
 | cons _ _=>simp
def Oq:jW X (binaryOp .Add) (Q4 X.K):=by intro η s σ H x y v u Q I rx ry h;let(a,b,xs,ys,rfl,rfl,ha,hb,hx,hz,q1,q2):=h;cases rx;cases ry;let(its,r1,p1,_):=I.tuple ha;let(LH,r2,p2,_):=I.tuple hb;show HT.PN p1 p2 (λz=>hx (r1.zi.mp z)) (λz=>(.ref a,H,I,rfl,q1 (r2.zi.mp z))) (λz=>?_) (by rw[<--r1,<--r2];show hz);show(.ref s.heap.objs.size,_,I.laid (t':=s.toks) (o:=.tup (xs++ys)) (λb ob q=>aar _ q) (aas _) ?_,rfl,q2 (λw=>z (r2.zi.mpr w)) _ (I.aN.fresh (aas _)));show(by rw[aaj];show hz,_,r1.append r2,IsTup.new _ _)
end
def Fo(n:Nat)(i:Int):Option Nat:=if 0<=i then (if i < n then !i.toNat else none) else if - (n:Int)<=i then !(i+n).toNat else none
def ku{α:Type}(xs:List α)(i:Int):Option α:=(Fo (-xs) i).bind λj=>xs[j]?
def GN{j:Nat}(h:Fo n i=!j):seqIndex? i n=!j/\j < n/\ - (n:Int)<=i/\i < n:=by
 unfold Fo at h;by_cases h0:0<=i
 .rw[aa1 h0]at h;by_cases h1:i < n
  .rw[aa1 h1]at h;let e:i.toNat=j:=aaI h;show(by rw[seqIndex_of h0 h1,e],(),(),h1)
  .rw[aa2 h1]at h;cases h
 .rw[aa2 h0]at h;by_cases h1: - (n:Int)<=i
  .rw[aa1 h1]at h;let e:(i+n).toNat=j:=aaI h;show(by rw[seqIndex_neg () h1,e],(),h1,())
  .rw[aa2 h1]at h;cases h
def yR{α:Type}{xs:List α}{i:Int}{v:α}(h:ku xs i=!v):∃j,seqIndex? i (-xs)=!j/\xs[j]? =!v/\j < -xs/\ - (-xs:Int)<=i/\i < -xs:=by
 unfold ku at h;cases e:Fo (-xs) i with
 | none=>rw[e]at h;cases h
 | some j=>
  rw[e]at h;let(h1,h2,h3,h4):=GN e;show(j,h1,h,h2,h3,h4)
def Θ{α:Type}{xs:List α}{j:Nat}{v:α}(h:xs[j]? =!v):ku xs (j:Int)=!v:=by
 let hj:j < -xs:=(aae.mp h).1;let e:Fo (-xs) (j:Int)=!j:=by unfold Fo;rw[if_pos (),if_pos ()];simp
 unfold ku;rw[e];show h
def Ai(b:Expr):Prop:=∀o i,subscripted b false o i=operate [o,i] (getItem o i)
def NA(X:Cx)(r:R2):Prop:=
 ∀(value slice:Expr) (η:List (Addr×Obj)) (s:Shared) (σ:St) (H:Hp) (x y:V) (v u:Value) (Q:VK),Inv X η σ H s->az x v->az y u->r x y H Q->
  subscripted slice false v u=operate [v,u] (getItem v u)->wpAny (model X.prog X.w) X.A (subscriptTail value slice v u) (EP X η σ Q) X.xe s
def MtR(X:Cx)(id:String)(r:V->List V->Hp->VK->Prop):Prop:=
 ∀(η:List (Addr×Obj)) (s:Shared) (σ:St) (H:Hp) (x:V) (xs:List V) (v:Value) (us:List Value) (Q:VK),Inv X η σ H s->az x v->aD xs us->r x xs H Q->
  wpAny (model X.prog X.w) X.A (call (.builtin id) (v::us)) (EP X η σ Q) X.xe s
section
variable{a b:Expr}{ta tb:TE}{pos:Pos}
def NA.or(h:NA X r)(h':NA X r'):NA X (λx y H Q=>r x y H Q\/r' x y H Q):=by
 intro value slice η s σ H x y v u Q I rx ry q hs;rcases q with q| q
 .show h value slice η s σ H x y v u Q I rx ry q hs
 .show h' value slice η s σ H x y v u Q I rx ry q hs
def Xq(hr:NA X r)(ha:PE X a ta)(hb:PE X b tb)(hs:Ai b):PE X (.Subscript a b pos) (U' r ta tb):=by intro η s σ H Q I h;show Subscript_ (Ti ha hb I h λv u s2 x y H2 I2 rx ry q=>hr a b η s2 σ H2 x y v u Q I2 rx ry q (hs _ _))
def VS(K:fI):R2:=λx y H Q=>∃p xs i v,x= .ref p/\y= .int i/\gY K H p xs/\ku xs i=!v/\Q v H
def Wd(K:fI):R2:=λx y H Q=>∃p xs i v,x= .ref p/\y= .int i/\nj K H p xs/\ku xs i=!v/\Q v H
def WO:R2:=λx y H Q=>∃z i c,x= .str z/\y= .int i/\-z<=sizeLine/\ku z.cps.toList i=!c/\Q (.str ⟨#[c]⟩) H
def Pp:NA X (VS X.K):=by
 intro value slice η s σ H x y v u Q I rx ry h hs;let(p,xs,i,z,rfl,rfl,hq,he,q):=h;cases rx;let(t,rfl):=ry;let(its,r,pl,hz):=I.list hq;let(j,h1,h2,h3,h4,h5):=yR he;let(w,ew,Ff):=r.get h2;let hl:=-r;let hn:=qD;let fin:EP X η σ Q w s:=(z,H,I,Ff,q);by_cases h0:0<=i
 .let hj:i.toNat=j:=by rw[seqIndex_of h0 h5]at h1;show aaI h1
  show item_listR pl.isList h0 () (by rw[hj];simpa using ew) fin hs
 .let hj:(i+(its.toArray.size:Int)).toNat=j:=by rw[seqIndex_neg () h4]at h1;rw[aaY,<-hl];show aaI h1
  show subscriptTail_builtinR (x:=w) pl.isList.typeIs slot_list_getitem.lookup
   (wpAny_getItem_list_neg (Q:=λr s'=>r=w/\EP X η σ Q r s') pl.isList () (by rw[List.size_toArray] <;> omega) () (by rw[hj];simpa using ew) (rfl,fin)) hs
def Sg:NA X (Wd X.K):=by
 intro value slice η s σ H x y v u Q I rx ry h hs;let(p,xs,i,z,rfl,rfl,hq,he,q):=h;cases rx;let(t,rfl):=ry;let(its,r,pl,hz):=I.tuple hq;let(j,h1,h2,h3,h4,h5):=yR he;let(w,ew,Ff):=r.get h2;let hl:=-r;let hn:=qD;let fin:EP X η σ Q w s:=(z,H,I,Ff,q)
 show subscriptTail_builtinR (x:=w) pl.typeIs slot_tuple_getitem.lookup
  (getItem_tuple (j:=j) (Q:=λr s'=>r=w/\EP X η σ Q r s') pl () () (by rw[List.size_toArray,<-hl];show h1) (by simpa using ew) (rfl,fin)) hs
def Rg:NA X WO:=by
 intro value slice η s σ H x y v u Q I rx ry h hs;let(z,i,c,rfl,rfl,hz,he,q):=h;let(t,rfl):=rx;let(t',rfl):=ry;let(j,h1,h2,h3,h4,h5):=yR he;let hl:-z.cps.toList=-z:=by simp[Str.length]
 rw[hl]at h1 h4 h5;let hn:=qD
 show tail_any (typeIs_str s z t) slot_str_getitem.lookup (getItem_str (c:=c) (by
  let e1:decide (i < - (2 ^ 63:Int))=false:=aa4 ();let e2:decide (i ≥ 2 ^ 63)=false:=aa4 ()
  rw[e1,e2,Bool.or_false]) (by rw[h1];simpa using h2) (.str ⟨#[c]⟩,H,I.tok _,(_,rfl),q)) hs
def rIx(K:fI):R2:=λx y H Q=>VS K x y H Q\/Wd K x y H Q\/WO x y H Q
def Sr:NA X (rIx X.K):=Pp.or (Sg.or Rg)
def D6(its:List Value)(n j:Nat)(u:Value):Obj.mapSeq (·.setIfInBounds j u) {cls:=.type "list",data:=.seq its.toArray n}={cls:=.type "list",data:=.seq (its.set j u).toArray n}:=by simp[Obj.mapSeq]
def Inv.lst{η:List (Addr×Obj)}{H:Hp}{s:Shared}(I:Inv X η σ H s)(h:H p=!(.lst xs)):
  ∃(its:List Value) (n:Nat),aD xs its/\s.heap.get? p=some {cls:=.type "list",data:=.seq its.toArray n}/\-xs<=sizeLine:=by
 let(z,its,n,r,e):=I.aN p _ h;show(its,n,r,e,z)
def Inv.Sh{H:Hp}{its':List Value}{f:Obj->Obj}(I:Inv X η σ H s)(h:H p=!(.lst xs))
  (ho:s.heap.get? p=some {cls:=.type "list",data:=.seq its.toArray n}) (hf:f {cls:=.type "list",data:=.seq its.toArray n}={cls:=.type "list",data:=.seq its'.toArray n'}) (r:aD ys its') (hz:-ys<=sizeLine) (t:Nat):
  Inv X η σ (upd H p (.lst ys)) {s with heap:=s.heap.update p f,toks:=t}:=by
 let e:(s.heap.update p f).get? p=some {cls:=.type "list",data:=.seq its'.toArray n'}:=by rw[Heap.get?_update_self f ho (by rw[hf] <;> rfl),hf]
 show I.write (x:=p) (e:=p) (by rw[h];trivial) (.inl rfl) (λb u hb q=>(Heap.get?_update_other _ _ (Ne.symm hb)).trans q) (_,e) ?_;show(hz,its',n',r,e)
def QR:V->V->V->Hp->(Hp->Prop)->Prop:=λo i v H Q=>∃p xs k j,o= .ref p/\i= .int k/\H p=!(.lst xs)/\Fo (-xs) k=!j/\Q (upd H p (.lst (xs.set j v)))
def Ni:Xw X QR:=by
 intro η s σ H o i v ov iv u Q I ro ri rv h;let(p,xs,k,j,rfl,rfl,hp,hj,q):=h;cases ro;let(t,rfl):=ri;let(its,n,r,ho,hz):=I.lst hp;let(h1,h2,h3,h4):=GN hj;let hl:=-r;let hn:=qD
 let I':Inv X η σ (upd H p (.lst (xs.set j v))) {s with heap:=s.heap.update p (Obj.mapSeq (·.setIfInBounds j u))}:=
  I.Sh hp ho (D6 its n j u) (r.set rv j) (by rw[acj];show hz) s.toks
 by_cases h0:0<=k
 .let hk:k.toNat=j:=by rw[seqIndex_of h0 h4]at h1;show aaI h1
  show PySem.W.ki_setAt ho h0 () (by rw[aaY,<-hl];show h4) (by rw[hk];show(_,I',q))
 .let hk:(k+(its.toArray.size:Int)).toNat=j:=by rw[seqIndex_neg () h3]at h1;rw[aaY,<-hl];show aaI h1
  show PySem.W.ki_setBack ho () (by rw[aaY,<-hl];show h3) () (by rw[hk];show(_,I',q))
def zQ(lo hi:Option Int)(n:Nat):(sliceBounds lo hi none n).1=((HT.Cc n 0 lo:Nat):Int)/\(sliceBounds lo hi none n).2.1=((HT.Cc n n hi:Nat):Int)/\(sliceBounds lo hi none n).2.2=1:=by
 show(?_,?_,rfl)
 .cases lo with
  | none=>simp[sliceBounds,HT.Cc]
  | some i=>
   simp only[sliceBounds,HT.Cc,Option.getD_none,show(1:Int) > 0 by decide,if_true];by_cases h:i < 0
   .simp only[h,if_true] <;> omega
   .simp only[h,if_false] <;> omega
 .cases hi with
  | none=>simp[sliceBounds,HT.Cc]
  | some i=>
   simp only[sliceBounds,HT.Cc,Option.getD_none,show(1:Int) > 0 by decide,if_true];by_cases h:i < 0
   .simp only[h,if_true] <;> omega
   .simp only[h,if_false] <;> omega
def wJ(its:List Value)(lo hi:Option Int):slicePick its.toArray lo hi none=((its.drop (HT.Cc (-its) 0 lo)).take (HT.Cc (-its) (-its) hi - HT.Cc (-its) 0 lo)).toArray:=by let(h1,h2,h3):=zQ lo hi its.toArray.size;unfold slicePick;rw[h1,h2,h3];simp only[sliceRange_one,pick_run,List.size_toArray] <;> rfl
def abb(K:fI):V->Option Int->Option Int->Hp->VK->Prop:=λx lo hi H Q=>∃a xs,x= .ref a/\gY K H a xs/\∀p,H p=none->Q (.ref p) (upd H p (.lst (wx xs lo hi)))
def Aa:SlR X (abb X.K):=by intro η s σ H x v vl vu lo hi sl Q I rx hs pl pu h;let(a,xs,rfl,hx,q):=h;cases rx;let(its,r,ht,hz):=I.list hx;let hlen:=-r;show("list",_,slot_list_getitem.lookup,ht.isList.typeIs,?_);show wpAny_getItem_list_slice ht.isList hs pl pu .none (by simp) ?_ (by rw[List.size_toArray] <;> omega);rw[wJ,<-hlen];show(.ref s.heap.objs.size,_,I.laid (t':=s.toks) (o:=.lst (wx xs lo hi)) (λb ob q=>aar _ q) (aas _) ?_,rfl,q _ (I.aN.fresh (aas _)));show(aaR (BA xs lo hi) hz,_,0,(r.drop (HT.Cc (-xs) 0 lo)).take (HT.Cc (-xs) (-xs) hi - HT.Cc (-xs) 0 lo),abn _ rfl)
def eJ:V->Bool
 | .bt=>true
 | .bl _=>true
 | .int _=>true
 | .str _=>true
 | _=>false
noncomputable def rM:V->V->Bool
 | .bt,.bt=>true
 | .bl a,.bl b=>a==b
 | .bl a,.int b=>(if a then 1 else 0)==b
 | .int a,.bl b=>a==(if b then 1 else 0)
 | .int a,.int b=>a==b
 | .str a,.str b=>a==b
 | _,_=>false
def tN(ry:az y u)(rx:az x v)(fy:eJ y=true)(fx:eJ x=true):SeqAt.EqAt A s u v (rM y x):=by
 cases y with
 | bt=>
  cases ry;cases x with
  | bt=>cases rx;show SeqAt.EqAt.same _
  | bl b=>cases rx;show SeqAt.EqAt.none_bool b
  | int b=>let(t,rfl):=rx;show SeqAt.EqAt.none_int b t
  | str b=>let(t,rfl):=rx;show SeqAt.EqAt.none_str b t
  | _=>show abc (show false=true from fx) aa7
 | bl a=>
  cases ry;cases x with
  | bt=>cases rx;show SeqAt.EqAt.bool_none a
  | bl b=>cases rx;show SeqAt.EqAt.bool_bool a b
  | int b=>let(t,rfl):=rx;show SeqAt.EqAt.bool_int a b t
  | str b=>let(t,rfl):=rx;show SeqAt.EqAt.bool_str a b t
  | _=>show abc (show false=true from fx) aa7
 | int a=>
  let(t',rfl):=ry;cases x with
  | bt=>cases rx;show SeqAt.EqAt.int_none a t'
  | bl b=>cases rx;show SeqAt.EqAt.int_bool a t' b
  | int b=>let(t,rfl):=rx;show SeqAt.EqAt.int_int a t' b t
  | str b=>let(t,rfl):=rx;show SeqAt.EqAt.int_str a t' b t
  | _=>show abc (show false=true from fx) aa7
 | str a=>
  let(t',rfl):=ry;cases x with
  | bt=>cases rx;show SeqAt.EqAt.str_none a t'
  | bl b=>cases rx;show SeqAt.EqAt.str_bool a t' b
  | int b=>let(t,rfl):=rx;show SeqAt.EqAt.str_int a t' b t
  | str b=>let(t,rfl):=rx;show SeqAt.EqAt.str_str a t' b t
  | _=>show abc (show false=true from fx) aa7
 | _=>show abc (show false=true from fy) aa7
def D_(x:V)(u:Value):Bool:=match u with
 | .none=>rM .bt x
 | .bool b=>rM (.bl b) x
 | .int i _=>rM (.int i) x
 | .str z _=>rM (.str z) x
 | _=>false
def Kc(r:az y u)(f:eJ y=true):D_ x u=rM y x:=by
 cases y with
 | bt=>cases r;rfl
 | bl b=>cases r;rfl
 | int i=>let(t,rfl):=r;rfl
 | str z=>let(t,rfl):=r;rfl
 | _=>show abc (show false=true from f) aa7
def oU:∀{xs:List V} {us:List Value},aD xs us->xs.all eJ=true->us.any (D_ x)=xs.any λy=>rM y x
 | _,_,.nil,_=>rfl
 | y::xs,u::us,.cons r t,f=>by rw[ac7,aaW]at f;rw[ac8,ac8,Kc r f.1,oU t f.2]
def lF{s:Shared}(rx:az x v)(fx:eJ x=true):∀{xs:List V} {us:List Value},aD xs us->xs.all eJ=true->∀u∈us,SeqAt.EqAt A s u v (D_ x u)
 | _,_,.nil,_=>λu hu=>by cases hu
 | y::xs,u::us,.cons r t,f=>λu' hu=>by
  rw[ac7,aaW]at f;rcases aba.mp hu with rfl| hu
  .rw[Kc r f.1];show tN r rx f.1 fx
  .show lF rx fx t f.2 u' hu
def T4(x:V)(xs:List V):Bool:=xs.any λy=>rM y x
def Yt(K:fI)(neg:Bool):R2:=λx y H Q=>∃p xs,y= .ref p/\(gY K H p xs\/nj K H p xs)/\eJ x=true/\xs.all eJ=true/\Q (.bl (if neg then ! T4 x xs else T4 x xs)) H
def HB:jW X (compareOp .In) (Yt X.K false):=by
 intro η s σ H x y v u Q I rx ry h;let(p,xs,rfl,hq,fx,fs,q):=h;cases ry;rcases hq with hq| hq
 .let(its,r,pl,hz):=I.list hq;show SeqAt.in_listAt (D_ x) pl.isList (λw hw=>lF rx fx r fs w (by simpa using hw)) (.bl _,H,I,rfl,?_);rw[show its.toArray.any (D_ x)=its.any (D_ x) by simp,oU r fs];show q
 .let(its,r,pl,hz):=I.tuple hq;show SeqAt.in_tupleAt (D_ x) pl (λw hw=>lF rx fx r fs w (by simpa using hw)) (.bl _,H,I,rfl,?_);rw[show its.toArray.any (D_ x)=its.any (D_ x) by simp,oU r fs];show q
def zL:jW X (compareOp .NotIn) (Yt X.K true):=by
 intro η s σ H x y v u Q I rx ry h;let(p,xs,rfl,hq,fx,fs,q):=h;cases ry;rcases hq with hq| hq
 .let(its,r,pl,hz):=I.list hq;show SeqAt.notIn_listAt (D_ x) pl.isList (λw hw=>lF rx fx r fs w (by simpa using hw)) (.bl _,H,I,rfl,?_);rw[show its.toArray.any (D_ x)=its.any (D_ x) by simp,oU r fs];show q
 .let(its,r,pl,hz):=I.tuple hq;show SeqAt.notIn_tupleAt (D_ x) pl (λw hw=>lF rx fx r fs w (by simpa using hw)) (.bl _,H,I,rfl,?_);rw[show its.toArray.any (D_ x)=its.any (D_ x) by simp,oU r fs];show q
def yv:eC X (.builtin "len") (λxs H Q=>∃p ys,xs=[.ref p]/\(gY X.K H p ys\/nj X.K H p ys)/\Q (.int (-ys)) H):=by
 intro η s σ H xs us Q I r h;let(p,ys,rfl,hq,q):=h;let(u,rfl,rx):=k_ r;cases rx;let hn:=qD;rcases hq with hq| hq
 .let(its,r',pl,hz):=I.list hq;let hlen:=-r';show Calls.call_len_list pl.isList (by simp only[List.size_toArray] <;> omega) (.int (-ys),H,I.tok _,(s.toks+1,by rw[List.size_toArray,hlen]),q)
 .let(its,r',pl,hz):=I.tuple hq;let hlen:=-r';show len_tuple pl (by simp only[List.size_toArray] <;> omega) (.int (-ys),H,I.tok _,(s.toks+1,by rw[List.size_toArray,hlen]),q)
def zu:eC X (.builtin "len") (λxs H Q=>∃z,xs=[.str z]/\-z<=sizeLine/\Q (.int (-z)) H):=by intro η s σ H xs us Q I r h;let(z,rfl,hz,q):=h;let(u,rfl,t,rfl):=k_ r;let hn:=qD;show len_str () (.int (-z),H,I.tok _,(_,rfl),q)
def eC.or(h:eC X f r)(h':eC X f r'):eC X f (λxs H Q=>r xs H Q\/r' xs H Q):=by
 intro η s σ H xs us Q I rs q;rcases q with q| q
 .show h η s σ H xs us Q I rs q
 .show h' η s σ H xs us Q I rs q
def zO:eC X (.type "list") (λxs H Q=>∃p ys,xs=[.ref p]/\(gY X.K H p ys\/nj X.K H p ys)/\∀l,H l=none->Q (.ref l) (upd H l (.lst ys))):=by
 intro η s σ H xs us Q I r h;let(p,ys,rfl,hq,q):=h;let(u,rfl,rx):=k_ r;cases rx
 let fin:∀(its:List Value),aD ys its->-ys<=sizeLine->∀(h':Heap) (c':Nat),(∀b o',s.heap.get? b=!o'->h'.get? b=!o')->
   h'.get? s.heap.objs.size=some {cls:=.type "list",dict:=none,data:=.seq its.toArray c',slots:= #[]}->EP X η σ Q (.ref s.heap.objs.size) {s with heap:=h'}:=λits r' hz h' c' kp e=>
  (.ref s.heap.objs.size,_,I.laid (t':=s.toks) kp (aas _) (show cf X.prog X.w _ h' _ (.lst ys) from(hz,its,c',r',e)),rfl,q _ (I.aN.fresh (aas _)))
 rcases hq with hq| hq
 .let(its,r',pl,hz):=I.list hq;let hlen:=-r';let(o,ho,hc,n,hd):=pl.isList;show call_list_seq p (.inl rfl) ho hc hd (λh' c' kp e=>fin its r' hz h' c' kp e) (by simp only[List.size_toArray] <;> omega)
 .let(its,r',pl,hz):=I.tuple hq;let hlen:=-r';let(o,ho,hc,n,hd):=pl;show call_list_seq p (.inr rfl) ho hc hd (λh' c' kp e=>fin its r' hz h' c' kp e) (by simp only[List.size_toArray] <;> omega)
def tyV(K:fI)(T:String)(x:V)(H:Hp):Prop:=match x with
 | .str _=>T="str"
 | .int _=>T="int"
 | .ref p=>(T="list"/\∃xs,gY K H p xs)\/(T="tuple"/\∃o,K.lookup p=!o/\o.cls= .type "tuple"/\o.dict=none)\/
   (T="dict"/\((∃Κ,H p=!(.dK Κ))\/∃Κ,H p=!(.dT Κ)))\/(T="set"/\∃S n,H p=!(.set S n))
 | _=>False
def Te{H:Hp}(I:Inv X η σ H s)(r:az x v)(ty:tyV X.K T x H):
  s.TypeIs v T/\∀a,v= .ref a->∃ob,s.heap.get? a=!ob/\ob.dict=none:=by
 cases x with
 | str z=>
  let(t,rfl):=r;cases(show T="str" from ty);show(typeIs_str s z t,λ_ e=>nomatch e)
 | int i=>
  let(t,rfl):=r;cases(show T="int" from ty);show(typeIs_int s i t,λ_ e=>nomatch e)
 | ref p=>
  cases r;rcases ty with ⟨rfl,xs,hq⟩| ⟨rfl,o,hk,hc,hd⟩| ⟨rfl,hk⟩| ⟨rfl,S,n,hk⟩
  .let(its,_,pl,_):=I.list hq;show(pl.isList.typeIs,λa e=>?_);cases e;let(o,n,e,c,hd,_):=pl;show(o,e,hd)
  .show((o,I.rP p o hk,hc),λa e=>?_);cases e;show(o,I.rP _ o hk,hd)
  .let z:∃o,s.heap.get? p=!o/\o.ExactDict:=by
    rcases hk with ⟨Κ,hk⟩| ⟨Κ,hk⟩
    .let(_,_,_,_,o,_,_,e,ex,_):=I.aN p _ hk;show(o,e,ex)
    .let(_,_,_,_,o,_,_,e,ex,_):=I.aN p _ hk;show(o,e,ex)
   let(o,e,ex):=z;show((o,e,ex.1),λa e2=>?_);cases e2;show(o,e,ex.2.1)
  .let(o,_,_,_,e,ex,_):=I.aN p _ hk;show((o,e,ex.1),λa e2=>?_);cases e2;show(o,e,ex.2.1)
 | _=>show False.elim ty
def tBM(K:fI)(T:String)(r:V->List V->Hp->VK->Prop)(to:TE)(t:TA):TE:=λσ H Q=>to σ H λx H1=>tyV K T x H1/\t σ H1 λxs H2=>r x xs H2 Q
variable{o e:Expr}{es:List Expr}{to:TE}{t:TA}{name:Str}{apos cN:Pos}{T id:String}{r:V->List V->Hp->VK->Prop}
def WH(pa:PlainAttrs T)(slot:Slot T name id)(hty:typeOf (.builtin id)=pure (.type "method_descriptor"))(hm:MtR X id r)(ho:PE X o to)(ha:PA X (e::es) t)
  (Kf:attributeBase o name X.env (eval o X.env)=eval o X.env|>1)
  (RK:((backTo cN (starEach (e::es) X.env)).all (λx=> ! x.1)&&(backToKw cN (keywordEach [] X.env)).all (λx=>x.1.isSome)
   &&decide (-(e::es)+-([]:List Keyword)+(if ([]:List Keyword).isEmpty then 0 else 1) < 30))=true|>1)
  (J1:(apos.endLine==cN.line)=true|>1) (hs:starEach (e::es) X.env=(false, eval e X.env)::starEach es X.env|>1) (EL:(backTo cN (starEach es X.env)).any (·.1)=false|>1):
  PE X (.Call (.Attribute o name apos) (e::es) [] cN) (tBM X.K T r to t):=by
 intro η s σ H Q I h;show wpAny_Call_method_late Kf RK J1 rfl (bP (ho η s σ H _ I h) λv s1 xz=>?_);let(x,H1,I1,r1,ty,q1):=xz;let(h1,h2):=Te I1 r1 ty;show(T,id,pa,slot,hty,h1,h2,?_);let hA:=ha cN η s1 σ H1 _ I1 q1;rw[hs]at hA⊢;show Calls.callWith_builtin (by change(false|| (backTo cN (starEach es X.env)).any (·.1))=false;rw[EL] <;> rfl) (Calls.evalArgs_plain ?_);show bP hA λus s2 (vs,H2,I2,r2,q2)=>hm η s2 σ H2 x vs v us Q I2 r1 r2 q2
end
def MtM(X:Cx)(id:String)(r:V->List V->Hp->VK->Prop):Prop:=
 ∀(η:List (Addr×Obj)) (s:Shared) (σ:St) (H:Hp) (x:V) (xs:List V) (v:Value) (us:List Value) (Q:VK),Inv X η σ H s->az x v->aD xs us->r x xs H Q->
  wpAny (model X.prog X.w) X.A (call (.builtin id) (v::us)) (EP X η σ Q) X.xe s
def aD.one:∀{x:V} {us:List Value},aD [x] us->∃u,us=[u]/\az x u
 | _,_,.cons r .nil=>(_,rfl,r)
def aD.rep(h:aD xs us):∀k:Nat,aD (List.replicate k xs).flatten (List.replicate k us).flatten
 | 0=>.nil
 | k+1=>by rw[acr,acr,acK,acK];show aD.append h (aD.rep h k)
def ye(its:List Value):∀(k:Nat) (Ι:List Value),
  List.foldl (λx1 x2=>x1++x2) Ι.toArray (List.replicate k its.toArray)=(Ι++(List.replicate k its).flatten).toArray
 | 0,Ι=>by simp
 | k+1,Ι=>by
  let e:Ι.toArray++its.toArray=(Ι++its).toArray:=by simp
  let e2:(Ι++its)++(List.replicate k its).flatten=Ι++(List.replicate (k+1) its).flatten:=by rw[acr,acK,ab6]
  rw[<-e2,<-ye its k (Ι++its),<-e,acr,acE]
section
variable{σ:St}{H:Hp}{l b:Addr}{xs ys zs:List V}
def Inv.abG{its':List Value}{f:Array Value->Array Value}{t':Nat}(I:Inv X η σ H s)(hH:H l=!(.lst xs))
  (e:s.heap.get? l=some {cls:=.type "list",data:=.seq its.toArray n}) (hf:f its.toArray=its'.toArray) (hv:aD ys its') (hz:-ys<=sizeLine):
  Inv X η σ (upd H l (.lst ys)) {s with heap:=s.heap.update l (Obj.mapSeq f),toks:=t'}:=by
 let q:=PySem.IsL.update e f;rw[hf]at q;show I.write (x:=l) (e:=l) (by rw[hH];show trivial) (.inl rfl) (λb' u hb hu=>(Heap.get?_update_other s.heap (Obj.mapSeq f) (Ne.symm hb)).trans hu) (_,q) ?_;show(hz,its',_,hv,q)
def Inv.TB{t':Nat}(I:Inv X η σ H s)(hv:aD ys its)(hz:-ys<=sizeLine):
  Inv X η σ (upd H s.heap.objs.size (.lst ys)) {s with heap:=s.heap.push {cls:=.type "list",data:=.seq its.toArray},toks:=t'}:=
 I.laid (λ_ _ q=>aar _ q) (aas _) (hz,its,0,hv,abn _ rfl)
def Inv.fresh(I:Inv X η σ H s):H s.heap.objs.size=none:=I.aN.fresh (aas _)
def Inv.Pw(I:Inv X η σ H s)(hH:H l=!(.lst xs)):-xs<=sizeLine/\∃(its:List Value) (n:Nat),aD xs its/\-xs=-its/\s.heap.get? l=some {cls:=.type "list",data:=.seq its.toArray n}:=by let(z,its,n,r,e):=I.aN l _ hH;show(z,its,n,r,-r,e)
def KY(h:n<=sizeLine):Builtin.List.listTooLong n=false:=by unfold Builtin.List.listTooLong;show aa4 ()
end
section
def FH:V->List V->Hp->VK->Prop:=λx vs H Q=>∃l xs y,x= .ref l/\vs=[y]/\H l=!(.lst xs)/\-xs < sizeLine/\Q .bt (upd H l (.lst (xs++[y])))
def xW:MtM X "list.append" FH:=by intro η s σ H x vs v us Q I rx rv h;let(l,xs,y,rfl,rfl,hH,hz,q):=h;cases rx;let(u,rfl,ru):=rv.one;let(z,its,n,r,hl,e):=I.Pw hH;show call_meets F.slot_list_append (_,e,rfl) F.entry_list_append (F.args_list_append_2 _ _) (PySem.list_append l its.toArray n u (by rw[aaY];omega)) (e,?_);show(.bt,_,I.abG (its':=its++[u]) hH e (by simp) (r.append (.cons ru .nil)) ?_,rfl,q);rw[aaj,List.length_singleton];omega
def SI:R2:=λx y H Q=>∃l b xs zs,x= .ref l/\y= .ref b/\H l=!(.lst xs)/\H b=!(.lst zs)/\-xs+-zs<=sizeLine/\∀p,H p=none->Q (.ref p) (upd H p (.lst (xs++zs)))
def Mr:jW X (binaryOp .Add) SI:=by
 intro η s σ H x y v u Q I rx ry h;let(l,b,xs,zs,rfl,rfl,hH,hB,hz,q):=h;cases rx;cases ry;let(z,its,n,r,hl,e):=I.Pw hH;let(z2,LH,n2,r2,D7,e2):=I.Pw hB;show PySem.P.add_list e e2 ?_ (by rw[aaY,aaY];omega);let ea:its.toArray++LH.toArray=(its++LH).toArray:=by simp
 rw[ea];show(.ref _,_,I.TB (t':=s.toks) (r.append r2) (by rw[aaj];omega),rfl,q _ I.fresh)
def Uh:R2:=λx y H Q=>∃l k xs,x= .ref l/\y= .int k/\H l=!(.lst xs)/\ - (2 ^ 63)<=k/\k < 2 ^ 63/\-xs * k.toNat<=sizeLine/\
 ∀p,H p=none->Q (.ref p) (upd H p (.lst (List.replicate k.toNat xs).flatten))
def P9{α:Type}(xs:List α)(k:Nat):-(List.replicate k xs).flatten=k * -xs:=by
 induction k with
 | zero=>simp
 | succ k ih=>rw[acr,acK,aaj,ih,Nat.succ_mul,Nat.add_comm]
def KA:jW X (binaryOp .Mult) Uh:=by
 intro η s σ H x y v u Q I rx ry h;let(l,k,xs,rfl,rfl,hH,h1,h2,hz,q):=h;cases rx;let(t,rfl):=ry;let(z,its,n,r,hl,e):=I.Pw hH;let hlen:its.toArray.size * k.toNat<=sizeLine:=by rw[aaY,<-hl];show hz
 let aaE:¬its.toArray.size * k.toNat > (2 ^ 63 - 1) / 8:=by
  have:(sizeLine:Nat)<=(2 ^ 63 - 1) / 8:=@_
  omega
 let Ob:¬(! Builtin.List.listFitsIndex k)=true:=by rw[fitsIndex_both h1 h2];show aa7
 let WQ:¬Builtin.List.listTooLong (its.toArray.size * k.toNat)=true:=by rw[KY hlen];show aa7
 let aai:List.foldl (λx1 x2=>x1++x2) #[] (List.replicate (if its.toArray.isEmpty=true then 0 else k.toNat) its.toArray)=(List.replicate k.toNat its).flatten.toArray:=by
  let f0:∀m:Nat,List.foldl (λx1 x2=>x1++x2) #[] (List.replicate m its.toArray)=(List.replicate m its).flatten.toArray:=λm=>by have:=ye its m [];rw[abB]at this;show this
  rw[f0];cases its with
  | nil=>simp
  | cons a r'=>rw[if_neg (by simp)]
 show wpAny_binaryOp_repeat_ref (T:="list") (U:="int") @_ (_,e,rfl) (λs'=>typeIs_int s' k t) noFill_list_mul F.fills_int_mul F.slot_int_rmul repeat_list F.slot_int_index.lookup
  (call_meets F.slot_int_rmul (typeIs_int s k t) F.entry_int_rmul (F.args_int_rmul_2 _ _) (int___rmul___int_list k t l its.toArray n)
   (e,rfl,(_,e,rfl),call_meets F.slot_list_mul (_,e,rfl) F.entry_list_mul (F.args_list_mul_2 _ _) (AutoListH.list___mul___list_int_3 l its.toArray n k t Ob aaE WQ) (e,?_)))
 rw[aai];show(.ref _,_,I.TB (t':=s.toks) (r.rep k.toNat) (by rw[P9,Nat.mul_comm];show hz),rfl,q _ I.fresh)
end
end L2
namespace Att
open PySem PySem.W PySem.Calls PyProof.Rows
def si:∀(ns:List Int) (vs:List Value),WellAll P h vs (ns.map WData.int)->IntsAre vs ns:=by
 intro ns
 induction ns with
 | nil=>
  intro vs w;rw[ads]at w;cases w;show .nil
 | cons n ns ih=>
  intro vs w;rw[aaX]at w;cases w with
  | cons a b=>
   cases a;show .cons _ _ (ih _ b)
def Ja{l:OpenLaw}{n:Nat}(hn:l.most=!n)
  (OI:l.row.toRowW.claim.pre args=true) (ZH:WellAll P h vals args):
  ∃a vs ns,vals=[Value.ref a]/\args=[WData.list (ns.map WData.int)]/\h.get? a=some {cls:=.type "list",data:=.seq vs.toArray}/\IntsAre vs ns/\-ns<=n:=by
 let hsh:WShape.hasAll [] args [.list .int]=true:=(pre_splitW OI).1;let hc:l.pre.holds [] {args:=args}=true:=(pre_splitW OI).2;let(d,r,rfl,h1,h2):=hasAllW_cons hsh;obtain rfl:=hasAllW_nil h2;let(xs,rfl,h3):=hasW_list h1;let(ns,rfl):=items_int h3;let hlen:-ns<=n:=by
  unfold OpenLaw.pre at hc;let h4:(WTm.not (.lt (.lit (.int (n:Int))) (.len (.arg 0)))).holds [] {args:=[.list (ns.map .int)]}=true:=by let h4:=(holds_andW hc).1;rw[hn]at h4;show h4
  let h5:=condW_of h4 (w_not (w_lt w_lit (w_len_list (w_arg rfl))));rw[aac]at h5;show Nat.le_of_not_lt λq=>?_;let q':(n:Int) < ((-ns:Nat):Int):=()
  first
   | (rw[aaT q']at h5;show abc h5 @_)
   | (simp at h5;omega)
 cases ZH with
 | cons w1 w2=>
  cases w2;cases w1 with
  | list ho CJ=>show(_,_,ns,rfl,rfl,ho,si ns _ CJ,hlen)
def HQ(l:OpenLaw)(args:List WData):l.row.toRowW.claim.post args (.bool true) args=true:=
 postW_of (r:=l.row.toRowW) (X:=(true==true))
  (show WShape.has [] (.bool true) .bool=true by first| rfl| decide| simp[WShape.has,WShape.arms,WShape.armsAll])
  (show(WTm.eq .res (.lit (.bool true))).value [] {args:=args,res:=!(.bool true),after:=args}=!(.bool (true==true)) from w_eq_bool (w_res rfl) w_lit) rfl
def AU{l:OpenLaw}{n:Nat}{q:Program}{YP:World->Heap->Prop}{d:DefRec}
  (hn:l.most=!n) (W5:d.params.defaults=[])
  (call:∀(w:World) (s₀ s₁:Shared) (mg mb:Str->Option Value) (fa:Addr) (o:Obj) (pm cd doc:Value) (a:Addr) (vs:List Value) (ns:List Int),
   Ground q loose [] XP w s₀ mg mb s₁.heap->YP w s₁.heap->
   s₁.heap.get? fa=!o->o.data= .func (docDef d.name d.params d.body d.scope pm cd doc)->s₁.heap.CodeRec cd d.name->mg d.name=!(.ref fa)->
   s₁.heap.get? a=some {cls:=.type "list",data:=.seq vs.toArray}->IntsAre vs ns->-ns<=n->s₁.gens= #[]->
   codeAny (model l.prog w) callerA (.call (.ref fa) ([.ref a],[])) (λr s'=>r= .ok (.ret (.bool true))/\OldK s₁.heap s'.heap/\s'.os=s₁.os/\AllBare s'.gens) s₁):
  WalkO q loose XP YP l.row.toRowW d [] (λf vs=>PySem.call f vs):=by
 intro w s₀ s₁ mg mb G Y fa o pm cd doc dV kV ho hd Gg hD PC hg args vals as OI ahU hrd ZH hlo;obtain rfl:dV= .none:=Dflts.none hD W5;obtain rfl:kV= .none:=Dflts.noKw hD;let(a,vs,ns,rfl,rfl,RR,hints,hlen):=Ja hn OI ZH;show enter_call (codeAny_mono (call w s₀ s₁ mg mb fa o pm cd doc a vs ns G Y ho (fd_plain hd) Gg PC RR hints hlen hg) λr s' hq=>?_);let(rfl,h2,h3,h4):=hq;show(.inl (.bool true,.bool true,[],rfl,λ_=>rfl,.bool true,HQ l _,λ_=>(List.Pairwise.nil,λ_ hm=>(nomatch hm))),h2,h3,h4)
end Att
namespace L2
open PySem PySem.Spec PyProof.Rows
def xw:∀{vs:List Value} {ns:List Int},IntsAre vs ns->aD (ns.map V.int) vs
 | _,_,.nil=>.nil
 | _,_,.cons n t h=>.cons (t,rfl) (xw h)
def SK(H:Hp):Prop:=∀b,H b=none\/∃o xs,H b=!(.w4 o (.lst xs))
def KD{K:fI}{k:Nat}{x:Str}{s₁:Shared}{vs:List Value}
  (KX:K.In s₁.heap) (hns:s₁.heap.Ns mainGlobals mg) (hb:s₁.heap.Ns builtinsNs mb) (hbb:∀x:Str,x≠"__name__"->mb x=bootBuiltins x) (ZX:s₁.heap.NoLimit) (hg:s₁.gens= #[])
  (ha:s₁.heap.get? a=some {cls:=.type "list",data:=.seq vs.toArray}) (hi:IntsAre vs ns) (hl:-ns<=sizeLine) (hr:bV k callerA)
  (F:∀base:Heap,K.In base->base.Ns mainGlobals mg->aq P w K mg base CX k fa fd [x] sp) (VQ:∀(s:Shared) (u:Value),BindsTo s fd ([u],[]) [(x, u)])
  (Ra:∀H:Hp,SK H->gY K H a (ns.map V.int)->sp [.ref a] H (λv _=>v= .bl true) λ_ _ _=>False)
  (Z9:∀H e s',CX [] H s₁ (λ_ _ _=>False) e s'->False):
  codeAny (model P w) callerA (.call (.ref fa) ([.ref a],[])) (λr s'=>r= .ok (.ret (.bool true))/\OldK s₁.heap s'.heap/\s'.os=s₁.os/\AllBare s'.gens) s₁:=by
 let rv:=xw hi;let Y5:=-hi
 let core:∀H:Hp,SK H->gY K H a (ns.map V.int)->mN P w H s₁.heap->(∀b,H b≠none->b=a)->(H a≠none->K.lookup a=none)->
   codeAny (model P w) callerA (.call (.ref fa) ([.ref a],[])) (λr s'=>r= .ok (.ret (.bool true))/\OldK s₁.heap s'.heap/\s'.os=s₁.os/\AllBare s'.gens) s₁:=by
  intro H hO hS aN hA hK;let GU:∀{b:Addr} {o:Obj},s₁.heap.get? b=!o->H b=none->(Ak s₁.heap H).get? b=!o:=λe n=>JX e n;let Xl:∀{b:Addr} {o:Obj} {es:Array DictEntry} {ep:Nat},s₁.heap.get? b=!o->o.data= .dict es ep->H b=none:=λ{b o es ep} e d=>by
   cases q:H b with
   | none=>rfl
   | some u=>
    let e':b=a:=hA b (by rw[q];simp);subst e';rw[ha]at e;cases e;let d':Data.seq vs.toArray _=Data.dict es ep:=d;cases d'
  let Yv:∀{b:Addr} {m:Str->Option Value},s₁.heap.Ns b m->(Ak s₁.heap H).Ns b m:=λ{b m} (o,es,ep,e,d,r)=>(o,es,ep,GU e (Xl e d),d,r)
  let hKb:K.In (Ak s₁.heap H):=λb o e=>GU (KX b o e) (by
   cases q:H b with
   | none=>rfl
   | some u=>
    let e':b=a:=hA b (by rw[q];simp);subst e'
    rw[hK (by rw[q];simp)]at e;cases e)
  let hM:Mod K mg (Ak s₁.heap H):=(hKb,Yv hns,(mb,Yv hb,hbb),let (mc,h1,h2):=ZX;(mc,Yv h1,h2));let e0:EV P w K mg (Ak s₁.heap H) callerA [] s₁ H:=(rfl,hM,λb o e=>OQ e,Nat.le_of_eq (IT _ _),trivial,λb hb=>absurd (show b∈([]:List Addr) from hb) (by simp),aN,.of_eq hg);show codeAny_mono ((F _ hKb (Yv hns)).run callerA [] s₁ H ([.ref a],[]) [.ref a] [.ref a] _ _ hr e0 (VQ s₁ (.ref a)) (.cons rfl .nil) (Ra H hO hS)) λr s' h=>?_;cases r with
  | error e=>show(Z9 H e s' h).elim
  | ok fl=>
   cases fl with
   | next=>show False.elim h
   | brk=>show False.elim h
   | cont=>show False.elim h
   | ret u=>
    let(v,H',os,bare,un,abh,r',q):=h;let q':v= .bl true:=q;subst q';obtain rfl:u=Value.bool true:=r';show(rfl,OldK.of_keep λb o e=>?_,os,bare);cases q:H b with
    | none=>show un.keep b o e q (by intro z;show absurd (show b∈([]:List Addr) from z) (by simp)) (by simp)
    | some u=>
     rcases hO b with z| ⟨ob,xs,z⟩
     .rw[q]at z;cases z
     .let z2:=un.qa b ob _ z;let(e1,_):=aN b _ z;let(e2,_):=abh b _ z2;rw[e]at e1;cases e1;show e2
 cases hk:K.lookup a with
 | some o=>
  let e:=KX a o hk;rw[ha]at e;cases e;show core (λ_=>none) (λ_=>.inl rfl) (.inr (_,vs.toArray,_,hk,rfl,rfl,rfl,by rw[List.size_toArray,Y5];show hl,by simpa using rv)) (λb u z=>by let z':(none:Option HO)=!u:=z;cases z') (λb z=>absurd rfl z) λz=>absurd rfl z
 | none=>
  show core (λb=>if b=a then !(.w4 {cls:=.type "list",data:=.seq vs.toArray} (.lst (ns.map V.int))) else none) (λb=>?_) (.inl (.inr ({cls:=.type "list",data:=.seq vs.toArray},aa1 rfl))) (λb u z=>?_) (λb z=>?_) λ_=>hk
  .by_cases hb:b=a
   .show .inr (_,_,aa1 hb)
   .show .inl (aa2 hb)
  .by_cases hb:b=a
   .let z':=(aa1 hb).symm.trans z;cases z';subst hb;show(ha,by rw[aac];show hl,vs,_,rv,ha)
   .let z':=(aa2 hb).symm.trans z;cases z'
  .by_cases hb:b=a
   .show hb
   .show abc (aa2 hb) z
def Az{l:PySem.W.OpenLaw}{n k:Nat}{q:Program}{YP:World->Heap->Prop}{d:DefRec}{K:Params->fI}{CX:World->C2}{sp:World->Sp}{x:Str}
  (hn:l.most=!n) (U_:n<=sizeLine) (W5:d.params.defaults=[]) (hr:bV k callerA)
  (hY:∀(w:World) (h:Heap),YP w h->(K w.params).In h)
  (F:∀(w:World) (mg:Str->Option Value) (fa:Addr) (h:Heap),(K w.params).In h->h.Ns mainGlobals mg->mg d.name=!(.ref fa)->
   ∃fd:FuncData,(∀(s:Shared) (u:Value),BindsTo s fd ([u],[]) [(x, u)])/\
    ∀base:Heap,(K w.params).In base->base.Ns mainGlobals mg->aq l.prog w (K w.params) mg base (CX w) k fa fd [x] (sp w))
  (Ra:∀(w:World) (H:Hp) (a:Addr) (ns:List Int),-ns<=n->SK H->gY (K w.params) H a (ns.map V.int)->sp w [.ref a] H (λv _=>v= .bl true) λ_ _ _=>False)
  (Z9:∀(w:World) (H:Hp) (s:Shared) (e:Value) (s':Shared),CX w [] H s (λ_ _ _=>False) e s'->False):
  PySem.W.WalkO q loose XP YP l.row.toRowW d [] (λf vs=>PySem.call f vs):=by
 show Att.AU hn W5 λw s₀ s₁ mg mb fa o pm cd doc a vs ns G Y ho hd Gg PC RR hints hlen hg=>?_;let KX:=hY w _ Y;let(fd,hb,hF):=F w mg fa _ KX G.T.g PC;show KD KX G.T.g G.T.b G.T.builtins G.T.nolimit hg RR hints (aaR hlen U_) hr hF hb (λH hO hS=>Ra w H a ns hlen hO hS) λH e s'=>Z9 w H s₁ e s'
end L2
/- THE Za Pn (shape;LID, My.* are Vz):
  My.Adr:a structure of O4 addresses Z' ZG UZ names (classes, HE);My.Txt K t:a structure (Prop) of O4 equations sE K;
  My.EX:{K} {implicit addresses ..} (e1:nsIn K mainGlobals "law"=!(!(.ref f))) (e2:K.lookup f=!(oc,od,.func (fnOf "law" "law" params body scope dV kV doc pm an bf ct),sl)) (e3:codeIn K bf "law"=true) .. :∃t,My.Txt K t
set_option maxRecDepth 100000 in
set_option maxHeartbeats 0 in
def PySem.Challenge.cw_LID_holds : PySem.Challenge.rw_LID.Holds := by
 w_on;o_law;k_head;(case hw=>w_witness2)
 k_fill
 show L2.Az (l:=PySem.Challenge.rw_LID) (n:=63) (k:=40) (x:="script") (CX:=fun w=>..) (sp:=fun _=>My.SV) rfl @_ rfl (rfl,@_,@_) (fun w h Y=>PySem.W.kIn_of Y) ?F ?S ?C
 case F=>
  intro w mg fa h KX G PC;let T:∃t,My.Txt (L2.KOf KX) t:=by
   dsimp only[L2.KOf]
   refine' My.EX ?e1 ?e2 ?e3 ..
   (case e1=>PySem.W.k_is)
   (case e2=>PySem.W.k_is)
   ..
  let(t,T):=T;let e0:=PC.symm.trans (PySem.W.mg_of KX G T.law);cases e0;show(_,λs u=>.of_eq rfl,λbase kb nb=>My.DU T kb nb)
 case S=>exactλw H a ns hl hO hS=>..
 case C=>show ..
(O4 tactic k_is has no namespace:write k_is) -/
namespace L2
open PySem PySem.Spec PyProof.Rows
variable{P:Program}{w:World}{mg:Str->Option Value}{base:Heap}{qual:Str}{st:Stmt}{f x:Addr}{fd:FuncData}{ps N xs ys:List Str}{A:Around}{s:Shared}{env:Env}{outer:List Env}{X:Cx}{η:List (Addr×Obj)}{scope:Scope}{ae:List Nat}
def hI(s:Stmt):Arguments:=match s with
 | .FunctionDef _ a _ _ _ _ _ _ _ _=>a
 | _=>{posonlyargs:=[],args:=[],vararg:=none,kwonlyargs:=[],kw_defaults:=[],kwarg:=none,defaults:=[]}
def eP(s:Stmt):List Stmt:=match s with
 | .FunctionDef _ _ b _ _ _ _ _ _ _=>b
 | _=>[]
def υ(s:Stmt):Scope:=match s with
 | .FunctionDef _ _ _ _ _ _ sc _ _ _=>sc
 | _=>{kind:=.function,names:=[],isGenerator:=false,isCoroutine:=false}
abbrev X6:C2:=λ_ _ _ _ _ _=>False
abbrev E0:XK:=λ_ _ _=>False
structure c_(K:fI)(x qual:Str)(st:Stmt)(f:Addr)(fd:FuncData):Prop where
 ex:∃(oc:Value) (od:Option Addr) (kV doc pm:Value) (an:Option Addr) (bf ct:Value) (CY:Array (Option Value)),
  fd=PySem.W.fnOf x qual (hI st) (eP st) (υ st) .none kV doc pm an bf ct/\K.lookup f=!(oc,od,.func fd,CY)/\PySem.W.codeIn K bf qual=true
 kp:PySem.W.keepIn K (.ref f)=true
section
variable{K:fI}
def c_.binds{x:Str}(F:c_ K x qual st f fd)
  (h:∀(kV doc pm:Value) (an:Option Addr) (bf ct:Value) (us:List Value),-us=-ps->bindArgs (PySem.W.fnOf x qual (hI st) (eP st) (υ st) .none kV doc pm an bf ct) (us,[])=pure (ps.zip us)):jd K fd ps []:=by
 let(oc,od,kV,doc,pm,an,bf,ct,CY,rfl,lk,Gg):=F.ex;show .all (h kV doc pm an bf ct)
def KO{x:Str}{oc:Value}{od:Option Addr}{CY:Array (Option Value)}{kV:Value}(l:K.lookup f=!(oc,od,.func (PySem.W.fnOf x qual (hI st) (eP st) (υ st) .none kV doc pm an bf ct),CY))
  (c:PySem.W.codeIn K bf qual=true) (k:PySem.W.keepIn K (.ref f)=true):c_ K x qual st f (PySem.W.fnOf x qual (hI st) (eP st) (υ st) .none kV doc pm an bf ct):=((oc,od,kV,doc,pm,an,bf,ct,CY,rfl,l,c),k)
end
def AZ{k:Nat}(hr:bV k A):A.units+1 < cLine:=abz (Nat.add_le_add_left (by decide:1<=64) _) hr.units
def HK{A B:Prop}(h:B):if false=true then A else B:=by rw[aa2 aa7];show h
def IP{A B:Prop}(h:A):if true=true then A else B:=by rw[aa1 rfl];show h
def e_(H H':Hp):Prop:=∀b o,H b=!o->H' b=!o
def e_.refl(H:Hp):e_ H H:=λ_ _ h=>h
def e_.trans{H:Hp}(a:e_ H H1)(b:e_ H1 H2):e_ H H2:=λc o h=>b c o (a c o h)
def e_.free{H:Hp}(e:e_ H H')(h:H' l=Option.none):H l=Option.none:=by
 cases q:H l with
 | none=>rfl
 | some o=>
  rw[e l o q]at h;cases h
def e_.seq{K:fI}{H:Hp}{xs:List V}(e:e_ H H')(h:gY K H a xs):gY K H' a xs:=by
 rcases h with (h| ⟨o,h⟩)| h
 .show .inl (.inl (e _ _ h))
 .show .inl (.inr (o,e _ _ h))
 .show .inr h
section
def NO(B:Heap)(l:List Env)(x:Addr)(o:Obj)(fl:Value)(h:Heap):Prop:=
 B.StaysIn h/\B.get? x=none/\h.FunFrames B l/\∃(vs:Array Value) (T:Addr) (oT:Obj) (ts:Array Value),h.get? x=some {o with data:=.fields vs}/\vs[2]? =some .none/\vs[1]? =!(.ref T)/\
  B.get? T=none/\T≠x/\h.get? T=!oT/\oT.data= .fields ts/\ts[3]? =!fl
section
variable{M:Model}{E:Value->Shared->Prop}{B:Heap}{l:List Env}{L:Addr}{o:Obj}{vs:Array Value}{Q:Unit->Shared->Prop}
def vh{h h':Heap}{oT:Obj}(hT:h.get? T=!oT)(hd:oT.data= .fields ts)(k:∀b,b≠T->h'.get? b=h.get? b):h.UpToSlots h':=λb ob e hn=>
 (ob.slots,(k b λz=>by rw[z,hT]at e;cases e;show hn _ hd).trans e)
def xM{h:Heap}(hl:h.FunFrames B l)(u:h.UpToSlots h'):h'.FunFrames B l:=hl.of_keeps λb ob e hn=>by let(sl,q):=u b ob e hn;show(_,q,rfl)
def LB{head:Value}(hfr:A.frames=!(env::outer))(hf:env.frame=!L)(hB:B.StaysIn s.heap)(hn:B.get? x=none)(hl:s.heap.FunFrames B (env::outer))(hx:s.heap.get? x=some {o with data:=.fields vs})(h1:1 < vs.size)(h2:vs[2]? =some .none)
  (h:∀h',NO B (env::outer) x o (rawInt L) h'->s.heap.UpToSlots h'->Q Unit.unit {s with heap:=h'}):
  wpAny M A (do let  a<-frameOf env;let  pl<-entryPlaceOf L XU;let  n<-EntryCells.newEntry head a .none (rawInt L) .none pl;setField (.ref x) 1 n) Q E s:=by
 show aaq (wpAny_frameOf_fun hfr hl hf λg1 S1=>aaq (wpAny_entryPlaceOf λpl gL=>?_));let nx:x∉(env::outer).filterMap (·.frame):=λz=>by let(_,ob,e,d):=hl.mem z;rw[hx]at e;cases e;show d _ rfl
 let hx1:g1.get? x=some {o with data:=.fields vs}:=(S1.2.1 x nx).trans hx;unfold EntryCells.newEntry newFields;show aaq (wpAny_newObj_type ?_ (gL.sizeOk5 _ _ _ _ _));let YD:=aar (h:=g1) {cls:=.type "traceback",dict:=none,data:=.fields ([head,.ref L,.none,rawInt L,.none]++(if pl.isEmpty then List.replicate 6 Value.none else pl)).toArray} hx1;show wpAny_setField YD rfl h1 (h _ ?_ ?_)
 .let up1:∀b ob,b≠x->g1.get? b=!ob->((g1.push {cls:=.type "traceback",dict:=none,data:=.fields ([head,.ref L,.none,rawInt L,.none]++(if pl.isEmpty then List.replicate 6 Value.none else pl)).toArray}).update x (Obj.mapFields (·.setIfInBounds 1 (Value.ref g1.objs.size)))).get? b=!ob:=λb ob nb e=>
   (Heap.get?_update_other _ _ (Ne.symm nb)).trans (aar _ e)
  let neT:g1.objs.size≠x:=adH (aaM hx1)
  show(λb ob e=>up1 b ob (λz=>by rw[z,hn]at e;cases e) ((S1.2.1 b λz=>by rw[(hl.mem z).1]at e;cases e).trans (hB b ob e)),hn,hl.of_keeps λb ob e d=>?_,vs.setIfInBounds 1 (.ref g1.objs.size),g1.objs.size,_,_,Heap.get?_update_self _ YD rfl,by rw[Array.getElem?_setIfInBounds_ne @_];show h2,by simp[h1],?_,neT,
   (Heap.get?_update_other _ _ (Ne.symm neT)).trans (abn g1 rfl),rfl,?_)
  .let(sl,q):=S1.2.2 b ob e;show(_,up1 b _ (λz=>by rw[z,hx]at e;cases e;show d _ rfl) q,rfl)
  .cases q:B.get? g1.objs.size with
   | none=>rfl
   | some ob=>
    have:=aaM (hB _ _ q);rw[<-S1.1]at this;show abc this (aci _)
  .first
    | (simp;done)
    | (rcases gL with rfl| ⟨_,_,_,_,_,_,_,rfl⟩ <;> simp)
 .intro b ob e d;let(sl,q):=S1.2.2 b ob e;show(sl,?_);rw[Heap.get?_update_other _ _ (λz:x=b=>by rw[<-z,hx]at e;cases e;show d _ rfl)];show aar _ q
def W7(hfr:A.frames=!(env::outer))(hf:env.frame=!L)(R:NO B (env::outer) x o .none s.heap)
  (h:∀h',NO B (env::outer) x o (rawInt L) h'->s.heap.UpToSlots h'->Q Unit.unit {s with heap:=h'}):wpAny M A (noteFrame (.ref x) env) Q E s:=by
 let(hB,hn,hl,vs,T,oT,ts,hx,h2,h1,nT,X1,hT,dT,h3):=R;unfold noteFrame;simp only[hf];show aaq (wpAny_field hx rfl h1 ?_);rw[if_pos (show(Value.ref T != Value.none)=true by simp)];show aaq (wpAny_field hT dT h3 ?_);rw[if_neg (show¬((Value.none==rawInt L)=true) by simp[rawInt])];show aaq (wpAny_setField hT dT (adi.mp h3).1 ?_);let AD:∀b,b≠T->(s.heap.update T (Obj.mapFields (·.setIfInBounds 3 Value.none))).get? b=s.heap.get? b:=λb nb=>Heap.get?_update_other _ _ (Ne.symm nb);let u:=vh hT dT AD;show LB hfr hf (λb ob e=>(AD b λz=>by rw[z,nT]at e;cases e).trans (hB b ob e)) hn (xM hl u) ((AD x (Ne.symm X1)).trans hx) (adi.mp h1).1 h2 λh' F' u'=>h h' F' (u.trans u')
def Pd(R:NO B l x o fl s.heap)(h:∀h',NO B l x o .none h'->s.heap.UpToSlots h'->Q Unit.unit {s with heap:=h'}):wpAny M A (setFlight (.ref x) none) Q E s:=by let(hB,hn,hl,vs,T,oT,ts,hx,h2,h1,nT,X1,hT,dT,h3):=R;unfold setFlight;show aaq (wpAny_field hx rfl h1 ?_);rw[if_pos (show(Value.ref T != Value.none)=true by simp)];let z3:=(adi.mp h3).1;let AD:∀b,b≠T->(s.heap.update T (Obj.mapFields (·.setIfInBounds 3 ((none:Option Addr).elim Value.none λf=>rawInt f)))).get? b=s.heap.get? b:=λb nb=>Heap.get?_update_other _ _ (Ne.symm nb);let u:=vh hT dT AD;show wpAny_setField hT dT z3 (h _ (λb ob e=>(AD b λz=>by rw[z,nT]at e;cases e).trans (hB b ob e),hn,xM hl u,vs,T,_,_,(AD x (Ne.symm X1)).trans hx,h2,h1,nT,X1,Heap.get?_update_self _ hT (Obj.isFreed_of_fields (Obj.data_mapFields dT _)),Obj.data_mapFields dT _,by simp[z3]) u)
def TX(R:NO B (env::outer) x o fl h):NO B outer x o fl h:=by let(hB,hn,(_,_,hl),r):=R;show(hB,hn,hl,r)
end
structure X4(P:Program)(w:World)(l:List Env)(H H':Hp)(h h' B:Heap)(x:Addr)(o:Obj):Prop where
 un:Un (sy l) [] H H' h h'
 ok:mN P w H' B
 Vm:NO B l x o .none h'
 CU:∀b u,h.get? b=!u->H b=none->b∉sy l->B.get? b=!u
 V2:∀b u,h.get? b=!u->b∉sy l->∃u',B.get? b=!u'
variable{l:List Env}{H H':Hp}{h h' X_ B:Heap}{o:Obj}
end
def b9(P:Program)(w:World):C2:=λouter H s E e s'=>
 ∃x o H' B,e= .ref x/\s'.os=s.os/\AllBare s'.gens/\X4 P w outer H H' s.heap s'.heap B x o/\E o.cls o.dict H'
section
variable{σ:St}{H H':Hp}{X_ B:Heap}{ox:Obj}
def X4.leave(I:Inv X η σ H s)(hex:X.ex=[])(Ud:∀b∈sy X.outer,b∈sy X.stack)(ok:mN X.prog X.w H' B)(f:NO B X.outer x ox .none X_)(nx0:X.s₀.heap.get? x=none)
  (CU:∀b o,b≠x->s.heap.get? b=!o->H b=none->b∉sy X.stack->B.get? b=!o)
  (V2:∀b o,b≠x->s.heap.get? b=!o->b∉sy X.stack->∃o',B.get? b=!o')
  (sl:∀b o,s.heap.get? b=!o->b∈sy X.stack->∃sl,X_.get? b=some {o with slots:=sl})
  (free:∀b o,s.heap.get? b=!o->H b=none->H' b=none)
  (r9:∀b xs,H b=!(.tup xs)->H' b=!(.tup xs)) (qa:∀b o u,H b=!(.w4 o u)->H' b=!(.w4 o u))
  (sk:∀b ps,H b=!(.Pr ps)->∃more,H' b=!(.Pr (ps++more))):X4 X.prog X.w X.outer X.H₀ H' X.s₀.heap X_ B x ox:=by
 let nX:∀b o,X.s₀.heap.get? b=!o->b≠x:=λb o e z=>by rw[z,nx0]at e;cases e
 let nc:∀b:Addr,b∉X.ex:=λb z=>by rw[hex]at z;cases z
 let nS:∀b o,X.s₀.heap.get? b=!o->b∉sy X.outer->b∉sy X.stack:=λb o e hb z=>
  (aba.mp (I.yF b z)).elim (λq=>abr (aaV (aaM e) I.ok.above) q) hb
 show((λb o e n hb _=>?_,λb o e n hb _=>?_,λb o e n _=>?_,λb o e _=>?_,λb xs e=>r9 b xs (I.base.r9 b xs e),λb o u e=>qa b o u (I.base.qa b o u e),λb ps e=>?_),ok,f,λb o e n hb=>?_,λb o e hb=>?_)
 .show f.1 b o (CU b o (nX b o e) (I.base.keep b o e n hb (nc b)) (I.base.free b o e n (nc b)) (nS b o e hb))
 .let(s1,e1):=I.base.slot b o e n hb (nc b);let(s2,e2):=sl b _ e1 (Ud b hb);show(s2,e2)
 .let(o',e1):=I.base.there b o e (nc b);show free b o' e1 (I.base.free b o e n (nc b))
 .let(o',e1):=I.base.there b o e (nc b);by_cases hb:b∈sy X.stack
  .let(s2,e2):=sl b _ e1 hb;show(_,e2)
  .let(o2,q):=V2 b o' (nX b o e) e1 hb;show(o2,f.1 _ _ q)
 .let(m1,e1):=I.base.sk b ps e;let(m2,e2):=sk b _ e1;show(m1++m2,by rw[e2,Array.append_assoc])
 .show CU b o (nX b o e) (I.base.keep b o e n hb (nc b)) (I.base.free b o e n (nc b)) (nS b o e hb)
 .let(o',e1):=I.base.there b o e (nc b);show V2 b o' (nX b o e) e1 (nS b o e hb)
end
def eB(CX:C2)(X:Cx)(R:St->XK):Prop:=∀(η:List (Addr×Obj)) (σ:St) (H:Hp) (s:Shared) (e:Value) (s':Shared),Inv X η σ H s->CX X.stack H s (R σ) e s'->X.xe e s'
section
variable{K:fI}{cd:Value}{s₀:Shared}{H₀:Hp}{E:XK}
def OO:∀b∈sy outer,b∈sy (env::outer):=λb hb=>by let(en,he,hf):=ady.mp hb;show ady.mpr (en,aah _ he,hf)
def ξ:eB (b9 P w) (wB (b9 P w) P w K mg base N qual scope f cd A outer s₀ H₀ E) (λ_=>E):=by
 intro η σ H s e s' I hx;let(x,o,H',B,rfl,os,bare,F,hE):=hx;change wpAny _ _ (do noteFrame (.ref x) _;setFlight (.ref x) none) _ _ s';show aaq (W7 (B:=B) I.ok.frames rfl F.Vm λh4 f4 u4=>Pd f4 λh5 f5 u5=>?_);show(x,o,H',B,rfl,os.trans I.os,bare,X4.leave I rfl OO F.ok (TX f5) ?_ (λb o _=>F.CU b o) (λb o _=>F.V2 b o) (λb o q hb=>?_) (λb o q n=>F.un.free b o q n (by simp)) F.un.r9 F.un.qa F.un.sk,hE)
 .change s₀.heap.get? x=none;cases q:s₀.heap.get? x with
  | none=>rfl
  | some u=>
   let(u',e1):=I.base.there x u q nofun;by_cases hb:x∈sy (wB (b9 P w) P w K mg base N qual scope f cd A outer s₀ H₀ E).stack
   .let(vs,_,_,_,hxx,_):=F.Vm.2.2.2;let(_,o',IV,hd):=F.Vm.2.2.1.mem hb;rw[hxx]at IV;cases IV;show abc rfl (hd _)
   .let(u2,e2):=F.V2 x u' e1 hb;rw[F.Vm.2.1]at e2;cases e2
 .let(sl,e1):=F.un.slot b o q (I.zy b hb) hb (by simp);let(_,o',IV,hd):=F.Vm.2.2.1.mem hb;rw[e1]at IV;cases IV;let(Nz,e2):=(u4.trans u5) b _ e1 hd;show(Nz,e2)
end
def R_(sp:Sp)(pW:List V)(R:St->XK)(t:TA):TE:=λσ H Q=>t σ H λvs H1=>sp (vs++pW) H1 Q (R σ)
section
variable{CX:C2}{k:Nat}{sp:Sp}{pW:List V}{ds:List Value}{R:St->XK}{x:Str}{p pos:Pos}{e:Expr}{es:List Expr}{t:TA}
def yj{H:Hp}(F:aq X.prog X.w X.K X.mg X.base CX k f fd ps sp)(hr:bV k X.A)(hb:jd X.K fd ps ds)(hd:aD pW ds)(hx:eB CX X R)
  (I:Inv X η σ H s) (r:aD vs us) (h:sp (vs++pW) H Q (R σ)):wpAny (model X.prog X.w) X.A (call (.ref f) us) (EP X η σ Q) X.xe s:=by
 let r2:aD (vs++pW) (us++ds):=r.append hd;let hl:-(us++ds)=-ps:=by rw[<--r2];show F.len _ _ _ _ h
 show wpAny_call (codeAny_mono (F.run X.A X.stack s H (us,[]) (us++ds) (vs++pW) Q (R σ) hr I.UX (hb s us I.rP hl) r2 h) λr s' hq=>?_);cases r with
 | error e=>show hx η σ H s e s' I hq
 | ok fl=>
  cases fl with
  | ret u=>show I.after hq
  | next=>show False.elim hq
  | brk=>show False.elim hq
  | cont=>show False.elim hq
def B2(F:aq X.prog X.w X.K X.mg X.base CX k f fd ps sp)(hr:bV k X.A)(hg:Gl X x)(hm:X.mg x=!(.ref f))(hk:PySem.W.keepIn X.K (.ref f)=true)(hb:jd X.K fd ps ds)(hd:aD pW ds)(hx:eB CX X R)
  (ha:PA X (e::es) t) (pv:(x==("__debug__":Str))=false|>2) (he:starEach (e::es) X.env=(false, eval e X.env)::starEach es X.env|>1) (gL:(backTo pos (starEach es X.env)).any (·.1)=false|>1):
  PE X (.Call (.Name x p) (e::es) [] pos) (R_ sp pW R t):=by
 intro η s σ H Q I h;show wpAny_Call_Name_kw (sT I hg hm ?_ pv);show PySem.W.callWith_K (h₀:=X.base) I.ok.mod.XM hk (bP (ha pos η s σ H _ I h) fun us s1 (vs,H1,I1,r,q)=>(I1.rP,?_)) he gL;show yj F hr hb hd hx I1 r q
end
def nE(env:Env):List (Str×NameKind)->List (Str×Addr)->List (Str×Addr)
 | [],Ι=>Ι
 | p::r,Ι=>nE env r (if p.2== .free then (p.1, (env.cells.lookup p.1).getD 0)::Ι else Ι)
def u7(h:∀p∈scope.names,p.2= .free->(env.cells.lookup p.1).isSome=true):closureFor scope env=pure (nE env scope.names []):=by
 let key:∀(l:List (Str×NameKind)) (Ι:List (Str×Addr)),(∀p∈l,p.2= .free->(env.cells.lookup p.1).isSome=true)->
   (forIn l Ι (λ(p:Str×NameKind) (r:List (Str×Addr))=>(if p.2== .free then (do let  c<-cellOf env p.1;pure (ForInStep.yield ((p.1, c)::r))) else pure (ForInStep.yield r):Sem (ForInStep (List (Str×Addr))))))=(pure (nE env l Ι):Sem (List (Str×Addr))):=by
  intro l
  induction l with
  | nil=>intro Ι _;rfl
  | cons p r ih=>
   intro Ι hp;rw[List.forIn_cons];let ih':=λa=>ih a λq hq=>hp q (aah _ hq);let(n,k):=p;by_cases hk:k= .free
   .subst hk;let hs:=hp (n, .free) aaf rfl;cases hl:env.cells.lookup n with
    | none=>rw[show env.cells.lookup (n, NameKind.free).1=none from hl]at hs;cases hs
    | some c=>
     let e1:nE env ((n, .free)::r) Ι=nE env r ((n, c)::Ι):=by change nE env r (if (NameKind.free==NameKind.free)=true then (n, (env.cells.lookup n).getD 0)::Ι else Ι)=_;rw[aa1 @_,hl];rfl
     let e2:cellOf env n=pure c:=by unfold cellOf;rw[hl]
     rw[e1];let e3:(NameKind.free==NameKind.free)=true:=@_
     simp only[e3,if_true,e2,pure_bind];show ih' _
   .let hb:(k==NameKind.free)=false:=by simpa using hk
    let e1:nE env ((n, k)::r) Ι=nE env r Ι:=by change nE env r (if (k==NameKind.free)=true then (n, (env.cells.lookup n).getD 0)::Ι else Ι)=_;rw[hb,aa2 @_]
    rw[e1];simp only[hb,Bool.false_eq_true,if_false,pure_bind];show ih' _
 have:=key scope.names [] h;unfold closureFor
 first
  | show this
  | (simp only[bind_pure];show this)
  | (rw[bind_pure];show this)
set_option tactic.hygienic true in
def xG{env:Env}{c:Addr}:∀(l:List (Str×NameKind)) (Ι:List (Str×Addr)),(∀p∈l,p.2= .free->(env.cells.lookup p.1).isSome=true)->
  (Ι.lookup y=!c->env.cells.lookup y=!c)->(nE env l Ι).lookup y=!c->env.cells.lookup y=!c
 | [],Ι,_,ha,h=>ha h
 | (n, k)::r,Ι,hp,ha,h=>by
  show xG r _ (λq hq=>hp q (aah _ hq)) (λe=>?_) h;split at e
  .rename_i hk;rw[acx]at e;cases q:(y==n) with
   | true=>
    rw[q]at e;let e':(env.cells.lookup n).getD 0=c:=aaI e;let hn:y=n:=by simpa using q
    subst hn;let hs:=hp (y, k) List.mem_cons_self (by simpa using hk);cases z:env.cells.lookup y with
    | none=>rw[show env.cells.lookup (y, k).1=none from z]at hs;cases hs
    | some d=>rw[z]at e';rw[<-e'];rfl
   | false=>rw[q]at e;show ha e
  .show ha e
def vJ{env:Env}{y:Str}:∀(l:List (Str×NameKind)) (Ι:List (Str×Addr)),((y, NameKind.free)∈l\/(Ι.lookup y).isSome=true)->((nE env l Ι).lookup y).isSome=true
 | [],Ι,h=>by
  rcases h with h| h
  .cases h
  .show h
 | (n, k)::r,Ι,h=>by
  show vJ r _ ?_;by_cases hy:y=n
  .subst hy;by_cases hk:k= .free
   .subst hk;right;change(List.lookup y (if (NameKind.free==NameKind.free)=true then (y, (env.cells.lookup y).getD 0)::Ι else Ι)).isSome=true;rw[aa1 @_,acx,beq_self_eq_true];rfl
   .rcases h with h| h
    .rcases aba.mp h with z| z
     .show abc (Prod.mk.inj z).2.symm hk
     .show .inl z
    .right;rw[if_neg (by simpa using hk)];show h
  .rcases h with h| h
   .rcases aba.mp h with z| z
    .show abc (Prod.mk.inj z).1 hy
    .show .inl z
   .right;split
    .rw[List.lookup_cons,show(y==n)=false by simpa using hy];show h
    .show h
def Cx.comp(X:Cx)(Nc:List Str)(scope:Scope)(C:Addr)(s:Shared)(H:Hp)(fp:List Addr):Cx:={X with
 N:=Nc
 s₀:=s
 H₀:=H
 env:=compEnvC scope (nE X.env scope.names []) C X.env
 outer:=X.stack
 ex:=fp
 fn:=λ_=>false
 pn:=[]
 xe:=λ_ _=>False}
def Ζ.of{P:List Str}{sc:Scope}(h:(sc.kind, sc.isCoroutine,sc.isGenerator)=(.function, false,false))(h2:N.Nodup/\N.take (-P)=P/\(∀x∈P,sc.names.lookup x=some .local\/sc.names.lookup x=some .cell)/\(∀y∈sc.names,y.2≠ .free):=by decide+kernel):Ζ N P sc:=by let(a,b,c,d):=h2;show(abI (·.1) h,abI (·.2.1) h,abI (·.2.2) h,a,b,c,d)
structure aG(X:Cx)(scope:Scope)(xs ys:List Str)(ae:List Nat):Prop where
 kind:scope.kind= .function
 Ml:∀p∈scope.names,p.2≠ .cell
 names:∀p∈scope.names,p.2= .local->scope.names.lookup p.1=some .local
 own:∀x∈xs,scope.names.lookup x=some .local
 free:∀p∈scope.names,p.2= .free->X.env.scope.names.lookup p.1=some .cell
 nd:(xs++ys).Nodup
 cap:∀q∈ys.zip ae,X.N[q.2]? =!q.1/\X.env.scope.names.lookup q.1=some .cell/\scope.names.lookup q.1=some .free
 len:-ys=-ae
def aG.of(_:Ζ N ps sc)(hN:X.N=N)(hs:X.env.scope=sc)(k:scope.kind= .function)(h:(∀p∈scope.names,p.2≠ .cell)/\(∀p∈scope.names,p.2= .local->scope.names.lookup p.1=some .local)/\(∀x∈xs,scope.names.lookup x=some .local)/\(∀p∈scope.names,p.2= .free->sc.names.lookup p.1=some .cell)/\(xs++ys).Nodup/\(∀q∈ys.zip ae,N[q.2]? =!q.1/\sc.names.lookup q.1=some .cell/\scope.names.lookup q.1=some .free)/\-ys=-ae:=by decide+kernel):aG X scope xs ys ae:=by subst hN hs;let(a,b,c,d,e,f,g):=h;show(k,a,b,c,d,e,f,g)
def Mz{env:Env}{y:Str}:∀{l:List (Str×NameKind)},(∀p∈l,p.2≠ .cell)->
  ((l.map fun (n, k)=>if (k==NameKind.free&&env.scope.kind== .function&&env.kindOf n==some .cell) then (n, NameKind.cell) else (n, k)).lookup y=some .cell\/
   (l.map fun (n, k)=>if (k==NameKind.free&&env.scope.kind== .function&&env.kindOf n==some .cell) then (n, NameKind.cell) else (n, k)).lookup y=some .free)->(y, NameKind.free)∈l
 | [],_,h=>by rcases h with h| h <;> cases h
 | (n, k)::r,hc,h=>by
  let ih:=@Mz env y r (λp hp=>hc p (aah _ hp));rw[aaX]at h;by_cases q:(k==NameKind.free&&env.scope.kind== .function&&env.kindOf n==some .cell)=true
  .let hk:k= .free:=by rw[aaW,aaW]at q;simpa using q.1.1
   subst hk;by_cases hy:y=n
   .subst hy;show aaf
   .show aah _ (ih ?_);let hb:(y==n)=false:=by simpa using hy
    simp only[q,if_true,List.lookup_cons,hb]at h;show h
  .by_cases hy:y=n
   .subst hy;let hb:(y==y)=true:=by simp
    simp only[q,Bool.false_eq_true,if_false,List.lookup_cons,hb]at h;rcases h with h| h
    .show abc (aaI h) (hc (y, k) aaf)
    .rw[<-aaI h];show aaf
   .show aah _ (ih ?_);let hb:(y==n)=false:=by simpa using hy
    simp only[q,Bool.false_eq_true,if_false,List.lookup_cons,hb]at h;show h
def A4{env:Env}{y:Str}(hk:env.scope.kind= .function)(hy:env.kindOf y=some .cell):∀{l:List (Str×NameKind)},l.lookup y=some .free->
  (l.map fun (n, k)=>if (k==NameKind.free&&env.scope.kind== .function&&env.kindOf n==some .cell) then (n, NameKind.cell) else (n, k)).lookup y=some .cell
 | [],h=>by cases h
 | (n, k)::r,h=>by
  let ih:=@A4 env y hk hy r;rw[aaX];rw[acx]at h;by_cases e:y=n
  .subst e;let hb:(y==y)=true:=by simp
   rw[hb]at h;have:k= .free:=aaI h;subst this;let q:(NameKind.free==NameKind.free&&env.scope.kind== .function&&env.kindOf y==some .cell)=true:=by rw[hk,hy];rfl
   simp only[q,if_true,List.lookup_cons,hb]
  .let hb:(y==n)=false:=by simpa using e
   rw[hb]at h;by_cases q:(k==NameKind.free&&env.scope.kind== .function&&env.kindOf n==some .cell)=true
   .simp only[q,if_true,List.lookup_cons,hb];show ih h
   .simp only[q,Bool.false_eq_true,if_false,List.lookup_cons,hb];show ih h
def aG.has(S:aG X scope xs ys ae)(ok:X.Ok):∀p∈scope.names,p.2= .free->(X.env.cells.lookup p.1).isSome=true:=λp hp hf=>by let(c,e):=ok.has p.1 (.inl (S.free p hp hf));rw[e];rfl
def Lk{α β:Type}:∀{xs:List α} {ys:List β} {j:Nat} {x:α} {y:β},xs[j]? =!x->ys[j]? =!y->(x, y)∈xs.zip ys
 | x::xs,y::ys,0,_,_,h1,h2=>by cases h1;cases h2;show aaf
 | x::xs,y::ys,j+1,_,_,h1,h2=>aah _ (Lk (xs:=xs) (ys:=ys) (j:=j) h1 h2)
 | [],_,_,_,_,h1,_=>by simp at h1
 | _::_,[],_,_,_,_,h2=>by simp at h2
def qo(ae:List Nat)(σ:St):St:=ae.map λi=>(σ[i]?).join
def yg(n:Nat)(gg:TG):Prop:=∀v (os cs:St) H (Q:St->Hp->Prop),-os=n->gg v (os++cs) H Q->gg v (os++cs) H λσ' H'=>(∃X9:St,-X9=n/\σ'=X9++cs)/\Q σ' H'
def E_(J:It)(n:Nat)(gg:TG)(tc:TT)(te:TE)(cs:St)(Q:VK)(H1:Hp)(D:Addr):Prop:=
 ∃W:Nat->Nat->List V->Hp->Prop,(∃m,W 0 m [] (upd H1 D (.lst [])))/\∀i m ys H2,W i m ys H2->H2 D=!(.lst ys)/\
  ((J.stop i H2/\Q (.ref D) H2)\/(J.go i H2/\∀x H3,J.Vv i H2 x H3->∀os:St,-os=n->gg x (os++cs) H3 λσ' H3'=>tc σ' H3' λb H4=>match b with
   | true=>te σ' H4 λy H5=>H5 D=!(.lst ys)/\-ys < sizeLine/\∃m',m' < m/\W (i+1) m' (ys++[y]) (upd H5 D (.lst (ys++[y])))
   | false=>∃m',m' < m/\W (i+1) m' ys H4))
def Kr(wi:TI)(n:Nat)(gg:TG)(tc:TT)(te:TE)(ae:List Nat):TE:=λσ H Q=>wi σ H λJ H1=>∀D,H1 D=none->E_ J n gg tc te (qo ae σ) Q H1 D
def YT(cs:List Expr)(env:Env):Sem Bool:=match cs with
 | []=>pure true
 | c::_=>isTrue c env (eval c env)
def Yj(X:Cx)(cs:List Expr)(t:TT):Prop:=
 (cs=[]\/∃c,cs=[c])/\∀(η:List (Addr×Obj)) (s:Shared) (σ:St) (H:Hp) (Q:Bool->Hp->Prop),Inv X η σ H s->t σ H Q->wpAny (model X.prog X.w) X.A (YT cs X.env) (TP X η σ Q) X.xe s
def wL{target iter:Expr}{cs:List Expr}{scope:Scope}{env:Env}(h:cs=[]\/∃c,cs=[c]):
  compTurn (.ListComp elt [(target,iter,cs,0)] scope pos) 0 it Ι env=(standAt iter.pos >>= λ_=>pyNext it >>= λr=>match r with
   | none=>pure (.done .next)
   | some v=>letOwnedTupleGo target it v >>= λ_=>assign target env v >>= λ_=>YT cs env >>= λok=>
    (if ok=true then (eval elt env >>= λx=>call (.builtin "list.append") [Ι,x] >>= λ_=>pure Unit.unit) >>= λ_=>again (.compLoop (.ListComp elt [(target,iter,cs,0)] scope pos) 0 it Ι env)
     else again (.compLoop (.ListComp elt [(target,iter,cs,0)] scope pos) 0 it Ι env))):=by
 rcases h with rfl| ⟨c,rfl⟩ <;> (unfold compTurn YT;dsimp only[List.getElem?_cons_zero,List.getElem?_cons_succ,List.getElem?_nil];simp only[List.forIn_cons,List.forIn_nil,bind_assoc,pure_bind,if_true];rfl)
section
variable{elt iter tg:Expr}{cs:List Expr}{pos:Pos}{wi:TI}{gg:TG}{tc:TT}{te:TE}
def wV(S:aG X scope xs ys ae)(hc:X.calm=true)(hg:∀C s H fp,PG (Cx.comp X (xs++ys) scope C s H fp) tg gg)(hk:yg (-xs) gg)(ht:∀C s H fp,Yj (Cx.comp X (xs++ys) scope C s H fp) cs tc)(he:∀C s H fp,PE (Cx.comp X (xs++ys) scope C s H fp) elt te)
       {fp:List Addr}    {PQ:Value->Addr->Result->Shared->Prop} (I:Inv X η σ H2 s2) (T:Turn X.prog X.w X.K tg J fp it tn) (t0:tn 0 s2.heap) (f2:∀b∈fp,u6 X η H2 b)
  (h:∀D,H2 D=none->E_ J (-xs) gg tc te (qo ae σ) Q H2 D)
  (hPQ:∀D C s' H',Inv X η σ H' s'->Q (.ref D) H'->(∃m,s'.heap.Ns C m)->H' C=none->X.s₀.heap.objs.size<=C->C≠X.env.locals->(∀z c,X.env.cells.lookup z=!c->c≠C)->(∀p∈X.pn++η,p.1≠C)->PQ (.ref D) C (.ok .next) s'):
  wpAny (model X.prog X.w) X.A (newList []) (λΙ s3=>wpAny (model X.prog X.w) X.A (newFunctionEnv scope X.env.globals (nE X.env scope.names []) [] X.env.qual none .none (!X.env)) (λXk s4=>
   codeAny (model X.prog X.w) X.A (.compStart (.ListComp elt [(tg,iter,cs,0)] scope pos) 0 (.ref it) Ι {Xk with scope:=relabel scope X.env}) (PQ Ι Xk.locals) s4) X.xe s3) X.xe s2:=by
 let hD:H2 s2.heap.objs.size=none:=I.fresh;let(W,(m0,w0),step):=h _ hD;show wpAny_newObj_type ?_;let I3:Inv X η σ (upd H2 s2.heap.objs.size (.lst [])) {s2 with heap:=s2.heap.push {cls:=.type "list",data:=.seq ([]:List Value).toArray}}:=Inv.TB (t':=s2.toks) I (ys:=[]) (its:=[]) .nil (ac0 _);generalize X3:upd H2 s2.heap.objs.size (.lst [])=H3 at I3 w0;generalize hs3:({s2 with heap:=s2.heap.push {cls:=.type "list",data:=.seq ([]:List Value).toArray}}:Shared)=s3 at I3;let aaA:∀b∈fp,H3 b=none:=λb hb=>by let(o,e,_):=T.obj _ _ t0 b hb;rw[<-X3,Ρ (abr (aaM e))];show(f2 b hb).1
 let t3:tn 0 s3.heap:=T.keep _ _ _ t0 λb hb o e=>by rw[<-hs3];show aar _ e
 show wpAny_newFunctionEnv S.Ml (λy hy=>nomatch hy) (λh4 ns4 sb4=>?_) S.kind;let hC:H3 s3.heap.objs.size=none:=I3.fresh
 let kp:∀b o,s3.heap.get? b=!o->h4.get? b=!o:=λb o e=>
  (sb4.2 b (abr (aaM e))).trans (aar _ e)
 generalize hs4:({s3 with heap:=h4,toks:=s3.toks+-([]:List (Str×Value))}:Shared)=s4;let e4:s4.heap=h4:=by rw[<-hs4]
 let OJ:∀z c,X.env.cells.lookup z=!c->c≠s3.heap.objs.size:=λz c e q=>by let(v,w):=I3.cell z c e;show aci _ (q▸w.lt)
 let xR:∀z c,(nE X.env scope.names []).lookup z=!c->X.env.cells.lookup z=!c:=λz c e=>xG scope.names [] (S.has I.ok) nofun e;let Lne:s3.heap.objs.size≠X.env.locals:=adH I3.lt;let ok:(Cx.comp X (xs++ys) scope s3.heap.objs.size s3 H3 fp).Ok:=by
  show(I3.ok.mod,S.kind,I3.ok.glob,I3.ok.blt,aas _,λz z' c e1 e2=>I3.ok.inj z z' c (xR z c e1) (xR z' c e2),λz hz=>?_,λz c hz=>(by cases hz),I3.ok.hd,I3.ok.frames,.inl rfl,λb hb=>(?_,λz c e=>?_),I3.bs,?_,λb o e hb=>?_,λb hb hf=>?_,I3.stack,I3.zy)
  .have:=vJ (env:=X.env) scope.names [] (.inl (Mz S.Ml hz));show acz.mp this
  .let(o,e,_):=T.obj _ _ t3 b hb;show abr (aaM e)
  .show(f2 b hb).2.2.2.2.1 z c (xR z c e)
  .show aaR I3.ok.vY I3.sz
  .let(_,_,_,hy,_):=f2 b hb;let e0:=(I3.ok.bs b o e).1;rcases hy with hy| hy
   .show I3.ok.RI b o e hy
   .show abc (aaV (aaM e0) hy) (aci _)
  .let(_,hl,hfs,_):=f2 b hb;show(aba.mp (I3.yF b hf)).elim hl hfs
 let hlen:-((List.replicate (-xs) (none:Option V))++qo ae σ)=-(xs++ys):=by rw[aaj,aaj,abY,S.len];unfold qo;rw[aac]
 let I4:Inv X η σ H3 s4:=by rw[<-hs4];show I3.kept kp
 let Ic:Inv (Cx.comp X (xs++ys) scope s3.heap.objs.size s3 H3 fp) [] ((List.replicate (-xs) (none:Option V))++qo ae σ) H3 s4:=by
  show(ok,by rw[<-hs4];rfl,I4.bare,Un.kept (by rw[e4];show kp),(_,by rw[e4];show ns4,λi z v e1 e2 e3=>?_),λz c e=>I4.cell z c (xR z c e),hC,λz c e=>I4.rH z c (xR z c e),(λp hp=>nomatch hp),I4.aN,hlen);let e1:(xs++ys)[i]? =!z:=e1;by_cases hi:i < -xs
  .rw[aaJ (by rw[abY];show hi),ac6,aa1 hi]at e2;cases e2
  .obtain⟨j,rfl⟩:∃j,i=-xs+j:=(i - -xs,());let e1:ys[j]? =!z:=by rw[aaB (),Nat.add_sub_cancel_left]at e1;show e1
   let e2:(qo ae σ)[j]? =!(!v):=by rw[aaB (by rw[abY];omega),abY,Nat.add_sub_cancel_left]at e2;show e2
   unfold qo at e2;rw[aaw]at e2;cases hi:ae[j]? with
   | none=>rw[hi]at e2;cases e2
   | some i=>
    rw[hi]at e2;let e2:(σ[i]?).join=!v:=aaI e2;let e2:σ[i]? =!(!v):=by
     cases q:σ[i]? with
     | none=>rw[q]at e2;cases e2
     | some o=>rw[q]at e2;show abI some e2
    let(c1,c2,c3):=S.cap (z, i) (Lk e1 hi);let c4:=A4 (env:=X.env) I.ok.kind c2 c3;let c3:(z, NameKind.free)∈scope.names:=PySem.mem_of_lookup c3;let(m,hn,hl):=I4.loc;let(u,r,lk):=hl i z v c1 e2 (.inr (.inl c2));show(u,r,.inr (.inl c4,?_));rcases lk with ⟨k,_⟩| ⟨_,c,CF,z'⟩
    .show abc ((show X.env.scope.names.lookup z=some .local from k).symm.trans c2) @_
    .let(d,hd):=acz.mp (vJ (env:=X.env) scope.names [] (.inl c3));have:=xR z d hd;rw[CF]at this;cases this;show(c,hd,z')
 let loop:codeAny (model X.prog X.w) X.A (.compLoop (.ListComp elt [(tg,iter,cs,0)] scope pos) 0 (.ref it) (.ref s2.heap.objs.size) (compEnvC scope (nE X.env scope.names []) s3.heap.objs.size X.env)) (PQ (.ref s2.heap.objs.size) s3.heap.objs.size) s4:=by
  let fpC:∀{H':Hp},(∀b∈fp,H' b=none)->∀b∈fp,u6 (Cx.comp X (xs++ys) scope s3.heap.objs.size s3 H3 fp) [] H' b:=λhn b hb=>
   (hn b hb,(ok.exf b hb).1,ok.RT b hb,.inl hb,(ok.exf b hb).2,(λp hp=>nomatch hp))
  show codeAny_loop rfl (λn s'=>∃(i:Nat) (zs:List V) (os:St) (H':Hp),-os=-xs/\Inv (Cx.comp X (xs++ys) scope s3.heap.objs.size s3 H3 fp) [] (os++qo ae σ) H' s'/\tn i s'.heap/\(∀b∈fp,H' b=none)/\W i n zs H') (λn s5 z=>?_) m0 (0,[],List.replicate (-xs) none,H3,by rw[abY],Ic,T.keep _ _ _ t3 (λb hb o e=>by rw[e4];show kp b o e),aaA,w0);let(i,zs,os,H5,l5,I5,t5,Yd,w5):=z;change wpAny _ _ ((compTurn _ 0 (.ref it) _ _).onRaise _) _ _ s5;show wpAny_noted ?_;rw[wL (ht s3.heap.objs.size s3 H3 fp).1];show aaq (wpAny_standAt (aaq ?_));obtain⟨zg,stop| go⟩:=step i n zs H5 w5
  .let(stop,q):=stop;show bP (T.done (Cx.comp X (xs++ys) scope s3.heap.objs.size s3 H3 fp) rfl rfl rfl hc i [] s5 _ H5 _ I5 (fpC Yd) t5 stop) λr s6 xz=>?_;let(hr,I6):=xz;subst hr;show abd (hPQ _ _ s6 H5 ?_ q ?_ I6.free ?_ Lne OJ λp hp z=>?_)
   .show I3.XC I6.os I6.base I6.aN I6.bare λb hb=>?_;let(_,g1,_,g3,g4,g5):=f2 b hb;show(g3,g1,g4,g5)
   .let(m,hn,_):=I6.loc;show(m,hn)
   .show I3.sz
   .show abr (aaM (I3.pin p hp).1) z
  .let(go,turn):=go;show bP (T.item (Cx.comp X (xs++ys) scope s3.heap.objs.size s3 H3 fp) rfl rfl rfl hc i [] s5 _ H5 _ I5 (fpC Yd) t5 go) λr s6 xz=>?_;let(u,hr,h6):=xz;subst hr;show aaq (bP h6 λ_ s7 xz=>?_);let(y,H7,I7,r7,y7,t7,fr7):=xz;let I7':=I7.pinned (fpC fr7) (T.obj _ _ t7);show aaq (adb (hg _ _ _ _ _ s7 _ H7 y u _ I7' r7 (hk y os _ H7 _ l5 (turn y _ y7 os l5))) (λ_ s8 z8=>?_) λ_ _ f=>f.elim);let(σ8,H8,I8,(os8,l8,e8),q8):=z8;subst e8;show aaq (adb ((ht _ _ _ _).2 _ s8 _ _ _ I8 q8) (λb s9 z9=>?_) λ_ _ f=>f.elim);let(H9,I9,q9):=z9;cases b with
   | false=>
    let(m9,hm9,w9):=q9;show abd (rfl,m9,hm9,i+1,zs,os8,_,l8,I9.lR,T.keep _ _ _ t7 λb hb o e=>(I9.pin (b, o) (aaP _ (aaP _ (gh hb e)))).1,λb hb=>?_,w9);let(o,e,_):=T.obj _ _ t7 b hb;show(I9.pin (b, o) (aaP _ (aaP _ (gh hb e)))).2.1
   | true=>
    show aaq (aaq (adb (he _ _ _ _ _ s9 _ _ _ I9 q9) (λu10 s10 z10=>?_) λ_ _ f=>f.elim));let(v10,H10,I10,r10,YG,l10,m10,acf,w10):=z10;show aaq (adb (xW (X:=Cx.comp X (xs++ys) scope s3.heap.objs.size s3 H3 fp) _ s10 _ H10 (.ref s2.heap.objs.size) [v10] _ [u10] (λ_ H'=>H'=upd H10 s2.heap.objs.size (.lst (zs++[v10]))) I10 rfl (.cons r10 .nil) (_,zs,v10,rfl,rfl,YG,l10,rfl)) (λ_ s11 z11=>?_) λ_ _ f=>f.elim);let(_,H11,Zh,_,e11):=z11;subst e11;show abd (abd (rfl,m10,acf,i+1,zs++[v10],os8,_,l8,Zh.lR,T.keep _ _ _ t7 λb hb o e=>(Zh.pin (b, o) (aaP _ (aaP _ (gh hb e)))).1,λb hb=>?_,w10));let(o,e,_):=T.obj _ _ t7 b hb;show(Zh.pin (b, o) (aaP _ (aaP _ (gh hb e)))).2.1
 show codeAny_compStart_list loop (T.self X.A 0 _ _ _ (T.keep _ _ _ t3 (λb hb o e=>by rw[e4];show kp b o e)) loop)
def Cw(S:aG X scope xs ys ae)(hc:X.calm=true)(hi:PI X tg iter wi)(hg:∀C s H fp,PG (Cx.comp X (xs++ys) scope C s H fp) tg gg)(hk:yg (-xs) gg)(ht:∀C s H fp,Yj (Cx.comp X (xs++ys) scope C s H fp) cs tc)(he:∀C s H fp,PE (Cx.comp X (xs++ys) scope C s H fp) elt te)(hs:(∀x,foldedSetIterable iter X.env x=pure x)|>3):
  PE X (.ListComp elt [(tg,iter,cs,0)] scope pos) (Kr wi (-xs) gg tc te ae):=by
 intro η s σ H Q I h;rw[eval_ListComp];show wpAny_comprehension_free (use:=none) rfl hs (u7 (S.has I.ok)) S.kind S.names (bP (hi η s σ H _ I h) λv s1 h1=>bP h1 λX7 s2 h2=>?_);let(it,fp,tn,J,H2,rfl,I2,T,t0,f2,q):=h2;show wV S hc hg hk ht he (Q:=Q) I2 T t0 f2 q λD C s' H' I' q' n' hC hz hL Rk hp=>?_;let(m,n'):=n';show(m,n',λh' sb=>(.ref D,H',I'.turned (it:=C) (t':=s'.toks) (λb o hb e=>(sb.2 b hb).trans e) hC hL (.inr hz) Rk hp,rfl,q'))
def B5{i:Nat}{vE:Pos}(hN:X.N.Nodup)(RV:X.N[i]? =!y)(hy:Loc X.env.scope y)(S:aG X scope xs ys ae)(hc:X.calm=true)(hi:PI X tg iter wi)(hg:∀C s H fp,PG (Cx.comp X (xs++ys) scope C s H fp) tg gg)(hk:yg (-xs) gg)(ht:∀C s H fp,Yj (Cx.comp X (xs++ys) scope C s H fp) cs tc)(he:∀C s H fp,PE (Cx.comp X (xs++ys) scope C s H fp) elt te)
  (RF:swapsWith (.ListComp elt [(tg,iter,cs,0)] scope pos) (!(.Name y py)) vE.line X.env=pure true) (hs:∀x,foldedSetIterable iter X.env x=pure x)
  (hf:X.fn y=true\/X.env.scope.names.lookup y=some .local):
  PS X (.Assign [.Name y py] (.ListComp elt [(tg,iter,cs,0)] scope pos) vE) (λD σ H=>Kr wi (-xs) gg tc te ae σ H λv H1=>D.nx (σ.set i (!v)) H1):=by
 intro η s σ H D I h;rw[exec_Assign_Name_used _ _ _ _ RF];show aaq (wpAny_standAt (aaq ?_));change wpAny _ _ (do let  _<-comprehension (.ListComp elt [(tg,iter,cs,0)] scope pos) scope X.env _ (newList []) false (eval iter X.env) (!(assign (.Name y py) X.env))) _ _ s;show aaq (adb (wpAny_comprehension_free (use:=!(assign (.Name y py) X.env)) (Q:=λ_ s'=>SP X η D .next s') rfl hs (u7 (S.has I.ok)) S.kind S.names (bP (hi η s σ H _ I h) λv s1 h1=>bP h1 λX7 s2 h2=>?_)) (λ_ s' hq=>abd (abd hq)) λ_ _ e=>e);let(it,fp,tn,J,H2,rfl,I2,T,t0,f2,q):=h2;show wV S hc hg hk ht he (Q:=λv H1=>D.nx (σ.set i (!v)) H1) I2 T t0 f2 q λDl C s' H' I' q' n' hC hz hL Rk hp=>?_;let(m,n'):=n';change wpAny _ _ (assign (.Name y py) X.env (.ref Dl)) _ _ s';show wpAny_assign_Name (xU I' hN RV hy (v:=.ref Dl) rfl (λs3 I3 sb3=>?_) hf);let(a,sb3,ha):=sb3;let hCa:C≠a:=by
  rcases ha with rfl| ha
  .show hL
  .show(Rk _ _ ha).symm
 show(m,n'.sameBut sb3 hCa,λh' sb=>(_,H',I3.turned (it:=C) (t':=s3.toks) (λb o hb e=>(sb.2 b hb).trans e) hC hL (.inr hz) Rk hp,q'))
end
section
variable{K:fI}
def c_.okX{x:Str}{k:Nat}{sp:Sp}(F:c_ K x qual st f fd)(S:Ζ N ps (υ st))(len:∀vs H Q E,sp vs H Q E->-vs=-ps)
  (tj:∀(bf:Value) (A:Around) (outer:List Env) (s:Shared) (H:Hp) (vs:List V) (Q:VK) (E:XK),bV k (A.deeper (envOfC qual (υ st) s.heap.objs.size f bf))->sp vs H Q E->
   ∃t,JD (wB (b9 P w) P w K mg base N qual (υ st) f bf A outer s H E) (eP st) t/\t {nx:=λ_ H'=>Q .bt H',rt:=Q} (start N vs) H):aq P w K mg base (b9 P w) (k+1) f fd ps sp:=by
 let(oc,od,kV,doc,pm,an,bf,ct,CY,rfl,lk,Gg):=F.ex;show Q6 lk Gg S len λA outer s H vs Q E hr Ra=>tj bf A outer s H vs Q E hr Ra
end
def g_:eB (b9 P w) X (λ_=>E0):=by intro η σ H s e s' _ hx;let(_,_,_,_,_,_,_,_,hE):=hx;show hE.elim
def log2_lt{n:Nat}{k:Nat}(h:n < 2 ^ k)(hk:0 < k):n.log2 < k:=by
 by_cases h0:n=0
 .rw[h0,show Nat.log2 0=0 from rfl];show hk
 .show(Nat.log2_lt h0).mpr h
def fe(i:Int):Prop:=i.natAbs < 2 ^ 8000
def Ie(hi:fe i)(hj:fe j):IntMulOk i j:=by
 let b:∀{i:Int},fe i->Builtin.Int.intBits i<=8000:=λ{i} h=>by
  unfold Builtin.Int.intBits;split
  .show ac0 _
  .have:=log2_lt (k:=8000) h @_;omega
 let b1:=b hi;let b2:=b hj;let h3:Builtin.Int.intTooBig (Builtin.Int.intBits i+Builtin.Int.intBits j)=false:=by
  unfold Builtin.Int.intTooBig;show aa4 ?_;have:(bitsLine:Int)=134217728:=@_
  omega
 unfold IntMulOk;rw[h3,Bool.and_false];show aa7
section
def O6:jW X (binaryOp .Mult) (rI (λi j=>fe i/\fe j) λi j=>.int (i * j)):=Yx λ_ _ _ _ _ _ _ hc q=>mul_int q (Ie hc.1 hc.2)
def Bv:jW X (binaryOp .FloorDiv) (rI (λ_ j=>j≠0/\fe j) λi j=>.int (i.fdiv j)):=Yx λ_ _ _ _ _ _ _ hc q=>
 floordiv_int hc.1 q (.inl (PyProof.noPylong_of_log2 (aaV (log2_lt (k:=8000) hc.2 @_) @_)))
end
def Mv:V->Option Value
 | .ty T=>!(.type T)
 | .ref C=>!(.ref C)
 | _=>none
def Oi{t:Value}(r:az c u)(h:Mv c=!t):u=t:=by
 cases c with
 | ty T=>cases r;show aaI h
 | ref C=>cases r;show aaI h
 | _=>cases h
section
def rQ:eC X (.builtin "isinstance") (λxs H Q=>∃x c t t' b,xs=[x,c]/\l_ X.K H x t/\Mv c=!t'/\PySem.W.kitOne X.K t t'=!b/\Q (.bl b) H):=by intro η s σ H xs us Q I r h;let(x,c,t,t',b,rfl,ty,hc,hk,q):=h;let(u,u',rfl,r1,r2):=Rc r;cases Oi r2 hc;show Hw I r1 ty hk λtk=>(.bl b,H,I.tok tk,rfl,q)
end
def pD:List V->List V->Bool
 | [],[]=>true
 | x::xs,y::ys=>rM x y&&pD xs ys
 | _,_=>false
def oj:∀(xs ys:List V) (e:Nat->Bool),(∀j x y,xs[j]? =!x->ys[j]? =!y->e j=rM x y)->((List.range (min (-xs) (-ys))).all e&&-xs==-ys)=pD xs ys
 | [],[],e,_=>rfl
 | [],_::_,e,_=>by simp[pD]
 | _::_,[],e,_=>by simp[pD]
 | x::xs,y::ys,e,h=>by
  let ih:=oj xs ys (λj=>e (j+1)) λj x y h1 h2=>h (j+1) x y h1 h2;let h0:e 0=rM x y:=h 0 x y rfl rfl;change _=(rM x y&&pD xs ys);rw[<-ih,<-h0];let e1:min (-(x::xs)) (-(y::ys))=min (-xs) (-ys)+1:=by simp only[List.length_cons];omega
  rw[e1,acH,ac7,List.all_map];let e2:(-(x::xs)==-(y::ys))=(-xs==-ys):=by simp only[List.length_cons];rw[Bool.eq_iff_iff];simp
  rw[e2,Bool.and_assoc];rfl
def Vp(K:fI):R2:=λx y H Q=>∃a b xs ys,x= .ref a/\y= .ref b/\nj K H a xs/\nj K H b ys/\xs.all eJ=true/\ys.all eJ=true/\Q (.bl (pD xs ys)) H
def W4(K:fI):R2:=λx y H Q=>∃a b xs ys,x= .ref a/\y= .ref b/\nj K H a xs/\nj K H b ys/\xs.all eJ=true/\ys.all eJ=true/\Q (.bl (! pD xs ys)) H
def oN:∀{xs:List V} {j:Nat} {x:V},xs.all eJ=true->xs[j]? =!x->eJ x=true
 | _::_,0,_,h,e=>by rw[ac7,aaW]at h;cases e;show h.1
 | _::_,j+1,_,h,e=>by rw[ac7,aaW]at h;show oN h.2 e
section
def SS(hu:X.A.units < cLine):jW X (compareOp .NotEq) (W4 X.K):=by
 intro η s σ H x y v u Q I rx ry h;let(a,b,xs,ys,rfl,rfl,h1,h2,f1,f2,q):=h;cases rx;cases ry;let(i1,v1,t1,_):=I.tuple h1;let(i2,v2,t2,_):=I.tuple h2;let l1:=-v1;let l2:=-v2;show SeqAt.RcNeAt.tuples (e:=λj=>match xs[j]?, ys[j]? with| some x,!y=>rM x y| _,_=>true) (show s.heap.IsTuple a i1.toArray from t1) (show s.heap.IsTuple b i2.toArray from t2) hu (λj h1 h2=>?_) _ _ _ _ ?_
 .let b1:j < -i1:=by simpa using h1
  let b2:j < -i2:=by simpa using h2
  let e1:xs[j]? =!(xs[j]'()):=aaa _;let e2:ys[j]? =!(ys[j]'()):=aaa _;let(u1,g1,r1):=v1.get e1;let(u2,g2,r2):=v2.get e2;rw[aaa b1]at g1;rw[aaa b2]at g2;let w1:i1.toArray[j]=u1:=by simpa using Option.some.inj g1
  let w2:i2.toArray[j]=u2:=by simpa using Option.some.inj g2
  rw[w1,w2];simp only[e1,e2];show tN r1 r2 (oN f1 e1) (oN f2 e2)
 .rw[List.size_toArray,List.size_toArray,<-l1,<-l2,oj xs ys _ (λj x y h1 h2=>by simp only[h1,h2])];show(.bl (! pD xs ys),H,I,rfl,q)
def MX(hu:X.A.units < cLine):jW X (compareOp .Eq) (Vp X.K):=by
 intro η s σ H x y v u Q I rx ry h;let(a,b,xs,ys,rfl,rfl,h1,h2,f1,f2,q):=h;cases rx;cases ry;let(i1,v1,t1,_):=I.tuple h1;let(i2,v2,t2,_):=I.tuple h2;let l1:=-v1;let l2:=-v2;show SeqAt.eq_tupleAt (e:=λj=>match xs[j]?, ys[j]? with| some x,!y=>rM x y| _,_=>true) (show s.heap.IsTuple a i1.toArray from t1) (show s.heap.IsTuple b i2.toArray from t2) hu (λj h1 h2=>?_) ?_
 .let b1:j < -i1:=by simpa using h1
  let b2:j < -i2:=by simpa using h2
  let e1:xs[j]? =!(xs[j]'()):=aaa _;let e2:ys[j]? =!(ys[j]'()):=aaa _;let(u1,g1,r1):=v1.get e1;let(u2,g2,r2):=v2.get e2;rw[aaa b1]at g1;rw[aaa b2]at g2;let w1:i1.toArray[j]=u1:=by simpa using Option.some.inj g1
  let w2:i2.toArray[j]=u2:=by simpa using Option.some.inj g2
  rw[w1,w2];simp only[e1,e2];show tN r1 r2 (oN f1 e1) (oN f2 e2)
 .rw[List.size_toArray,List.size_toArray,<-l1,<-l2,oj xs ys _ (λj x y h1 h2=>by simp only[h1,h2])];show(.bl (pD xs ys),H,I,rfl,q)
end
def Jw(bs:List Bool):(List.range (-bs)).any (λi=>bs.getD i false)=bs.any id:=by
 induction bs with
 | nil=>rfl
 | cons b bs ih=>
  rw[aaQ,acH,ac8,List.any_map,ac8,<-ih];rfl
def Au:∀{bs:List Bool} {us:List Value},aD (bs.map V.bl) us->us=bs.map Value.bool
 | [],_,r=>by cases r;rfl
 | b::bs,_,r=>by
  cases r with
  | cons h t=>
   cases h;rw[Au t];rfl
def AG{bs:List Bool}:TruthOf prog w A (λi v=>(bs.map Value.bool).toArray[i]? =!v) (λi=>bs.getD i false):=by
 intro i v s Q E h q;let h':(bs.map Value.bool)[i]? =!v:=by simpa using h
 rw[aaw]at h';cases e:bs[i]? with
 | none=>rw[e]at h';cases h'
 | some b=>
  rw[e]at h';cases h';let q':Q b s:=by
   let eb:bs.getD i false=b:=by rw[aab,e];rfl
   show eb▸q
  show wpAny_truthy_bool q'
def WN(K:fI):List V->Hp->VK->Prop:=λxs H Q=>∃(p:Addr) (bs:List Bool),xs=[.ref p]/\gY K H p (bs.map V.bl)/\Q (.bl (bs.any id)) H
section
def MH (hc : X.calm = true) : eC X (.builtin "any") (WN X.K) :=by
  intro η s σ H xs us Q I r h;obtain⟨p,bs,rfl,hq,q⟩ :=h;obtain⟨u,rfl,r1⟩ :=k_ r;cases r1;obtain⟨its,rv,pl,hz⟩ :=I.list hq;let Rx :=Au rv;subst Rx;show call_any_walk (wpAny_pyIter_list pl.isList ?_);let lp : p < s.heap.objs.size :=by obtain⟨o,e,_⟩ :=pl.isList;show aaM e
  show(s.heap.objs.size,_,_,_,_,_,λi =>bs.getD i false,rfl,Walks.list (show X.A.in1.handled = none from I.ok.hd hc) s.heap.objs.size p (abr lp) (bs.map Value.bool).toArray,((_,abn _ rfl,rfl,rfl),pl.isList.at λo e =>aar _ e),AG,λh' tk hk =>?_);show(.bl (bs.any id),H,I.kept λb o e =>hk b o (λz =>by have : b = s.heap.objs.size :=(by simpa using z);show Nat.lt_irrefl _ (this ▸ Heap.lt_size e)) (Heap.get?_push_of_some _ e),?_,q);rw[aaY,aac,Jw];rfl
end
end L2
namespace PySem
open Sem (wp)
end PySem
namespace PySem.W
open PySem PySem.Builtin PySem.Builtin.ObjectAttr
end PySem.W
namespace PySem
open Sem (wp)
end PySem
namespace L2
open PySem PySem.Spec PyProof.Rows
def xO(a C:Addr)(od:Option Addr):HO:=.ext λh=>∃ob vs,h.get? a=!ob/\ob.cls= .ref C/\ob.dict=od/\ob.data= .fields vs
set_option genInjectivity true in
inductive Dt where
 | bt
 | bl (b:Bool)
 | int (i:Int)
 | str (x:Str)
 | tup (xs:List Dt)
 | lst (xs:List Dt)
 | obj (C:Addr) (ns:List Str) (xs:List Dt)
 | loc (k:Nat)
 | ref (a:Addr)
 | ty (n:String)
 | jC (ns:List Int)
 | kt (xs:List Dt)
 | exc (C:Addr) (ns:List Str) (xs:List Dt)
 | UJ (x C:Addr) (od:Option Addr) (ns:List Str) (xs:List Dt)
inductive MO where
 | lst (xs:List Dt)
 | ins (C:Addr) (ns:List Str) (xs:List Dt)
 | cZ (ks:List Key) (xs:List Dt)
 | raw (u:Addr->HO)
abbrev Ms:=List MO
abbrev En:=List (Option Dt)
mutual
def Den(K:fI)(G:Hp)(L:List Addr):Dt->V->Prop
 | .bt,v=>v= .bt
 | .bl b,v=>v= .bl b
 | .int i,v=>v= .int i
 | .str x,v=>v= .str x
 | .tup ds,v=>∃a vs,v= .ref a/\G a=!(.tup vs)/\Υ K G L ds vs
 | .lst ds,v=>∃a vs,v= .ref a/\G a=!(.lst vs)/\Υ K G L ds vs
 | .obj C ns ds,v=>∃a dx vs,v= .ref a/\G a=!(.ins C dx (ns.zip vs))/\-ns=-ds/\Υ K G L ds vs
 | .loc k,v=>∃a,v= .ref a/\L[k]? =!a
 | .ref a,v=>v= .ref a
 | .ty n,v=>v= .ty n
 | .jC ns,v=>∃a,v= .ref a/\gY K G a (ns.map V.int)
 | .kt ds,v=>∃a vs,v= .ref a/\nj K G a vs/\Υ K G L ds vs
 | .exc C ns ds,v=>∃a od vs,v= .ref a/\G a=!(xO a C od)/\((ns=[]/\od=none)\/∃dx,od=!dx/\G dx=!(.xd (ns.zip vs)))/\-ns=-ds/\Υ K G L ds vs
 | .UJ x _ od ns ds,v=>∃vs,v= .ref x/\((ns=[]/\od=none)\/∃dx,od=!dx/\G dx=!(.xd (ns.zip vs)))/\-ns=-ds/\Υ K G L ds vs
def Υ(K:fI)(G:Hp)(L:List Addr):List Dt->List V->Prop
 | [],vs=>vs=[]
 | d::ds,vs=>∃v r,vs=v::r/\Den K G L d v/\Υ K G L ds r
end
def Pre(L L':List Addr):Prop:=∃t,L'=L++t
def Pre.refl(L:List Addr):Pre L L:=([],by simp)
def Pre.trans(h:Pre a b)(h':Pre b c):Pre a c:=by let(t,rfl):=h;let(u,rfl):=h';show(t++u,by simp)
def Pre.get(h:Pre a b){k:Nat}{x:Addr}(e:a[k]? =!x):b[k]? =!x:=by let(t,rfl):=h;let hk:k < -a:=(aae.mp e).1;rw[aaJ hk];show e
def e_.rd{H:Hp}(e:e_ H H')(h:Rd H a u):Rd H' a u:=by
 rcases h with h| ⟨o,h⟩
 .show .inl (e _ _ h)
 .show .inr (o,e _ _ h)
def e_.WA{K:fI}{H:Hp}(e:e_ H H')(h:nj K H a xs):nj K H' a xs:=by
 rcases h with h| h
 .show .inl (e.rd h)
 .show .inr h
section
variable{K:fI}{G G':Hp}{L L':List Addr}
mutual
def Den.mono(g:e_ G G')(l:Pre L L'):∀(d:Dt) (v:V),Den K G L d v->Den K G' L' d v
 | .bt,_,h=>h
 | .bl _,_,h=>h
 | .int _,_,h=>h
 | .str _,_,h=>h
 | .tup ds,_,(a,vs,e,h1,h2)=>(a,vs,e,g _ _ h1,Υ.mono g l ds vs h2)
 | .lst ds,_,(a,vs,e,h1,h2)=>(a,vs,e,g _ _ h1,Υ.mono g l ds vs h2)
 | .obj C ns ds,_,(a,dx,vs,e,h1,hn,h2)=>(a,dx,vs,e,g _ _ h1,hn,Υ.mono g l ds vs h2)
 | .loc k,_,(a,e,h1)=>(a,e,l.get h1)
 | .ref _,_,h=>h
 | .ty _,_,h=>h
 | .jC _,_,(a,e,h1)=>(a,e,g.seq h1)
 | .kt ds,_,(a,vs,e,h1,h2)=>(a,vs,e,g.WA h1,Υ.mono g l ds vs h2)
 | .exc _ _ ds,_,(a,od,vs,e,h1,h2,h3,h4)=>(a,od,vs,e,g _ _ h1,h2.imp (λz=>z) (λ(dx,z1,z2)=>(dx,z1,g _ _ z2)),h3,Υ.mono g l ds vs h4)
 | .UJ _ _ _ _ ds,_,(vs,e,h2,h3,h4)=>(vs,e,h2.imp (λz=>z) (λ(dx,z1,z2)=>(dx,z1,g _ _ z2)),h3,Υ.mono g l ds vs h4)
def Υ.mono(g:e_ G G')(l:Pre L L'):∀(ds:List Dt) (vs:List V),Υ K G L ds vs->Υ K G' L' ds vs
 | [],_,h=>h
 | d::ds,_,(v,r,e,h1,h2)=>(v,r,e,Den.mono g l d v h1,Υ.mono g l ds r h2)
end
def Υ.pair:∀{ds:List Dt} {vs:List V},Υ K G L ds vs->Paired (Den K G L) ds vs
 | [],_,h=>by let h:_=_:=h;subst h;show .nil
 | d::ds,_,(v,r,e,h1,h2)=>by subst e;show .cons h1 (Υ.pair h2)
def Υ.of:∀{ds:List Dt} {vs:List V},Paired (Den K G L) ds vs->Υ K G L ds vs
 | _,_,.nil=>rfl
 | _,_,.cons h t=>(_,_,rfl,h,Υ.of t)
end
section
variable{α β:Type}{F:α->β->Prop}
def FU:∀{xs:List α} {us:List β} {i:Nat} {x:α},Paired F xs us->xs[i]? =!x->∃u,us[i]? =!u/\F x u
 | _,_,_,_,.nil,e=>by simp at e
 | _,_,0,_,.cons r _,e=>by simp at e;subst e;show(_,rfl,r)
 | _,_,i+1,x,.cons _ t,e=>by let(u,h1,h2):=FU (i:=i) (x:=x) t (by simpa using e);show(u,by simpa using h1,h2)
def Fj(r:F x u):∀{xs:List α} {us:List β} (i:Nat),Paired F xs us->Paired F (xs.set i x) (us.set i u)
 | _,_,_,.nil=>.nil
 | _,_,0,.cons _ t=>.cons r t
 | _,_,i+1,.cons q t=>.cons q (Fj r i t)
def yM:∀{xs ys:List α} {us ws:List β},Paired F xs us->Paired F ys ws->Paired F (xs++ys) (us++ws)
 | _,_,_,_,.nil,s=>s
 | _,_,_,_,.cons r t,s=>.cons r (yM t s)
def tX:∀{xs:List α} {us:List β} (n:Nat),Paired F xs us->Paired F (xs.take n) (us.take n)
 | _,_,0,_=>.nil
 | _,_,_+1,.nil=>.nil
 | _,_,n+1,.cons r t=>.cons r (tX n t)
def uT:∀{xs:List α} {us:List β} (n:Nat),Paired F xs us->Paired F (xs.drop n) (us.drop n)
 | _,_,0,r=>r
 | _,_,_+1,.nil=>.nil
 | _,_,n+1,.cons _ t=>uT n t
def zW(h:Paired F xs us):∀k:Nat,Paired F (List.replicate k xs).flatten (List.replicate k us).flatten
 | 0=>.nil
 | k+1=>by rw[acr,acr,acK,acK];show yM h (zW h k)
end
section
variable{K:fI}{G:Hp}{L:List Addr}
def Υ.length(h:Υ K G L ds vs):-ds=-vs:=Paired.length h.pair
def Υ.get{i:Nat}(h:Υ K G L ds vs)(e:ds[i]? =!d):∃v,vs[i]? =!v/\Den K G L d v:=FU h.pair e
def Υ.app(h:Υ K G L ds vs)(h':Υ K G L es us):Υ K G L (ds++es) (vs++us):=.of (yM h.pair h'.pair)
def jX:∀{ns:List Int},Υ K G L (ns.map Dt.int) (ns.map V.int)
 | []=>rfl
 | n::ns=>(_,_,rfl,rfl,jX)
def bD{d:Dt}(h:Υ K G L [d] vs):∃v,vs=[v]/\Den K G L d v:=by let(v,r,rfl,h1,h2):=h;let h2:r=[]:=h2;subst h2;show(v,rfl,h1)
def d7{d e:Dt}(h:Υ K G L [d,e] vs):∃v u,vs=[v,u]/\Den K G L d v/\Den K G L e u:=by let(v,r,rfl,h1,h2):=h;let(u,rfl,h3):=bD h2;show(v,u,rfl,h1,h3)
end
def JL(K:fI)(G:Hp)(L:List Addr)(H:Hp)(a:Addr):MO->Prop
 | .lst ds=>∃vs,H a=!(.lst vs)/\Υ K G L ds vs
 | .ins C ns ds=>∃dx vs,H a=!(.ins C dx (ns.zip vs))/\-ns=-ds/\Υ K G L ds vs
 | .cZ ks ds=>∃vs,H a=!(.dK (ks.zip vs))/\-ks=-ds/\Υ K G L ds vs
 | .raw u=>H a=!(u a)
structure Rl(K:fI)(G:Hp)(L:List Addr)(M:Ms)(H:Hp):Prop where
 sub:e_ G H
 len:-L=-M
 nd:L.Nodup
 fv:∀(k:Nat) (a:Addr) (m:MO),L[k]? =!a->M[k]? =!m->G a=none/\JL K G L H a m
structure Ex(G:Hp)(L:List Addr)(H:Hp)(G':Hp)(L':List Addr)(H':Hp):Prop where
 g:e_ G G'
 l:Pre L L'
 fr:∀b,G b=none->H b≠none->G' b=none
 out:∀b o,H b=!o->b∉L->H' b=!o
 new:∀b∈L',b∈L\/H b=none
 FD:∀b,H b≠none->H' b≠none
def Ex.refl(G:Hp)(L:List Addr)(H:Hp):Ex G L H G L H:=(.refl _,.refl _,λ_ h _=>h,λ_ _ h _=>h,λ_ h=>.inl h,λ_ h=>h)
def Ex.trans{H:Hp}(a:Ex G L H G1 L1 H1)(b:Ex G1 L1 H1 G2 L2 H2):Ex G L H G2 L2 H2 where
 g:=a.g.trans b.g
 l:=a.l.trans b.l
 fr:=λx h1 h2=>b.fr x (a.fr x h1 h2) (a.FD x h2)
 out:=λx o h1 h2=>b.out x o (a.out x o h1 h2) λz=>(a.new x z).elim h2 λq=>by rw[h1]at q;cases q
 new:=λx h=>by
  rcases b.new x h with z| z
  .show a.new x z
  .right;cases q:H x with
   | none=>rfl
   | some o=>show absurd z (a.FD x (by rw[q];simp))
 FD:=λx h=>b.FD x (a.FD x h)
def JL.there{K:fI}{H:Hp}(h:JL K G L H a m):H a≠none:=by
 cases m with
 | lst ds=>let(vs,e,_):=h;rw[e];simp
 | ins C ns ds=>let(dx,vs,e,_):=h;rw[e];simp
 | cZ ks ds=>let(vs,e,_):=h;rw[e];simp
 | raw u=>let h:H a=!(u a):=h;rw[h];simp
def JL.mono{K:fI}{H H':Hp}(g:e_ G G')(l:Pre L L')(e:H' a=H a)(h:JL K G L H a m):JL K G' L' H' a m:=by
 cases m with
 | lst ds=>let(vs,e1,h):=h;show(vs,e.trans e1,Υ.mono g l _ _ h)
 | ins C ns ds=>let(dx,vs,e1,h0,h):=h;show(dx,vs,e.trans e1,h0,Υ.mono g l _ _ h)
 | cZ ks ds=>let(vs,e1,h0,h):=h;show(vs,e.trans e1,h0,Υ.mono g l _ _ h)
 | raw u=>show e.trans h
section
variable{K:fI}{G:Hp}{L:List Addr}{M:Ms}{H:Hp}{p:Addr}{o:HO}
def Rl.za(r:Rl K G L M H){a:Addr}(h:a∈L):∃(k:Nat) (m:MO),L[k]? =!a/\M[k]? =!m/\G a=none/\JL K G L H a m:=by
 let(k,hk,e):=acd h;let e1:L[k]? =!a:=by rw[aaa hk,e]
 let e2:M[k]? =!(M[k]'(by rw[<-r.len];show hk)):=aaa _;show(k,_,e1,e2,r.fv k a _ e1 e2)
def Rl.RG(r:Rl K G L M H)(hp:H p=none):p∉L:=λz=>by let(k,m,_,_,_,h):=r.za z;show h.there hp
def Rl.N6(r:Rl K G L M H)(hp:H p=none):Rl K (upd G p o) L M (upd H p o) where
 sub:=λb u e=>by
  by_cases hb:b=p
  .subst hb;rw[au]at e⊢;show e
  .rw[Ρ hb]at e⊢;show r.sub b u e
 len:=r.len
 nd:=r.nd
 fv:=λk a m h1 h2=>by let(q1,q2):=r.fv k a m h1 h2;let hb:a≠p:=λz=>q2.there (by rw[z];show hp);show(by rw[Ρ hb];show q1,q2.mono (λb u e=>by rw[Ρ (λz=>by rw[z,r.sub.free hp]at e;cases e)];show e) (.refl _) (Ρ hb))
def Rl.UO(r:Rl K G L M H)(hp:H p=none):Ex G L H (upd G p o) L (upd H p o) where
 g:=λb u e=>by rw[Ρ (λz=>by rw[z,r.sub.free hp]at e;cases e)];show e
 l:=.refl _
 fr:=λb h1 h2=>by rw[Ρ (λz=>h2 (by rw[z];show hp))];show h1
 out:=λb u h1 _=>by rw[Ρ (λz=>by rw[z,hp]at h1;cases h1)];show h1
 new:=λb h=>.inl h
 FD:=λb h=>by rw[Ρ (λz=>h (by rw[z];show hp))];show h
def Rl.OL(r:Rl K G L M H)(hp:H p=none)(hm:JL K G (L++[p]) (upd H p o) p m):Rl K G (L++[p]) (M++[m]) (upd H p o) where
 sub:=λb u e=>by rw[Ρ (λz=>by rw[z,r.sub.free hp]at e;cases e)];show r.sub b u e
 len:=by rw[aaj,aaj,r.len];rfl
 nd:=List.nodup_append.mpr (r.nd,by simp,λa ha b hb=>by
  let e:b=p:=by simpa using hb
  rw[e];exactλz=>r.RG hp (z▸ha))
 fv:=λk a m' h1 h2=>by
  by_cases hk:k < -L
  .rw[aaJ hk]at h1;rw[aaJ (by rw[<-r.len];show hk)]at h2;let(q1,q2):=r.fv k a m' h1 h2;show(q1,q2.mono (.refl _) ([p],rfl) (Ρ λz=>q2.there (by rw[z];show hp)))
  .let e:k=-L:=by have:=(aae.mp h1).1;rw[aaj]at this;simp at this;omega
   rw[e,aaB (aas _)]at h1;rw[e,r.len,aaB (aas _)]at h2;simp at h1 h2;subst h1 h2;show(r.sub.free hp,hm)
def Rl.X2(r:Rl K G L M H)(hp:H p=none):Ex G L H G (L++[p]) (upd H p o) where
 g:=.refl _
 l:=([p],rfl)
 fr:=λb h1 _=>h1
 out:=λb u h1 _=>by rw[Ρ (λz=>by rw[z,hp]at h1;cases h1)];show h1
 new:=λb h=>by
  rcases abt.mp h with z| z
  .show .inl z
  .let e:b=p:=by simpa using z
   right;rw[e];show hp
 FD:=λb h=>by rw[Ρ (λz=>h (by rw[z];show hp))];show h
def Rl.setM{k:Nat}(r:Rl K G L M H)(hk:L[k]? =!a)(hm:JL K G L (upd H a o) a m):Rl K G L (M.set k m) (upd H a o) where
 sub:=λb u e=>by let(k',m',e1,e2,q1,_):=r.za (aao hk);rw[Ρ (λz=>by rw[z,q1]at e;cases e)];show r.sub b u e
 len:=by rw[acj];show r.len
 nd:=r.nd
 fv:=λk' a' m' h1 h2=>by
  by_cases e:k'=k
  .subst e;rw[hk]at h1;cases h1;let hl:k' < -M:=by rw[<-r.len];show(aae.mp hk).1
   rw[abH hl]at h2;cases h2;let(_,_,_,_,q1,_):=r.za (aao hk);show(q1,hm)
  .rw[abL (λz=>e z.symm)]at h2;let(q1,q2):=r.fv k' a' m' h1 h2;let ne:a'≠a:=λz=>by subst z;show e ((List.getElem?_inj (aae.mp h1).1 r.nd).mp (h1.trans hk.symm))
   show(q1,q2.mono (.refl _) (.refl _) (Ρ ne))
def Rl.Hz{k:Nat}(r:Rl K G L M H)(hk:L[k]? =!a):Ex G L H G L (upd H a o) where
 g:=.refl _
 l:=.refl _
 fr:=λb h1 _=>h1
 out:=λb u h1 h2=>by rw[Ρ (λz=>h2 (by rw[z];show aao hk))];show h1
 new:=λb h=>.inl h
 FD:=λb h=>by
  by_cases e:b=a
  .rw[e,au];simp
  .rw[Ρ e];show h
end
structure mT(K:fI)(G:Hp)(L:List Addr)(ρ:En)(σ:St):Prop where
 len:-ρ=-σ
 fv:∀(i:Nat) (d:Dt),ρ[i]? =!(!d)->∃v,σ[i]? =!(!v)/\Den K G L d v
section
variable{K:fI}{G G':Hp}{L L':List Addr}{H H':Hp}{ρ:En}{σ:St}
def mT.mono(h:mT K G L ρ σ)(e:Ex G L H G' L' H'):mT K G' L' ρ σ:=(h.len,λi d q=>let (v,a,b):=h.fv i d q;(v,a,Den.mono e.g e.l d v b))
def mT.set(h:mT K G L ρ σ)(i:Nat)(q:Den K G L d v):mT K G L (ρ.set i (!d)) (σ.set i (!v)):=by
 show(by rw[acj,acj];show h.len,λj d' e=>?_);by_cases hj:i=j
 .subst hj;let hl:i < -ρ:=by have:=(aae.mp e).1;rwa[acj]at this
  rw[abH hl]at e;cases e;show(v,abH (by rw[<-h.len];show hl),q)
 .rw[abL hj]at e;let(u,a,b):=h.fv j d' e;show(u,by rw[abL hj];show a,b)
end
abbrev DQ:=Dt->Ms->Prop
abbrev DX:=En->Addr->List (Str×Dt)->Ms->Prop
def VA(K:fI)(G:Hp)(L:List Addr)(H:Hp)(fs:List (Str×Dt))(od:Option Addr):Prop:=
 (fs=[]/\od=none)\/fs≠[]/\∃dx vs,od=!dx/\G dx=!(.xd ((fs.map (·.1)).zip vs))/\Υ K G L (fs.map (·.2)) vs
def wg(K:fI)(G:Hp)(L:List Addr)(H:Hp)(R:St->XK)(x:DX):Prop:=
 ∀σ ρ C fs M' G' L' H' od,x ρ C fs M'->Ex G L H G' L' H'->Rl K G' L' M' H'->mT K G' L' ρ σ->VA K G' L' H' fs od->R σ (.ref C) od H'
def wg.on{K:fI}{H:Hp}(h:wg K G L H R x)(e:Ex G L H G1 L1 H1):wg K G1 L1 H1 R x:=
 λσ ρ C fs M' G' L' H' od q e' r n y=>h σ ρ C fs M' G' L' H' od q (e.trans e') r n y
def nc:DX:=λ_ _ _ _=>False
def Md{K:fI}{H:Hp}:wg K G L H R nc:=λ_ _ _ _ _ _ _ _ _ q=>q.elim
abbrev DE:=En->Ms->DQ->DX->Prop
abbrev DT:=En->Ms->(Bool->Ms->Prop)->DX->Prop
abbrev DA:=En->Ms->(List Dt->Ms->Prop)->DX->Prop
structure eG where
 nx:En->Ms->Prop
 rt:DQ
 bk:En->Ms->Prop:=λ_ _=>False
 ct:En->Ms->Prop:=λ_ _=>False
 x:DX:=nc
abbrev DS:=eG->En->Ms->Prop
inductive Fin(K:fI)(G0:Hp)(L0:List Addr)(H0:Hp)(q:DQ)(v:V)(H:Hp):Prop
 | mk (d:Dt) (G:Hp) (L:List Addr) (M:Ms) (e:Ex G0 L0 H0 G L H) (r:Rl K G L M H) (n:Den K G L d v) (h:q d M)
inductive wc(K:fI)(G0:Hp)(L0:List Addr)(H0:Hp)(q:Bool->Ms->Prop)(b:Bool)(H:Hp):Prop
 | mk (G:Hp) (L:List Addr) (M:Ms) (e:Ex G0 L0 H0 G L H) (r:Rl K G L M H) (h:q b M)
inductive P_(K:fI)(G0:Hp)(L0:List Addr)(H0:Hp)(q:List Dt->Ms->Prop)(vs:List V)(H:Hp):Prop
 | mk (ds:List Dt) (G:Hp) (L:List Addr) (M:Ms) (e:Ex G0 L0 H0 G L H) (r:Rl K G L M H) (n:Υ K G L ds vs) (h:q ds M)
inductive fM(K:fI)(G0:Hp)(L0:List Addr)(H0:Hp)(q:En->Ms->Prop)(σ:St)(H:Hp):Prop
 | mk (ρ:En) (G:Hp) (L:List Addr) (M:Ms) (e:Ex G0 L0 H0 G L H) (r:Rl K G L M H) (n:mT K G L ρ σ) (h:q ρ M)
def v8(K:fI)(G0:Hp)(L0:List Addr)(H0:Hp)(Dn:eG):AA:=(fM K G0 L0 H0 Dn.nx,Fin K G0 L0 H0 Dn.rt,fM K G0 L0 H0 Dn.bk,fM K G0 L0 H0 Dn.ct)
inductive zZ(K:fI)(R:St->XK)(t:DE)(σ:St)(H:Hp)(Q:VK):Prop
 | mk (G:Hp) (L:List Addr) (ρ:En) (M:Ms) (q:DQ) (x:DX) (r:Rl K G L M H) (n:mT K G L ρ σ) (h:t ρ M q x) (hx:wg K G L H R x) (hQ:∀v H1,Fin K G L H q v H1->Q v H1)
inductive Dd(K:fI)(R:St->XK)(t:DT)(σ:St)(H:Hp)(Q:Bool->Hp->Prop):Prop
 | mk (G:Hp) (L:List Addr) (ρ:En) (M:Ms) (q:Bool->Ms->Prop) (x:DX) (r:Rl K G L M H) (n:mT K G L ρ σ) (h:t ρ M q x) (hx:wg K G L H R x) (hQ:∀b H1,wc K G L H q b H1->Q b H1)
inductive WR(K:fI)(R:St->XK)(t:DA)(σ:St)(H:Hp)(Q:List V->Hp->Prop):Prop
 | mk (G:Hp) (L:List Addr) (ρ:En) (M:Ms) (q:List Dt->Ms->Prop) (x:DX) (r:Rl K G L M H) (n:mT K G L ρ σ) (h:t ρ M q x) (hx:wg K G L H R x) (hQ:∀vs H1,P_ K G L H q vs H1->Q vs H1)
structure RQ(A B:AA):Prop where
 nx:∀σ H,A.nx σ H->B.nx σ H
 rt:∀v H,A.rt v H->B.rt v H
 bk:∀σ H,A.bk σ H->B.bk σ H
 ct:∀σ H,A.ct σ H->B.ct σ H
inductive Vn(K:fI)(R:St->XK)(t:DS)(De:AA)(σ:St)(H:Hp):Prop
 | mk (G:Hp) (L:List Addr) (ρ:En) (M:Ms) (Dn:eG) (r:Rl K G L M H) (n:mT K G L ρ σ) (h:t Dn ρ M) (hx:wg K G L H R Dn.x) (hQ:RQ (v8 K G L H Dn) De)
def JE(X:Cx)(R:St->XK)(e:Expr)(t:DE):Prop:=PE X e (zZ X.K R t)
def JT(X:Cx)(R:St->XK)(e:Expr)(t:DT):Prop:=PT X e (Dd X.K R t)
def JW(X:Cx)(R:St->XK)(e:Expr)(t:DT):Prop:=PW X e (Dd X.K R t)
def JA(X:Cx)(R:St->XK)(es:List Expr)(t:DA):Prop:=PA X es (WR X.K R t)
def JS(X:Cx)(R:St->XK)(st:Stmt)(t:DS):Prop:=PS X st (Vn X.K R t)
def Fh(X:Cx)(R:St->XK)(st:List Stmt)(t:DS):Prop:=JD X st (Vn X.K R t)
section
variable{K:fI}{G0:Hp}{L0:List Addr}{H0 G1:Hp}{L1:List Addr}{H1:Hp}
def Fin.back{q:DQ}(e:Ex G0 L0 H0 G1 L1 H1){H:Hp}(h:Fin K G1 L1 H1 q v H):Fin K G0 L0 H0 q v H:=let (d,G,L,M,a,b,c,f):=h;(d,G,L,M,e.trans a,b,c,f)
def fM.back{q:En->Ms->Prop}(e:Ex G0 L0 H0 G1 L1 H1){H:Hp}(h:fM K G1 L1 H1 q v H):fM K G0 L0 H0 q v H:=let (d,G,L,M,a,b,c,f):=h;(d,G,L,M,e.trans a,b,c,f)
def wc.back{q:Bool->Ms->Prop}(e:Ex G0 L0 H0 G1 L1 H1){H:Hp}(h:wc K G1 L1 H1 q v H):wc K G0 L0 H0 q v H:=let (G,L,M,a,b,f):=h;(G,L,M,e.trans a,b,f)
def v8.back(e:Ex G0 L0 H0 G1 L1 H1):RQ (v8 K G1 L1 H1 Dn) (v8 K G0 L0 H0 Dn):=(λ_ _ h=>fM.back e h,λ_ _ h=>Fin.back e h,λ_ _ h=>fM.back e h,λ_ _ h=>fM.back e h)
def SP.imp(e:RQ A B)(h:SP X η A f s):SP X η B f s:=by
 cases f with
 | next=>let(a,b,I,q):=h;show(a,b,I,e.nx _ _ q)
 | brk=>let(a,b,I,q):=h;show(a,b,I,e.bk _ _ q)
 | cont=>let(a,b,I,q):=h;show(a,b,I,e.ct _ _ q)
 | ret u=>let(v,a,b,I,r,q):=h;show(v,a,b,I,r,e.rt _ _ q)
end
section
variable{X:Cx}{R:St->XK}{e:Expr}
def JE.of{t:DE}(h:PE X e te)(hw:∀σ H G L ρ M q x,Rl X.K G L M H->mT X.K G L ρ σ->t ρ M q x->wg X.K G L H R x->te σ H (Fin X.K G L H q)):JE X R e t:=by intro η s σ H Q I ⟨G,L,ρ,M,q,x,r,n,ht,hx,hQ⟩;show bP (h η s σ H _ I (hw σ H G L ρ M q x r n ht hx)) λu s1 (v,H1,I1,rv,f)=>(v,H1,I1,rv,hQ v H1 f)
def JT.of{t:DT}(h:PT X e te)(hw:∀σ H G L ρ M q x,Rl X.K G L M H->mT X.K G L ρ σ->t ρ M q x->wg X.K G L H R x->te σ H (wc X.K G L H q)):JT X R e t:=by intro η s σ H Q I ⟨G,L,ρ,M,q,x,r,n,ht,hx,hQ⟩;show bP (h η s σ H _ I (hw σ H G L ρ M q x r n ht hx)) λu s1 (H1,I1,f)=>(H1,I1,hQ u H1 f)
def JW.of{t:DT}(h:PW X e te)(hw:∀σ H G L ρ M q x,Rl X.K G L M H->mT X.K G L ρ σ->t ρ M q x->wg X.K G L H R x->te σ H (wc X.K G L H q)):JW X R e t:=by intro wh η s σ H Q I ⟨G,L,ρ,M,q,x,r,n,ht,hx,hQ⟩;show bP (h wh η s σ H _ I (hw σ H G L ρ M q x r n ht hx)) λu s1 (H1,I1,f)=>(H1,I1,hQ u H1 f)
def JA.of{t:DA}(h:PA X es te)(hw:∀σ H G L ρ M q x,Rl X.K G L M H->mT X.K G L ρ σ->t ρ M q x->wg X.K G L H R x->te σ H (P_ X.K G L H q)):JA X R es t:=by intro pos η s σ H Q I ⟨G,L,ρ,M,q,x,r,n,ht,hx,hQ⟩;show bP (h pos η s σ H _ I (hw σ H G L ρ M q x r n ht hx)) λu s1 (v,H1,I1,rv,f)=>(v,H1,I1,rv,hQ v H1 f)
def JS.of{st:Stmt}{t:DS}(h:PS X st te)(hw:∀σ H G L ρ M Dn,Rl X.K G L M H->mT X.K G L ρ σ->t Dn ρ M->wg X.K G L H R Dn.x->te (v8 X.K G L H Dn) σ H):JS X R st t:=by intro η s σ H De I ⟨G,L,ρ,M,Dn,r,n,ht,hx,hQ⟩;show bP (h η s σ H _ I (hw σ H G L ρ M Dn r n ht hx)) λu s1 f=>SP.imp hQ f
def Fh.of{st:List Stmt}{t:DS}(h:JD X st te)(hw:∀σ H G L ρ M Dn,Rl X.K G L M H->mT X.K G L ρ σ->t Dn ρ M->wg X.K G L H R Dn.x->te (v8 X.K G L H Dn) σ H):Fh X R st t:=by intro η s σ H De I ⟨G,L,ρ,M,Dn,r,n,ht,hx,hQ⟩;show bP (h η s σ H _ I (hw σ H G L ρ M Dn r n ht hx)) λu s1 f=>SP.imp hQ f
end
def jy(i:Nat):DE:=λρ M q _=>match ρ[i]? with
 | some (!d)=>q d M
 | _=>False
def dC(d:Dt):DE:=λ_ M q _=>q d M
def fN(f:Dt->Dt->Ms->DQ->Prop)(a b:DE):DE:=λρ M q x=>a ρ M (λd1 M1=>b ρ M1 (λd2 M2=>f d1 d2 M2 q) x) x
def YA(f:Dt->Ms->DQ->Prop)(a:DE):DE:=λρ M q x=>a ρ M (λd1 M1=>f d1 M1 q) x
def ly:DA:=λ_ M q _=>q [] M
def eK(a:DE)(r:DA):DA:=λρ M q x=>a ρ M (λd M1=>r ρ M1 (λds M2=>q (d::ds) M2) x) x
def sA(f:List Dt->Ms->DQ->Prop)(a:DA):DE:=λρ M q x=>a ρ M (λds M1=>f ds M1 q) x
def mY(K:fI)(r:R2)(f:Dt->Dt->Ms->DQ->Prop):Prop:=
 ∀G0 L0 H0 G L M H v1 v2 d1 d2 q,Ex G0 L0 H0 G L H->Rl K G L M H->Den K G L d1 v1->Den K G L d2 v2->f d1 d2 M q->r v1 v2 H (Fin K G0 L0 H0 q)
def UnD(K:fI)(r:V->Hp->VK->Prop)(f:Dt->Ms->DQ->Prop):Prop:=
 ∀G0 L0 H0 G L M H v1 d1 q,Ex G0 L0 H0 G L H->Rl K G L M H->Den K G L d1 v1->f d1 M q->r v1 H (Fin K G0 L0 H0 q)
def CZ(K:fI)(r:List V->Hp->VK->Prop)(f:List Dt->Ms->DQ->Prop):Prop:=
 ∀G0 L0 H0 G L M H vs ds q,Ex G0 L0 H0 G L H->Rl K G L M H->Υ K G L ds vs->f ds M q->r vs H (Fin K G0 L0 H0 q)
section
variable{K:fI}{R:St->XK}{ta tb:DE}{tc:DA}{σ:St}{H G:Hp}{L:List Addr}{ρ:En}{M:Ms}{q:DQ}{x:DX}
def Ek(od:mY K r f)(rl:Rl K G L M H)(n:mT K G L ρ σ)(h:fN f ta tb ρ M q x)(hx:wg K G L H R x):U' r (zZ K R ta) (zZ K R tb) σ H (Fin K G L H q):=by show(G,L,ρ,M,_,x,rl,n,h,hx,λv H1 xz=>?_);let(d1,G1,L1,M1,e1,r1,n1,h1):=xz;show(G1,L1,ρ,M1,_,x,r1,n.mono e1,h1,hx.on e1,λv2 H2 xz=>?_);let(d2,G2,L2,M2,e2,r2,n2,h2):=xz;show od G L H G2 L2 M2 H2 v v2 d1 d2 q (e1.trans e2) r2 (Den.mono e2.g e2.l _ _ n1) n2 h2
def Vs(od:UnD K r f)(rl:Rl K G L M H)(n:mT K G L ρ σ)(h:YA f ta ρ M q x)(hx:wg K G L H R x):tUn r (zZ K R ta) σ H (Fin K G L H q):=by show(G,L,ρ,M,_,x,rl,n,h,hx,λv H1 xz=>?_);let(d1,G1,L1,M1,e1,r1,n1,h1):=xz;show od G L H G1 L1 M1 H1 v d1 q e1 r1 n1 h1
def Qv(od:CZ K r f)(rl:Rl K G L M H)(n:mT K G L ρ σ)(h:sA f tc ρ M q x)(hx:wg K G L H R x):tCB r (WR K R tc) σ H (Fin K G L H q):=by show(G,L,ρ,M,_,x,rl,n,h,hx,λv H1 xz=>?_);let(d1,G1,L1,M1,e1,r1,n1,h1):=xz;show od G L H G1 L1 M1 H1 v d1 q e1 r1 n1 h1
end
section
variable{X:Cx}{R:St->XK}{a b c:Expr}{ta tb:DE}{pos:Pos}
set_option tactic.hygienic true in
def jv(i:Nat){pos:Pos}(hN:X.N[i]? =!x|>1)(hv:Vis X.env.scope x:=by first| exact Or.inl rfl| exact Or.inr (Or.inl rfl)| exact Or.inr (Or.inr rfl))(hd:(x==("__debug__":Str))=false|>2)
  (Gg:(x==("__classdict__":Str))=false|>2):JE X R (.Name x pos) (jy i):=.of (T' hN hv hd Gg) λσ H G L ρ M q x r n h hx=>by
 unfold jy at h;split at h
 .rename_i d e;let(v,e1,h1):=n.fv i d e;show(v,e1,d,G,L,M,.refl _ _ _,r,h1,h)
 .show h.elim
def S5(h:PE X e (tC v))(hd:∀G L,Den X.K G L d v):JE X R e (dC d):=.of h λσ H G L ρ M q x r n h hx=>(d,G,L,M,.refl _ _ _,r,hd G L,h)
def ν{i j pos}:JE X R (.Constant (.int i) j pos) (dC (.int i)):=S5 T_ λ_ _=>rfl
def vc{b j pos}:JE X R (.Constant (.bool b) j pos) (dC (.bl b)):=S5 WW λ_ _=>rfl
def Mo{j pos}:JE X R (.Constant .none j pos) (dC .bt):=S5 R3 λ_ _=>rfl
def jM{x j pos}:JE X R (.Constant (.str x) j pos) (dC (.str x)):=S5 Tt λ_ _=>rfl
def zc(ho:jW X (binaryOp op) r)(od:mY X.K r f)(ja:JE X R a ta)(jb:JE X R b tb):JE X R (.BinOp a op b pos) (fN f ta tb):=
 .of (WI ho ja jb) λσ H G L ρ M q x r n h hx=>Ek od r n h hx
def Zk(ho:X0 X (unaryOp op) r)(od:UnD X.K r f)(ja:JE X R a ta):JE X R (.UnaryOp op a pos) (YA f ta):=
 .of (XG ho ja) λσ H G L ρ M q x r n h hx=>Vs od r n h hx
def u9(ho:jW X (compareOp op) r)(od:mY X.K r f)(ja:JE X R a ta)(jb:JE X R b tb)(hm:behindInMarks op b=false):JE X R (.Compare a [op] [b] pos) (fN f ta tb):=
 .of (O0 ho ja jb hm) λσ H G L ρ M q x r n h hx=>Ek od r n h hx
def Vj(hr:NA X r)(od:mY X.K r f)(ja:JE X R a ta)(jb:JE X R b tb)(hs:Ai b):JE X R (.Subscript a b pos) (fN f ta tb):=
 .of (Xq hr ja jb hs) λσ H G L ρ M q x r n h hx=>Ek od r n h hx
def dj{es:List Expr}{c j p}:starEach (.Constant c j p::es) env=(false, eval (.Constant c j p) env)::starEach es env:=rfl
def Q3{es:List Expr}{c p}:starEach (.Name c p::es) env=(false, eval (.Name c p) env)::starEach es env:=rfl
def bO{es:List Expr}{a o b p}:starEach (.BinOp a o b p::es) env=(false, eval (.BinOp a o b p) env)::starEach es env:=rfl
def aU{es:List Expr}{a b c p}:starEach (.Call a b c p::es) env=(false, eval (.Call a b c p) env)::starEach es env:=rfl
def aL{es:List Expr}{a b p}:starEach (.Subscript a b p::es) env=(false, eval (.Subscript a b p) env)::starEach es env:=rfl
def uh{es:List Expr}{a b p}:starEach (.Tuple a b p::es) env=(false, eval (.Tuple a b p) env)::starEach es env:=rfl
def FA{es:List Expr}{a o b p}:starEach (.Compare a o b p::es) env=(false, eval (.Compare a o b p) env)::starEach es env:=rfl
def θ:JA X R [] ly:=.of SO λσ H G L ρ M q x r n h hx=>([],G,L,M,.refl _ _ _,r,rfl,h)
def ι(ha:JE X R e te)(hr:JA X R es t)(hs:starEach (e::es) X.env=(false, eval e X.env)::starEach es X.env:=by first| exact dj| exact Q3| exact bO| exact aU| exact aL| exact uh| exact FA| exact acB| rfl):JA X R (e::es) (eK te t):=
 .of (Pb ha hr hs) λσ H G L ρ M q x rl n h hx=>by show(G,L,ρ,M,_,x,rl,n,h,hx,λv H1 xz=>?_);let(d1,G1,L1,M1,e1,r1,n1,h1):=xz;show(G1,L1,ρ,M1,_,x,r1,n.mono e1,h1,hx.on e1,λv2 H2 xz=>?_);let(d2,G2,L2,M2,e2,r2,n2,h2):=xz;show(d1::d2,G2,L2,M2,e1.trans e2,r2,(_,_,rfl,Den.mono e2.g e2.l _ _ n1,n2),h2)
def Μ{c:Str}(ha:JE X R (.Name c p) te)(hr:JA X R es t):JA X R (.Name c p::es) (eK te t):=ι ha hr Q3
def C6(t:DA):DE:=λρ M q x=>t ρ M (λds M1=>-ds<=sizeLine/\q (.tup ds) M1) x
def TU(t:DA):DE:=λρ M q x=>t ρ M (λds M1=>-ds<=sizeLine/\q (.lst ds) M1) x
def Qy(t:DA):DE:=λρ M q x=>t ρ M (λds M1=>-ds<=sizeLine/\q (.loc (-M1)) (M1++[.lst ds])) x
def mq{K:fI}{H:Hp}{q:DQ}(e:Ex G0 L0 H0 G L H)(r:Rl K G L M H)(hp:H p=none)(hd:Den K (upd G p o) L d (.ref p))(h:q d M):Fin K G0 L0 H0 q (.ref p) (upd H p o):=
 (d,upd G p o,L,M,e.trans (r.UO hp),r.N6 hp,hd,h)
def sN{K:fI}{H:Hp}(r:Rl K G L M H)(hp:H p=none)(h:Υ K G L ds vs):Den K (upd G p (.tup vs)) L (.tup ds) (.ref p):=
 (p,vs,rfl,au,Υ.mono (r.UO hp).g (.refl _) _ _ h)
def sQ{K:fI}{H:Hp}(r:Rl K G L M H)(hp:H p=none)(h:Υ K G L ds vs):Den K (upd G p (.lst vs)) L (.lst ds) (.ref p):=
 (p,vs,rfl,au,Υ.mono (r.UO hp).g (.refl _) _ _ h)
def i9{K:fI}{H:Hp}{q:DQ}(e:Ex G0 L0 H0 G L H)(r:Rl K G L M H)(hp:H p=none)(hd:Υ K G L ds vs)(h:q (.loc (-M)) (M++[.lst ds])):Fin K G0 L0 H0 q (.ref p) (upd H p (.lst vs)):=
 (.loc (-M),G,L++[p],M++[.lst ds],e.trans (r.X2 hp),r.OL (m:=.lst ds) hp (vs,au,Υ.mono (.refl _) ([p],rfl) _ _ hd),(p,rfl,by rw[<-r.len,List.getElem?_append_right (Nat.le_refl _)];simp),h)
variable{es:List Expr}{t:DA}
def cP{x1}(h:JA X R es t):JE X R (.Tuple es x1 pos) (C6 t):=.of (Su h) λσ H G L ρ M q x rl n h hx=>by show(G,L,ρ,M,_,x,rl,n,h,hx,fun v H1 (d1,G1,L1,M1,e1,r1,n1,h1)=>(by rw[<--n1];show h1.1,λp hp=>?_));show mq e1 r1 hp (sN r1 hp n1) h1.2
def kT(h:JA X R es t):JE X R (.List es pos) (TU t):=.of (Kt h) λσ H G L ρ M q x rl n h hx=>by show(G,L,ρ,M,_,x,rl,n,h,hx,fun v H1 (d1,G1,L1,M1,e1,r1,n1,h1)=>(by rw[<--n1];show h1.1,λp hp=>?_));show mq e1 r1 hp (sQ r1 hp n1) h1.2
def lM(h:JA X R es t):JE X R (.List es pos) (Qy t):=.of (Kt h) λσ H G L ρ M q x rl n h hx=>by show(G,L,ρ,M,_,x,rl,n,h,hx,fun v H1 (d1,G1,L1,M1,e1,r1,n1,h1)=>(by rw[<--n1];show h1.1,λp hp=>?_));show i9 e1 r1 hp n1 h1.2
def jT(t:DE):DT:=λρ M q x=>t ρ M (λd M1=>match d with
 | .bl b=>q b M1
 | _=>False) x
def Ve(t u:DT):DT:=λρ M q x=>t ρ M (λc M1=>(c=true->u ρ M1 q x)/\(c=false->q false M1)) x
def orT(t u:DT):DT:=λρ M q x=>t ρ M (λc M1=>(c=true->q true M1)/\(c=false->u ρ M1 q x)) x
def Xc(t:DT):DT:=λρ M q x=>t ρ M (λc M1=>q (! c) M1) x
set_option tactic.hygienic true in
def TQ{K:fI}{t:DE}{H:Hp}{q:Bool->Ms->Prop}(rl:Rl K G L M H)(n:mT K G L ρ σ)(h:jT t ρ M q x)(hx:wg K G L H R x):tB (zZ K R t) σ H (wc K G L H q):=by
 show(G,L,ρ,M,_,x,rl,n,h,hx,λv H1 xz=>?_);let(d1,G1,L1,M1,e1,r1,n1,h1):=xz
 (try dsimp only at h1)
 split at h1
 .rename_i b;show(b,n1,G1,L1,M1,e1,r1,h1)
 .show h1.elim
def aK{t:DE}(h:JE X R e t)(he:(∀whole,isTrue e X.env whole=(do let  v<-whole;standAt e.pos;holding [v] (truthy v)))|>3):JT X R e (jT t):=
 .of (RW h he) λσ H G L ρ M q x rl n h hx=>TQ rl n h hx
set_option tactic.hygienic true in
def fD(ho:jW X (compareOp op) r)(od:mY X.K r f)(ja:JE X R a ta)(jb:JE X R b tb)(hm:behindInMarks op b=false):JT X R (.Compare a [op] [b] pos) (jT (fN f ta tb)):=
 .of (Oz ho ja jb hm) λσ H G L ρ M q x rl n h hx=>by
  let h:fN f ta tb ρ M (λd M1=>match d with| .bl b=>q b M1| _=>False) x:=h;show(G,L,ρ,M,_,x,rl,n,h,hx,λv H1 xz=>?_);let(d1,G1,L1,M1,e1,r1,n1,h1):=xz;show(G1,L1,ρ,M1,_,x,r1,n.mono e1,h1,hx.on e1,λv2 H2 xz=>?_);let(d2,G2,L2,M2,e2,r2,n2,h2):=xz;have:=od G L H G2 L2 M2 H2 v v2 d1 d2 _ (e1.trans e2) r2 (Den.mono e2.g e2.l _ _ n1) n2 h2;let e:(λx H'=>∃k,x=V.bl k/\wc X.K G L H q k H')=Fin X.K G L H (λd M1=>match d with| .bl b=>q b M1| _=>False):=by
   funext y H'
   apply propext;constructor
   .rintro⟨k,rfl,G3,L3,M3,e3,r3,h3⟩;show(.bl k,G3,L3,M3,e3,r3,rfl,h3)
   .rintro⟨d,G3,L3,M3,e3,r3,n3,h3⟩;split at h3
    .rename_i k;show(k,n3,G3,L3,M3,e3,r3,h3)
    .show h3.elim
  rw[e];show this
def JW.jt{t:DT}(h:JW X R e t):JT X R e t:=h _
variable{t1 t2:DT}{rest:List Expr}
def z7(ha:JT X R a t1):JW X R (.BoolOp .And [a] pos) t1:=pw_and1 ha
def eD(ha:JT X R a t1):JW X R (.BoolOp .Or [a] pos) t1:=pw_or1 ha
def D8(ha:JT X R a t1)(hb:JW X R (.BoolOp .And (b::rest) pos) t2):JW X R (.BoolOp .And (a::b::rest) pos) (Ve t1 t2):=.of (pw_and ha hb) λσ H G L ρ M q x rl n h hx=>by
 show(G,L,ρ,M,_,x,rl,n,h,hx,λc H1 xz=>?_);let(G1,L1,M1,e1,r1,h1):=xz;cases c with
 | true=>show IP (G1,L1,ρ,M1,_,x,r1,n.mono e1,h1.1 rfl,hx.on e1,λb H2 f=>wc.back e1 f)
 | false=>show HK (G1,L1,M1,e1,r1,h1.2 rfl)
def dJ(ha:JT X R a t1)(hb:JW X R (.BoolOp .Or (b::rest) pos) t2):JW X R (.BoolOp .Or (a::b::rest) pos) (orT t1 t2):=.of (pw_or ha hb) λσ H G L ρ M q x rl n h hx=>by
 show(G,L,ρ,M,_,x,rl,n,h,hx,λc H1 xz=>?_);let(G1,L1,M1,e1,r1,h1):=xz;cases c with
 | true=>show IP (G1,L1,M1,e1,r1,h1.1 rfl)
 | false=>show HK (G1,L1,ρ,M1,_,x,r1,n.mono e1,h1.2 rfl,hx.on e1,λb H2 f=>wc.back e1 f)
def bM(ha:JT X R a t1):JT X R (.UnaryOp .Not a pos) (Xc t1):=.of (To ha) λσ H G L ρ M q x rl n h hx=>
 (G,L,ρ,M,_,x,rl,n,h,hx,λ_ _ (G,L,M,e,r,h)=>(G,L,M,e,r,h))
def Xg(t u:DE):DE:=λρ M q x=>t ρ M (λd M1=>match d with
 | .bl c=>(c=true->u ρ M1 q x)/\(c=false->q (.bl false) M1)
 | _=>False) x
def Vq(t:DE):DE:=λρ M q x=>t ρ M (λd M1=>match d with
 | .bl c=>q (.bl (! c)) M1
 | _=>False) x
def dIf(t:DT)(u v:DE):DE:=λρ M q x=>t ρ M (λc M1=>(c=true->u ρ M1 q x)/\(c=false->v ρ M1 q x)) x
def jr{op}{t:DE}(h:JE X R a t):JE X R (.BoolOp op [a] pos) t:=Se h
set_option tactic.hygienic true
def fV(ha:JE X R a ta)(hb:JE X R (.BoolOp .And (b::rest) pos) tb):JE X R (.BoolOp .And (a::b::rest) pos) (Xg ta tb):=.of (S3 ha hb) λσ H G L ρ M q x rl n h hx=>by
 show(G,L,ρ,M,_,x,rl,n,h,hx,λv H1 xz=>?_);let(d1,G1,L1,M1,e1,r1,n1,h1):=xz
 (try dsimp only at h1)
 split at h1
 .rename_i c;show(c,n1,?_);cases c with
  | true=>show IP (G1,L1,ρ,M1,_,x,r1,n.mono e1,h1.1 rfl,hx.on e1,λb H2 f=>Fin.back e1 f)
  | false=>show HK (.bl false,G1,L1,M1,e1,r1,rfl,h1.2 rfl)
 .show h1.elim
def RJ(ha:JE X R a ta):JE X R (.UnaryOp .Not a pos) (Vq ta):=.of (TL ha) λσ H G L ρ M q x rl n h hx=>by
 show(G,L,ρ,M,_,x,rl,n,h,hx,λv H1 xz=>?_);let(d1,G1,L1,M1,e1,r1,n1,h1):=xz
 (try dsimp only at h1)
 split at h1
 .rename_i c;show(c,n1,.bl (! c),G1,L1,M1,e1,r1,rfl,h1)
 .show h1.elim
def xQ{c:Expr}(hc:JT X R c t1)(ha:JE X R a ta)(hb:JE X R b tb):JE X R (.IfExp c a b pos) (dIf t1 ta tb):=.of (K0 hc ha hb) λσ H G L ρ M q x rl n h hx=>by
 show(G,L,ρ,M,_,x,rl,n,h,hx,λc H1 xz=>?_);let(G1,L1,M1,e1,r1,h1):=xz;cases c with
 | true=>show IP (G1,L1,ρ,M1,_,x,r1,n.mono e1,h1.1 rfl,hx.on e1,λb H2 f=>Fin.back e1 f)
 | false=>show HK (G1,L1,ρ,M1,_,x,r1,n.mono e1,h1.2 rfl,hx.on e1,λb H2 f=>Fin.back e1 f)
end
def Gq:DS:=λDn ρ M=>Dn.nx ρ M
def ow(t u:DS):DS:=λDn ρ M=>t {Dn with nx:=u Dn} ρ M
def Yn(c:DT)(t u:DS):DS:=λDn ρ M=>c ρ M (λb M1=>(b=true->t Dn ρ M1)/\(b=false->u Dn ρ M1)) Dn.x
def VU(t:DE):DS:=λDn ρ M=>t ρ M Dn.rt Dn.x
def zx(i:Nat)(t:DE):DS:=λDn ρ M=>t ρ M (λd M1=>Dn.nx (ρ.set i (!d)) M1) Dn.x
def B'(t:DE):DS:=λDn ρ M=>t ρ M (λ_ M1=>Dn.nx ρ M1) Dn.x
def VT(t:DS):DS:=λDn ρ M=>∃J:En->Ms->Prop,t {Dn with nx:=J} ρ M/\∀ρ' M',J ρ' M'->Dn.nx ρ' M'
section
variable{X:Cx}{R:St->XK}{st:Stmt}{rest:List Stmt}{t u:DS}{e:Expr}{te:DE}{pos:Pos}
def Ν:Fh X R [] Gq:=.of OA λσ H G L ρ M Dn rl n h hx=>(ρ,G,L,M,.refl _ _ _,rl,n,h)
def μ(h1:JS X R st t):Fh X R [st] t:=Oj h1
def ζ(h1:JS X R st t)(h2:Fh X R rest u):Fh X R (st::rest) (ow t u):=.of (MJ h1 h2) λσ H G L ρ M Dn rl n h hx=>by show(G,L,ρ,M,_,rl,n,h,hx,(λσ1 H1 xz=>?_,λ_ _ f=>f,λ_ _ f=>f,λ_ _ f=>f));let(ρ1,G1,L1,M1,e1,r1,n1,h1):=xz;show(G1,L1,ρ1,M1,Dn,r1,n1,h1,hx.on e1,v8.back e1)
def rS:JS X R (.Continue pos) (λDn ρ M=>Dn.ct ρ M):=.of CI λσ H G L ρ M Dn rl n h hx=>(ρ,G,L,M,.refl _ _ _,rl,n,h)
def Β(he:JE X R e te):JS X R (.Return (!e) pos) (VU te):=.of (TZ he) λσ H G L ρ M Dn rl n h hx=>(G,L,ρ,M,_,_,rl,n,h,hx,λ_ _ f=>f)
def eQ(he:JE X R e te)(hs:swapsWith e none pos.line X.env=pure false|>1):JS X R (.Expr e pos) (B' te):=.of (O_ he hs) λσ H G L ρ M Dn rl n h hx=>by show(G,L,ρ,M,_,_,rl,n,h,hx,λv H1 (d1,G1,L1,M1,e1,r1,n1,h1)=>(ρ,G1,L1,M1,e1,r1,n.mono e1,h1))
def ai(hc:JT X R c tc)(ha:Fh X R a t)(hb:Fh X R b u):JS X R (.If c a b pos) (Yn tc t u):=.of (Xp hc ha hb) λσ H G L ρ M Dn rl n h hx=>by
 show(G,L,ρ,M,_,_,rl,n,h,hx,λc H1 xz=>?_);let(G1,L1,M1,e1,r1,h1):=xz;cases c with
 | true=>show IP (G1,L1,ρ,M1,Dn,r1,n.mono e1,h1.1 rfl,hx.on e1,v8.back e1)
 | false=>show HK (G1,L1,ρ,M1,Dn,r1,n.mono e1,h1.2 rfl,hx.on e1,v8.back e1)
def ψ(i:Nat)(hN:X.N.Nodup)(he:JE X R e te)(hi:X.N[i]? =!x|>1)(hx:Loc X.env.scope x|>4)(hs:swapsWith e (!(.Name x pos')) pos.line X.env=pure false|>1)(hf:X.fn x=true\/X.env.scope.names.lookup x=some .local|>4):
  JS X R (.Assign [.Name x pos'] e pos) (zx i te):=.of (S4 hN hi hx he hs hf) λσ H G L ρ M Dn rl n h hx=>by
 show(G,L,ρ,M,_,_,rl,n,h,hx,λv H1 (d1,G1,L1,M1,e1,r1,n1,h1)=>(_,G1,L1,M1,e1,r1,(n.mono e1).set i n1,h1))
def fB(h:JS X R st t):JS X R st (VT t):=.of h λσ H G L ρ M Dn rl n h hx=>by let(J,h1,h2):=h;show(G,L,ρ,M,_,rl,n,h1,hx,(λσ1 H1 (ρ1,G1,L1,M1,e1,r1,n1,h1)=>(ρ1,G1,L1,M1,e1,r1,n1,h2 _ _ h1),λ_ _ f=>f,λ_ _ f=>f,λ_ _ f=>f))
end
abbrev DXF:=Addr->List (Str×Dt)->Ms->Prop
abbrev DF:=List Dt->Ms->DQ->DXF->Prop
inductive cM(K:fI)(T:DF)(vs:List V)(H:Hp)(Q:VK)(E:XK):Prop
 | mk (G:Hp) (L:List Addr) (ds:List Dt) (M:Ms) (q:DQ) (x:DXF) (r:Rl K G L M H) (n:Υ K G L ds vs) (h:T ds M q x) (hQ:∀v H1,Fin K G L H q v H1->Q v H1) (hE:∀C fs M1 G1 L1 H1 od,x C fs M1->Ex G L H G1 L1 H1->Rl K G1 L1 M1 H1->VA K G1 L1 H1 fs od->E (.ref C) od H1)
def lS(N:List Str)(ds:List Dt):En:=ds.map some++List.replicate (-N - -ds) none
def BO{K:fI}(h:Υ K G L ds vs):mT K G L (lS N ds) (start N vs):=by
 let hl:=-h;show(by unfold lS start;simp[hl],λi d e=>?_);unfold lS at e;unfold start;by_cases hi:i < -ds
 .rw[List.getElem?_append_left (by simpa using hi),List.getElem?_map]at e;rw[List.getElem?_append_left (by simpa [<-hl] using hi),List.getElem?_map];cases q:ds[i]? with
  | none=>rw[q]at e;cases e
  | some d'=>
   rw[q]at e;cases e;let(v,e1,h1):=h.get q;show(v,by rw[e1];rfl,h1)
 .rw[List.getElem?_append_right (by simpa using Nat.le_of_not_lt hi),List.getElem?_replicate]at e;split at e <;> cases e
section
variable{P:Program}{w:World}{K:fI}{mg:Str->Option Value}{base:Heap}
def c_.dX{st:Stmt}{k:Nat}{T:DF}(F:c_ K x qual st f fd)(S:Ζ N ps (υ st))(len:∀ds M q x,T ds M q x->-ds=-ps)
  (tj:∀(bf:Value) (A:Around) (outer:List Env) (s:Shared) (H:Hp) (E:XK),bV k (A.deeper (envOfC qual (υ st) s.heap.objs.size f bf))->
   ∃t,Fh (wB (b9 P w) P w K mg base N qual (υ st) f bf A outer s H E) (λ_=>E) (eP st) t/\∀ds M q x,T ds M q x->t {nx:=λ_ M'=>q .bt M',rt:=q,x:=λ_=>x} (lS N ds) M):
  aq P w K mg base (b9 P w) (k+1) f fd ps (cM K T):=by
 show F.okX S (λvs H Q E h=>?_) (λbf A outer s H vs Q E hr h=>?_)
 .let(G,L,ds,M,q,x,rl,n,hT,_):=h;rw[<--n];show len _ _ _ _ hT
 .let(t,j,ht):=tj bf A outer s H E hr;let(G,L,ds,M,q,x,rl,n,hT,hQ,hE):=h;show(_,j,G,L,lS N ds,M,_,rl,BO n,ht ds M q x hT,λσ ρ C fs M' G' L' H' od hx e r _ y=>hE C fs M' G' L' H' od hx e r y,(λσ' H' (ρ',G',L',M',e,r,_,h)=>hQ _ _ (.bt,G',L',M',e,r,rfl,h),λv H' f=>hQ v H' f,λ_ _ (_,_,_,_,_,_,_,h)=>h.elim,λ_ _ (_,_,_,_,_,_,_,h)=>h.elim))
structure av(P:Program)(w:World)(K:fI)(mg:Str->Option Value)(base:Heap)(k:Nat)(x:Str)(ps:List Str)(T:DF)(f:Addr)(fd:FuncData):Prop where
 ok:aq P w K mg base (b9 P w) k f fd ps (cM K T)
 b:jd K fd ps []
 m:mg x=!(.ref f)
 kp:PySem.W.keepIn K (.ref f)=true
end
def QF(T:DF)(t:DA):DE:=λρ M q x=>t ρ M (λds M1=>T ds M1 q (λC fs M'=>x ρ C fs M')) x
section
variable{X:Cx}{R:St->XK}{T:DF}{k k':Nat}{f:Addr}{fd:FuncData}{ps:List Str}{x:Str}{p pos:Pos}{e:Expr}{es:List Expr}{t:DA}
def Φ(C:av X.prog X.w X.K X.mg X.base k x ps T f fd)(hr:bV k' X.A)(hx:eB (b9 X.prog X.w) X R)(ha:JA X R (e::es) t)(hk:k<=k'|>2)(hg:Gl X x|>1)(pv:(x==("__debug__":Str))=false|>2)
  (he:starEach (e::es) X.env=(false, eval e X.env)::starEach es X.env|>1) (gL:(backTo pos (starEach es X.env)).any (·.1)=false|>1):JE X R (.Call (.Name x p) (e::es) [] pos) (QF T t):=
 .of (B2 C.ok (hr.mono hk) hg C.m C.kp C.b .nil hx ha pv he gL) λσ H G L ρ M q x rl n h hx=>by show(G,L,ρ,M,_,x,rl,n,h,hx,λvs H1 xz=>?_);let(ds,G1,L1,M1,e1,r1,n1,h1):=xz;change cM X.K T (vs++[]) H1 _ _;rw[abU];show(G1,L1,ds,M1,q,_,r1,n1,h1,λv H' f=>Fin.back e1 f,λC fs M' G' L' H' od hq e' r' y=>hx σ ρ C fs M' G' L' H' od hq (e1.trans e') r' (n.mono (e1.trans e')) y)
end
structure Yl(K:fI)(J:It)(xs:List Dt)(G0:Hp)(L0:List Addr):Prop where
 go:∀(i:Nat) G L M H (d:Dt),e_ G0 G->Pre L0 L->Rl K G L M H->xs[i]? =!d->J.go i H/\∀v H',J.Vv i H v H'->∃G',Ex G L H G' L H'/\Rl K G' L M H'/\Den K G' L d v
 stop:∀(i:Nat) G L M H,e_ G0 G->Pre L0 L->Rl K G L M H->-xs<=i->J.stop i H
inductive Wj(K:fI)(G0:Hp)(L0:List Addr)(H0:Hp)(q:List Dt->Ms->Prop)(J:It)(H:Hp):Prop
 | mk (xs:List Dt) (G:Hp) (L:List Addr) (M:Ms) (e:Ex G0 L0 H0 G L H) (r:Rl K G L M H) (y:Yl K J xs G L) (h:q xs M)
inductive aaK(K:fI)(R:St->XK)(t:DA)(σ:St)(H:Hp)(Q:It->Hp->Prop):Prop
 | mk (G:Hp) (L:List Addr) (ρ:En) (M:Ms) (q:List Dt->Ms->Prop) (x:DX) (r:Rl K G L M H) (n:mT K G L ρ σ) (h:t ρ M q x) (hx:wg K G L H R x) (hQ:∀J H1,Wj K G L H q J H1->Q J H1)
def JI(X:Cx)(R:St->XK)(tg iter:Expr)(t:DA):Prop:=PI X tg iter (aaK X.K R t)
def Np.imp{R R':It->Hp->Prop}(hR:∀J H,R J H->R' J H)(h:Np X η σ tg R v s):Np X η σ tg R' v s:=by let(it,fp,tn,J,H',a,b,c,d,e,f):=h;show(it,fp,tn,J,H',a,b,c,d,e,hR J H' f)
def GW{K:fI}(h:∀G':Hp,e_ G G'->gY K G' a vs)(n:Υ K G L ds vs):Yl K (XY K a) ds G L where
 go:=λi G1 L1 M1 H1 d g l r e=>by
  let(v,e1,n1):=n.get e;let hs:=h H1 (g.trans r.sub)
  show((vs,v,hs,e1),fun v' H' (eH,y)=>by
   subst eH;let e2:=y vs hs;rw[e1]at e2;cases e2
   show(G1,.refl _ _ _,r,Den.mono g l _ _ n1))
 stop:=λi G1 L1 M1 H1 g l r e=>(vs,h H1 (g.trans r.sub),by rw[<--n];show e)
def J5{K:fI}(h:∀G':Hp,e_ G G'->nj K G' a vs)(n:Υ K G L ds vs):Yl K (Itt K a) ds G L where
 go:=λi G1 L1 M1 H1 d g l r e=>by
  let(v,e1,n1):=n.get e;let hs:=h H1 (g.trans r.sub)
  show((vs,v,hs,e1),fun v' H' (eH,y)=>by
   subst eH;let e2:=y vs hs;rw[e1]at e2;cases e2
   show(G1,.refl _ _ _,r,Den.mono g l _ _ n1))
 stop:=λi G1 L1 M1 H1 g l r e=>(vs,h H1 (g.trans r.sub),by rw[<--n];show e)
noncomputable def dW(lo:Int)(n:Nat):List Dt:=(List.range n).map λk:Nat=>Dt.int (lo+(k:Int))
def LO{K:fI}{lo:Int}:Yl K (U5 lo n) (dW lo n) G L where
 go :=λi G1 L1 M1 H1 d g l r e=>by
  unfold dW at e;rw[aaw]at e;let hi:i < n:=by
   cases q:(List.range n)[i]? with
   | none=>rw[q]at e;cases e
   | some j=>
    have:=(aae.mp q).1;rwa[abP]at this
  rw[aby hi]at e;cases e;show(hi,λv' H' (eH,y)=>by subst eH y;show(G1,.refl _ _ _,r,rfl))
 stop:=λi G1 L1 M1 H1 g l r e=>by change n<=i;unfold dW at e;simpa using e
section
variable{X:Cx}{R:St->XK}{tg iter:Expr}
def JI.of{t:DA}(h:PI X tg iter wi)(hw:∀σ H G L ρ M q x,Rl X.K G L M H->mT X.K G L ρ σ->t ρ M q x->wg X.K G L H R x->wi σ H (Wj X.K G L H q)):JI X R tg iter t:=by intro η s σ H Q I ⟨G,L,ρ,M,q,x,r,n,ht,hx,hQ⟩;show bP (h η s σ H _ I (hw σ H G L ρ M q x r n ht hx)) λu s1 f=>bP f λu2 s2 f2=>Np.imp hQ f2
def OM(t:DA):DA:=λρ M q x=>t ρ M (λds M1=>match ds with
 | [.int j]=>(- (2 ^ 62)<=j/\j < 2 ^ 62)/\q (dW 0 j.toNat) M1
 | _=>False) x
set_option tactic.hygienic true
def cn{a:Expr}(hm:X.mg "range"=none)(ha:JA X R [a] t)(hg:Gl X "range"|>1)(hs:starEach [a] X.env=[(false, eval a X.env)]|>1):JI X R tg (.Call (.Name "range" p) [a] [] pos) (OM t):=
 .of (H_ hg hm ha hs) λσ H G L ρ M q x rl n h hx=>by
  show(G,L,ρ,M,_,x,rl,n,h,hx,λvs H1 xz=>?_);let(ds,G1,L1,M1,e1,r1,n1,h1):=xz
  (try dsimp only at h1)
  split at h1
  .rename_i j;let(v,rfl,n2):=bD n1;let n2:v= .int j:=n2;subst n2;show(j,rfl,h1.1.1,h1.1.2,_,G1,L1,M1,e1,r1,LO,h1.2)
  .show h1.elim
def Me(t:DA):DA:=λρ M q x=>t ρ M (λds M1=>match ds with
 | [.int i,.int j]=>(- (2 ^ 62)<=i/\i < 2 ^ 62/\ - (2 ^ 62)<=j/\j < 2 ^ 62)/\q (dW i (j - i).toNat) M1
 | _=>False) x
def HM{a b:Expr}(hm:X.mg "range"=none)(ha:JA X R [a,b] t)(hg:Gl X "range"|>1)(hs:starEach [a,b] X.env=[(false, eval a X.env),(false, eval b X.env)]|>1)(Sa:starEach [b] X.env=[(false, eval b X.env)]|>1):
  JI X R tg (.Call (.Name "range" p) [a,b] [] pos) (Me t):=
 .of (Ir hg hm ha hs Sa) λσ H G L ρ M q x rl n h hx=>by
  show(G,L,ρ,M,_,x,rl,n,h,hx,λvs H1 xz=>?_);let(ds,G1,L1,M1,e1,r1,n1,h1):=xz
  (try dsimp only at h1)
  split at h1
  .rename_i i j;let(v,u,rfl,n3,n2):=d7 n1;let n3:v= .int i:=n3;let n2:u= .int j:=n2;subst n3 n2;show(i,j,rfl,h1.1,_,G1,L1,M1,e1,r1,LO,h1.2)
  .show h1.elim
end
def GD(K:fI)(gg:TG)(g:Dt->En->(En->Prop)->Prop):Prop:=
 ∀G L M H d v ρ σ (k:En->Prop) (Q:St->Hp->Prop),Rl K G L M H->Den K G L d v->mT K G L ρ σ->g d ρ k->(∀ρ' σ',mT K G L ρ' σ'->k ρ'->Q σ' H)->gg v σ H Q
def gN(i:Nat):Dt->En->(En->Prop)->Prop:=λd ρ k=>k (ρ.set i (!d))
def aH{K:fI}:GD K (gX i) (gN i):=λG L M H d v ρ σ k Q rl n en h hQ=>hQ _ _ (en.set i n) h
def g2(i j:Nat):Dt->En->(En->Prop)->Prop:=λd ρ k=>match d with
 | .tup [a,b]=>k ((ρ.set i (!a)).set j (!b))
 | _=>False
set_option tactic.hygienic true in
def lQ{K:fI}:GD K (Hj K 2 (kW (gX i) (kW (gX j) Jl))) (g2 i j):=λG L M H d v ρ σ k Q rl n en h hQ=>by
 unfold g2 at h;split at h
 .rename_i a b;let(p,vs,rfl,e,n):=n;let(v1,v2,rfl,n1,n2):=d7 n;show(p,_,rfl,.inl (.inl (rl.sub _ _ e)),rfl,v1,_,rfl,v2,_,rfl,rfl,hQ _ _ ((en.set i n1).set j n2) h)
 .show h.elim
def tH(g:Dt->En->(En->Prop)->Prop)(tb:DS)(Dn:eG):List Dt->En->Ms->Prop
 | [],ρ,M=>Dn.nx ρ M
 | x::xs,ρ,M=>g x ρ λρ'=>tb {Dn with nx:=tH g tb Dn xs,ct:=tH g tb Dn xs,bk:=Dn.nx} ρ' M
def NP(ti:DA)(g:Dt->En->(En->Prop)->Prop)(tb:DS):DS:=λDn ρ M=>ti ρ M (λxs M1=>tH g tb Dn xs ρ M1) Dn.x
section
variable{X:Cx}{R:St->XK}{tg iter:Expr}{body:List Stmt}{ti:DA}{gg:TG}{g:Dt->En->(En->Prop)->Prop}{tb:DS}{pos:Pos}
def gS(hi:JI X R tg iter ti)(hg:PG X tg gg)(gd:GD X.K gg g)(hb:Fh X R body tb)(hp:PassesOwn (model X.prog X.w) X.A X.env X.xe|>5)(hc:X.calm=true|>1)(hs:(∀x,foldedSetIterable iter X.env x=pure x)|>3):
  JS X R (.For tg iter body [] pos) (NP ti g tb):=.of (DW hp hc hi hg hb hs) λσ H G L ρ M Dn rl n h hx=>by
 show(G,L,ρ,M,_,_,rl,n,h,hx,λJ H1 xz=>?_);let(xs,G1,L1,M1,e1,r1,y,h1):=xz;show(λi m σ' H'=>m+i=-xs/\fM X.K G1 L1 H1 (λρ' M'=>tH g tb Dn (xs.drop i) ρ' M') σ' H',(-xs,rfl,ρ,G1,L1,M1,.refl _ _ _,r1,n.mono e1,by rw[adG];show h1),?_);rintro i m σ' H' ⟨hm,ρ',G',L',M',e',r',n',h'⟩;by_cases hi:i < -xs
 .right;let hd:xs[i]? =!xs[i]:=aaa hi;let(go,yl):=y.go i G' L' M' H' _ e'.g e'.l r' hd;rw[acg hi]at h';show(go,fM X.K G1 L1 H1 (λρ' M'=>tH g tb Dn (xs.drop (i+1)) ρ' M'),λσ2 H2 f=>(m - 1,(),(),f),λv H2 hy=>?_);let(G2,e2,r2,n2):=yl v H2 hy;show gd G2 L' M' H2 _ v ρ' σ' _ _ r2 n2 (n'.mono e2) h' λρ3 σ3 n3 h3=>?_;show(G2,L',ρ3,M',_,r2,n3,h3,hx.on (e1.trans (e'.trans e2)),(λ_ _ f=>fM.back (e'.trans e2) f,λ_ _ f=>Fin.back (e1.trans (e'.trans e2)) f,λ_ _ f=>fM.back (e1.trans (e'.trans e2)) f,λ_ _ f=>fM.back (e'.trans e2) f))
 .left;show(y.stop i G' L' M' H' e'.g e'.l r' (),ρ',G',L',M',e1.trans e',r',n',?_);rw[ade ()]at h';show h'
end
abbrev DK:=En->Ms->(List Dt->(Ms->Prop)->Ms->Prop)->DX->Prop
structure QI(K:fI)(J:It)(xs:List Dt)(ok:Ms->Prop)(G0:Hp)(L0:List Addr):Prop where
 go:∀(i:Nat) G L M H (d:Dt),e_ G0 G->Pre L0 L->Rl K G L M H->ok M->xs[i]? =!d->J.go i H/\∀v H',J.Vv i H v H'->∃G',Ex G L H G' L H'/\Rl K G' L M H'/\Den K G' L d v
 stop:∀(i:Nat) G L M H,e_ G0 G->Pre L0 L->Rl K G L M H->ok M->-xs<=i->J.stop i H
inductive ZR(K:fI)(G0:Hp)(L0:List Addr)(H0:Hp)(q:List Dt->(Ms->Prop)->Ms->Prop)(J:It)(H:Hp):Prop
 | mk (xs:List Dt) (ok:Ms->Prop) (G:Hp) (L:List Addr) (M:Ms) (e:Ex G0 L0 H0 G L H) (r:Rl K G L M H) (y:QI K J xs ok G L) (h:q xs ok M)
inductive abQ(K:fI)(R:St->XK)(t:DK)(σ:St)(H:Hp)(Q:It->Hp->Prop):Prop
 | mk (G:Hp) (L:List Addr) (ρ:En) (M:Ms) (q:List Dt->(Ms->Prop)->Ms->Prop) (x:DX) (r:Rl K G L M H) (n:mT K G L ρ σ) (h:t ρ M q x) (hx:wg K G L H R x) (hQ:∀J H1,ZR K G L H q J H1->Q J H1)
def JK(X:Cx)(R:St->XK)(tg iter:Expr)(t:DK):Prop:=PI X tg iter (abQ X.K R t)
def kOf(t:DA):DK:=λρ M q x=>t ρ M (λxs M1=>q xs (λ_=>True) M1) x
def Qj(h:JI X R tg iter t):JK X R tg iter (kOf t):=by intro η s σ H Q I ⟨G,L,ρ,M,q,x,r,n,ht,hx,hQ⟩;show h η s σ H Q I (G,L,ρ,M,_,x,r,n,ht,hx,λJ H1 (xs,G1,L1,M1,e1,r1,y,hq)=>hQ J H1 (xs,_,G1,L1,M1,e1,r1,(λi G L M H d g l r _ e=>y.go i G L M H d g l r e,λi G L M H g l r _ e=>y.stop i G L M H g l r e),hq))
def qh(ae:List Nat)(ρ:En):En:=ae.map λi=>(ρ[i]?).join
def jP(g:Dt->En->(En->Prop)->Prop)(tc:DT)(te:DE)(ρ0:En)(ok:Ms->Prop):List Dt->List Dt->Ms->(List Dt->Ms->Prop)->Prop
 | [],Ι,M,k=>ok M/\k Ι M
 | x::xs,Ι,M,k=>ok M/\g x ρ0 λρ'=>tc ρ' M (λb M1=>match b with
  | true=>te ρ' M1 (λd M2=>jP g tc te ρ0 ok xs (Ι++[d]) M2 k) nc
  | false=>jP g tc te ρ0 ok xs Ι M1 k) nc
def zk(n:Nat)(ti:DK)(g:Dt->En->(En->Prop)->Prop)(tc:DT)(te:DE)(ae:List Nat):DE:=λρ M q x=>ti ρ M (λxs ok M1=>-xs<=sizeLine/\jP g tc te (List.replicate n none++qh ae ρ) ok xs [] M1 (λys M2=>q (.lst ys) M2)) x
def NW{K:fI}{os:St}{n:Nat}(h:mT K G L ρ σ)(ae:List Nat)(hl:-os=n):mT K G L (List.replicate n none++qh ae ρ) (os++qo ae σ):=by
 let lc:-(qh ae ρ)=-(qo ae σ):=by unfold qh qo;simp
 show(by rw[aaj,aaj,abY,hl,lc],λi d' e=>?_);by_cases hi:i < n
 .rw[aaJ (by rw[abY];show hi),ac6,aa1 hi]at e;cases e
 .rw[aaB (by rw[abY];omega),abY]at e;rw[aaB (),hl];unfold qh at e;unfold qo;rw[aaw]at e⊢;cases q:ae[i - n]? with
  | none=>rw[q]at e;cases e
  | some j=>
   rw[q]at e;let e:(ρ[j]?).join=!d':=aaI e;let e:ρ[j]? =!(!d'):=by
    cases z:ρ[j]? with
    | none=>rw[z]at e;cases e
    | some o=>rw[z]at e;show abI some e
   let(v,hv,dn):=h.fv j d' e;show(v,by change (!((σ[j]?).join))=_;rw[hv];rfl,dn)
def uV{K:fI}{g:Dt->En->(En->Prop)->Prop}{M1:Ms}{ok:Ms->Prop}{Q:VK}{k:List Dt->Ms->Prop}(gd:GD K gg g)(r1:Rl K G1 L1 M1 H1)(n:mT K G1 L1 ρ σ)(y:QI K J xs ok G1 L1)(hD:H1 Dl=none)(hz:-xs<=sizeLine)
  (h:jP g tc te (List.replicate nn none++qh ae ρ) ok xs [] M1 k)
  (fin:∀G2 L2 M2 H2 ds vs,Ex G1 L1 H1 G2 L2 H2->Rl K G2 L2 M2 H2->G2 Dl=none->Dl∉L2->H2 Dl=!(.lst vs)->Υ K G2 L2 ds vs->k ds M2->Q (.ref Dl) H2):
  E_ J nn gg (Dd K (λ_=>E0) tc) (zZ K (λ_=>E0) te) (qo ae σ) Q H1 Dl:=by
 show⟨λi m ys H2=>m+i=-xs/\H2 Dl=!(.lst ys)/\∃Ι G2 L2 M2,Ex G1 L1 H1 G2 L2 H2/\Rl K G2 L2 M2 H2/\G2 Dl=none/\Dl∉L2/\Υ K G2 L2 Ι ys/\-Ι<=i/\jP g tc te (List.replicate nn none++qh ae ρ) ok (xs.drop i) Ι M2 k,(-xs,rfl,au,[],G1,L1,M1,?_),?_⟩
 .let gn:G1 Dl=none:=r1.sub.free hD;show((.refl _,.refl _,λ_ h _=>h,λb u h1 _=>by rw[Ρ (λz=>by rw[z,hD]at h1;cases h1)];show h1,λ_ h=>.inl h,λb h=>by rw[Ρ (λz=>h (by rw[z];show hD))];show h),(λb u e=>by rw[Ρ (λz=>by rw[z,gn]at e;cases e)];show r1.sub b u e,r1.len,r1.nd,λi a m h1 h2=>?_),gn,r1.RG hD,rfl,aas _,by rw[adG];show h);let(q1,q2):=r1.fv i a m h1 h2;show(q1,q2.mono (.refl _) (.refl _) (Ρ λz=>q2.there (by rw[z];show hD)))
 .rintro i m ys H2 ⟨hm,zg,Ι,G2,L2,M2,e2,r2,g2,l2,n2,la,h2⟩;show(zg,?_);let ne1:∀{b:Addr} {u:HO},H1 b=!u->b≠Dl:=λe z=>by rw[z,hD]at e;cases e
  by_cases hi:i < -xs
  .right;let hd:xs[i]? =!xs[i]:=aaa hi;rw[acg hi]at h2;let(aN,h2):=h2;let(go,yl):=y.go i G2 L2 M2 H2 _ e2.g e2.l r2 aN hd;show(go,λv H3 hy os hos=>?_);let(G3,e3,r3,n3):=yl v H3 hy;let h3:H3 Dl=!(.lst ys):=e3.out _ _ zg l2;let g3:G3 Dl=none:=e3.fr _ g2 (by rw[zg];simp);show gd G3 L2 M2 H3 _ v _ _ _ _ r3 n3 (NW ((n.mono e2).mono e3) ae hos) h2 λρ' σ' n' h'=>?_;show(G3,L2,ρ',M2,_,nc,r3,n',h',Md,λb H4 xz=>?_);let(G4,L4,M4,e4,r4,h4):=xz;let X':H4 Dl=!(.lst ys):=e4.out _ _ h3 l2;let g4:G4 Dl=none:=e4.fr _ g3 (by rw[h3];simp);let l4:Dl∉L4:=λz=>(e4.new _ z).elim l2 λq=>by rw[h3]at q;cases q
   let YB:=e3.trans e4;cases b with
   | false=>
    show(m - 1,(),(),X',Ι,G4,L4,M4,e2.trans YB,r4,g4,l4,Υ.mono YB.g YB.l _ _ n2,(),h4)
   | true=>
    show(G4,L4,ρ',M4,_,nc,r4,n'.mono e4,h4,Md,λv5 H5 xz=>?_);let(d5,G5,L5,M5,e5,r5,n5,h5):=xz;let h5':H5 Dl=!(.lst ys):=e5.out _ _ X' l4;let g5:G5 Dl=none:=e5.fr _ g4 (by rw[X'];simp);let l5:Dl∉L5:=λz=>(e5.new _ z).elim l4 λq=>by rw[X']at q;cases q
    let Zo:=YB.trans e5;let adB:-ys=-Ι:=by rw[<--n2]
    show(h5',(),m - 1,(),(),au,Ι++[d5],G5,L5,M5,?_,?_,g5,l5,(Υ.mono Zo.g Zo.l _ _ n2).app (_,_,rfl,n5,rfl),by rw[aaj];change -Ι+1<=i+1;omega,h5)
    .let UM:=e2.trans Zo
     show(UM.g,UM.l,UM.fr,λb u h1 h2=>by rw[Ρ (ne1 h1)];show UM.out b u h1 h2,UM.new,λb h=>by
      by_cases hb:b=Dl
      .rw[hb,au];simp
      .rw[Ρ hb];show UM.FD b h)
    .show(λb u e=>by rw[Ρ (λz=>by rw[z,g5]at e;cases e)];show r5.sub b u e,r5.len,r5.nd,λi a m h1 h2=>?_);let(q1,q2):=r5.fv i a m h1 h2;show(q1,q2.mono (.refl _) (.refl _) (Ρ λz=>l5 (by rw[<-z];show aao h1)))
  .left;rw[ade ()]at h2;show(y.stop i G2 L2 M2 H2 e2.g e2.l r2 h2.1 (),fin G2 L2 M2 H2 Ι ys e2 r2 g2 l2 zg n2 h2.2)
section
variable{K:fI}{G1:Hp}{L1:List Addr}{H1 G:Hp}{L:List Addr}{M:Ms}{H:Hp}{p:Addr}{ds:List Dt}{vs:List V}{q:DQ}
def GA(e:Ex G1 L1 H1 G L H)(r:Rl K G L M H)(Qo:H1 p=none)(hg:G p=none)(hl:p∉L)(h:H p=!(.lst vs))(n:Υ K G L ds vs)(k:q (.lst ds) M):Fin K G1 L1 H1 q (.ref p) H:=by
 let g1:e_ G (upd G p (.lst vs)):=λb u e=>by rw[Ρ (λz=>by rw[z,hg]at e;cases e)];show e
 show(.lst ds,upd G p (.lst vs),L,M,(e.g.trans g1,e.l,λb h1 h2=>?_,e.out,e.new,e.FD),(λb u e=>?_,r.len,r.nd,λk a m h1 h2=>?_),(p,vs,rfl,au,Υ.mono g1 (.refl _) _ _ n),k)
 .rw[Ρ (λz=>h2 (by rw[z];show Qo))];show e.fr b h1 h2
 .by_cases hb:b=p
  .rw[hb,au]at e;rw[hb];cases e;show h
  .rw[Ρ hb]at e;show r.sub b u e
 .let(q1,q2):=r.fv k a m h1 h2;let hb:a≠p:=λz=>hl (by rw[<-z];show aao h1);show(by rw[Ρ hb];show q1,q2.mono g1 (.refl _) rfl)
def OH(e:Ex G1 L1 H1 G L H)(r:Rl K G L M H)(Qo:H1 p=none)(hg:G p=none)(hl:p∉L)(h:H p=!(.lst vs))(n:Υ K G L ds vs)(k:q (.loc (-M)) (M++[.lst ds])):Fin K G1 L1 H1 q (.ref p) H:=by
 show(.loc (-M),G,L++[p],M++[.lst ds],(e.g,e.l.trans ([p],rfl),e.fr,e.out,λb hb=>?_,e.FD),(r.sub,by rw[List.length_append,List.length_append,r.len];rfl,List.nodup_append.mpr (r.nd,by simp,λa ha b hb=>?_),λk a m h1 h2=>?_),(p,rfl,by rw[<-r.len,List.getElem?_append_right (Nat.le_refl _)];simp),k)
 .rcases abt.mp hb with z| z
  .show e.new b z
  .let e:b=p:=by simpa using z
   right;rw[e];show Qo
 .let e:b=p:=by simpa using hb
  rw[e];exactλz=>hl (z▸ha)
 .by_cases hk:k < -L
  .rw[aaJ hk]at h1;rw[aaJ (by rw[<-r.len];show hk)]at h2;let(q1,q2):=r.fv k a m h1 h2;show(q1,q2.mono (.refl _) ([p],rfl) rfl)
  .let e:k=-L:=by have:=(aae.mp h1).1;rw[aaj]at this;simp at this;omega
   rw[e,aaB (aas _)]at h1;rw[e,r.len,aaB (aas _)]at h2;simp at h1 h2;subst h1 h2;show(hg,vs,h,Υ.mono (.refl _) ([p],rfl) _ _ n)
def XO(b:Bool)(q:DQ)(ys:List Dt)(M:Ms):Prop:=match b with
 | false=>q (.lst ys) M
 | true=>q (.loc (-M)) (M++[.lst ys])
def G7(e:Ex G1 L1 H1 G L H)(r:Rl K G L M H)(Qo:H1 p=none)(hg:G p=none)(hl:p∉L)(h:H p=!(.lst vs))(n:Υ K G L ds vs)(k:XO b q ds M):Fin K G1 L1 H1 q (.ref p) H:=by
 cases b
 .show GA e r Qo hg hl h n k
 .show OH e r Qo hg hl h n k
end
def iC{n i:Nat}(h:i < n):yg n (gX i):=λv os cs H Q hl hq=>((os.set i (!v),by rw[acj];show hl,ac3 _ _ ()),hq)
def qb{K:fI}{n i j:Nat}(h:i < n)(h':j < n):yg n (Hj K 2 (kW (gX i) (kW (gX j) Jl))):=
 fun v os cs H Q hl (a,xs,e,s,l,v1,r,e1,v2,r2,e2,e3,q)=>(a,xs,e,s,l,v1,r,e1,v2,r2,e2,e3,((os.set i (!v1)).set j (!v2),by simp[hl],by
  rw[ac3 _ _ (),ac3 _ _ (by rw[acj];omega)]),q)
section
variable{X:Cx}{elt iter tg:Expr}{xs:List Str}{scope:Scope}{pos:Pos}{ys:List Str}{ae:List Nat}
def iP{i:Nat}(S:aG X scope xs ys ae)(h:xs[i]? =!x)(C:Addr)(s:Shared)(H:Hp)(fp:List Addr):PG (Cx.comp X (xs++ys) scope C s H fp) (.Name x px) (gX i):=by
 let hm:x∈xs:=aao h;let hi:(xs++ys)[i]? =!x:=by rw[aaJ (aae.mp h).1];show h
 show Ω S.nd hi (.inl (lookup_relabel_local (S.own x hm))) (.inr (lookup_relabel_local (S.own x hm)))
def yz{x y:Str}{k:Nat}(hc:X.calm=true)(S:aG X scope [x,y] ys ae)(C:Addr)(s:Shared)(H:Hp)(fp:List Addr):PG (Cx.comp X ([x,y]++ys) scope C s H fp) (.Tuple [.Name x px,.Name y py] k pos) (Hj X.K 2 (kW (gX 0) (kW (gX 1) Jl))):=
 lX (X:=Cx.comp X ([x,y]++ys) scope C s H fp) hc (bG (iP S (i:=0) rfl C s H fp) (bG (iP S (i:=1) rfl C s H fp) iV))
end
def rK:DT:=λ_ M q _=>q true M
def ZK(X:Cx)(cs:List Expr)(t:DT):Prop:=Yj X cs (Dd X.K (λ_=>E0) t)
def mr:ZK X [] rK:=(.inl rfl,λη s σ H Q I (G,L,ρ,M,q,x,r,n,h,hx,hQ)=>abd (H,I,hQ true H (G,L,M,.refl _ _ _,r,h)))
def GH(h:JT X (λ_=>E0) c t):ZK X [c] t:=(.inr (c,rfl),h)
def QE(b:Bool)(g:Dt->En->(En->Prop)->Prop)(tc:DT)(te:DE)(cs:En)(q:DQ):List Dt->(Ms->Prop)->Ms->Prop:=λzs ok M1=>-zs<=sizeLine/\jP g tc te cs ok zs [] M1 (XO b q)
section
variable{X:Cx}{R:St->XK}{elt iter tg:Expr}{cs:List Expr}{xs:List Str}{scope:Scope}{pos:Pos}{gg:TG}{g:Dt->En->(En->Prop)->Prop}{ti:DK}{tc:DT}{te:DE}{ys:List Str}{ae:List Nat}(b:Bool)(S:aG X scope xs ys ae)(hi:JK X R tg iter ti)(hg:∀C s H fp,PG (Cx.comp X (xs++ys) scope C s H fp) tg gg)(gd:GD X.K gg g)(hk:yg (-xs) gg)(ht:∀C s H fp,ZK (Cx.comp X (xs++ys) scope C s H fp) cs tc)(he:∀C s H fp,JE (Cx.comp X (xs++ys) scope C s H fp) (λ_=>E0) elt te)(hc:X.calm=true)(hs:∀x,foldedSetIterable iter X.env x=pure x)
include S hi hg gd hk ht he hc hs
def V_{t:DE}(e:∀ρ M q x,t ρ M q x->ti ρ M (QE b g tc te (List.replicate (-xs) none++qh ae ρ) q) x):JE X R (.ListComp elt [(tg,iter,cs,0)] scope pos) t:=
 .of (Cw (tc:=Dd X.K (λ_=>E0) tc) (te:=zZ X.K (λ_=>E0) te) S hc hi hg hk ht he hs) λσ H G L ρ M q x rl n h hx=>(G,L,ρ,M,_,x,rl,n,e _ _ _ _ h,hx,λJ H1 (xs,ok,G1,L1,M1,e1,r1,y,hz,h1) D hD=>uV gd r1 (n.mono e1) y hD hz h1 λG2 L2 M2 H2 ds vs e2 r2 g2 l2 h2 n2 k=>Fin.back e1 (G7 e2 r2 hD g2 l2 h2 n2 k))
def jcS{i:Nat}{vE:Pos}(hN:X.N.Nodup)(RV:X.N[i]? =!y)(hy:Loc X.env.scope y)(RF:swapsWith (.ListComp elt [(tg,iter,cs,0)] scope pos) (!(.Name y py)) vE.line X.env=pure true)(hf:X.fn y=true\/X.env.scope.names.lookup y=some .local){t:DE}(e:∀ρ M q x,t ρ M q x->ti ρ M (QE b g tc te (List.replicate (-xs) none++qh ae ρ) q) x):
  JS X R (.Assign [.Name y py] (.ListComp elt [(tg,iter,cs,0)] scope pos) vE) (zx i t):=.of (B5 (tc:=Dd X.K (λ_=>E0) tc) (te:=zZ X.K (λ_=>E0) te) hN RV hy S hc hi hg hk ht he RF hs hf) λσ H G L ρ M Dn rl n h hx=>by
 show(G,L,ρ,M,_,_,rl,n,e _ _ _ _ h,hx,fun J H1 (xs,ok,G1,L1,M1,e1,r1,y,hz,h1) D hD=>uV gd r1 (n.mono e1) y hD hz h1 λG2 L2 M2 H2 ds vs e2 r2 g2 l2 h2 n2 k=>?_);let(d,G3,L3,M3,e3,r3,n3,h3):=G7 (q:=λd M=>Dn.nx (ρ.set i (!d)) M) e2 r2 hD g2 l2 h2 n2 k;show(_,G3,L3,M3,e1.trans e3,r3,((n.mono e1).mono e3).set i n3,h3)
end
def A8(te:DE)(cs:En):List Dt->List Dt->Ms->(List Dt->Ms->Prop)->Prop
 | [],Ι,M,k=>k Ι M
 | x::xs,Ι,M,k=>te ((!x)::cs) M (λd M1=>A8 te cs xs (Ι++[d]) M1 k) nc
def Li(ti:DA)(te:DE)(ae:List Nat):DE:=λρ M q x=>ti ρ M (λxs M1=>-xs<=sizeLine/\A8 te (qh ae ρ) xs [] M1 (λys M2=>q (.lst ys) M2)) x
def GI:∀xs,A8 te cs xs=jP (gN 0) rK te (none::cs) (λ_=>True) xs
 | []=>funext λΙ=>funext λM=>funext λk=>(true_and _).symm
 | x::xs=>funext λΙ=>funext λM=>funext λk=>by change te ((!x)::cs) M (λd M1=>A8 te cs xs (Ι++[d]) M1 k) nc=(True/\te ((!x)::cs) M (λd M1=>jP (gN 0) rK te (none::cs) (λ_=>True) xs (Ι++[d]) M1 k) nc);rw[GI xs,true_and]
section
variable{X:Cx}{R:St->XK}{elt iter:Expr}{x:Str}{px:Pos}{scope:Scope}{pos:Pos}{ti:DA}{te:DE}{ys:List Str}{ae:List Nat}
def Lu(S:aG X scope [x] ys ae)(hi:JI X R (.Name x px) iter ti)(he:∀C s H fp,JE (Cx.comp X (x::ys) scope C s H fp) (λ_=>E0) elt te)(hc:X.calm=true|>1)(hs:(∀x,foldedSetIterable iter X.env x=pure x)|>3):JE X R (.ListComp elt [(.Name x px,iter,[],0)] scope pos) (Li ti te ae):=V_ false S (Qj hi) (iP S (i:=0) rfl) aH (iC (Nat.zero_lt_succ 0)) (λ_ _ _ _=>mr) he hc hs λρ M q x h=>by unfold Li at h;simp only[GI]at h;show h
end
def fin_same{K:fI}{H:Hp}{q:DQ}(e:Ex G0 L0 H0 G L H)(r:Rl K G L M H)(n:Den K G L d v)(h:q d M):Fin K G0 L0 H0 q v H:=(d,G,L,M,e,r,n,h)
def bB{K:fI}{H:Hp}{q:DQ}(e:Ex G0 L0 H0 G L H)(r:Rl K G L M H)(h:q d M)(n:Den K G L d v|>1):Fin K G0 L0 H0 q v H:=(d,G,L,M,e,r,n,h)
def sD:Dt->Dt->Ms->DQ->Prop
 | .int i,.int j,M,q=>q (.int (i+j)) M
 | .str a,.str b,M,q=>-a+-b<=sizeLine/\q (.str (a++b)) M
 | .lst a,.lst b,M,q=>-a+-b<=sizeLine/\q (.lst (a++b)) M
 | .tup a,.tup b,M,q=>(a≠[]/\-a+-b<=sizeLine)/\q (.tup (a++b)) M
 | _,_,_,_=>False
def C5:Dt->Dt->Ms->DQ->Prop
 | .int i,.int j,M,q=>q (.int (i - j)) M
 | _,_,_,_=>False
def K1:Dt->Dt->Ms->DQ->Prop
 | .int i,.int j,M,q=>(fe i/\fe j)/\q (.int (i * j)) M
 | .lst a,.int k,M,q=>(- (2 ^ 63)<=k/\k < 2 ^ 63/\-a * k.toNat<=sizeLine)/\q (.lst (List.replicate k.toNat a).flatten) M
 | _,_,_,_=>False
def Sl:Dt->Dt->Ms->DQ->Prop
 | .int i,.int j,M,q=>(0 < j/\fe j)/\q (.int (i / j)) M
 | _,_,_,_=>False
def F_:Dt->Dt->Ms->DQ->Prop
 | .int i,.int j,M,q=>(j≠0/\fe j)/\q (.int (i.fdiv j)) M
 | _,_,_,_=>False
def Oe:Dt->Dt->Ms->DQ->Prop
 | .int i,.int j,M,q=>0 < j/\q (.int (i % j)) M
 | _,_,_,_=>False
def SW:Dt->Dt->Ms->DQ->Prop
 | .int i,.int j,M,q=>CG i j/\q (.int (i ^ j.toNat)) M
 | _,_,_,_=>False
def N5:Dt->Ms->DQ->Prop
 | .int i,M,q=>q (.int (- i)) M
 | _,_,_=>False
section
variable{K:fI}
set_option tactic.hygienic true
def ZU:mY K (λx y H Q=>(∃i j,x=V.int i/\y= .int j/\Q (.int (i+j)) H)\/(∃i j,x=V.str i/\y= .str j/\-i+-j<=sizeLine/\Q (.str (i++j)) H)\/SI x y H Q\/Q4 K x y H Q) sD:=by
 intro G0 L0 H0 G L M H v1 v2 d1 d2 q e r n1 n2 h;unfold sD at h;split at h
 .rename_i i j;show .inl (i,j,n1,n2,bB e r h)
 .rename_i a b;show .inr (.inl (a,b,n1,n2,h.1,bB e r h.2))
 .rename_i a b;let(p1,w1,rfl,e1,m1):=n1;let(p2,w2,rfl,e2,m2):=n2;show .inr (.inr (.inl (p1,p2,w1,w2,rfl,rfl,r.sub _ _ e1,r.sub _ _ e2,by rw[<--m1,<--m2];show h.1,λp hp=>?_)));show mq e r hp (sQ r hp (m1.app m2)) h.2
 .rename_i a b;let(p1,w1,rfl,e1,m1):=n1;let(p2,w2,rfl,e2,m2):=n2;let ne:w1≠[]:=λz=>h.1.1 (by have:=-m1;rw[z]at this;show List.eq_nil_of_length_eq_zero this);show .inr (.inr (.inr (p1,p2,w1,w2,rfl,rfl,.inl (.inl (r.sub _ _ e1)),.inl (.inl (r.sub _ _ e2)),ne,by rw[<--m1,<--m2];show h.1.2,λz=>?_,λ_ p hp=>?_)))
  .let hb:b=[]:=by have:=-m2;rw[z]at this;show List.eq_nil_of_length_eq_zero this
   subst hb;rw[abU]at h;show fin_same (d:=.tup a) e r (p1,w1,rfl,e1,m1) h.2
  .show mq e r hp (sN r hp (m1.app m2)) h.2
 .show h.elim
def aaC:mY K (Jg λi j=>.int (i - j)) C5:=by
 intro G0 L0 H0 G L M H v1 v2 d1 d2 q e r n1 n2 h;unfold C5 at h;split at h
 .show(_,_,n1,n2,bB e r h)
 .show h.elim
def abF:mY K (λx y H Q=>(rI (λi j=>fe i/\fe j) λi j=>.int (i * j)) x y H Q\/Uh x y H Q) K1:=by
 intro G0 L0 H0 G L M H v1 v2 d1 d2 q e r n1 n2 h;unfold K1 at h;split at h
 .show .inl (_,_,n1,n2,h.1,bB e r h.2)
 .rename_i a k;let(p1,w1,rfl,e1,m1):=n1;show .inr (p1,k,w1,rfl,n2,r.sub _ _ e1,h.1.1,h.1.2.1,by rw[<--m1];show h.1.2.2,λp hp=>?_);show mq e r hp (sQ r hp (.of (zW m1.pair k.toNat))) h.2
 .show h.elim
def abp:mY K (rI (λ_ j=>j≠0/\fe j) λi j=>.int (i.fdiv j)) Sl:=by
 intro G0 L0 H0 G L M H v1 v2 d1 d2 q e r n1 n2 h;unfold Sl at h;split at h
 .rename_i i j;let h0:=h.1.1;show(_,_,n1,n2,((),h.1.2),fin_same (d:=.int (i.fdiv j)) e r rfl ?_);rw[adj i (aav h0)];show h.2
 .show h.elim
set_option tactic.hygienic false
def WX:mY K (rI (λ_ j=>j≠0/\fe j) λi j=>.int (i.fdiv j)) F_:=by
 intro G0 L0 H0 G L M H v1 v2 d1 d2 q e r n1 n2 h;unfold F_ at h;split at h
 .show(_,_,n1,n2,h.1,bB e r h.2)
 .show h.elim
def aax:mY K (rI (λ_ j=>0 < j) λi j=>.int (i % j)) Oe:=by
 intro G0 L0 H0 G L M H v1 v2 d1 d2 q e r n1 n2 h;unfold Oe at h;split at h
 .show(_,_,n1,n2,h.1,bB e r h.2)
 .show h.elim
def abA:mY K (rI CG λi j=>.int (i ^ j.toNat)) SW:=by
 intro G0 L0 H0 G L M H v1 v2 d1 d2 q e r n1 n2 h;unfold SW at h;split at h
 .show(_,_,n1,n2,h.1,bB e r h.2)
 .show h.elim
def ZA:UnD K (rU λi=>.int (- i)) N5:=by
 intro G0 L0 H0 G L M H v1 d1 q e r n1 h;unfold N5 at h;split at h
 .show(_,n1,bB e r h)
 .show h.elim
end
section
variable{X:Cx}{R:St->XK}{a b c:Expr}{ta tb:DE}{pos:Pos}
def bY(ja:JE X R a ta)(jb:JE X R b tb):JE X R (.BinOp a .Add b pos) (fN sD ta tb):=zc (Tw.or (DM.or (Mr.or Oq))) ZU ja jb
def xS(ja:JE X R a ta)(jb:JE X R b tb):JE X R (.BinOp a .Sub b pos) (fN C5 ta tb):=zc SR aaC ja jb
def ax(ja:JE X R a ta)(jb:JE X R b tb):JE X R (.BinOp a .Mult b pos) (fN K1 ta tb):=zc (O6.or KA) abF ja jb
def kY(ja:JE X R a ta)(jb:JE X R b tb):JE X R (.BinOp a .FloorDiv b pos) (fN Sl ta tb):=zc Bv abp ja jb
def EW(ja:JE X R a ta)(jb:JE X R b tb):JE X R (.BinOp a .FloorDiv b pos) (fN F_ ta tb):=zc Bv WX ja jb
def bI(ja:JE X R a ta)(jb:JE X R b tb):JE X R (.BinOp a .Mod b pos) (fN Oe ta tb):=zc RN aax ja jb
def jY(ja:JE X R a ta)(jb:JE X R b tb):JE X R (.BinOp a .Pow b pos) (fN SW ta tb):=zc Sv abA ja jb
def MF(ja:JE X R a ta):JE X R (.UnaryOp .USub a pos) (YA N5 ta):=Zk RZ ZA ja
end
def XW:Dt->Dt->Ms->DQ->Prop
 | .int i,.int j,M,q=>q (.bl (decide (i < j))) M
 | _,_,_,_=>False
def fLe:Dt->Dt->Ms->DQ->Prop
 | .int i,.int j,M,q=>q (.bl (decide (i<=j))) M
 | _,_,_,_=>False
def Zq:Dt->Dt->Ms->DQ->Prop
 | .int i,.int j,M,q=>q (.bl (decide (j < i))) M
 | _,_,_,_=>False
def YC:Dt->Dt->Ms->DQ->Prop
 | .int i,.int j,M,q=>q (.bl (decide (j<=i))) M
 | _,_,_,_=>False
def rF:Dt->Option V
 | .bt=>some .bt
 | .bl b=>!(.bl b)
 | .int i=>!(.int i)
 | .str x=>!(.str x)
 | _=>none
noncomputable def iu:List Dt->Option (List V)
 | []=>![]
 | d::ds=>match rF d,iu ds with
  | some v,!vs=>!(v::vs)
  | _,_=>none
section
variable{K:fI}{G:Hp}{L:List Addr}
def iL{u:V}(h:rF d=!u)(n:Den K G L d v):v=u/\eJ u=true:=by cases d <;> first| (cases h;show(n,rfl))| cases h
set_option tactic.hygienic true
def fY:∀{ds:List Dt} {vs us:List V},iu ds=!us->Υ K G L ds vs->vs=us/\us.all eJ=true
 | [],vs,us,h,n=>by cases h;show(n,rfl)
 | d::ds,_,us,h,(v,r,e,n1,n2)=>by
  subst e;unfold iu at h;split at h
  .rename_i u1 u2 h1 h2;cases h;let(a1,a2):=iL h1 n1;let(b1,b2):=fY h2 n2;subst a1 b1;show(rfl,by rw[ac7,a2,b2];rfl)
  .cases h
end
def Fe:Dt->Dt->Ms->DQ->Prop
 | .int i,.int j,M,q=>q (.bl (decide (i=j))) M
 | .str i,.str j,M,q=>q (.bl (decide (i=j))) M
 | .bl i,.bl j,M,q=>q (.bl (decide (i=j))) M
 | .tup a,.tup b,M,q=>match iu a,iu b with
  | some us,!vs=>q (.bl (pD us vs)) M
  | _,_=>False
 | _,_,_,_=>False
def N9:Dt->Dt->Ms->DQ->Prop
 | .int i,.int j,M,q=>q (.bl (! decide (i=j))) M
 | .str i,.str j,M,q=>q (.bl (! decide (i=j))) M
 | .bl i,.bl j,M,q=>q (.bl (! decide (i=j))) M
 | .tup a,.tup b,M,q=>match iu a,iu b with
  | some us,!vs=>q (.bl (! pD us vs)) M
  | _,_=>False
 | _,_,_,_=>False
def TK:Dt->Dt->Ms->DQ->Prop
 | .bt,.bt,M,q=>q (.bl true) M
 | .bl _,.bt,M,q=>q (.bl false) M
 | .int _,.bt,M,q=>q (.bl false) M
 | .str _,.bt,M,q=>q (.bl false) M
 | .tup _,.bt,M,q=>q (.bl false) M
 | .lst _,.bt,M,q=>q (.bl false) M
 | _,_,_,_=>False
section
variable{K:fI}
def ltD:mY K (Jg λi j=>.bl (decide (i < j))) XW:=by
 intro G0 L0 H0 G L M H v1 v2 d1 d2 q e r n1 n2 h;unfold XW at h;split at h
 .show(_,_,n1,n2,bB e r h)
 .show h.elim
def leD:mY K (Jg λi j=>.bl (decide (i<=j))) fLe:=by
 intro G0 L0 H0 G L M H v1 v2 d1 d2 q e r n1 n2 h;unfold fLe at h;split at h
 .show(_,_,n1,n2,bB e r h)
 .show h.elim
def gtD:mY K (Jg λi j=>.bl (decide (j < i))) Zq:=by
 intro G0 L0 H0 G L M H v1 v2 d1 d2 q e r n1 n2 h;unfold Zq at h;split at h
 .show(_,_,n1,n2,bB e r h)
 .show h.elim
def geD:mY K (Jg λi j=>.bl (decide (j<=i))) YC:=by
 intro G0 L0 H0 G L M H v1 v2 d1 d2 q e r n1 n2 h;unfold YC at h;split at h
 .show(_,_,n1,n2,bB e r h)
 .show h.elim
def mv{p q:Prop} [Decidable p] [Decidable q](h:p↔q):decide p=decide q:=decide_eq_decide.mpr h
set_option tactic.hygienic true
def U6:mY K (λx y H Q=>rEq x y H Q\/Vp K x y H Q) Fe:=by
 intro G0 L0 H0 G L M H v1 v2 d1 d2 q e r n1 n2 h;unfold Fe at h;split at h
 .rename_i i j;cases n1;cases n2;show .inl (rfl,fin_same (d:=.bl _) e r (by change V.bl _=V.bl _;rw[mv (p:=V.int i=V.int j) (q:=i=j) (λz=>V.int.inj z,λz=>by rw[z])]) h)
 .rename_i i j;cases n1;cases n2;show .inl (rfl,fin_same (d:=.bl _) e r (by change V.bl _=V.bl _;rw[mv (p:=V.str i=V.str j) (q:=i=j) (λz=>V.str.inj z,λz=>by rw[z])]) h)
 .rename_i i j;cases n1;cases n2;show .inl (rfl,fin_same (d:=.bl _) e r (by change V.bl _=V.bl _;rw[mv (p:=V.bl i=V.bl j) (q:=i=j) (λz=>V.bl.inj z,λz=>by rw[z])]) h)
 .rename_i a b;let(p1,w1,rfl,e1,m1):=n1;let(p2,w2,rfl,e2,m2):=n2;split at h
  .rename_i us vs h1 h2;let(rfl,a2):=fY h1 m1;let(rfl,b2):=fY h2 m2;show .inr (p1,p2,_,_,rfl,rfl,.inl (.inl (r.sub _ _ e1)),.inl (.inl (r.sub _ _ e2)),a2,b2,bB e r h)
  .show h.elim
 .show h.elim
def aag:mY K (λx y H Q=>rNe x y H Q\/W4 K x y H Q) N9:=by
 intro G0 L0 H0 G L M H v1 v2 d1 d2 q e r n1 n2 h;unfold N9 at h;split at h
 .rename_i i j;cases n1;cases n2;show .inl (rfl,fin_same (d:=.bl _) e r (by change V.bl _=V.bl _;rw[mv (p:=V.int i=V.int j) (q:=i=j) (λz=>V.int.inj z,λz=>by rw[z])]) h)
 .rename_i i j;cases n1;cases n2;show .inl (rfl,fin_same (d:=.bl _) e r (by change V.bl _=V.bl _;rw[mv (p:=V.str i=V.str j) (q:=i=j) (λz=>V.str.inj z,λz=>by rw[z])]) h)
 .rename_i i j;cases n1;cases n2;show .inl (rfl,fin_same (d:=.bl _) e r (by change V.bl _=V.bl _;rw[mv (p:=V.bl i=V.bl j) (q:=i=j) (λz=>V.bl.inj z,λz=>by rw[z])]) h)
 .rename_i a b;let(p1,w1,rfl,e1,m1):=n1;let(p2,w2,rfl,e2,m2):=n2;split at h
  .rename_i us vs h1 h2;let(rfl,a2):=fY h1 m1;let(rfl,b2):=fY h2 m2;show .inr (p1,p2,_,_,rfl,rfl,.inl (.inl (r.sub _ _ e1)),.inl (.inl (r.sub _ _ e2)),a2,b2,bB e r h)
  .show h.elim
 .show h.elim
set_option tactic.hygienic false
def YM:mY K (λx y H Q=>y= .bt/\Q (.bl (decide (x= .bt))) H) TK:=by
 intro G0 L0 H0 G L M H v1 v2 d1 d2 q e r n1 n2 h;unfold TK at h;split at h
 .cases n1;show(n2,fin_same (d:=.bl true) e r (by change V.bl _=V.bl _;rw[aaT rfl]) h)
 .cases n1;show(n2,fin_same (d:=.bl false) e r (by change V.bl _=V.bl _;rw[aa4 nofun]) h)
 .cases n1;show(n2,fin_same (d:=.bl false) e r (by change V.bl _=V.bl _;rw[aa4 nofun]) h)
 .cases n1;show(n2,fin_same (d:=.bl false) e r (by change V.bl _=V.bl _;rw[aa4 nofun]) h)
 .let(p1,w1,rfl,_):=n1;show(n2,fin_same (d:=.bl false) e r (by change V.bl _=V.bl _;rw[aa4 nofun]) h)
 .let(p1,w1,rfl,_):=n1;show(n2,fin_same (d:=.bl false) e r (by change V.bl _=V.bl _;rw[aa4 nofun]) h)
 .show h.elim
end
section
variable{X:Cx}{R:St->XK}{a b c:Expr}{ta tb:DE}{pos:Pos}
def JO(ja:JE X R a ta)(jb:JE X R b tb):JE X R (.Compare a [.Lt] [b] pos) (fN XW ta tb):=u9 Qh ltD ja jb (gU _)
def AM(ja:JE X R a ta)(jb:JE X R b tb):JE X R (.Compare a [.LtE] [b] pos) (fN fLe ta tb):=u9 Ww leD ja jb (gU _)
def ZQ(ja:JE X R a ta)(jb:JE X R b tb):JE X R (.Compare a [.GtE] [b] pos) (fN YC ta tb):=u9 Qf geD ja jb (gU _)
def OT{k:Nat}(hr:bV k X.A)(ja:JE X R a ta)(jb:JE X R b tb):JE X R (.Compare a [.Eq] [b] pos) (fN Fe ta tb):=u9 (QD.or (MX hr.Dk)) U6 ja jb (gU _)
def tq(ja:JE X R a ta)(jb:JE X R b tb):JT X R (.Compare a [.Lt] [b] pos) (jT (fN XW ta tb)):=fD Qh ltD ja jb (gU _)
def Fl(ja:JE X R a ta)(jb:JE X R b tb):JT X R (.Compare a [.Gt] [b] pos) (jT (fN Zq ta tb)):=fD V6 gtD ja jb (gU _)
def Xu(ja:JE X R a ta)(jb:JE X R b tb):JT X R (.Compare a [.GtE] [b] pos) (jT (fN YC ta tb)):=fD Qf geD ja jb (gU _)
def cR{k:Nat}(hr:bV k X.A)(ja:JE X R a ta)(jb:JE X R b tb):JT X R (.Compare a [.Eq] [b] pos) (jT (fN Fe ta tb)):=fD (QD.or (MX hr.Dk)) U6 ja jb (gU _)
def j3{k:Nat}(hr:bV k X.A)(ja:JE X R a ta)(jb:JE X R b tb):JT X R (.Compare a [.NotEq] [b] pos) (jT (fN N9 ta tb)):=fD (UR.or (SS hr.Dk)) aag ja jb (gU _)
def S6(ja:JE X R a ta)(jb:JE X R b tb):JT X R (.Compare a [.Is] [b] pos) (jT (fN TK ta tb)):=fD Kd YM ja jb (gU _)
end
noncomputable def fX(M:Ms):Dt->Option (List Dt)
 | .lst xs=>!xs
 | .tup xs=>!xs
 | .jC ns=>!(ns.map .int)
 | .kt xs=>!xs
 | .loc k=>match M[k]? with
  | some (.lst xs)=>!xs
  | _=>none
 | _=>none
set_option tactic.hygienic true in
def pd{K:fI}{H:Hp}(r:Rl K G L M H)(n:Den K G L d v)(h:fX M d=!xs):∃a vs,v= .ref a/\(gY K H a vs\/nj K H a vs)/\Υ K G L xs vs:=by
 cases d with
 | lst ds=>cases h;let(a,vs,rfl,e,m):=n;show(a,vs,rfl,.inl (.of (r.sub _ _ e)),m)
 | tup ds=>cases h;let(a,vs,rfl,e,m):=n;show(a,vs,rfl,.inr (.of (r.sub _ _ e)),m)
 | kt ds=>cases h;let(a,vs,rfl,e,m):=n;show(a,vs,rfl,.inr (r.sub.WA e),m)
 | jC ns=>cases h;let(a,rfl,e):=n;show(a,_,rfl,.inl (r.sub.seq e),jX)
 | loc k=>
  let(a,rfl,e):=n;let h:(match M[k]? with| some (.lst xs)=>!xs| _=>none)=!xs:=h;split at h
  .rename_i ys hm;cases h;let(_,vs,e1,m1):=r.fv k a _ e hm;show(a,vs,rfl,.inl (.of e1),m1)
  .cases h
 | _=>cases h
def Pf{K:fI}(n:Υ K G L ds vs)(h:ku ds i=!d):∃v,ku vs i=!v/\Den K G L d v:=by
 unfold ku at h⊢;rw[<--n];cases q:Fo (-ds) i with
 | none=>rw[q]at h;cases h
 | some j=>
  rw[q]at h;let(v,e,m):=n.get h;show(v,e,m)
noncomputable def bF:Dt->Dt->Ms->DQ->Prop
 | .str z,.int i,M,q=>-z<=sizeLine/\match ku z.cps.toList i with
  | some c=>q (.str ⟨#[c]⟩) M
  | none=>False
 | d,.int i,M,q=>match fX M d with
  | some xs=>(match ku xs i with
   | some y=>q y M
   | none=>False)
  | none=>False
 | _,_,_,_=>False
def e9:List Dt->Ms->DQ->Prop
 | [.str z],M,q=>-z<=sizeLine/\q (.int (-z)) M
 | [d],M,q=>match fX M d with
  | some xs=>q (.int (-xs)) M
  | none=>False
 | _,_,_=>False
section
variable{K:fI}
set_option tactic.hygienic true
def ixD:mY K (rIx K) bF:=by
 intro G0 L0 H0 G L M H v1 v2 d1 d2 q e r n1 n2 h;unfold bF at h;split at h
 .rename_i z i;split at h
  .rename_i c hc;show .inr (.inr (z,i,c,n1,n2,h.1,hc,bB e r h.2))
  .show h.2.elim
 .rename_i d i _;split at h
  .rename_i xs hx;split at h
   .rename_i y hy;let(a,vs,rfl,hs,m):=pd r n1 hx;let(v,e1,m1):=Pf m hy;rcases hs with hs| hs
    .show .inl (a,vs,i,v,rfl,n2,hs,e1,fin_same e r m1 h)
    .show .inr (.inl (a,vs,i,v,rfl,n2,hs,e1,fin_same e r m1 h))
   .show h.elim
  .show h.elim
 .show h.elim
def YZ:CZ K (λxs H Q=>(∃z,xs=[V.str z]/\-z<=sizeLine/\Q (.int (-z)) H)\/(∃p ys,xs=[V.ref p]/\(gY K H p ys\/nj K H p ys)/\Q (.int (-ys)) H)) e9:=by
 intro G0 L0 H0 G L M H vs ds q e r n h;unfold e9 at h;split at h
 .rename_i z;let(v,rfl,n1):=bD n;cases n1;show .inl (z,rfl,h.1,bB e r h.2)
 .rename_i d _;let(v,rfl,n1):=bD n;split at h
  .rename_i xs hx;let(a,ws,rfl,hs,m):=pd r n1 hx;show .inr (a,ws,rfl,hs,fin_same (d:=.int (-xs)) e r (by change V.int _=V.int _;rw[-m]) h)
  .show h.elim
 .show h.elim
end
section
variable{X:Cx}{R:St->XK}{a b c:Expr}{ta tb:DE}{pos:Pos}
def ω(ja:JE X R a ta)(jb:JE X R b tb)(hs:Ai b:=by exactλ_ _=>rfl):JE X R (.Subscript a b pos) (fN bF ta tb):=Vj Sr ixD ja jb hs
variable{x:Str}{p:Pos}{e:Expr}{es:List Expr}{t:DA}{id T:String}{r:List V->Hp->VK->Prop}{f:List Dt->Ms->DQ->Prop}
def hV(hc:eC X (.builtin id) r)(cd:CZ X.K r f)(hm:X.mg x=none)(hv:bootBuiltins x=!(.builtin id))(ha:JA X R (e::es) t)(hg:Gl X x|>1)(hn:x≠"__name__"|>2)(pv:(x==("__debug__":Str))=false|>2)
  (he:starEach (e::es) X.env=(false, eval e X.env)::starEach es X.env|>1) (gL:(backTo pos (starEach es X.env)).any (·.1)=false|>1):JE X R (.Call (.Name x p) (e::es) [] pos) (sA f t):=
 .of (MW hc hg hm hv ha hn pv he gL) λσ H G L ρ M q x r n h hx=>Qv cd r n h hx
def pq(hc:eC X (.type T) r)(cd:CZ X.K r f)(hm:X.mg x=none)(hv:bootBuiltins x=!(.type T))(ha:JA X R (e::es) t)(hg:Gl X x|>1)(hn:x≠"__name__"|>2)(pv:(x==("__debug__":Str))=false|>2)
  (he:starEach (e::es) X.env=(false, eval e X.env)::starEach es X.env|>1) (gL:(backTo pos (starEach es X.env)).any (·.1)=false|>1):JE X R (.Call (.Name x p) (e::es) [] pos) (sA f t):=
 .of (Js hc hg hm hv ha hn pv he gL) λσ H G L ρ M q x r n h hx=>Qv cd r n h hx
def bQ(hm:X.mg "len"=none)(ha:JA X R [e] t)(he:starEach [e] X.env=(false, eval e X.env)::starEach [] X.env|>1)(gL:(backTo pos (starEach [] X.env)).any (·.1)=false|>1)(hg:Gl X "len"|>1):JE X R (.Call (.Name "len" p) [e] [] pos) (sA e9 t):=
 hV (zu.or yv) YZ hm PySem.boot_len ha hg @_ @_ he gL
end
section
variable{X:Cx}
def yi:eC X (.type "int") (λxs H Q=>∃x n,xs=[.str x]/\PySem.intText? x=!n/\-x<=640/\Q (.int n) H):=by intro η s σ H xs us Q I rs h;let(x,n,rfl,hn,hl,q):=h;let(w,rfl,u,rfl):=k_ rs;show PySem.W.KIN.call_text hn hl (.int n,H,I.tok _,(_,rfl),q)
end
def A5:List Dt->Ms->DQ->Prop
 | [.int i],M,q=>q (.int i) M
 | [.bl b],M,q=>q (.int (if b then 1 else 0)) M
 | [.str x],M,q=>-x<=640/\match PySem.intText? x with
  | some n=>q (.int n) M
  | none=>False
 | _,_,_=>False
def TF:List Dt->Ms->DQ->Prop
 | [.int i],M,q=>q (.int (if i < 0 then - i else i)) M
 | _,_,_=>False
def MY:List Dt->Ms->DQ->Prop
 | [.int i,.int j],M,q=>q (.int (if j < i then j else i)) M
 | _,_,_=>False
def RU:List Dt->Ms->DQ->Prop
 | [d],M,q=>∃bs:List Bool,fX M d=!(bs.map Dt.bl)/\(∀k,d≠ .kt k)/\(∀k,d≠ .tup k)/\q (.bl (bs.any id)) M
 | _,_,_=>False
noncomputable def QW:Dt->Option Value
 | .bt=>!(.type "NoneType")
 | .bl _=>!(.type "bool")
 | .int _=>!(.type "int")
 | .str _=>!(.type "str")
 | .lst _=>!(.type "list")
 | .tup _=>!(.type "tuple")
 | _=>none
def Tj:Dt->Option Value
 | .ty T=>!(.type T)
 | .ref C=>!(.ref C)
 | _=>none
section
variable{K:fI}
def wZ:∀{l:List Str},Υ K G L (l.map Dt.str) (l.map V.str)
 | []=>rfl
 | _::_=>(_,_,rfl,rfl,wZ)
def pS:∀{bs:List Bool} {vs:List V},Υ K G L (bs.map Dt.bl) vs->vs=bs.map V.bl
 | [],_,h=>h
 | b::bs,_,(v,r,e,h1,h2)=>by subst e;rw[pS h2,show v=V.bl b from h1];rfl
set_option tactic.hygienic true
def acp:CZ K (λxs H Q=>((∃i,xs=[V.int i]/\Q (.int i) H)\/∃k,xs=[V.bl k]/\Q (.int (if k then 1 else 0)) H)\/∃x n,xs=[V.str x]/\PySem.intText? x=!n/\-x<=640/\Q (.int n) H) A5:=by
 intro G0 L0 H0 G L M H vs ds q e r n h;unfold A5 at h;split at h
 .rename_i i;let(v,rfl,n1):=bD n;cases n1;show .inl (.inl (i,rfl,bB e r h))
 .rename_i i;let(v,rfl,n1):=bD n;cases n1;show .inl (.inr (i,rfl,bB e r h))
 .rename_i x;let(v,rfl,n1):=bD n;cases n1;split at h
  .rename_i m hm;show .inr (x,m,rfl,hm,h.1,bB e r h.2)
  .show h.2.elim
 .show h.elim
def Zu:CZ K (λxs H Q=>∃i,xs=[V.int i]/\Q (.int (if i < 0 then - i else i)) H) TF:=by
 intro G0 L0 H0 G L M H vs ds q e r n h;unfold TF at h;split at h
 .rename_i i;let(v,rfl,n1):=bD n;cases n1;show(i,rfl,bB e r h)
 .show h.elim
def acq:CZ K (λxs H Q=>∃i j,xs=[V.int i,.int j]/\Q (.int (if j < i then j else i)) H) MY:=by
 intro G0 L0 H0 G L M H vs ds q e r n h;unfold MY at h;split at h
 .rename_i i j;let(v,u,rfl,n1,n2):=d7 n;cases n1;cases n2;show(i,j,rfl,bB e r h)
 .show h.elim
def aa3:CZ K (WN K) RU:=by
 intro G0 L0 H0 G L M H vs ds q e r n h;unfold RU at h;split at h
 .rename_i d;let(bs,hs,nk,nt,h):=h;let(v,rfl,n1):=bD n;cases d with
  | lst xs=>
   cases hs;let(a,ws,rfl,e1,m):=n1;show(a,bs,rfl,by rw[<-pS m];show .of (r.sub _ _ e1),bB e r h)
  | loc k=>
   let(a,rfl,e1):=n1;let hs:(match M[k]? with| some (.lst xs)=>!xs| _=>none)=!(bs.map Dt.bl):=hs;split at hs
   .rename_i ys hm;cases hs;let(_,ws,e2,m):=r.fv k a _ e1 hm;show(a,bs,rfl,by rw[<-pS m];show .of e2,bB e r h)
   .cases hs
  | tup xs=>show abc rfl (nt xs)
  | kt xs=>show abc rfl (nk xs)
  | jC ns=>
   let e0:ns.map Dt.int=bs.map Dt.bl:=aaI hs;cases ns with
   | nil=>
    cases bs with
    | nil=>let(a,rfl,e1):=n1;show(a,[],rfl,r.sub.seq e1,bB e r h)
    | cons _ _=>cases e0
   | cons _ _=>
    cases bs with
    | nil=>cases e0
    | cons _ _=>cases e0
  | _=>cases hs
 .show h.elim
def Iq{H:Hp}(r:Rl K G L M H)(n:Den K G L d v)(h:QW d=!t):l_ K H v t:=by
 cases d with
 | bt=>cases h;cases n;show .bt
 | bl b=>cases h;cases n;show .bl _
 | int i=>cases h;cases n;show .int _
 | str x=>cases h;cases n;show .str _
 | lst xs=>cases h;let(a,ws,rfl,e,_):=n;show .lst (r.sub _ _ e)
 | tup xs=>cases h;let(a,ws,rfl,e,_):=n;show .tup (r.sub _ _ e)
 | _=>cases h
def GQ{t:Value}(n:Den K G L d v)(h:Tj d=!t):Mv v=!t:=by
 cases d with
 | ty T=>cases n;show h
 | ref C=>cases n;show h
 | _=>cases h
end
section
variable{X:Cx}{R:St->XK}{o a e e1 e2:Expr}{es:List Expr}{to ta te:DE}{t:DA}{name:Str}{apos cN pos p p2:Pos}{T id:String}
def xg:bootBuiltins "int"=!(.type "int"):=by decide+kernel
def Im:bootBuiltins "abs"=!(.builtin "abs"):=by decide+kernel
def IE:bootBuiltins "any"=!(.builtin "any"):=by decide+kernel
def Hr:bootBuiltins "min"=!(.builtin "min"):=by decide+kernel
def jV:bootBuiltins "isinstance"=!(.builtin "isinstance"):=by decide+kernel
def DJ:bootBuiltins "bool"=!(.type "bool"):=by decide+kernel
def mn:bootBuiltins "tuple"=!(.type "tuple"):=by decide+kernel
def kM:bootBuiltins "list"=!(.type "list"):=by decide+kernel
def Bp{T:String}(hm:X.mg x=none)(hv:bootBuiltins x=!(.type T))(hg:Gl X x|>1)(hn:x≠"__name__"|>2)(hd:(x==("__debug__":Str))=false|>2):JE X R (.Name x p) (dC (.ty T)):=S5 (NS (v:=.ty T) hg hm hv rfl hn hd) λ_ _=>rfl
def uF(hm:∃tk,X.mg x=!(.int z tk))(hg:Gl X x|>1)(hd:(x==("__debug__":Str))=false|>2):JE X R (.Name x p) (dC (.int z)):=let (tk,hm):=hm;S5 (GL (v:=.int z) hg hm (tk,rfl) hd) λ_ _=>rfl
end
def Yp(x:Str):It:=(λi _=>i < x.cps.size,λi H v H'=>H'=H/\∃c,x.cps[i]? =!c/\v= .str ⟨#[c]⟩,λi _=>x.cps.size<=i)
def HW{K:fI}(x:Str)(t:Tok)(it:Addr):Turn P w K tg (Yp x) [it] it (λi h=>h.IsStrIter it "str_ascii_iterator" x t i) where
 mem:=by simp
 obj:=λi h st b hb=>by
  let e:b=it:=by simpa using hb
  subst e;let(o,e,c,d):=st;show(o,e,λv z=>by rw[d]at z;cases z)
 keep:=λi h h' st k=>let (o,ho,r):=st;(o,k it (by simp) o ho,r)
 item:=by intro X hP hw hK hc i η s σ H E I hf st hg;subst hP hw hK;let(f0,f1,f2,f3,f4,f5):=hf it (by simp);let hg:i < x.cps.size:=hg;show wpAny_pyNext_ascii_item st (c:=x.cps[i]) (by simp[hg]) λh' An sb=>?_;let I1:Inv X η σ H {s with heap:=h',toks:=s.toks+1}:=I.turned (λb o hb e=>(sb.2 b hb).trans e) f0 f1 f3 f4 f5;let(o,e,c,d):=id An;show(_,rfl,xk (s:={s with heap:=h',toks:=s.toks+1}) e c d @_ (.str ⟨#[x.cps[i]]⟩,H,I1,(_,rfl),(rfl,_,by simp[hg],rfl),An,λb hb=>(hf b hb).1))
 done:=by intro X hP hw hK hc i η s σ H E I hf st hg;subst hP hw hK;let(f0,f1,f2,f3,f4,f5):=hf it (by simp);let hg:x.cps.size<=i:=hg;show wpAny_pyNext_ascii_end (I.ok.hd hc) st (by simp;omega) λh' eb=>(rfl,I.turned (t':=s.toks) (λb o hb e=>eb b o hb e) f0 f1 f3 f4 f5)
 self:=λ_ _ _ _ _ st h=>wpAny_pyIter_striter_ascii st h
def Je{K:fI}(x:Str)(t:Tok)(it:Addr):Turn P w K tg (Yp x) [it] it (λi h=>h.IsStrIter it "str_iterator" x t i) where
 mem:=by simp
 obj:=λi h st b hb=>by
  let e:b=it:=by simpa using hb
  subst e;let(o,e,c,d):=st;show(o,e,λv z=>by rw[d]at z;cases z)
 keep:=λi h h' st k=>let (o,ho,r):=st;(o,k it (by simp) o ho,r)
 item:=by intro X hP hw hK hc i η s σ H E I hf st hg;subst hP hw hK;let(f0,f1,f2,f3,f4,f5):=hf it (by simp);let hg:i < x.cps.size:=hg;show wpAny_pyNext_wide_item st (c:=x.cps[i]) (by simp[hg]) λh' An sb=>?_;let I1:Inv X η σ H {s with heap:=h',toks:=s.toks+1}:=I.turned (λb o hb e=>(sb.2 b hb).trans e) f0 f1 f3 f4 f5;let(o,e,c,d):=id An;show(_,rfl,xk (s:={s with heap:=h',toks:=s.toks+1}) e c d @_ (.str ⟨#[x.cps[i]]⟩,H,I1,(_,rfl),(rfl,_,by simp[hg],rfl),An,λb hb=>(hf b hb).1))
 done:=by intro X hP hw hK hc i η s σ H E I hf st hg;subst hP hw hK;let(f0,f1,f2,f3,f4,f5):=hf it (by simp);let hg:x.cps.size<=i:=hg;show wpAny_pyNext_wide_end (I.ok.hd hc) st (by simp;omega) λh' eb=>(rfl,I.turned (t':=s.toks) (λb o hb e=>eb b o hb e) f0 f1 f3 f4 f5)
 self:=λ_ _ _ _ _ st h=>wpAny_pyIter_striter_wide st h
def zB(z:Str):List Dt:=z.cps.toList.map λc=>Dt.str ⟨#[c]⟩
def TC{K:fI}:Yl K (Yp z) (zB z) G L where
 go :=λi G1 L1 M1 H1 d g l r e=>by
  unfold zB at e;rw[aaw]at e;cases q:z.cps.toList[i]? with
  | none=>rw[q]at e;cases e
  | some c=>
   rw[q]at e;cases e;let hi:i < z.cps.size:=by have:=(aae.mp q).1;simpa using this
   show(hi,λv' H' xz=>?_);let(eH,c',e',y):=xz;subst eH y;have:c'=c:=by rw[<-Array.getElem?_toList,q]at e';show(aaI e').symm
   subst this;show(G1,.refl _ _ _,r,rfl)
 stop:=λi G1 L1 M1 H1 g l r e=>by unfold zB at e;change z.cps.size<=i;simpa using e
noncomputable def VF(M:Ms):Dt->Option (List Dt)
 | .lst xs=>!xs
 | .tup xs=>!xs
 | .jC ns=>!(ns.map .int)
 | .kt xs=>!xs
 | .str z=>!(zB z)
 | _=>none
section
variable{X:Cx}{R:St->XK}{tg e:Expr}{te:DE}
def zd{H:Hp}{Q:It->Hp->Prop}(I:Inv X η σ H s)(hq:gY X.K H a vs)(q:Q (XY X.K a) H):wpAny (model X.prog X.w) X.A (pyIter (.ref a)) (Np X η σ tg Q) E s:=by
 let(its,rv,p,hz):=I.list hq;show wpAny_pyIter_list p.isList ?_;show(s.heap.objs.size,[s.heap.objs.size],_,_,H,rfl,I.kept (t':=s.toks) λb o e=>aar _ e,Iv a _,(_,abn _ rfl,rfl,rfl),λb hb=>?_,q);let e:b=s.heap.objs.size:=by simpa using hb
 subst e;show I.E8 (aas _) (I.aN.fresh (aas _))
def LR{H:Hp}{Q:It->Hp->Prop}(I:Inv X η σ H s)(hq:nj X.K H a vs)(q:Q (Itt X.K a) H):wpAny (model X.prog X.w) X.A (pyIter (.ref a)) (Np X η σ tg Q) E s:=by
 let(its,rv,p,hz):=I.tuple hq;show wpAny_pyIter_tuple (show s.heap.IsTuple a its.toArray from p) ?_;show(s.heap.objs.size,[s.heap.objs.size],_,_,H,rfl,I.kept (t':=s.toks) λb o e=>aar _ e,C7 a _,(_,abn _ rfl,rfl,rfl),λb hb=>?_,q);let e:b=s.heap.objs.size:=by simpa using hb
 subst e;show I.E8 (aas _) (I.aN.fresh (aas _))
def Tb{H:Hp}{Q:It->Hp->Prop}(I:Inv X η σ H s)(q:Q (Yp z) H):wpAny (model X.prog X.w) X.A (pyIter (.str z t)) (Np X η σ tg Q) E s:=by
 let fp:∀b∈[s.heap.objs.size],u6 X η H b:=λb hb=>by
  let e:b=s.heap.objs.size:=by simpa using hb
  subst e;show I.E8 (aas _) (I.aN.fresh (aas _))
 cases ha:z.cps.all (· < 128)
 .show wpAny_pyIter_wide ha (s.heap.objs.size,[s.heap.objs.size],_,_,H,rfl,I.kept (t':=s.toks) λb o e=>aar _ e,Je z t _,(_,abn _ rfl,rfl,rfl),fp,q)
 .show wpAny_pyIter_ascii ha (s.heap.objs.size,[s.heap.objs.size],_,_,H,rfl,I.kept (t':=s.toks) λb o e=>aar _ e,HW z t _,(_,abn _ rfl,rfl,rfl),fp,q)
end
def RY:DF:=λds _ q _=>∃ns:List Int,ds=[.jC ns]/\-ns<=63/\∀M',q (.bl true) M'
def Cz(K:fI):Sp:=λvs H Q _=>∃(a:Addr) (ns:List Int),vs=[.ref a]/\gY K H a (ns.map V.int)/\-ns<=63/\∀H',Q (.bl true) H'
def SA{K:fI}{k:Nat}{x:Str}(F:aq P w K mg base (b9 P w) k f fd [x] (cM K RY)):aq P w K mg base X6 k f fd [x] (Cz K):=by
 let sp:∀vs H Q E,Cz K vs H Q E->cM K RY vs H Q E0:=by rintro vs H Q E ⟨a,ns,rfl,hS,hl,hQ⟩;show(H,[],[.jC ns],[],λd _=>d= .bl true,λ_ _ _=>False,(.refl _,rfl,List.nodup_nil,λk a m h=>by simp at h),(_,_,rfl,(a,rfl,hS),rfl),(ns,rfl,hl,λ_=>rfl),fun v H' (d,G',L',M',_,_,n,e)=>?_,λ_ _ _ _ _ _ _ h=>h.elim);subst e;rw[show v=V.bl true from n];show hQ H'
 show(λvs H Q E h=>F.len vs H Q E0 (sp vs H Q E h),λA outer s H args us vs Q E hr he hb hv h=>codeAny_mono (F.run A outer s H args us vs Q E0 hr he hb hv (sp vs H Q E h)) λr s' hq=>?_);cases r with
 | error e=>
  let(_,_,_,_,_,_,_,_,hE):=hq;show hE.elim
 | ok fl=>cases fl <;> show hq
def SN(c:DT)(tb:DS):DS:=λDn ρ M=>∃W:Nat->En->Ms->Prop,(∃m,W m ρ M)/\∀m ρ M,W m ρ M->
 c ρ M (λb M1=>(b=true->∃N:En->Ms->Prop,(∀ρ' M',N ρ' M'->∃m',m' < m/\W m' ρ' M')/\tb {Dn with nx:=N,ct:=N,bk:=Dn.nx} ρ M1)/\(b=false->Dn.nx ρ M1)) Dn.x
def Zf(i j:Nat)(t:DA):DS:=λDn ρ M=>t ρ M (λds M1=>match ds with
 | [a,b]=>Dn.nx ((ρ.set i (!a)).set j (!b)) M1
 | _=>False) Dn.x
section
variable{X:Cx}{R:St->XK}{c a b:Expr}{body:List Stmt}{tc:DT}{tb:DS}{pos:Pos}
def pV(hc:JT X R c tc)(hb:Fh X R body tb)(hp:PassesOwn (model X.prog X.w) X.A X.env X.xe|>5):JS X R (.While c body [] pos) (SN tc tb):=.of (MS hp hc hb) λσ H G L ρ M Dn rl n h hx=>by
 let(W,(m0,w0),turn):=h;show(λm σ' H'=>fM X.K G L H (W m) σ' H',(m0,ρ,G,L,M,.refl _ _ _,rl,n,w0),λm σ' H' xz=>?_);let(ρ',G',L',M',e',r',n',w'):=xz;show(G',L',ρ',M',_,_,r',n',turn m ρ' M' w',hx.on e',λv H1 xz=>?_);let(G1,L1,M1,e1,r1,h1):=xz;cases v with
 | true=>
  let(N,hN,hb):=h1.1 rfl;show IP (fM X.K G L H N,fun σ2 H2 (ρ2,G2,L2,M2,e2,r2,n2,h2)=>?_,?_)
  .let(m',hm,w2):=hN ρ2 M2 h2;show(m',hm,ρ2,G2,L2,M2,e2,r2,n2,w2)
  .let WJ:=e'.trans e1;show(G1,L1,ρ',M1,_,r1,n'.mono e1,hb,hx.on WJ,(λ_ _ f=>fM.back WJ f,λ_ _ f=>Fin.back WJ f,λ_ _ f=>fM.back WJ f,λ_ _ f=>fM.back WJ f))
 | false=>show HK (ρ',G1,L1,M1,e'.trans e1,r1,n'.mono e1,h1.2 rfl)
def J4{i j:Nat}{kt k2 RL}(hN:X.N.Nodup)(hi:X.N[i]? =!x)(hj:X.N[j]? =!y)(ha:JA X R [a,b] t)(hij:i≠j|>2)
  (hx:X.env.scope.names.lookup x=some .local|>1) (hy:X.env.scope.names.lookup y=some .local|>1)
  (hw:swappedStores [.Tuple [.Name x px,.Name y py] kt pt] (.Tuple [a,b] k2 RL) X.env=pure (![x,y])|>1) (hc:X.calm=true|>1)
  (hs:swapsWithSole [.Tuple [.Name x px,.Name y py] kt pt] (.Tuple [a,b] k2 RL) pos.line X.env=pure false|>1):
  JS X R (.Assign [.Tuple [.Name x px,.Name y py] kt pt] (.Tuple [a,b] k2 RL) pos) (Zf i j t):=.of (RS hc hN hi hj hij hx hy ha hw hs) λσ H G L ρ M Dn rl n h hx=>by
 show(G,L,ρ,M,_,_,rl,n,h,hx,λvs H1 xz=>?_);let(ds,G1,L1,M1,e1,r1,n1,h1):=xz
 (try dsimp only at h1)
 split at h1
 .let(v,u,rfl,m1,m2):=d7 n1;show(v,u,rfl,_,G1,L1,M1,e1,r1,((n.mono e1).set i m1).set j m2,h1)
 .show h1.elim
end
section
variable{X:Cx}{R:St->XK}{e e2 o:Expr}{es:List Expr}{t:DA}{to ta tb:DE}{a b:Expr}{p pos apos cN:Pos}
def Gx(hm:X.mg "abs"=none)(ha:JA X R [e] t)(he:starEach [e] X.env=(false, eval e X.env)::starEach [] X.env|>1)(gL:(backTo pos (starEach [] X.env)).any (·.1)=false|>1)(hg:Gl X "abs"|>1):JE X R (.Call (.Name "abs" p) [e] [] pos) (sA TF t):=
 hV MN Zu hm Im ha hg @_ @_ he gL
def XE(hm:X.mg "min"=none)(ha:JA X R [e,e2] t)(hc:X.calm=true|>1)(he:starEach [e,e2] X.env=(false, eval e X.env)::starEach [e2] X.env|>1)(gL:(backTo pos (starEach [e2] X.env)).any (·.1)=false|>1)(hg:Gl X "min"|>1):JE X R (.Call (.Name "min" p) [e,e2] [] pos) (sA MY t):=
 hV (IG hc) acq hm Hr ha hg @_ @_ he gL
def Wv(hm:X.mg "any"=none)(ha:JA X R [e] t)(hc:X.calm=true|>1)(he:starEach [e] X.env=(false, eval e X.env)::starEach [] X.env|>1)(gL:(backTo pos (starEach [] X.env)).any (·.1)=false|>1)(hg:Gl X "any"|>1):JE X R (.Call (.Name "any" p) [e] [] pos) (sA RU t):=
 hV (MH hc) aa3 hm IE ha hg @_ @_ he gL
def Qs(hm:X.mg "int"=none)(ha:JA X R [e] t)(he:starEach [e] X.env=(false, eval e X.env)::starEach [] X.env|>1)(gL:(backTo pos (starEach [] X.env)).any (·.1)=false|>1)(hg:Gl X "int"|>1):JE X R (.Call (.Name "int" p) [e] [] pos) (sA A5 t):=
 pq (HI.or yi) acp hm xg ha hg @_ @_ he gL
end
def qZ{te:DE}{cs:En}{f:Dt->Dt}{k:List Dt->Ms->Prop}:∀(xs Ι:List Dt),(∀x∈xs,∀q:DQ,q (f x) M->te ((!x)::cs) M q nc)->k (Ι++xs.map f) M->A8 te cs xs Ι M k
 | [],Ι,_,h=>by rw[ads,abU]at h;show h
 | x::xs,Ι,ht,h=>ht x List.mem_cons_self _ (qZ xs (Ι++[f x]) (λy hy=>ht y (List.mem_cons_of_mem _ hy)) (by simpa using h))
def Δ{q:DQ}(hs:fX M d=!xs)(h:ku xs i=!y)(k:q y M):bF d (.int i) M q:=by
 cases d with
 | str z=>cases hs
 | _=>
  unfold bF;simp only[hs,h];show k
def ag{xs:List Dt}{q:DQ}(hs:fX M d=!xs)(k:q (.int (-xs)) M):e9 [d] M q:=by
 cases d with
 | str z=>cases hs
 | _=>
  unfold e9;simp only[hs];show k
def aw{α:Type}{x:α}{xs:List α}:ku (x::xs) 0=!x:=Θ (j:=0) rfl
def Jx(bs:List Bool):(List.range (-bs)).all (λi=>bs.getD i false)=bs.all id:=by
 induction bs with
 | nil=>rfl
 | cons b bs ih=>
  rw[aaQ,acH,ac7,List.all_map,ac7,<-ih];rfl
def Xn(K:fI):List V->Hp->VK->Prop:=λxs H Q=>∃(p:Addr) (bs:List Bool),xs=[.ref p]/\gY K H p (bs.map V.bl)/\Q (.bl (bs.all id)) H
section
variable{X:Cx}
def K' (hc : X.calm = true) : eC X (.builtin "all") (Xn X.K) :=by
  intro η s σ H xs us Q I r h;obtain⟨p,bs,rfl,hq,q⟩ :=h;obtain⟨u,rfl,r1⟩ :=k_ r;cases r1;obtain⟨its,rv,pl,hz⟩ :=I.list hq;let Rx :=Au rv;subst Rx;show call_all_walk (wpAny_pyIter_list pl.isList ?_);let lp : p < s.heap.objs.size :=by obtain⟨o,e,_⟩ :=pl.isList;show aaM e
  show(s.heap.objs.size,_,_,_,_,_,λi =>bs.getD i false,rfl,Walks.list (show X.A.in1.handled = none from I.ok.hd hc) s.heap.objs.size p (abr lp) (bs.map Value.bool).toArray,((_,abn _ rfl,rfl,rfl),pl.isList.at λo e =>aar _ e),AG,λh' tk hk =>?_);show(.bl (bs.all id),H,I.kept λb o e =>hk b o (λz =>by have : b = s.heap.objs.size :=(by simpa using z);show Nat.lt_irrefl _ (this ▸ Heap.lt_size e)) (Heap.get?_push_of_some _ e),?_,q);rw[aaY,aac,Jx];rfl
end
def S_:List Dt->Ms->DQ->Prop
 | [.lst xs],M,q=>∃bs:List Bool,xs=bs.map Dt.bl/\q (.bl (bs.all id)) M
 | _,_,_=>False
set_option tactic.hygienic true in
def abT{K:fI}:CZ K (Xn K) S_:=by
 intro G0 L0 H0 G L M H vs ds q e r n h;unfold S_ at h;split at h
 .rename_i xs;let(bs,rfl,h):=h;let(v,rfl,n1):=bD n;let(a,ws,rfl,e1,m):=n1;show(a,bs,rfl,by rw[<-pS m];show .of (r.sub _ _ e1),bB e r h)
 .show h.elim
def UT(i j:Nat)(t:DE):DS:=λDn ρ M=>t ρ M (λd M1=>match d with
 | .tup [a,b]=>Dn.nx ((ρ.set i (!a)).set j (!b)) M1
 | _=>False) Dn.x
section
variable{X:Cx}{R:St->XK}{e o:Expr}{es:List Expr}{t:DA}{to te:DE}{p pos apos cN:Pos}
def Iu:bootBuiltins "all"=!(.builtin "all"):=by decide+kernel
def Q7(hm:X.mg "all"=none)(ha:JA X R [e] t)(hc:X.calm=true|>1)(he:starEach [e] X.env=(false, eval e X.env)::starEach [] X.env|>1)(gL:(backTo pos (starEach [] X.env)).any (·.1)=false|>1)(hg:Gl X "all"|>1):JE X R (.Call (.Name "all" p) [e] [] pos) (sA S_ t):=
 hV (K' hc) abT hm Iu ha hg @_ @_ he gL
variable{i j k:Nat}{tg:Expr}
set_option tactic.hygienic true
def Ov(he:JE X R e te)(hg:PG X tg (Hj X.K 2 (kW (gX i) (kW (gX j) Jl))))(hs:swapsWithSole [tg] e pos.line X.env=pure false|>1)(hw:swappedStores [tg] e X.env=pure none|>1)
  (h1:(assignEach [tg] X.env).map (·.2)=[assign tg X.env]|>1):JS X R (.Assign [tg] e pos) (UT i j te):=.of (K2 he hg hs hw h1) λσ H G L ρ M Dn rl n h hx=>by
 show(G,L,ρ,M,_,_,rl,n,h,hx,λv H1 xz=>?_);let(d1,G1,L1,M1,e1,r1,n1,h1):=xz
 (try dsimp only at h1)
 split at h1
 .rename_i a b;let(p,vs,rfl,e,m):=n1;let(v1,v2,rfl,m1,m2):=d7 m;show(p,_,rfl,.inl (.inl (r1.sub _ _ e)),rfl,v1,_,rfl,v2,_,rfl,rfl,_,G1,L1,M1,e1,r1,((n.mono e1).set i m1).set j m2,h1)
 .show h1.elim
end
mutual
def Dt.under(n:Nat):Dt->Prop
 | .bt=>True
 | .bl _=>True
 | .int _=>True
 | .str _=>True
 | .tup ds=>Dt.cB n ds
 | .lst ds=>Dt.cB n ds
 | .obj _ _ ds=>Dt.cB n ds
 | .loc k=>k < n
 | .ref _=>True
 | .ty _=>True
 | .jC _=>True
 | .kt ds=>Dt.cB n ds
 | .exc _ _ ds=>Dt.cB n ds
 | .UJ _ _ _ _ ds=>Dt.cB n ds
def Dt.cB(n:Nat):List Dt->Prop
 | []=>True
 | d::ds=>Dt.under n d/\Dt.cB n ds
end
def MO.under(n:Nat):MO->Prop
 | .lst ds=>Dt.cB n ds
 | .ins _ _ ds=>Dt.cB n ds
 | .cZ _ ds=>Dt.cB n ds
 | .raw _=>True
mutual
inductive JJ(n:Nat)(E:Ms):Dt->Dt->Prop
 | old {d:Dt} (h:d.under n):JJ n E d d
 | tup {ds es:List Dt} (h:kH n E ds es):JJ n E (.tup ds) (.tup es)
 | lst {ds es:List Dt} (h:kH n E ds es):JJ n E (.lst ds) (.lst es)
 | obj {C:Addr} {ns:List Str} {ds es:List Dt} (h:kH n E ds es):JJ n E (.obj C ns ds) (.obj C ns es)
 | L7 {k:Nat} {ds es:List Dt} (hk:n<=k) (e:E[k - n]? =!(.lst ds)) (h:kH n E ds es):JJ n E (.loc k) (.lst es)
 | abi {k:Nat} {C:Addr} {ns:List Str} {ds es:List Dt} (hk:n<=k) (e:E[k - n]? =!(.ins C ns ds)) (h:kH n E ds es):JJ n E (.loc k) (.obj C ns es)
inductive kH(n:Nat)(E:Ms):List Dt->List Dt->Prop
 | nil:kH n E [] []
 | cons {d e:Dt} {ds es:List Dt} (h:JJ n E d e) (t:kH n E ds es):kH n E (d::ds) (e::es)
end
def kH.length:∀{ds es:List Dt},kH n E ds es->-ds=-es
 | [],es,h=>by cases h;rfl
 | d::ds,es,h=>by
  cases h with
  | cons h t=>rw[aaQ,aaQ,kH.length t]
def kH.old:∀{ds:List Dt},Dt.cB n ds->kH n E ds ds
 | [],_=>.nil
 | _::_,h=>.cons (.old h.1) (kH.old h.2)
section
variable{K:fI}{G G':Hp}{L0 t:List Addr}{n:Nat}
mutual
def x6(hn:-L0=n)(g:e_ G G'):∀(d:Dt) (v:V),d.under n->Den K G (L0++t) d v->Den K G' L0 d v
 | .bt,_,_,h=>h
 | .bl _,_,_,h=>h
 | .int _,_,_,h=>h
 | .str _,_,_,h=>h
 | .tup ds,_,u,(a,vs,e,h1,h2)=>(a,vs,e,g _ _ h1,cx hn g ds vs u h2)
 | .lst ds,_,u,(a,vs,e,h1,h2)=>(a,vs,e,g _ _ h1,cx hn g ds vs u h2)
 | .obj C ns ds,_,u,(a,dx,vs,e,h1,hl,h2)=>(a,dx,vs,e,g _ _ h1,hl,cx hn g ds vs u h2)
 | .loc k,_,u,(a,e,h1)=>(a,e,by
   let u:k < n:=u
   rwa[aaJ (by rw[hn];show u)]at h1)
 | .ref _,_,_,h=>h
 | .ty _,_,_,h=>h
 | .jC _,_,_,(a,e,h1)=>(a,e,g.seq h1)
 | .kt ds,_,u,(a,vs,e,h1,h2)=>(a,vs,e,g.WA h1,cx hn g ds vs u h2)
 | .exc _ _ ds,_,u,(a,od,vs,e,h1,h2,h3,h4)=>(a,od,vs,e,g _ _ h1,h2.imp (λz=>z) (λ(dx,z1,z2)=>(dx,z1,g _ _ z2)),h3,cx hn g ds vs u h4)
 | .UJ _ _ _ _ ds,_,u,(vs,e,h2,h3,h4)=>(vs,e,h2.imp (λz=>z) (λ(dx,z1,z2)=>(dx,z1,g _ _ z2)),h3,cx hn g ds vs u h4)
def cx(hn:-L0=n)(g:e_ G G'):∀(ds:List Dt) (vs:List V),Dt.cB n ds->Υ K G (L0++t) ds vs->Υ K G' L0 ds vs
 | [],_,_,h=>h
 | d::ds,_,u,(v,r,e,h1,h2)=>(v,r,e,x6 hn g d v u.1 h1,cx hn g ds r u.2 h2)
end
def Ih{H:Hp}(hn:-L0=n)(g:e_ G G'){m:MO}(u:m.under n)(h:JL K G (L0++t) H a m):JL K G' L0 H a m:=by
 cases m with
 | lst ds=>let(vs,e,h):=h;show(vs,e,cx hn g _ _ u h)
 | ins C ns ds=>let(dx,vs,e,hl,h):=h;show(dx,vs,e,hl,cx hn g _ _ u h)
 | cZ ks ds=>let(vs,e,hl,h):=h;show(vs,e,hl,cx hn g _ _ u h)
 | raw u=>show h
end
open Classical in
noncomputable def sE(G H:Hp)(t:List Addr):Hp:=λb=>if b∈t then H b else G b
def GC{H:Hp}{t:List Addr}{b:Addr}(h:b∈t):sE G H t b=H b:=by unfold sE;rw[if_pos h]
def pN{H:Hp}{t:List Addr}{b:Addr}(h:b∉t):sE G H t b=G b:=by unfold sE;rw[if_neg h]
section
variable{K:fI}{G:Hp}{L0 t:List Addr}{M0 E:Ms}{H:Hp}
def jN(r:Rl K G (L0++t) (M0++E) H):e_ G (sE G H t):=λb u e=>by
 by_cases hb:b∈t
 .let(_,_,_,_,g,_):=r.za (a:=b) (aaP _ hb);rw[g]at e;cases e
 .rw[pN hb];show e
def KS(r:Rl K G (L0++t) (M0++E) H)(hn:-L0=-M0){k:Nat}(hk:-M0<=k)(e:(L0++t)[k]? =!a)(em:E[k - -M0]? =!m):sE G H t a=H a/\JL K G (L0++t) H a m:=by
 let e2:(M0++E)[k]? =!m:=by rw[aaB hk];show em
 let(_,q):=r.fv k a m e e2;rw[aaB (by rw[hn];show hk)]at e;show(GC (aao e),q)
def OU(r:Rl K G (L0++t) (M0++E) H)(hn:-L0=-M0)(f:JJ (-M0) E d d'):∀v,Den K G (L0++t) d v->Den K (sE G H t) L0 d' v:=by
 show JJ.rec (motive_1:=λd d' _=>∀v,Den K G (L0++t) d v->Den K (sE G H t) L0 d' v) (motive_2:=λds es _=>∀vs,Υ K G (L0++t) ds vs->Υ K (sE G H t) L0 es vs) ?_ ?_ ?_ ?_ ?_ ?_ ?_ ?_ f
 .exactλ{d} u v h=>x6 hn (jN r) d v u h
 .exactλ{ds es} f ih v (a,vs,e,h1,h2)=>(a,vs,e,jN r _ _ h1,ih vs h2)
 .exactλ{ds es} f ih v (a,vs,e,h1,h2)=>(a,vs,e,jN r _ _ h1,ih vs h2)
 .exactλ{C ns ds es} f ih v (a,dx,vs,e,h1,hl,h2)=>(a,dx,vs,e,jN r _ _ h1,hl.trans (-f),ih vs h2)
 .intro k ds es hk em f ih v ⟨a,e,h1⟩;let(o,vs,e1,h2):=KS r hn hk h1 em;show(a,vs,e,o.trans e1,ih vs h2)
 .intro k C ns ds es hk em f ih v ⟨a,e,h1⟩;let(o,dx,vs,e1,hl,h2):=KS r hn hk h1 em;show(a,dx,vs,e,o.trans e1,hl.trans (-f),ih vs h2)
 .exactλvs h=>h
 .exactλ{d e ds es} f t ih1 ih2 vs (v,r,e,h1,h2)=>(v,r,e,ih1 v h1,ih2 r h2)
end
def ZN(n:Nat)(q:DQ):DQ:=λd M=>∃M' E d',M=M'++E/\-M'=n/\(∀m∈M',MO.under n m)/\JJ n E d d'/\q d' M'
def Fin.w4{K:fI}{q:DQ}{H:Hp}(r0:Rl K G0 L0 M0 H0)(f:Fin K G0 L0 H0 (ZN (-M0) q) v H):Fin K G0 L0 H0 q v H:=by
 let(d,G,L,M,ex,r,dn,M',E,d',rfl,hl,hu,fz,hq):=f;let(t,rfl):=ex.l;let hn:-L0=-M':=by rw[hl];show r0.len
 let dis:∀b,b∈L0->b∉t:=λb h1 h2=>(adE.mp r.nd).2.2 b h1 b h2 rfl;let sm:=jN r;show(d',sE G H t,L0,M',(ex.g.trans sm,.refl _,λb h1 h2=>?_,ex.out,λb h=>.inl h,ex.FD),(λb u e=>?_,hn,(adE.mp r.nd).1,λk a m h1 h2=>?_),OU r hn (hl▸fz) v dn,hq)
 .let hb:b∉t:=λz=>(ex.new b (aaP _ z)).elim (λy=>dis b y z) h2;rw[pN hb];show ex.fr b h1 h2
 .by_cases hb:b∈t
  .rw[GC hb]at e;show e
  .rw[pN hb]at e;show r.sub b u e
 .let k1:k < -L0:=(aae.mp h1).1;let e1:(L0++t)[k]? =!a:=by rw[aaJ k1];show h1
  let e2:(M'++E)[k]? =!m:=by rw[aaJ (by rw[<-hn];show k1)];show h2
  let(g,q):=r.fv k a m e1 e2;show(by rw[pN (dis a (aao h1))];show g,Ih (n:=-M') hn sm (by rw[hl];show hu m (aao h2)) q)
section
variable{X:Cx}{R:St->XK}{e:Expr}{t:DE}
def ia{st:Stmt}:JS X R st (λ_ _ _=>False):=λ_ _ _ _ _ _ (_,_,_,_,_,_,_,h,_,_)=>h.elim
end
def Ls(C:Addr)(m:Str)(sp:Sp)(pW:List V)(R:St->XK)(ta:TE)(t:TA):TE:=λσ H Q=>ta σ H λx H1=>∃a dx fs,x= .ref a/\H1 a=!(.ins C dx fs)/\fs.lookup m=none/\
 t σ H1 λvs H2=>sp (x::(vs++pW)) H2 Q (R σ)
def SY(C:Addr)(sp:Sp)(pW:List V)(R:St->XK)(t:TA):TE:=λσ H Q=>t σ H λvs H1=>∀x dx,H1 x=none->H1 dx=none->dx≠x->
 sp (.ref x::(vs++pW)) (upd (upd H1 dx (.own x)) x (.ins C dx [])) (λv H2=>v= .bt/\Q (.ref x) H2) (R σ)
section
variable{X:Cx}{CX:C2}{k:Nat}{f C:Addr}{fd:FuncData}{ps:List Str}{sp:Sp}{pW:List V}{ds:List Value}{R:St->XK}{x m:Str}{p pos apos:Pos}{e o:Expr}{es:List Expr}{ta:TE}{t:TA}
def Lz(he:PE X o ta)(c:GY X.K C)(hm:P8 X.K C m f)(F:aq X.prog X.w X.K X.mg X.base CX k f fd ps sp)(hr:bV k X.A)(hb:jd X.K fd ps ds)(hd:aD pW ds)(hx:eB CX X R)(ha:PA X (e::es) t)
  (Ud:starEach (e::es) X.env=(false, eval e X.env)::starEach es X.env|>1) (gL:(backTo pos (starEach es X.env)).any (·.1)=false|>1)
  (ht:eval (.Call (.Attribute o m apos) (e::es) [] pos) X.env=(do
   let  ov<-eval o X.env
   standAt apos.atName
   let (f, first)<-holding [ov] (getMethod ov m pl)
   callWith pos f first (backTo pos (starEach (e::es) X.env)) (backToKw pos (keywordEach [] X.env)))|>1):
  PE X (.Call (.Attribute o m apos) (e::es) [] pos) (Ls C m sp pW R ta t):=by
 intro η s σ H Q I h;show PySem.W.methodCall_KW (pl:=pl) (bP (he η s σ H _ I h) λu s1 xz=>?_) ht;let(x,H1,I1,rx,a,dx,fs,ex,ea,l,q):=xz;subst ex;obtain rfl:u=Value.ref a:=rx;show vQ I1 ea c hm l ?_;show PySem.W.callWith_K (first:=[.ref a]) (h₀:=X.base) I.ok.mod.XM hm.kp (bP (ha pos η s1 σ H1 _ I1 q) fun us s2 (vs,H2,I2,r,q2)=>(I2.rP,?_)) Ud gL;show yj (us:=.ref a::us) (vs:=.ref a::vs) F hr hb hd hx I2 (.cons rfl r) q2
def HZ(he:PE X o ta)(c:GY X.K C)(hm:P8 X.K C m f)(F:aq X.prog X.w X.K X.mg X.base CX k f fd ps sp)(hr:bV k X.A)(hb:jd X.K fd ps ds)(hd:aD pW ds)(hx:eB CX X R)
  (ht:eval (.Call (.Attribute o m apos) [] [] pos) X.env=(do
   let  ov<-eval o X.env
   standAt apos.atName
   let (f, first)<-holding [ov] (getMethod ov m pl)
   callWith pos f first (backTo pos (starEach [] X.env)) (backToKw pos (keywordEach [] X.env)))|>1):
  PE X (.Call (.Attribute o m apos) [] [] pos) (Ls C m sp pW R ta VJ):=by
 intro η s σ H Q I h;show PySem.W.methodCall_KW (pl:=pl) (bP (he η s σ H _ I h) λu s1 xz=>?_) ht;let(x,H1,I1,rx,a,dx,fs,ex,ea,l,q):=xz;subst ex;obtain rfl:u=Value.ref a:=rx;show vQ I1 ea c hm l ?_;show PySem.W.callWith_K0 (first:=[.ref a]) I1.rP hm.kp (yj (us:=[.ref a]) (vs:=[.ref a]) F hr hb hd hx I1 (.cons rfl .nil) q)
def Ig{H:Hp}{Q:VK}(M:Mk X.K C f)(F:aq X.prog X.w X.K X.mg X.base CX k f fd ps sp)(hr:bV (k+1) X.A)(hb:jd X.K fd ps ds)(hd:aD pW ds)
  (hx:eB CX X R) (I:Inv X η σ H s) (r:aD vs us)
  (h:∀x dx,H x=none->H dx=none->dx≠x->sp (.ref x::(vs++pW)) (upd (upd H dx (.own x)) x (.ins C dx [])) (λv H2=>v= .bt/\Q (.ref x) H2) (R σ)):
  wpAny (model X.prog X.w) X.A (call (.ref C) us) (EP X η σ Q) X.xe s:=by
 let hq:=h (s.heap.objs.size+1) s.heap.objs.size (I.aN.fresh (Nat.le_succ _)) (I.aN.fresh (aas _)) (abr (acu _));let I2:=Inv.made (C:=C) I;let r2:aD (V.ref (s.heap.objs.size+1)::(vs++pW)) (Value.ref (s.heap.objs.size+1)::(us++ds)):=.cons rfl (r.append hd);let hl:-(Value.ref (s.heap.objs.size+1)::us++ds)=-ps:=by let e:=-r2;rw[F.len _ _ _ _ hq]at e;show e.symm
 show wpAny_call (Mm (f:=f) I.rP M.makes M.init (acU.mp M.fn) (codeAny_mono (F.run _ X.stack _ _ (Value.ref (s.heap.objs.size+1)::us,[]) (Value.ref (s.heap.objs.size+1)::(us++ds)) _ _ (R σ) (hr.make C us [])
  (I2.UX.make C us []) (hb _ (Value.ref (s.heap.objs.size+1)::us) I2.rP hl) r2 hq) λr s' AF=>?_))
 cases r with
 | error e=>show hx η σ _ _ e s' I2 AF
 | ok fl=>
  cases fl with
  | ret u=>
   let(v,H',I3,rv,ev,q3):=I2.after AF;subst ev;show(rv,(V.ref (s.heap.objs.size+1),H',I3,rfl,q3))
  | next=>show False.elim AF
  | brk=>show False.elim AF
  | cont=>show False.elim AF
def MR(M:Mk X.K C f)(F:aq X.prog X.w X.K X.mg X.base CX k f fd ps sp)(hr:bV (k+1) X.A)(hg:Gl X x)(hm:X.mg x=!(.ref C))(hb:jd X.K fd ps ds)(hd:aD pW ds)(hx:eB CX X R)
  (ha:PA X (e::es) t) (pv:(x==("__debug__":Str))=false|>2) (he:starEach (e::es) X.env=(false, eval e X.env)::starEach es X.env|>1) (gL:(backTo pos (starEach es X.env)).any (·.1)=false|>1):
  PE X (.Call (.Name x p) (e::es) [] pos) (SY C sp pW R t):=by
 intro η s σ H Q I h;show wpAny_Call_Name_kw (sT I hg hm ?_ pv);show PySem.W.callWith_K (h₀:=X.base) I.ok.mod.XM M.kp (bP (ha pos η s σ H _ I h) fun us s1 (vs,H1,I1,r,q)=>(I1.rP,?_)) he gL;show Ig M F hr hb hd hx I1 r q
end
def Sn(C:Addr)(M:Ms)(d:Dt)(ns:List Str)(ds:List Dt):Prop:=d= .obj C ns ds\/∃k,d= .loc k/\M[k]? =!(.ins C ns ds)
section
variable{K:fI}{G:Hp}{L:List Addr}{M:Ms}{H:Hp}{C:Addr}{d:Dt}{v:V}{ns:List Str}{ds:List Dt}
def K_(r:Rl K G L M H)(n:Den K G L d v)(o:Sn C M d ns ds):∃a dx vs,v= .ref a/\H a=!(.ins C dx (ns.zip vs))/\-ns=-ds/\Υ K G L ds vs:=by
 rcases o with rfl| ⟨k,rfl,hm⟩
 .let(a,dx,vs,e,h1,hl,h2):=n;show(a,dx,vs,e,r.sub _ _ h1,hl,h2)
 .let(a,e,h1):=n;let(_,dx,vs,h2,hl,h3):=r.fv k a _ h1 hm;show(a,dx,vs,e,h2,hl,h3)
def Bk:∀{ns:List Str} {ds:List Dt} {vs:List V} {d:Dt},Υ K G L ds vs->(ns.zip ds).lookup f=!d->∃v,(ns.zip vs).lookup f=!v/\Den K G L d v
 | [],_,_,_,_,h=>by simp at h
 | _::_,[],_,_,_,h=>by simp at h
 | g::ns,d::ds,_,d',(v,r,rfl,h1,h2),h=>by
  rw[ab0,acx]at h;rw[ab0,acx];cases q:f==g with
  | true=>rw[q]at h;cases h;show(v,rfl,h1)
  | false=>rw[q]at h;show Bk h2 h
def vS:∀{ns:List Str} {ds:List Dt} {vs:List V},Υ K G L ds vs->(ns.zip ds).lookup f=none->(ns.zip vs).lookup f=none
 | [],_,_,_,_=>by simp
 | _::_,[],_,h,_=>by let h:_=_:=h;subst h;simp
 | g::ns,d::ds,_,(v,r,rfl,h1,h2),h=>by
  rw[ab0,acx]at h;rw[ab0,acx];cases q:f==g with
  | true=>rw[q]at h;cases h
  | false=>rw[q]at h;show vS h2 h
def Co{f:Str}{v:V}:∀{ns:List Str} {vs:List V},-ns=-vs->f∉ns->lh f v (ns.zip vs)=(ns++[f]).zip (vs++[v])
 | [],[],_,_=>rfl
 | g::ns,x::vs,hl,h=>by let hg:¬g=f:=λz=>h (by rw[z];show aaf);change(if g=f then (g, v)::ns.zip vs else (g, x)::lh f v (ns.zip vs))=(g, x)::(ns++[f]).zip (vs++[v]);rw[if_neg hg,Co (by simpa using hl) λz=>h (List.mem_cons_of_mem _ z)]
 | [],_::_,hl,_=>by simp at hl
 | _::_,[],hl,_=>by simp at hl
end
def aaZ(C:Addr)(f:Str)(t:DE):DE:=λρ M q x=>t ρ M (λd M1=>∃ns ds v,Sn C M1 d ns ds/\(ns.zip ds).lookup f=!v/\q v M1) x
def Qk(C:Addr)(m:Str)(T:DF)(to:DE)(ta:DA):DE:=λρ M q x=>to ρ M (λd M1=>(∃ns ds,Sn C M1 d ns ds/\(ns.zip ds).lookup m=none)/\ta ρ M1 (λds M2=>T (d::ds) M2 q (λC fs M'=>x ρ C fs M')) x) x
def Vk(C:Addr)(T:DF)(ta:DA):DE:=λρ M q x=>ta ρ M (λds M1=>T (.loc (-M1)::ds) (M1++[.ins C [] []]) (λd M2=>d= .bt/\q (.loc (-M1)) M2) (λC fs M'=>x ρ C fs M')) x
def QB(C:Addr)(f:Str)(to tv:DE):DS:=λDn ρ M=>tv ρ M (λy M1=>to ρ M1 (λd M2=>∃k ns ds,d= .loc k/\M2[k]? =!(.ins C ns ds)/\f∉ns/\-ns < 1000/\Dn.nx ρ (M2.set k (.ins C (ns++[f]) (ds++[y])))) Dn.x) Dn.x
structure dU(P:Program)(w:World)(K:fI)(mg:Str->Option Value)(base:Heap)(k:Nat)(C:Addr)(m:Str)(ps:List Str)(T:DF)(f:Addr)(fd:FuncData):Prop where
 ok:aq P w K mg base (b9 P w) k f fd ps (cM K T)
 b:jd K fd ps []
 c:GY K C
 m:P8 K C m f
structure Ua(P:Program)(w:World)(K:fI)(mg:Str->Option Value)(base:Heap)(k:Nat)(x:Str)(C:Addr)(ps:List Str)(T:DF)(f:Addr)(fd:FuncData):Prop where
 ok:aq P w K mg base (b9 P w) k f fd ps (cM K T)
 b:jd K fd ps []
 k:Mk K C f
 m:mg x=!(.ref C)
section
variable{X:Cx}{R:St->XK}{C:Addr}{f m x:Str}{T:DF}{k k':Nat}{a:Addr}{fd:FuncData}{ps:List Str}{e o value:Expr}{es:List Expr}{pos pos' apos p:Pos}{to te tv:DE}{ta:DA}
def vy(c:GY X.K C)(n:jg X.K C f)(he:JE X R e te)(hb:attributeBase e f X.env (eval e X.env)=eval e X.env|>1):JE X R (.Attribute e f pos) (aaZ C f te):=
 .of (T2 he hb) λσ H G L ρ M q x rl en h hx=>by show(G,L,ρ,M,_,x,rl,en,h,hx,λv H1 xz=>?_);let(d1,G1,L1,M1,e1,r1,n1,ns,ds,y,ob,hl,h1):=xz;let(p,dx,vs,rfl,hp,_,dn):=K_ r1 n1 ob;let(u,hu,du):=Bk dn hl;show(p,C,dx,_,u,rfl,hp,c,n,hu,y,G1,L1,M1,e1,r1,du,h1)
def cq(D:dU X.prog X.w X.K X.mg X.base k C m ps T a fd)(hr:bV k' X.A)(hx:eB (b9 X.prog X.w) X R)(ho:JE X R o to)(ha:JA X R (e::es) ta)(hk:k<=k'|>2)
  (Ud:starEach (e::es) X.env=(false, eval e X.env)::starEach es X.env|>1) (gL:(backTo pos (starEach es X.env)).any (·.1)=false|>1)
  (ht:eval (.Call (.Attribute o m apos) (e::es) [] pos) X.env=(do
   let  ov<-eval o X.env
   standAt apos.atName
   let (f, first)<-holding [ov] (getMethod ov m pl)
   callWith pos f first (backTo pos (starEach (e::es) X.env)) (backToKw pos (keywordEach [] X.env)))|>1):
  JE X R (.Call (.Attribute o m apos) (e::es) [] pos) (Qk C m T to ta):=
 .of (Lz (pl:=pl) ho D.c D.m D.ok (hr.mono hk) D.b .nil hx ha Ud gL ht) λσ H G L ρ M q x rl en h hx=>by show(G,L,ρ,M,_,x,rl,en,h,hx,λv H1 xz=>?_);let(d1,G1,L1,M1,e1,r1,n1,(ns,ds,ob,hl),h1):=xz;let(p,dx,vs,rfl,hp,_,dn):=K_ r1 n1 ob;show(p,dx,_,rfl,hp,vS dn hl,G1,L1,ρ,M1,_,x,r1,en.mono e1,h1,hx.on e1,λus H2 xz=>?_);let(sC,G2,L2,M2,e2,r2,n2,h2):=xz;change cM X.K T (V.ref p::(us++[])) H2 _ _;rw[abU];let K7:=e1.trans e2;show(G2,L2,d1::sC,M2,q,_,r2,(_,_,rfl,Den.mono e2.g e2.l _ _ n1,n2),h2,λv H' f=>Fin.back K7 f,λC fs M' G' L' H' od hq e' r' y=>hx σ ρ C fs M' G' L' H' od hq (K7.trans e') r' (en.mono (K7.trans e')) y)
def mD(D:dU X.prog X.w X.K X.mg X.base k C m ps T a fd)(hr:bV k' X.A)(hx:eB (b9 X.prog X.w) X R)(ho:JE X R o to)(hk:k<=k'|>2)
  (ht:eval (.Call (.Attribute o m apos) [] [] pos) X.env=(do
   let  ov<-eval o X.env
   standAt apos.atName
   let (f, first)<-holding [ov] (getMethod ov m pl)
   callWith pos f first (backTo pos (starEach [] X.env)) (backToKw pos (keywordEach [] X.env)))|>1):
  JE X R (.Call (.Attribute o m apos) [] [] pos) (Qk C m T to ly):=
 .of (HZ (pl:=pl) ho D.c D.m D.ok (hr.mono hk) D.b .nil hx ht) λσ H G L ρ M q x rl en h hx=>by show(G,L,ρ,M,_,x,rl,en,h,hx,λv H1 xz=>?_);let(d1,G1,L1,M1,e1,r1,n1,(ns,ds,ob,hl),h1):=xz;let(p,dx,vs,rfl,hp,_,dn):=K_ r1 n1 ob;show(p,dx,_,rfl,hp,vS dn hl,?_);change cM X.K T (V.ref p::([]++[])) H1 _ _;show(G1,L1,[d1],M1,q,_,r1,(_,_,rfl,n1,rfl),h1,λv H' f=>Fin.back e1 f,λC fs M' G' L' H' od hq e' r' y=>hx σ ρ C fs M' G' L' H' od hq (e1.trans e') r' (en.mono (e1.trans e')) y)
def RA(D:Ua X.prog X.w X.K X.mg X.base k x C ps T a fd)(hr:bV k' X.A)(hx:eB (b9 X.prog X.w) X R)(ha:JA X R (e::es) ta)(hk:k+1<=k'|>2)(hg:Gl X x|>1)(pv:(x==("__debug__":Str))=false|>2)
  (he:starEach (e::es) X.env=(false, eval e X.env)::starEach es X.env|>1) (gL:(backTo pos (starEach es X.env)).any (·.1)=false|>1):JE X R (.Call (.Name x p) (e::es) [] pos) (Vk C T ta):=
 .of (MR D.k D.ok (hr.mono hk) hg D.m D.b .nil hx ha pv he gL) λσ H G L ρ M q x rl en h hx=>by
  show(G,L,ρ,M,_,x,rl,en,h,hx,λvs H1 xz y dx hy hdx lu=>?_);let(ds,G1,L1,M1,e1,r1,n1,h1):=xz;change cM X.K T (V.ref y::(vs++[])) _ _ _;rw[abU];let ra:=r1.N6 (o:=.own y) hdx;let ea:=r1.UO (o:=.own y) hdx;let hy2:upd H1 dx (HO.own y) y=none:=by rw[Ρ (Ne.symm lu)];show hy
  let rb:=ra.OL (p:=y) (o:=.ins C dx []) (m:=.ins C [] []) hy2 (dx,[],au,rfl,rfl);let eb:=ra.X2 (p:=y) (o:=.ins C dx []) hy2;let e2:=ea.trans eb;let K7:=e1.trans e2;show(_,_,.loc (-M1)::ds,_,_,_,rb,(_,_,rfl,(y,rfl,?_),Υ.mono e2.g e2.l _ _ n1),h1,fun v H' (d,G',L',M',e',r',dn,hd,hq)=>?_,λC fs M' G' L' H' od hq e' r' z=>hx σ ρ C fs M' G' L' H' od hq (K7.trans e') r' (en.mono (K7.trans e')) z)
  .rw[<-r1.len,List.getElem?_append_right (Nat.le_refl _)];simp
  .subst hd;show(dn,.loc (-M1),G',L',M',K7.trans e',r',(y,rfl,e'.l.get ?_),hq);rw[<-r1.len,List.getElem?_append_right (Nat.le_refl _)];simp
def GG(c:GY X.K C)(n:jg X.K C f)(ho:JE X R o to)(hv:JE X R value tv)(hs:swapsWith value (!(.Attribute o f pos')) pos.line X.env=pure false|>1):JS X R (.Assign [.Attribute o f pos'] value pos) (QB C f to tv):=
 .of (R5 ho hv hs) λσ H G L ρ M Dn rl en h hx=>by show(G,L,ρ,M,_,_,rl,en,h,hx,λy H1 xz=>?_);let(dy,G1,L1,M1,e1,r1,n1,h1):=xz;show(G1,L1,ρ,M1,_,_,r1,en.mono e1,h1,hx.on e1,λu H2 xz=>?_);let(du,G2,L2,M2,e2,r2,n2,k,ns,ds,ed,hm,hf,hz,h2):=xz;subst ed;let(p,rfl,hp):=n2;let(_,dx,vs,hH,hl,dn):=r2.fv k p _ hp hm;let hlv:-ns=-vs:=hl.trans (-dn);show(p,C,dx,_,rfl,hH,c,n,by rw[ab1,<-hlv,adt];show hz,?_);rw[Co hlv hf];show(ρ,G2,L2,_,(e1.trans e2).trans (r2.Hz hp),r2.setM (m:=.ins C (ns++[f]) (ds++[dy])) hp (dx,_,au,by rw[aaj,aaj,hl];rfl,dn.app (_,_,rfl,Den.mono e2.g e2.l _ _ n1,rfl)),(en.mono (e1.trans e2)).mono (r2.Hz (o:=.own p) hp),h2)
end
def pw:List Dt->Ms->DQ->Prop
 | [d],M,q=>match fX M d with
  | some xs=>q (.loc (-M)) (M++[.lst xs])
  | none=>False
 | _,_,_=>False
section
variable{K:fI}
set_option tactic.hygienic true
def Wz:CZ K (λxs H Q=>∃p ys,xs=[V.ref p]/\(gY K H p ys\/nj K H p ys)/\∀l,H l=none->Q (.ref l) (upd H l (.lst ys))) pw:=by
 intro G0 L0 H0 G L M H vs ds q e r n h;unfold pw at h;split at h
 .rename_i d;let(v,rfl,n1):=bD n;split at h
  .rename_i xs hs;let(a,us,rfl,hq,dn):=pd r n1 hs;show(a,us,rfl,hq,λl hl=>i9 e r hl dn h)
  .show h.elim
 .show h.elim
end
section
variable{X:Cx}{R:St->XK}{e o i value:Expr}{t:DA}{to ti tv:DE}{p pos apos cN wG:Pos}
def qH(hm:X.mg "list"=none)(ha:JA X R [e] t)(hg:Gl X "list"|>1)(he:starEach [e] X.env=(false, eval e X.env)::starEach [] X.env|>1)(gL:(backTo pos (starEach [] X.env)).any (·.1)=false|>1):JE X R (.Call (.Name "list" p) [e] [] pos) (sA pw t):=
 pq zO Wz hm kM ha hg @_ @_ he gL
def Oy(to:DE)(t:DA):DE:=λρ M q x=>to ρ M (λd M1=>(∃k xs,d= .loc k/\M1[k]? =!(.lst xs))/\t ρ M1 (λds M2=>∃k xs y,d= .loc k/\ds=[y]/\M2[k]? =!(.lst xs)/\-xs < sizeLine/\q .bt (M2.set k (.lst (xs++[y])))) x) x
def fL(ho:JE X R o to)(ha:JA X R [e] t)(Kf:attributeBase o "append" X.env (eval o X.env)=eval o X.env|>1)
  (RK:((backTo cN (starEach [e] X.env)).all (λx=> ! x.1)&&(backToKw cN (keywordEach [] X.env)).all (λx=>x.1.isSome)
   &&decide (-([e]:List Expr)+-([]:List Keyword)+(if ([]:List Keyword).isEmpty then 0 else 1) < 30))=true|>1)
  (J1:(apos.endLine==cN.line)=true|>1) (hs:starEach [e] X.env=(false, eval e X.env)::starEach [] X.env|>1) (EL:(backTo cN (starEach [] X.env)).any (·.1)=false|>1):
  JE X R (.Call (.Attribute o "append" apos) [e] [] cN) (Oy to t):=
 .of (WH PySem.F.plainAttrs_list PySem.F.slot_list_append PySem.F.type_list_append (r:=FH) xW ho ha Kf RK J1 hs EL) λσ H G L ρ M q x rl n h hx=>by show(G,L,ρ,M,_,x,rl,n,h,hx,λv H1 xz=>?_);let(d1,G1,L1,M1,e1,r1,n1,(k,xs,ed,hm),h1):=xz;subst ed;let(a,rfl,hk):=n1;let(_,vs,hH,_):=r1.fv k a _ hk hm;show(.inl (rfl,vs,.of hH),G1,L1,ρ,M1,_,x,r1,n.mono e1,h1,hx.on e1,λus H2 xz=>?_);let(ds,G2,L2,M2,e2,r2,n2,k',xs',y,ek,ed,hm2,hz,h2):=xz;cases ek;subst ed;let(u,rfl,n3):=bD n2;let I_:=e2.l.get hk;let(_,ya,Pm,JM):=r2.fv k a _ I_ hm2;show(a,ya,u,rfl,rfl,Pm,by rw[<--JM];show hz,.bt,G2,L2,_,(e1.trans e2).trans (r2.Hz I_),r2.setM (m:=.lst (xs'++[y])) I_ (_,au,JM.app (_,_,rfl,n3,rfl)),rfl,h2)
def qf(to ti tv:DE):DS:=λDn ρ M=>tv ρ M (λy M1=>to ρ M1 (λd M2=>ti ρ M2 (λdi M3=>∃k i xs j,d= .loc k/\di= .int i/\M3[k]? =!(.lst xs)/\Fo (-xs) i=!j/\Dn.nx ρ (M3.set k (.lst (xs.set j y)))) Dn.x) Dn.x) Dn.x
def jS(ho:JE X R o to)(hi:JE X R i ti)(hv:JE X R value tv)(hs:swapsWithSole [.Subscript o i wG] value pos.line X.env=pure false|>1)(hw:swappedStores [.Subscript o i wG] value X.env=pure none|>1)
  (h1:(assignEach [.Subscript o i wG] X.env).map (·.2)=[assign (.Subscript o i wG) X.env]|>1)
  (ha:(∀v,assign (.Subscript o i wG) X.env v=(do
   let  ov<-holding [v] (eval o X.env)
   let  iv<-holding [v,ov] (eval i X.env)
   standAt wG
   holding [v,ov,iv] (setItem ov iv v)
   release [v,ov,iv] []))|>3):JS X R (.Assign [.Subscript o i wG] value pos) (qf to ti tv):=
 .of (K2 hv (Rn (t:=QR) ho hi Ni ha) hs hw h1) λσ H G L ρ M Dn rl n h hx=>by show(G,L,ρ,M,_,_,rl,n,h,hx,λv H1 xz=>?_);let(dv,G1,L1,M1,e1,r1,n1,h1):=xz;show(G1,L1,ρ,M1,_,_,r1,n.mono e1,h1,hx.on e1,λov H2 xz=>?_);let(d,G2,L2,M2,e2,r2,n2,h2):=xz;show(G2,L2,ρ,M2,_,_,r2,(n.mono e1).mono e2,h2,(hx.on e1).on e2,λiv H3 xz=>?_);let(di,G3,L3,M3,e3,r3,n3,k,i,xs,j,ed,ei,hm,hj,h3):=xz;subst ed ei;let(a,rfl,hk):=n2;let n3:iv= .int i:=n3;subst n3;let zY:=e3.l.get hk;let(_,vs,hH,dn):=r3.fv k a _ zY hm;let IF:=e2.trans e3;let Yb:=Den.mono IF.g IF.l _ _ n1;show(a,vs,i,j,rfl,rfl,hH,by rw[<--dn];show hj,ρ,G3,L3,_,((e1.trans e2).trans e3).trans (r3.Hz zY),r3.setM (m:=.lst (xs.set j dv)) zY (_,au,.of (Fj Yb j dn.pair)),(((n.mono e1).mono e2).mono e3).mono (r3.Hz (o:=.own a) zY),h3)
end
structure Src(K:fI)(a:Addr)(xs:List Dt)(ok:Ms->Prop)(G0:Hp)(L0:List Addr):Prop where
 at_:∀G L M H,e_ G0 G->Pre L0 L->Rl K G L M H->ok M->∃vs,gY K H a vs/\Υ K G L xs vs
noncomputable def mR(M:Ms):Dt->Option (List Dt×(Ms->Prop))
 | .lst xs=>!(xs, λ_=>True)
 | .jC ns=>!(ns.map .int, λ_=>True)
 | .loc k=>match M[k]? with
  | some (.lst xs)=>!(xs, λM'=>M'[k]? =!(.lst xs))
  | _=>none
 | _=>none
set_option tactic.hygienic true in
def uc{K:fI}{H:Hp}{xs:List Dt}{ok:Ms->Prop}(r:Rl K G L M H)(n:Den K G L d v)(h:mR M d=!(xs, ok)):∃a vs,v= .ref a/\gY K H a vs/\Src K a xs ok G L/\ok M:=by
 cases d with
 | lst ds=>
  cases h;let(a,vs,rfl,e,m):=n;show(a,vs,rfl,.of (r.sub _ _ e),⟨λG' L' M' H' g l r' _=>(vs,.of (r'.sub _ _ (g _ _ e)),Υ.mono g l _ _ m)⟩,trivial)
 | jC ns=>
  cases h;let(a,rfl,e):=n;show(a,_,rfl,r.sub.seq e,⟨λG' L' M' H' g l r' _=>(_,r'.sub.seq (g.seq e),jX)⟩,trivial)
 | loc k=>
  let(a,rfl,e):=n;let h:(match M[k]? with| some (.lst xs)=>!(xs, λM':Ms=>M'[k]? =!(.lst xs))| _=>none)=!(xs, ok):=h;split at h
  .rename_i ys hm;cases h;let(_,vs,e1,m1):=r.fv k a _ e hm;show(a,vs,rfl,.of e1,⟨λG' L' M' H' g l r' hk=>?_⟩,hm);let(_,ya,e2,m2):=r'.fv k a _ (l.get e) hk;show(ya,.of e2,m2)
  .cases h
 | _=>cases h
def Lp{K:fI}{ok:Ms->Prop}(s:Src K a xs ok G L):QI K (XY K a) xs ok G L where
 go:=λi G1 L1 M1 H1 d g l r k e=>by
  let(vs,hs,n):=s.at_ G1 L1 M1 H1 g l r k;let(v,e1,n1):=n.get e
  show((vs,v,hs,e1),fun v' H' (eH,y)=>by
   subst eH;let e2:=y vs hs;rw[e1]at e2;cases e2
   show(G1,.refl _ _ _,r,n1))
 stop:=λi G1 L1 M1 H1 g l r k e=>by let(vs,hs,n):=s.at_ G1 L1 M1 H1 g l r k;show(vs,hs,by rw[<--n];show e)
def rZ(M:Ms):Dt->Option (List Dt×(Ms->Prop))
 | .loc k=>mR M (.loc k)
 | d=>(VF M d).map λxs=>(xs, λ_=>True)
def dE(t:DE):DK:=λρ M q x=>t ρ M (λd M1=>match rZ M1 d with
 | some (xs, ok)=>q xs ok M1
 | none=>False) x
def bo(h:JE X R e te):JK X R tg e (dE te):=by
 intro η s σ H Q I ⟨G,L,ρ,M,q,x,rl,n,ht,hx,hQ⟩;show bP (h η s σ H (Fin X.K G L H _) I (G,L,ρ,M,_,x,rl,n,ht,hx,λ_ _ f=>f)) λu s1 xz=>?_;let(v,H1,I1,rv,d,G1,L1,M1,e1,r1,n1,h1):=xz
 (try dsimp only at h1)
 cases hi:rZ M1 d with
 | none=>rw[hi]at h1;show h1.elim
 | some p=>
  let(xs,ok):=p;rw[hi]at h1;let fin:∀J,QI X.K J xs ok G1 L1->Q J H1:=λJ y=>hQ J H1 (xs,ok,G1,L1,M1,e1,r1,y,h1);let up:∀{J},ok=(λ_=>True)->Yl X.K J xs G1 L1->QI X.K J xs ok G1 L1:=λeo y=>by subst eo;show(λi G L M H d g l r _ e=>y.go i G L M H d g l r e,λi G L M H g l r _ e=>y.stop i G L M H g l r e)
  cases d with
  | loc k=>
   let(a,vs,rfl,hs,sr,_):=uc r1 n1 hi;cases rv;show zd I1 hs (fin _ (Lp sr))
  | lst ds=>
   cases hi;let(a,vs,rfl,e,m):=n1;cases rv;show zd I1 (vs:=vs) (.of (r1.sub _ _ e)) (fin _ (up rfl (GW (λG' g=>.of (g _ _ e)) m)))
  | jC ns=>
   cases hi;let(a,rfl,e):=n1;cases rv;show zd I1 (r1.sub.seq e) (fin _ (up rfl (GW (λG' g=>g.seq e) jX)))
  | tup ds=>
   cases hi;let(a,vs,rfl,e,m):=n1;cases rv;show LR I1 (vs:=vs) (.of (r1.sub _ _ e)) (fin _ (up rfl (J5 (λG' g=>.of (g _ _ e)) m)))
  | kt ds=>
   cases hi;let(a,vs,rfl,e,m):=n1;cases rv;show LR I1 (r1.sub.WA e) (fin _ (up rfl (J5 (λG' g=>g.WA e) m)))
  | str z=>
   cases hi;cases n1;let(t,rfl):=rv;show Tb I1 (fin _ (up rfl TC))
  | _=>cases hi
def r8(g:Dt->En->(En->Prop)->Prop)(tb:DS)(Dn:eG)(ok:Ms->Prop):List Dt->En->Ms->Prop
 | [],ρ,M=>ok M/\Dn.nx ρ M
 | x::xs,ρ,M=>ok M/\g x ρ λρ'=>tb {Dn with nx:=r8 g tb Dn ok xs,ct:=r8 g tb Dn ok xs,bk:=Dn.nx} ρ' M
def k4(ti:DK)(g:Dt->En->(En->Prop)->Prop)(tb:DS):DS:=λDn ρ M=>ti ρ M (λxs ok M1=>r8 g tb Dn ok xs ρ M1) Dn.x
section
variable{X:Cx}{R:St->XK}{tg iter:Expr}{body:List Stmt}{ti:DK}{gg:TG}{g:Dt->En->(En->Prop)->Prop}{tb:DS}{pos:Pos}
def ck(hi:JK X R tg iter ti)(hg:PG X tg gg)(gd:GD X.K gg g)(hb:Fh X R body tb)(hp:PassesOwn (model X.prog X.w) X.A X.env X.xe|>5)(hc:X.calm=true|>1)(hs:(∀x,foldedSetIterable iter X.env x=pure x)|>3):
  JS X R (.For tg iter body [] pos) (k4 ti g tb):=.of (DW hp hc hi hg hb hs) λσ H G L ρ M Dn rl n h hx=>by
 show(G,L,ρ,M,_,_,rl,n,h,hx,λJ H1 xz=>?_);let(xs,ok,G1,L1,M1,e1,r1,y,h1):=xz;show(λi m σ' H'=>m+i=-xs/\fM X.K G1 L1 H1 (λρ' M'=>r8 g tb Dn ok (xs.drop i) ρ' M') σ' H',(-xs,rfl,ρ,G1,L1,M1,.refl _ _ _,r1,n.mono e1,by rw[adG];show h1),?_);rintro i m σ' H' ⟨hm,ρ',G',L',M',e',r',n',h'⟩;by_cases hi:i < -xs
 .right;let hd:xs[i]? =!xs[i]:=aaa hi;rw[acg hi]at h';let(aN,h'):=h';let(go,yl):=y.go i G' L' M' H' _ e'.g e'.l r' aN hd;show(go,fM X.K G1 L1 H1 (λρ' M'=>r8 g tb Dn ok (xs.drop (i+1)) ρ' M'),λσ2 H2 f=>(m - 1,(),(),f),λv H2 hy=>?_);let(G2,e2,r2,n2):=yl v H2 hy;show gd G2 L' M' H2 _ v ρ' σ' _ _ r2 n2 (n'.mono e2) h' λρ3 σ3 n3 h3=>?_;show(G2,L',ρ3,M',_,r2,n3,h3,hx.on (e1.trans (e'.trans e2)),(λ_ _ f=>fM.back (e'.trans e2) f,λ_ _ f=>Fin.back (e1.trans (e'.trans e2)) f,λ_ _ f=>fM.back (e1.trans (e'.trans e2)) f,λ_ _ f=>fM.back (e'.trans e2) f))
 .left;rw[ade ()]at h';show(y.stop i G' L' M' H' e'.g e'.l r' h'.1 (),ρ',G',L',M',e1.trans e',r',n',h'.2)
end
def ug(te:DE)(cs:En)(ok:Ms->Prop):List Dt->List Dt->Ms->(List Dt->Ms->Prop)->Prop
 | [],Ι,M,k=>ok M/\k Ι M
 | x::xs,Ι,M,k=>ok M/\te ((!x)::cs) M (λd M1=>ug te cs ok xs (Ι++[d]) M1 k) nc
def qR(ti:DK)(te:DE)(ae:List Nat):DE:=λρ M q x=>ti ρ M (λxs ok M1=>-xs<=sizeLine/\ug te (qh ae ρ) ok xs [] M1 (λys M2=>q (.lst ys) M2)) x
def sF{ok:Ms->Prop}:∀xs,ug te cs ok xs=jP (gN 0) rK te (none::cs) ok xs
 | []=>rfl
 | x::xs=>funext λΙ=>funext λM=>funext λk=>by change(ok M/\te ((!x)::cs) M (λd M1=>ug te cs ok xs (Ι++[d]) M1 k) nc)=(ok M/\te ((!x)::cs) M (λd M1=>jP (gN 0) rK te (none::cs) ok xs (Ι++[d]) M1 k) nc);rw[sF xs]
section
variable{X:Cx}{R:St->XK}{elt iter:Expr}{x:Str}{px:Pos}{scope:Scope}{pos:Pos}{ti:DK}{te:DE}{ys:List Str}{ae:List Nat}
def g8(S:aG X scope [x] ys ae)(hi:JK X R (.Name x px) iter ti)(he:∀C s H fp,JE (Cx.comp X (x::ys) scope C s H fp) (λ_=>E0) elt te)(hc:X.calm=true|>1)(hs:(∀x,foldedSetIterable iter X.env x=pure x)|>3):JE X R (.ListComp elt [(.Name x px,iter,[],0)] scope pos) (qR ti te ae):=V_ false S hi (iP S (i:=0) rfl) aH (iC (Nat.zero_lt_succ 0)) (λ_ _ _ _=>mr) he hc hs λρ M q x h=>by unfold qR at h;simp only[sF]at h;show h
def iW{i:Nat}{vE:Pos}(hN:X.N.Nodup)(RV:X.N[i]? =!y)(hy:Loc X.env.scope y)(S:aG X scope [x] ys ae)(hi:JK X R (.Name x px) iter ti)(he:∀C s H fp,JE (Cx.comp X (x::ys) scope C s H fp) (λ_=>E0) elt te)(hc:X.calm=true|>1)(RF:swapsWith (.ListComp elt [(.Name x px,iter,[],0)] scope pos) (!(.Name y py)) vE.line X.env=pure true|>1)(hs:(∀x,foldedSetIterable iter X.env x=pure x)|>3)(hf:X.fn y=true\/X.env.scope.names.lookup y=some .local|>4):JS X R (.Assign [.Name y py] (.ListComp elt [(.Name x px,iter,[],0)] scope pos) vE) (zx i (qR ti te ae)):=jcS false S hi (iP S (i:=0) rfl) aH (iC (Nat.zero_lt_succ 0)) (λ_ _ _ _=>mr) he hc hs hN RV hy RF hf λρ M q x h=>by unfold qR at h;simp only[sF]at h;show h
end
def xj:∀{ns:List Int} {us:List Value},aD (ns.map V.int) us->∃ts:List (Int×Tok),us=ts.map (λp=>Value.int p.1 p.2)/\ts.map (·.1)=ns
 | [],_,h=>by cases h;show([],rfl,rfl)
 | n::ns,_,h=>by
  cases h with
  | cons r t=>
   let(tk,rfl):=r;let(ts,rfl,rfl):=xj t;show((n, tk)::ts,rfl,rfl)
def WE(K:fI):List V->Hp->VK->Prop:=λxs H Q=>∃(p:Addr) (ns:List Int),xs=[.ref p]/\gY K H p (ns.map V.int)/\Q (.int ns.sum) H
def Ll{X:Cx}(hc:X.calm=true):eC X (.builtin "sum") (WE X.K):=by
 intro η s σ H xs us Q I r h;let(p,ns,rfl,hq,q):=h;let(u,rfl,r1):=k_ r;cases r1;let(its,rv,pl,hz):=I.list hq;let(ts,rfl,rfl):=xj rv;let e:(ts.map λp=>Value.int p.1 p.2).toArray=intItems ts.toArray:=by simp[intItems]
 let hl:=pl.isList;rw[e]at hl;show sum_intListG (I.ok.hd hc) hl λh' tk t' hk=>?_;show(.int (ts.map (·.1)).sum,H,I.kept hk,(t',?_),q);rw[preSum_eq,List.take_of_length_le (by simp)]
def Sd:List Dt->Ms->DQ->Prop
 | [d],M,q=>∃ns:List Int,fX M d=!(ns.map .int)/\(∃xs ok,mR M d=!(xs, ok))/\q (.int ns.sum) M
 | _,_,_=>False
def tL{K:fI}:∀{ns:List Int} {vs:List V},Υ K G L (ns.map Dt.int) vs->vs=ns.map V.int
 | [],_,h=>h
 | _::_,_,(v,r,e,h1,h2)=>by let h1:v=_:=h1;rw[e,h1,tL h2];rfl
set_option tactic.hygienic true
def pE{xs:List Dt}{ok:Ms->Prop}(h:mR M d=!(xs, ok)):fX M d=!xs:=by
 cases d with
 | lst ds=>cases h;rfl
 | jC ns=>cases h;rfl
 | loc k=>
  let h:(match M[k]? with| some (.lst xs)=>!(xs, λM':Ms=>M'[k]? =!(.lst xs))| _=>none)=!(xs, ok):=h;change(match M[k]? with| some (.lst xs)=>!xs| _=>none)=!xs;split at h
  .rename_i ys hm;cases h;rfl
  .cases h
 | _=>cases h
def abR{K:fI}:CZ K (WE K) Sd:=by
 intro G0 L0 H0 G L M H vs ds q e r n h;unfold Sd at h;split at h
 .rename_i d;let(v,rfl,n1):=bD n;let(ns,hs,(xs,ok,hl),hq):=h;let(a,us,rfl,sq,sr,aN):=uc r n1 hl;rw[pE hl]at hs;cases hs;let(ws,sq2,dn):=sr.at_ G L M H (.refl _) (.refl _) r aN;rw[tL dn]at sq2;show(a,ns,rfl,sq2,.int ns.sum,G,L,M,e,r,rfl,hq)
 .show h.elim
set_option tactic.hygienic false
def IY:bootBuiltins "sum"=!(.builtin "sum"):=by decide+kernel
def Et:bootBuiltins "enumerate"=!(.type "enumerate"):=by decide+kernel
section
variable{X:Cx}{R:St->XK}{e a b:Expr}{t:DA}{ta tb:DE}{p pos:Pos}
def QA(hm:X.mg "sum"=none)(ha:JA X R [e] t)(hc:X.calm=true|>1)(hg:Gl X "sum"|>1)(he:starEach [e] X.env=(false, eval e X.env)::starEach [] X.env|>1)(gL:(backTo pos (starEach [] X.env)).any (·.1)=false|>1):JE X R (.Call (.Name "sum" p) [e] [] pos) (sA Sd t):=
 hV (Ll hc) abR hm IY ha hg @_ @_ he gL
def VZ:Dt->Dt->Ms->DQ->Prop:=λd e M q=>∃u xs us,rF d=!u/\fX M e=!xs/\iu xs=!us/\q (.bl (T4 u us)) M
def GO:Dt->Dt->Ms->DQ->Prop:=λd e M q=>∃u xs us,rF d=!u/\fX M e=!xs/\iu xs=!us/\q (.bl (! T4 u us)) M
def aak{K:fI}:mY K (Yt K false) VZ:=by intro G0 L0 H0 G L M H v1 v2 d1 d2 q e r n1 n2 ⟨u,xs,us,h1,h2,h3,hq⟩;let(rfl,fu):=iL h1 n1;let(a,vs,rfl,sq,dn):=pd r n2 h2;let(rfl,fs):=fY h3 dn;show(a,vs,rfl,sq,fu,fs,.bl _,G,L,M,e,r,rfl,hq)
def OK{K:fI}:mY K (Yt K true) GO:=by intro G0 L0 H0 G L M H v1 v2 d1 d2 q e r n1 n2 ⟨u,xs,us,h1,h2,h3,hq⟩;let(rfl,fu):=iL h1 n1;let(a,vs,rfl,sq,dn):=pd r n2 h2;let(rfl,fs):=fY h3 dn;show(a,vs,rfl,sq,fu,fs,.bl _,G,L,M,e,r,rfl,hq)
def KQ(ja:JE X R a ta)(jb:JE X R b tb)(hm:behindInMarks .In b=false|>1):JT X R (.Compare a [.In] [b] pos) (jT (fN VZ ta tb)):=fD HB aak ja jb hm
def xB(ja:JE X R a ta)(jb:JE X R b tb)(hm:behindInMarks .NotIn b=false|>1):JT X R (.Compare a [.NotIn] [b] pos) (jT (fN GO ta tb)):=fD zL OK ja jb hm
end
def Inv.yd{H:Hp}{h':Heap}{its:List Addr}{T:Addr}{t':Nat}(I:Inv X η σ H s)(k:∀b u,b∉its->s.heap.get? b=!u->h'.get? b=!u)(f:∀b∈its,u6 X η H b)(hT:s.heap.objs.size<=T)(new:cf X.prog X.w (upd H T o) h' T o):
  Inv X η σ (upd H T o) {s with heap:=h',toks:=t'}:=by
 let hn:=I.aN.fresh hT;let Xa:∀b u,H b=!u->b∉its:=λb u e z=>by rw[(f b z).1]at e;cases e
 show I.call (ch:=its) (g':=s.gens) (d':=s.drawn) (t':=t') (λb u q _ _ hb=>k b u hb q,λb u q _ _ hb=>(u.slots,k b u hb q),λb u q n _=>?_,λb u q hb=>(u,k b u hb q),λb xs q=>?_,λb u xs q=>?_,λb ps q=>(#[],?_)) (λb u e=>?_) I.bare λb hb=>?_
 .rw[Ρ (abr (aaV (aaM q) hT))];show n
 .rw[Ρ (cy q hn)];show q
 .rw[Ρ (cy q hn)];show q
 .rw[Ρ (cy q hn),q];simp
 .by_cases hb:b=T
  .subst hb;rw[au]at e;cases e;show new
  .rw[Ρ hb]at e;show(I.aN b u e).Dq (λc v hc q=>k c v ?_ q) (λc q=>by rw[Ρ (cy q hn)];show q) λc xs q=>by rw[Ρ (cy q hn)];show q
   rcases hc with z| z
   .rw[z];show Xa b u e
   .show Xa c _ z
 .let(f0,f1,f2,f3,f4,f5):=f b hb;show(f3,f1,f4,f5)
def Ite(K:fI)(l:Addr):It:=
 ⟨λi H=>∃xs x,gY K H l xs/\xs[i]? =!x,λi H v H'=>∃p x,H p=none/\v= .ref p/\H'=upd H p (.tup [.int i,x])/\∀xs,gY K H l xs->xs[i]? =!x,λi H=>∃xs,gY K H l xs/\-xs<=i⟩
def Jh{K:fI}(l it e:Addr)(lu:e≠it):Turn P w K (.Tuple elts x1 tp) (Ite K l) [e,it] e (λi h=>(∃old,IsEnum h e it i old)/\h.IsListIter it l i) where
 mem:=by simp
 obj:=λi h st b hb=>by
  let((old,he),hi):=st;rcases aba.mp hb with rfl| hb
  .show(_,he,λv z=>by
    let z':Data.fields _=Data.cell v:=z
    cases z')
  .let e:b=it:=by simpa using hb
   subst e;let(o,e,c,d):=hi;show(o,e,λv z=>by rw[d]at z;cases z)
 keep:=λi h h' st k=>by let((old,he),hi):=st;show((old,k e (by simp) _ he),hi.at λo q=>k it (by simp) o q)
 item:=by
  intro X hP hw hK hc i η s σ H E I hf st hg;subst hP hw hK;let((old,he),hi):=st;let(xs,x,hq,hx):=hg;let(its,rv,p,hz):=I.list hq;let(u,hu,ru):=rv.get hx;show wpAny_pyNext_enum_item he hi p.isList (x:=u) (by simpa using hu) lu λh' ho v7 hT hsz hk=>?_;show(_,rfl,wpAny_letOwnedTupleGo_enum (s:={s with heap:=h',toks:=s.toks+1}) ho λh2 he2 sb=>?_);let sb:Heap.SameBut e h' h2:=sb;let elt:e < s.heap.objs.size:=aaM he;let ilt:it < s.heap.objs.size:=by let(o,q,_):=hi;show aaM q
  let neT:s.heap.objs.size≠e:=adH elt;let hT2:h2.get? s.heap.objs.size=some {cls:=.type "tuple",data:=.seq #[.int i s.toks,u]}:=(sb.2 _ neT).trans hT;let I2:Inv X η σ (upd H s.heap.objs.size (.tup [.int i,x])) {s with heap:=h2,toks:=s.toks+1}:=by
   show I.yd (its:=[e,it]) (λb o hb q=>?_) hf (aas _) ?_
   .let h1:b≠e:=λz=>hb (by simp[z]);let h3:b≠it:=λz=>hb (by simp[z]);show(sb.2 b h1).trans (hk b o h1 h3 q)
   .show(by simp[sizeLine_eq],[.int i s.toks,u],.cons (_,rfl) (.cons ru .nil),?_);show(_,hT2,rfl,0,rfl)
  let iter:h2.IsListIter it l (i+1):=v7.at λo q=>(sb.2 it (Ne.symm lu)).trans q;show(.ref s.heap.objs.size,_,I2,rfl,(s.heap.objs.size,x,I.aN.fresh (Nat.le_refl _),rfl,rfl,λys hy=>by rw[I.iB hy hq];show hx),((u,by simpa using he2),iter),λb hb=>?_);let nb:b≠s.heap.objs.size:=by
   rcases aba.mp hb with rfl| hb
   .show abr elt
   .have:b=it:=by simpa using hb
    subst this;show abr ilt
  rw[Ρ nb];show(hf b hb).1
 done:=by intro X hP hw hK hc i η s σ H E I hf st hg;subst hP hw hK;let((old,he),hi):=st;let(xs,hq,hx):=hg;let(its,rv,p,hz):=I.list hq;let hl:=-rv;let(f0,f1,f2,f3,f4,f5):=hf it (by simp);show wpAny_pyNext_enum_end (I.ok.hd hc) he hi p.isList (by simp;omega) λh' ext=>⟨rfl,I.turned (t':=s.toks) (λb o hb q=>ext b o hb q) f0 f1 f3 f4 f5⟩
 self:=λ_ _ _ _ _ st h=>by let((old,he),_):=st;show wpAny_pyIter_enum he h
def jL:Nat->List Dt->List Dt
 | _,[]=>[]
 | n,x::xs=>.tup [.int n,x]::jL (n+1) xs
def kO:∀(n:Nat) (xs:List Dt),-(jL n xs)=-xs
 | _,[]=>rfl
 | n,_::xs=>by unfold jL;rw[List.length_cons,List.length_cons,kO]
def qM:∀{n i:Nat} {xs:List Dt} {d:Dt},(jL n xs)[i]? =!d->∃x,xs[i]? =!x/\d= .tup [.int ((n+i:Nat):Int),x]
 | n,i,[],d,h=>by simp[jL]at h
 | n,0,x::xs,d,h=>by unfold jL at h;simp at h;show(x,rfl,by rw[<-h];simp)
 | n,i+1,x::xs,d,h=>by unfold jL at h;let(y,h1,h2):=qM (n:=n+1) (i:=i) (xs:=xs) (d:=d) (by simpa using h);show(y,by simpa using h1,by rw[h2,show n+1+i=n+(i+1) by omega])
def KW{K:fI}{ok:Ms->Prop}(s:Src K a xs ok G L):QI K (Ite K a) (jL 0 xs) ok G L where
 go:=λi G1 L1 M1 H1 d g l r k e=>by let(vs,hs,n):=s.at_ G1 L1 M1 H1 g l r k;let(y,ey,rfl):=qM e;let(v,e1,n1):=n.get ey;show((vs,v,hs,e1),λv' H' xz=>?_);let(p,x,hp,ev,eH,hx):=xz;subst ev eH;let e2:=hx vs hs;rw[e1]at e2;cases e2;show(_,r.UO hp,r.N6 hp,sN (ds:=[.int ((0+i:Nat):Int),y]) r hp (_,_,rfl,?_,_,_,rfl,n1,rfl));change V.int i=V.int _;rw[Nat.zero_add]
 stop:=λi G1 L1 M1 H1 g l r k e=>by let(vs,hs,n):=s.at_ G1 L1 M1 H1 g l r k;show(vs,hs,by rw[<--n,<-kO 0];show e)
def XD(t:DA):DK:=λρ M q x=>t ρ M (λds M1=>∃d xs ok,ds=[d]/\mR M1 d=!(xs, ok)/\q (jL 0 xs) ok M1) x
def Ag{X:Cx}{a:Expr}(hm:X.mg "enumerate"=none)(ha:JA X R [a] t)(hg:Gl X "enumerate"|>1)(hs:starEach [a] X.env=[(false, eval a X.env)]|>1):JK X R (.Tuple elts x1 tp) (.Call (.Name "enumerate" p) [a] [] pos) (XD t):=by
 intro η s σ H Q I ⟨G,L,ρ,M,q,x,rl,n,ht,hx,hQ⟩;show Call_ (nW I hg hm Et (PyProof.Rows.callWith_type1 (bP (ha pos η s σ H (P_ X.K G L H _) I (G,L,ρ,M,_,x,rl,n,ht,hx,λ_ _ f=>f)) λus s1 xz=>?_) hs rfl));let(vs,H1,I1,rv,ds,G1,L1,M1,e1,r1,n1,d,xs,ok,ed,hl,h1):=xz;subst ed;let(v,rfl,n2):=bD n1;let(b,ws,rfl,sq,sr,_):=uc r1 n2 hl;let(u,rfl,ru):=aD.one rv;cases ru;let(its,_,pl,_):=I1.list sq;show call_enumerate_list pl.isList λh' he hi hz hk=>?_;let I2:Inv X η σ H1 {s1 with heap:=h'}:=I1.kept (t':=s1.toks) hk;show wpAny_pyIter_enum (s:={s1 with heap:=h'}) he (s1.heap.objs.size+1,[s1.heap.objs.size+1,s1.heap.objs.size],_,_,H1,rfl,I2,Jh b s1.heap.objs.size (s1.heap.objs.size+1) (adH (acu _)),((_,he),hi),λc hc=>?_,hQ _ _ (_,ok,G1,L1,M1,e1,r1,KW sr,h1));let hc:s1.heap.objs.size<=c:=by
  rcases aba.mp hc with rfl| hc
  .show Nat.le_succ _
  .have:c=s1.heap.objs.size:=by simpa using hc
   rw[this];show aas _
 let f:=I1.E8 (H':=H1) hc (I1.aN.fresh hc);show f
def Gd(M:Ms):Dt->Option Value
 | .loc k=>match M[k]? with
  | some (.lst _)=>!(.type "list")
  | _=>none
 | d=>QW d
def Qw(K:fI):List Dt->Ms->DQ->Prop:=λds M q=>∃d c t t' b,ds=[d,c]/\Gd M d=!t/\Tj c=!t'/\PySem.W.kitOne K t t'=!b/\q (.bl b) M
section
variable{K:fI}
set_option tactic.hygienic true in
def E4{H:Hp}(r:Rl K G L M H)(n:Den K G L d v)(h:Gd M d=!t):l_ K H v t:=by
 by_cases hd:∃k,d= .loc k
 .let(k,rfl):=hd;let(a,rfl,e):=n;let h:(match M[k]? with| some (.lst _)=>!(Value.type "list")| _=>none)=!t:=h;split at h
  .rename_i xs hm;cases h;let(_,vs,e1,_):=r.fv k a _ e hm;show .lst e1
  .cases h
 .show Iq r n ?_;cases d with
  | loc k=>show abc (k,rfl) hd
  | _=>show h
def Wt:CZ K (λxs H Q=>∃x c t t' b,xs=[x,c]/\l_ K H x t/\Mv c=!t'/\PySem.W.kitOne K t t'=!b/\Q (.bl b) H) (Qw K):=by intro G0 L0 H0 G L M H vs ds q e r n ⟨d,c,t,t',b,ed,h1,h2,hb,h⟩;subst ed;let(v,u,rfl,n1,n2):=d7 n;show(v,u,t,t',b,rfl,E4 r n1 h1,GQ n2 h2,hb,bB e r h)
end
section
variable{X:Cx}{R:St->XK}{e e2:Expr}{t:DA}{p pos:Pos}
def oM(K:fI)(hm:X.mg "isinstance"=none)(ha:JA X R [e,e2] t)(he:starEach [e,e2] X.env=(false, eval e X.env)::starEach [e2] X.env|>1)(gL:(backTo pos (starEach [e2] X.env)).any (·.1)=false|>1)(hg:Gl X "isinstance"|>1)(hK:X.K=K|>1):JE X R (.Call (.Name "isinstance" p) [e,e2] [] pos) (sA (Qw K) t):=by subst hK;show hV rQ Wt hm jV ha hg @_ @_ he gL
def xE:∀{zs:List Str} {us:List Value},Paired (λ(z:Str) (u:Value)=>∃tk,u= .str z tk) zs us->aD (zs.map V.str) us
 | _,_,.nil=>.nil
 | _,_,.cons h t=>.cons h (xE t)
def Kl(hm:∃a o its n,X.mg x=!(.ref a)/\X.K.lookup a=!o/\o.cls= .type "tuple"/\o.data= .seq its n/\its.size<=sizeLine/\Paired (λ(z:Str) (u:Value)=>∃tk,u= .str z tk) zs its.toList)(hg:Gl X x|>1)(hd:(x==("__debug__":Str))=false|>2):JE X R (.Name x pos) (dC (.kt (zs.map .str))):=by let(a,o,its,n,h1,h2,h3,h4,h5,h6):=hm;show S5 (v:=.ref a) (GL hg h1 rfl hd) λG L=>(a,zs.map V.str,rfl,.inr (o,its,n,h2,h3,h4,h5,xE h6),wZ)
end
def fU{te:DE}{cs:En}{ok:Ms->Prop}{f:Dt->Dt}:∀{xs Ι:List Dt} {M:Ms} {k:List Dt->Ms->Prop},ok M->(∀x∈xs,∀q:DQ,q (f x) M->te ((!x)::cs) M q nc)->k (Ι++xs.map f) M->ug te cs ok xs Ι M k
 | [],Ι,M,k,ho,_,h=>(ho,by simpa using h)
 | x::xs,Ι,M,k,ho,hf,h=>(ho,hf x List.mem_cons_self _ (fU ho (λy hy=>hf y (List.mem_cons_of_mem _ hy)) (by simpa using h)))
def bz{g:Dt->En->(En->Prop)->Prop}{ok:Ms->Prop}(J:List Dt->En->Ms->Prop)(aN:∀xs ρ M,J xs ρ M->ok M)
  (step:∀x xs ρ M,J (x::xs) ρ M->(∀ρ M,J xs ρ M->r8 g tb Dn ok xs ρ M)->g x ρ λρ'=>tb {Dn with nx:=r8 g tb Dn ok xs,ct:=r8 g tb Dn ok xs,bk:=Dn.nx} ρ' M)
  (fin:∀ρ M,J [] ρ M->Dn.nx ρ M):∀(xs:List Dt) (ρ:En) (M:Ms),J xs ρ M->r8 g tb Dn ok xs ρ M
 | [],ρ,M,h=>(aN _ _ _ h,fin _ _ h)
 | x::xs,ρ,M,h=>(aN _ _ _ h,step x xs ρ M h λρ' M' h'=>bz J aN step fin xs ρ' M' h')
section
variable{K:fI}{G:Hp}{L:List Addr}
mutual
def Tn:∀(d:Dt) (v:V),Den K G L d v->d.under (-L)
 | .bt,_,_=>trivial
 | .bl _,_,_=>trivial
 | .int _,_,_=>trivial
 | .str _,_,_=>trivial
 | .tup ds,_,(a,vs,e,h1,h2)=>gD ds vs h2
 | .lst ds,_,(a,vs,e,h1,h2)=>gD ds vs h2
 | .obj C ns ds,_,(a,dx,vs,e,h1,hl,h2)=>gD ds vs h2
 | .loc k,_,(a,e,h1)=>(aae.mp h1).1
 | .ref _,_,_=>trivial
 | .ty _,_,_=>trivial
 | .jC _,_,_=>trivial
 | .kt ds,_,(a,vs,e,h1,h2)=>gD ds vs h2
 | .exc _ _ ds,_,(a,od,vs,e,h1,h2,h3,h4)=>gD ds vs h4
 | .UJ _ _ _ _ ds,_,(vs,e,h2,h3,h4)=>gD ds vs h4
def gD:∀(ds:List Dt) (vs:List V),Υ K G L ds vs->Dt.cB (-L) ds
 | [],_,_=>trivial
 | d::ds,_,(v,r,e,h1,h2)=>(Tn d v h1,gD ds r h2)
end
def Rl.un{H:Hp}(r:Rl K G L M H):∀m∈M,MO.under (-M) m:=λm hm=>by
 let(k,hk,e):=acd hm;let em:M[k]? =!m:=by rw[aaa hk,e]
 let el:L[k]? =!(L[k]'(by rw[r.len];show hk)):=aaa _;let(_,q):=r.fv k _ m el em;rw[<-r.len];cases m with
 | lst ds=>let(vs,_,h):=q;show gD _ _ h
 | ins C ns ds=>let(dx,vs,_,_,h):=q;show gD _ _ h
 | cZ ks ds=>let(vs,_,_,h):=q;show gD _ _ h
 | raw u=>trivial
end
def tS(M0:Ms)(q:DQ):DQ:=λd M=>∃E d',M=M0++E/\JJ (-M0) E d d'/\q d' M0
def Fin.tS{K:fI}{q:DQ}{H:Hp}(r0:Rl K G0 L0 M0 H0)(f:Fin K G0 L0 H0 (tS M0 q) v H):Fin K G0 L0 H0 q v H:=by let(d,G,L,M,ex,r,dn,E,d',e,fz,hq):=f;show Fin.w4 r0 (d,G,L,M,ex,r,dn,M0,E,d',e,rfl,r0.un,fz,hq)
def Nl(t:DE):DE:=λρ M q x=>t ρ M (tS M q) x
def cL(h:JE X R e t):JE X R e (Nl t):=.of h λσ H G L ρ M q x rl n ht hx=>(G,L,ρ,M,_,x,rl,n,ht,hx,λv H1 f=>Fin.tS rl f)
def PU{M0:Ms}{q:DQ}{d:Dt}(hu:d.under (-M0))(h:q d M0):tS M0 q d M0:=([],d,by simp,.old hu,h)
def n9{M0:Ms}{q:DQ}(f:JJ (-M0) E d d')(h:q d' M0):tS M0 q d (M0++E):=(E,d',rfl,f,h)
def hU(f:Expr->Option Dt):List Expr->Option (List Dt)
 | []=>![]
 | e::es=>match f e,hU f es with
  | some d,!ds=>!(d::ds)
  | _,_=>none
noncomputable def iO:Nat->Expr->Option Dt
 | 0,e=>match e with
  | .Constant (.int i) _ _=>!(.int i)
  | .Constant (.str x) _ _=>!(.str x)
  | _=>none
 | n+1,e=>match e with
  | .Constant (.int i) _ _=>!(.int i)
  | .Constant (.str x) _ _=>!(.str x)
  | .Tuple es _ _=>if -es<=100 then (hU (iO n) es).map .tup else none
  | .List es _=>if -es<=100 then (hU (iO n) es).map .lst else none
  | _=>none
def Dw{d:Dt}{es:List Expr}(h:iO n e=!d):starEach (e::es) env=(false, eval e env)::starEach es env:=by cases n <;> (unfold iO at h;split at h <;> first| rfl| cases h)
set_option tactic.hygienic true in
def md:∀{es:List Expr} {ds:List Dt},hU f es=!ds->-ds=-es
 | [],ds,h=>by cases h;rfl
 | e::es,ds,h=>by
  unfold hU at h;split at h
  .rename_i d pT h1 h2;cases h;rw[aaQ,aaQ,md h2]
  .cases h
section
variable{X:Cx}{R:St->XK}
set_option tactic.hygienic true
def vD(ih:∀(e:Expr) (d:Dt),iO n e=!d->JE X R e (dC d)):∀(es:List Expr) (ds:List Dt),hU (iO n) es=!ds->JA X R es (λ_ M q _=>q ds M)
 | [],ds,h=>by cases h;show θ
 | e::es,ds,h=>by
  unfold hU at h;split at h
  .rename_i d pT h1 h2;cases h;show ι (ih e d h1) (vD ih es pT h2) (hs:=Dw h1)
  .cases h
def Gk{n:Nat}(h:n<=100):n<=sizeLine:=aaR h @_
def JE.imp{t':DE}(h:JE X R e t)(hi:∀ρ M q x,t' ρ M q x->t ρ M q x):JE X R e t':=.of h λσ H G L ρ M q x rl n ht hx=>(G,L,ρ,M,q,x,rl,n,hi _ _ _ _ ht,hx,λ_ _ f=>f)
def eA:∀(n:Nat) {e:Expr} {d:Dt},iO n e=!d->JE X R e (dC d)
 | 0,e,d,h=>by
  unfold iO at h;split at h
  .cases h;show ν
  .cases h;show jM
  .cases h
 | n +1,e,d,h=>by
  unfold iO at h;split at h
  .cases h;show ν
  .cases h;show jM
  .split at h
   .rename_i es _ _ hl;cases hc:hU (iO n) es with
    | none=>rw[hc]at h;cases h
    | some ds=>
     rw[hc]at h;cases h;show(cP (vD (λe d=>eA n) es ds hc)).imp λρ M q x hq=>(Gk (by rw[md hc];show hl),hq)
   .cases h
  .split at h
   .rename_i es _ hl;cases hc:hU (iO n) es with
    | none=>rw[hc]at h;cases h
    | some ds=>
     rw[hc]at h;cases h;show(kT (vD (λe d=>eA n) es ds hc)).imp λρ M q x hq=>(Gk (by rw[md hc];show hl),hq)
   .cases h
  .cases h
end
def HS:bootBuiltins "zip"=!(.type "zip"):=by decide+kernel
def Inv.NR{H:Hp}{h':Heap}{its:List Addr}{t':Nat}(I:Inv X η σ H s)(k:∀b u,b∉its->s.heap.get? b=!u->h'.get? b=!u)(f:∀b∈its,u6 X η H b):
  Inv X η σ H {s with heap:=h',toks:=t'}:=by
 let Xa:∀b u,H b=!u->b∉its:=λb u e z=>by rw[(f b z).1]at e;cases e
 show I.call (ch:=its) (g':=s.gens) (d':=s.drawn) (t':=t') (λb u q _ _ hb=>k b u hb q,λb u q _ _ hb=>(u.slots,k b u hb q),λb u q n _=>n,λb u q hb=>(u,k b u hb q),λb xs q=>q,λb u xs q=>q,λb ps q=>(#[],by rw[q];simp)) (λb u e=>?_) I.bare λb hb=>?_
 .show(I.aN b u e).Dq (λc v hc q=>k c v ?_ q) (λc q=>q) λc xs q=>q;rcases hc with z| z
  .rw[z];show Xa b u e
  .show Xa c _ z
 .let(f0,f1,f2,f3,f4,f5):=f b hb;show(f3,f1,f4,f5)
def Itz(K:fI)(l1 l2:Addr):It:=
 ⟨λi H=>∃xs ys x y,gY K H l1 xs/\gY K H l2 ys/\xs[i]? =!x/\ys[i]? =!y,
  λi H v H'=>∃p x y,H p=none/\v= .ref p/\H'=upd H p (.tup [x,y])/\(∀xs,gY K H l1 xs->xs[i]? =!x)/\∀ys,gY K H l2 ys->ys[i]? =!y,
  λi H=>∃xs ys,gY K H l1 xs/\gY K H l2 ys/\(-xs<=i\/-ys<=i)⟩
def MM{K:fI}{TI TO:Addr}(D:ZipApart z TI TO i1 i2 l1 l2):Turn P w K (.Tuple elts x1 tp) (Itz K l1 l2) [z,TI,TO,i1,i2] z (λi h=>(∃a b,IsZip h z TI TO .none/\IsPair h TI (.ref i1) (.ref i2)/\IsPair h TO a b)/\h.IsListIter i1 l1 i/\h.IsListIter i2 l2 i) where
 mem:=by simp
 obj:=λi h st b hb=>by
  let((a,c,hz,La,Ny),h1,h2):=st;simp only[List.mem_cons,List.not_mem_nil,or_false]at hb;rcases hb with rfl| rfl| rfl| rfl| rfl
  .show(_,hz,λv z=>by
    let z':Data.fields _=Data.cell v:=z
    cases z')
  .show(_,La,λv z=>by
    let z':Data.seq _=Data.cell v:=z
    cases z')
  .show(_,Ny,λv z=>by
    let z':Data.seq _=Data.cell v:=z
    cases z')
  .let(o,e,c,d):=h1;show(o,e,λv z=>by rw[d]at z;cases z)
  .let(o,e,c,d):=h2;show(o,e,λv z=>by rw[d]at z;cases z)
 keep:=λi h h' st k=>by let((a,c,hz,La,Ny),h1,h2):=st;show((a,c,k z (by simp) _ hz,k TI (by simp) _ La,k TO (by simp) _ Ny),h1.at λo q=>k i1 (by simp) o q,h2.at λo q=>k i2 (by simp) o q)
 item:=by
  intro X hP hw hK hc i η s σ H E I hf st hg;subst hP hw hK;let((a,c,hz,La,Ny),h1,h2):=st;let(xs,ys,x,y,Ws,UN,hx,hy):=hg;let(Zp,Z6,p1,_):=I.list Ws;let(u1,hu1,ru1):=Z6.get hx;let(LH,rv2,p2,_):=I.list UN;let(u2,hu2,ru2):=rv2.get hy;show wpAny_pyNext_zip_item D hz La Ny h1 h2 p1.isList p2.isList (x:=u1) (y:=u2) (by simpa using hu1) (by simpa using hu2) λh' Qi ack UA h2' hT hsz hk=>?_;show(_,rfl,wpAny_letOwnedTupleGo_zip (s:={s with heap:=h'}) Qi λh3 hz3 sb=>?_);let sb:Heap.SameBut z h' h3:=sb;let zlt:z < s.heap.objs.size:=aaM hz;let neT:s.heap.objs.size≠z:=adH zlt;let hT3:h3.get? s.heap.objs.size=some {cls:=.type "tuple",data:=.seq #[u1,u2]}:=(sb.2 _ neT).trans hT;let lt:∀b∈[z,TI,TO,i1,i2],b < s.heap.objs.size:=λb hb=>by
   simp only[List.mem_cons,List.not_mem_nil,or_false]at hb;rcases hb with rfl| rfl| rfl| rfl| rfl
   .show zlt
   .show aaM La
   .show aaM Ny
   .let(o,q,_):=h1;show aaM q
   .let(o,q,_):=h2;show aaM q
  let I2:Inv X η σ (upd H s.heap.objs.size (.tup [x,y])) {s with heap:=h3,toks:=s.toks}:=by
   show I.yd (its:=[z,TI,TO,i1,i2]) (λb o hb q=>?_) hf (aas _) ?_
   .simp only[List.mem_cons,List.not_mem_nil,or_false,not_or]at hb;let(b1,b2,b3,b4,b5):=hb;show(sb.2 b b1).trans (hk b o b1 b3 b4 b5 q)
   .show(by simp[sizeLine_eq],[u1,u2],.cons ru1 (.cons ru2 .nil),?_);show(_,hT3,rfl,0,rfl)
  show(.ref s.heap.objs.size,_,I2,rfl,(s.heap.objs.size,x,y,I.aN.fresh (aas _),rfl,rfl,λzs hzs=>by rw[I.iB hzs Ws];show hx,λzs hzs=>by rw[I.iB hzs UN];show hy),((u1,u2,hz3,(sb.2 _ D.TIz).trans (hk _ _ D.TIz D.TITO D.TIi1 D.TIi2 La),(sb.2 _ D.TOz).trans ack),UA.at λo q=>(sb.2 i1 D.i1z).trans q,h2'.at λo q=>(sb.2 i2 D.i2z).trans q),λb hb=>?_);rw[Ρ (abr (lt b hb))];show(hf b hb).1
 done:=by intro X hP hw hK hc i η s σ H E I hf st hg;subst hP hw hK;let((a,c,hz,La,Ny),h1,h2):=st;let(xs,ys,Ws,UN,hx):=hg;let(Zp,Z6,p1,_):=I.list Ws;let(LH,rv2,p2,_):=I.list UN;let YN:=-Z6;let D7:=-rv2;show wpAny_pyNext_zip_end (I.ok.hd hc) D hz La Ny h1 h2 p1.isList p2.isList (by rcases hx with hx| hx;(left;simp;omega);(right;simp;omega)) λh' ext=>⟨rfl,I.NR (t':=s.toks) (its:=[z,TI,TO,i1,i2]) (λb o hb q=>?_) hf⟩;simp only[List.mem_cons,List.not_mem_nil,or_false,not_or]at hb;let(b1,b2,b3,b4,b5):=hb;show ext b o b1 b3 b4 b5 q
 self:=λ_ _ _ _ _ st h=>by let((a,c,hz,_,_),_):=st;show wpAny_pyIter_zip hz h
def sf(xs ys:List Dt):List Dt:=(xs.zip ys).map λp=>.tup [p.1,p.2]
def L9{i:Nat}{d:Dt}(h:(sf xs ys)[i]? =!d):∃x y,xs[i]? =!x/\ys[i]? =!y/\d= .tup [x,y]:=by
 unfold sf at h;rw[aaw]at h;cases e:(xs.zip ys)[i]? with
 | none=>rw[e]at h;cases h
 | some p=>
  rw[e]at h;cases h;let(h1,h2):=acL.mp e;show(p.1,p.2,h1,h2,rfl)
def BM(xs ys:List Dt):-(sf xs ys)=min (-xs) (-ys):=by unfold sf;rw[List.length_map,List.length_zip]
def Oo{K:fI}{ok:Ms->Prop}(s:Src K a xs ok G L)(s':Src K b ys UG G L):QI K (Itz K a b) (sf xs ys) (λM=>ok M/\UG M) G L where
 go:=λi G1 L1 M1 H1 d g l r k e=>by let(vs,hs,n):=s.at_ G1 L1 M1 H1 g l r k.1;let(Yy,Yz,n'):=s'.at_ G1 L1 M1 H1 g l r k.2;let(x,y,ex,ey,rfl):=L9 e;let(v,e1,n1):=n.get ex;let(v',e1',n1'):=n'.get ey;show((vs,Yy,v,v',hs,Yz,e1,e1'),λw H' xz=>?_);let(p,x2,y2,hp,ev,eH,hx,hy):=xz;subst ev eH;let e2:=hx vs hs;rw[e1]at e2;cases e2;let e3:=hy Yy Yz;rw[e1']at e3;cases e3;show(_,r.UO hp,r.N6 hp,sN (ds:=[x,y]) r hp (_,_,rfl,n1,_,_,rfl,n1',rfl))
 stop:=λi G1 L1 M1 H1 g l r k e=>by let(vs,hs,n):=s.at_ G1 L1 M1 H1 g l r k.1;let(Yy,Yz,n'):=s'.at_ G1 L1 M1 H1 g l r k.2;show(vs,Yy,hs,Yz,?_);rw[<--n,<--n'];rw[BM]at e;omega
def Z8(t:DA):DK:=λρ M q x=>t ρ M (λds M1=>∃d d' xs ys ok UG,ds=[d,d']/\mR M1 d=!(xs, ok)/\mR M1 d'=!(ys, UG)/\q (sf xs ys) (λM=>ok M/\UG M) M1) x
def C_{X:Cx}{a a':Expr}(hm:X.mg "zip"=none)(ha:JA X R [a,a'] t)(hg:Gl X "zip"|>1)(hs:starEach [a,a'] X.env=(false, eval a X.env)::starEach [a'] X.env|>1)(gL:(backTo pos (starEach [a'] X.env)).any (·.1)=false|>1):JK X R (.Tuple elts x1 tp) (.Call (.Name "zip" p) [a,a'] [] pos) (Z8 t):=by
 intro η s σ H Q I ⟨G,L,ρ,M,q,x,rl,n,ht,hx,hQ⟩;show Call_ (nW I hg hm HS (PyProof.Rows.callWith_type1 (bP (ha pos η s σ H (P_ X.K G L H _) I (G,L,ρ,M,_,x,rl,n,ht,hx,λ_ _ f=>f)) λus s1 xz=>?_) hs gL));let(vs,H1,I1,rv,ds,G1,L1,M1,e1,r1,n1,d,d',xs,ys,ok,UG,ed,hl,Zt,h1):=xz;subst ed;let(v,v',rfl,n2,n2'):=d7 n1;let(b,ws,rfl,sq,sr,_):=uc r1 n2 hl;let(b',ws',rfl,sq',sr',_):=uc r1 n2' Zt;cases rv with
 | cons ru rv=>
  cases rv with
  | cons ru' rv=>
   cases rv;cases ru;cases ru';let(its,_,pl,_):=I1.list sq;let(its',_,Bo,_):=I1.list sq';let lt1:b < s1.heap.objs.size:=by let(o,q,_):=pl.isList;show aaM q
   let lt2:b' < s1.heap.objs.size:=by let(o,q,_):=Bo.isList;show aaM q
   show call_zip_2 pl.isList Bo.isList λh' hz La Ny hi v7 hsz hk=>?_;let I2:Inv X η σ H1 {s1 with heap:=h'}:=I1.kept (t':=s1.toks) hk;let D:ZipApart (s1.heap.objs.size+4) (s1.heap.objs.size+2) (s1.heap.objs.size+3) s1.heap.objs.size (s1.heap.objs.size+1) b b':=by let ne:∀i j:Nat,i≠j->s1.heap.objs.size+i≠s1.heap.objs.size+j:=λi j h z=>h (Nat.add_left_cancel z);let n1:∀i:Nat,b≠s1.heap.objs.size+i:=λi=>abr (aaV lt1 (acY _ _));let n2:∀i:Nat,b'≠s1.heap.objs.size+i:=λi=>abr (aaV lt2 (acY _ _));show(ne 2 4 @_,ne 3 4 @_,ne 0 4 @_,ne 1 4 @_,ne 2 3 @_,ne 2 0 @_,ne 2 1 @_,ne 3 0 @_,ne 3 1 @_,ne 0 1 @_,n1 4,n1 3,n1 0,n1 1,n2 4,n2 3,n2 0,n2 1)
   show wpAny_pyIter_zip (s:={s1 with heap:=h'}) hz (s1.heap.objs.size+4,[s1.heap.objs.size+4,s1.heap.objs.size+2,s1.heap.objs.size+3,s1.heap.objs.size,s1.heap.objs.size+1],_,_,H1,rfl,I2,MM D,((_,_,hz,La,Ny),hi,v7),λc hc=>?_,hQ _ _ (_,_,G1,L1,M1,e1,r1,Oo sr sr',h1));let hc:s1.heap.objs.size<=c:=by
    simp only[List.mem_cons,List.not_mem_nil,or_false]at hc;rcases hc with rfl| rfl| rfl| rfl| rfl
    .show acY _ _
    .show acY _ _
    .show acY _ _
    .show aas _
    .show acY _ _
   let f:=I1.E8 (H':=H1) hc (I1.aN.fresh hc);show f
section
variable{X:Cx}{R:St->XK}{elt iter c:Expr}{x y:Str}{px py tp:Pos}{scope:Scope}{pos:Pos}{ti:DK}{tc:DT}{te:DE}{ys:List Str}{ae:List Nat}{kk:Nat}
def Be(S:aG X scope [x] ys ae)(hi:JK X R (.Name x px) iter ti)(ht:∀C s H fp,JT (Cx.comp X (x::ys) scope C s H fp) (λ_=>E0) c tc)(he:∀C s H fp,JE (Cx.comp X (x::ys) scope C s H fp) (λ_=>E0) elt te)(hc:X.calm=true|>1)(hs:(∀x,foldedSetIterable iter X.env x=pure x)|>3):JE X R (.ListComp elt [(.Name x px,iter,[c],0)] scope pos) (zk 1 ti (gN 0) tc te ae):=V_ false S hi (iP S (i:=0) rfl) aH (iC (Nat.zero_lt_succ 0)) (λC s H fp=>GH (ht C s H fp)) he hc hs λ_ _ _ _ h=>h
def Kk(S:aG X scope [x,y] ys ae)(hi:JK X R (.Tuple [.Name x px,.Name y py] kk tp) iter ti)(ht:∀C s H fp,JT (Cx.comp X (x::y::ys) scope C s H fp) (λ_=>E0) c tc)(he:∀C s H fp,JE (Cx.comp X (x::y::ys) scope C s H fp) (λ_=>E0) elt te)(hc:X.calm=true|>1)(hs:(∀x,foldedSetIterable iter X.env x=pure x)|>3):JE X R (.ListComp elt [(.Tuple [.Name x px,.Name y py] kk tp,iter,[c],0)] scope pos) (zk 2 ti (g2 0 1) tc te ae):=V_ false S hi (yz hc S) lQ (qb (Nat.zero_lt_succ 1) (acu 1)) (λC s H fp=>GH (ht C s H fp)) he hc hs λ_ _ _ _ h=>h
end
def fJ{g:Dt->En->(En->Prop)->Prop}{tc:DT}{te:DE}{ok:Ms->Prop}{k:List Dt->Ms->Prop}(ho:ok M)(b:Dt->Bool)(f:Dt->Dt):∀(xs Ι:List Dt),(∀x∈xs,∀(q:DQ) (p:Ms->Prop),(b x=true->q (f x) M)->(b x=false->p M)->g x ρ0 λρ'=>tc ρ' M (λb' M1=>match b' with| true=>te ρ' M1 q nc| false=>p M1) nc)->
  k (Ι++(xs.filter b).map f) M->jP g tc te ρ0 ok xs Ι M k
 | [],Ι,_,h=>(ho,by simpa using h)
 | x::xs,Ι,ht,h=>(ho,ht x List.mem_cons_self _ _ (λhb=>fJ ho b f xs _ (λy hy=>ht y (List.mem_cons_of_mem _ hy)) (by simpa [hb] using h)) λhb=>fJ ho b f xs _ (λy hy=>ht y (List.mem_cons_of_mem _ hy)) (by simpa [hb] using h))
def Iw(xs:List V)(k:Nat):wx xs (!(k:Int)) none=xs.drop k:=by
 unfold wx;rw[HT.sH,HT.Cv];by_cases h:k<=-xs
 .rw[adz h,acV (by rw[acQ];omega)]
 .rw[Nat.min_eq_right (),List.drop_eq_nil_of_le (Nat.le_refl _),List.drop_eq_nil_of_le ()];simp
section
variable{κ:Type} [DecidableEq κ]
def fZ(Κ:List (κ×V))(k:κ):Option V:=(Κ.find? λkv=>decide (kv.1=k)).map (·.2)
def jz(Κ:List (κ×V))(k:κ)(v:V):List (κ×V):=
 if (Κ.any λkv=>decide (kv.1=k))=true then Κ.map (λkv=>if kv.1=k then (kv.1, v) else kv) else Κ++[(k, v)]
def dR{p:κ×V}{r:List (κ×V)}{k:κ}(e:p.1=k):fZ (p::r) k=!p.2:=by simp[fZ,List.find?_cons,e]
def dw{p:κ×V}{r:List (κ×V)}{k:κ}(e:¬p.1=k):fZ (p::r) k=fZ r k:=by simp[fZ,List.find?_cons,e]
def pI(k:κ):∀Κ:List (κ×V),(Κ.any λkv=>decide (kv.1=k))=(fZ Κ k).isSome
 | []=>rfl
 | p::r=>by
  rw[ac8];by_cases e:p.1=k
  .simp only[dR e,decide_eq_true e,Bool.true_or,Option.isSome_some]
  .rw[dw e,aa4 e,Bool.false_or];show pI k r
def w6(k j:κ)(y:V):∀Κ:List (κ×V),fZ Κ k=none->fZ (Κ++[(k, y)]) j=if j=k then !y else fZ Κ j
 | [],_=>by
  by_cases e:k=j
  .rw[aa1 e.symm];show dR (p:=(k, y)) e
  .rw[aa2 (λz=>e z.symm)];show dw (p:=(k, y)) e
 | p::r,hn=>by
  rw[List.cons_append];let hk:¬p.1=k:=λz=>by rw[dR z]at hn;cases hn
  rw[dw hk]at hn;let ih:=w6 k j y r hn;by_cases e:p.1=j
  .rw[dR e,dR e,aa2 (λz=>hk (e.trans z))]
  .rw[dw e,dw e,ih]
def mi(Κ:List (κ×V))(k:κ)(v:V):-(jz Κ k v)<=-Κ+1:=by
 unfold jz;split
 .rw[aac];omega
 .rw[aaj,aaQ,List.length_nil];omega
def LQ{k:κ}(v:V)(h:fZ Κ k=none):jz Κ k v=Κ++[(k, v)]:=by unfold jz;rw[pI,h];show aa2 @_
def kB.jK(r:kB o u):o.isSome=u.isSome:=by
 cases o with
 | none=>cases u with
  | none=>rfl
  | some _=>show(show False from r).elim
 | some _=>cases u with
  | none=>show(show False from r).elim
  | some _=>rfl
def kB.getD(r:kB o u)(rd:az d d'):az (o.getD d) (u.getD d'):=by
 cases o with
 | none=>cases u with
  | none=>show rd
  | some _=>show(show False from r).elim
 | some _=>cases u with
  | none=>show(show False from r).elim
  | some _=>show r
def KV.val(r:KV Κ vs)(k:κ):kB (fZ Κ k) (valueAt vs k):=by
 unfold KV at r
 induction r with
 | nil=>show True.intro
 | @cons p q ps qs h t ih=>
  let(h1,h2):=h;by_cases e:p.1=k
  .let e':q.1=k:=h1.symm.trans e;let b:valueAt (q::qs) k=!q.2:=by simp[valueAt,List.find?_cons,e']
   rw[dR e,b];show h2
  .let e':¬q.1=k:=λz=>e (h1.trans z);let b:valueAt (q::qs) k=valueAt qs k:=by simp[valueAt,List.find?_cons,e']
   rw[dw e,b];show ih
def KV.any(r:KV Κ vs)(k:κ):(Κ.any λkv=>decide (kv.1=k))=vs.any λkv=>decide (kv.1=k):=by
 unfold KV at r
 induction r with
 | nil=>rfl
 | cons h t ih=>rw[ac8,ac8,ih,h.1]
def KV.SE(r:KV Κ vs)(k:κ)(ry:az y u):
  KV (Κ.map λkv=>if kv.1=k then (kv.1, y) else kv) (vs.map λkv=>if kv.1=k then (kv.1, u) else kv):=by
 unfold KV at r⊢
 induction r with
 | nil=>show .nil
 | @cons p q ps qs h t ih=>
  rw[aaX,aaX];show .cons ?_ ih;let(h1,h2):=h;by_cases e:p.1=k
  .rw[aa1 e,aa1 (h1.symm.trans e)];show(h1,ry)
  .rw[aa2 e,aa2 (λz=>e (h1.trans z))];show(h1,h2)
def KV.put(r:KV Κ vs)(k:κ)(ry:az y u):KV (jz Κ k y) (stored vs k u):=by
 unfold jz stored;rw[r.any k];by_cases e:(vs.any λkv=>decide (kv.1=k))=true
 .rw[aa1 e,aa1 e];show r.SE k ry
 .rw[aa2 e,aa2 e];show Paired.snoc r (rfl,ry)
def KV.keys{Κ:List (κ×V)}{vs:List (κ×Value)}(r:KV Κ vs):Κ.map (·.1)=vs.map (·.1):=by
 unfold KV at r
 induction r with
 | nil=>rfl
 | cons h t ih=>rw[aaX,aaX,ih,h.1]
def KV.length(r:KV Κ vs):-Κ=-vs:=Paired.length r
end
def rX{k:Key}(r:az (kV k) u):(bJ P w).is k u=true:=by
 cases k with
 | inl i=>let(t,e):=(show∃t,u=Value.int i t from r);subst e;show BU P w i t
 | inr x=>let(t,e):=(show∃t,u=Value.str x t from r);subst e;show BE P w x t
def xq:∀{ks:List Key} {us:List Value},aD (ks.map kV) us->ItemsAre (bJ P w) ks us
 | [],_,r=>by rw[ads]at r;cases r;show .nil
 | k::ks,_,r=>by
  rw[aaX]at r;cases r with
  | cons h t=>show .cons (rX h) (xq t)
abbrev KT(H:Hp):List (List Key×V)->List (List Key×Addr×Value)->Prop:=Paired λp q=>p.1=q.1/\H q.2.1=!(.tup (p.1.map kV))/\az p.2 q.2.2
def KT.val{H:Hp}(r:KT H Κ xs)(k:List Key):kB (fZ Κ k) ((atKey xs k).map (·.2)):=by
 induction r with
 | nil=>show True.intro
 | @cons p q ps qs h t ih=>
  let(h1,_,h2):=h;by_cases e:p.1=k
  .let e':q.1=k:=h1.symm.trans e;let b:atKey (q::qs) k=!q.2:=by simp[atKey,List.find?_cons,e']
   rw[dR e,b];show h2
  .let e':¬q.1=k:=λz=>e (h1.trans z);let b:atKey (q::qs) k=atKey qs k:=by simp[atKey,List.find?_cons,e']
   rw[dw e,b];show ih
def KT.SE{H:Hp}(r:KT H Κ xs)(k:List Key)(ry:az y u):
  KT H (Κ.map λkv=>if kv.1=k then (kv.1, y) else kv) (xs.map (putAt k u)):=by
 induction r with
 | nil=>show .nil
 | @cons p q ps qs h t ih=>
  rw[aaX,aaX];show .cons ?_ ih;let(h1,h2,h3):=h;unfold putAt;by_cases e:p.1=k
  .rw[aa1 e,aa1 (h1.symm.trans e)];show(h1,h2,ry)
  .rw[aa2 e,aa2 (λz=>e (h1.trans z))];show(h1,h2,h3)
def KT.put{H:Hp}(r:KT H Κ xs)(k:List Key)(hb:H b=!(.tup (k.map kV)))(ry:az y u):
  KT H (jz Κ k y) (storedH xs k b u):=by
 let e:(Κ.any λkv=>decide (kv.1=k))=(atKey xs k).isSome:=by rw[pI,(r.val k).jK,Option.isSome_map]
 unfold jz storedH;rw[e];by_cases q:(atKey xs k).isSome=true
 .rw[aa1 q,aa1 q];show r.SE k ry
 .rw[aa2 q,aa2 q];show Paired.snoc r (rfl,hb,ry)
def KT.keeps{H H':Hp}(r:KT H Κ xs)(ht:∀b ys,H b=!(.tup ys)->H' b=!(.tup ys)):KT H' Κ xs:=
 Paired.SF r λ_ _ z=>(z.1,ht _ _ z.2.1,z.2.2)
section
variable{P:Program}{w:World}{H:Hp}{h:Heap}{a:Addr}
def QN(ok:mN P w H h)(e:Rd H a u):cf P w H h a u:=e.ok ok
def dG(ok:mN P w H h)(e:Rd H a (.dK Κ)):-Κ<=sizeLine/\(a==sysModules)=false/\∃vs,KV Κ vs/\h.DictOf (bJ P w) a vs:=
 show cf P w H h a (.dK Κ) from QN ok e
def Fq(ok:mN P w H h)(e:H a=!(.dK Κ)):-Κ<=sizeLine/\(a==sysModules)=false/\∃vs,KV Κ vs/\h.DictOf (bJ P w) a vs:=dG ok (.inl e)
def qS{ks:List Key}(ok:mN P w H h)(e:H a=!(.tup (ks.map kV))):(tupleKind (bJ P w)).is h ks a:=by let(_,its,r,o,h1,h2,n,h3):=(show cf P w H h a (.tup (ks.map kV)) from ok a _ e);show(o,its.toArray,n,h1,h2,h3,by simpa using xq r)
def uq(ok:mN P w H h)(e:Rd H a (.dT Κ)):-Κ<=sizeLine/\(a==sysModules)=false/\
  ∃xs,KT H Κ xs/\h.DictOfH (tupleKind (bJ P w)) a xs:=by
 let(z,y,xs,r,o,es,ep,h1,h2,h3,h4,h5):=(show cf P w H h a (.dT Κ) from QN ok e);show(z,y,xs,r,o,es,ep,h1,h2,h3,h4,λx hx=>?_,h5);let all:∀{l:List (List Key×V)} {m:List (List Key×Addr×Value)},KT H l m->∀x∈m,(tupleKind (bJ P w)).is h x.1 x.2.1:=by
  intro l m q
  induction q with
  | nil=>intro x hx;show nomatch hx
  | @cons p q ps qs hq t ih=>
   intro x hx;rcases aba.mp hx with e| hx
   .subst e;show qS ok (by rw[<-hq.1];show hq.2.1)
   .show ih x hx
 show all r x hx
def XH(ok:mN P w H h)(e:H a=!(.dT Κ)):-Κ<=sizeLine/\(a==sysModules)=false/\
  ∃xs,KT H Κ xs/\h.DictOfH (tupleKind (bJ P w)) a xs:=uq ok (.inl e)
end
def uD(H:Hp)(a:Addr)(y:V)(r:Option V):Prop:=
 (∃Κ k,Rd H a (.dK Κ)/\y=kV k/\r=fZ Κ k)\/∃Κ k b,Rd H a (.dT Κ)/\y= .ref b/\H b=!(.tup (k.map kV))/\r=fZ Κ k
def LN(H:Hp)(a:Addr)(y v:V)(H':Hp):Prop:=
 (∃Κ k,H a=!(.dK Κ)/\y=kV k/\-Κ < sizeLine/\H'=upd H a (.dK (jz Κ k v)))\/
 ∃Κ k b,H a=!(.dT Κ)/\y= .ref b/\H b=!(.tup (k.map kV))/\-Κ < sizeLine/\H'=upd H a (.dT (jz Κ k v))
def LN.k{H:Hp}{k:Key}(e:H a=!(.dK Κ))(hl:-Κ < sizeLine):LN H a (kV k) v (upd H a (.dK (jz Κ k v))):=.inl (Κ,k,e,rfl,hl,rfl)
section
variable{X:Cx}{η:List (Addr×Obj)}{σ:St}{H:Hp}{s:Shared}{a:Addr}{y v:V}{u r:Value}{o:Option V}{A:Around}{E:Value->Shared->Prop}
def Inv.big(I:Inv X η σ H s):sysModules < s.heap.objs.size:=by let h:mainGlobals < s.heap.objs.size:=(I.mod.glob.keeps I.bk).lt;show Nat.lt_trans @_ h
def Jc{Q:Value->Shared->Prop}(hu:A.units+1 < cLine)(I:Inv X η σ H s)(g:uD H a y (!v))(ry:az y u)(h:∀w' s',Inv X η σ H s'->az v w'->Q w' s'):
  wpAny (model X.prog X.w) A (getItem (.ref a) u) Q E s:=by
 rcases g with ⟨Κ,k,e,ey,l⟩| ⟨Κ,k,b,e,ey,eb,l⟩
 .subst ey;let(z,hd,vs,rel,dd):=dG I.aN e;let(w',hw,Ff):=kB.some_of (v:=v) (o:=valueAt vs k) (by rw[l];show rel.val k);show wpAny_getItem_of (rX ry) dd.mapOf hw (h w' _ (I.tok _) Ff)
 .subst ey;cases(show u=Value.ref b from ry);let(z,hd,xs,rel,dd):=uq I.aN e;let(w',hw,Ff):=kB.some_of (v:=v) (o:=(atKey xs k).map (·.2)) (by rw[l];show rel.val k);let(p,hp,UK):=acW.mp hw;show wpAny_getItem_heap (tupleKind_room_in1 hu) (qS I.aN eb) dd hp ?_;rw[UK];show h w' _ (I.tok _) Ff
def Z1{Q:Value->Shared->Prop}(hu:A.units+1 < cLine)(I:Inv X η σ H s)(g:uD H a y o)(ry:az y u)(h:∀s',Inv X η σ H s'->Q (.bool o.isSome) s'):
  wpAny (model X.prog X.w) A (compareOp .In u (.ref a)) Q E s:=by
 rcases g with ⟨Κ,k,e,ey,l⟩| ⟨Κ,k,b,e,ey,eb,l⟩
 .subst ey;let(z,hd,vs,rel,dd):=dG I.aN e;show wpAny_in_of (rX ry) hd dd.mapOf ?_;rw[<-(rel.val k).jK,<-l];show h _ (I.tok _)
 .subst ey;cases(show u=Value.ref b from ry);let(z,hd,xs,rel,dd):=uq I.aN e;show wpAny_in_heap (tupleKind_room_in1 hu) (qS I.aN eb) hd dd ?_;let q:=(rel.val k).jK;rw[Option.isSome_map]at q;rw[<-q,<-l];show h _ (I.tok _)
def NX{Q:Value->Shared->Prop}(hu:A.units+1 < cLine)(I:Inv X η σ H s)(g:uD H a y o)(ry:az y u)(h:∀s',Inv X η σ H s'->Q (.bool (! o.isSome)) s'):
  wpAny (model X.prog X.w) A (compareOp .NotIn u (.ref a)) Q E s:=by
 rcases g with ⟨Κ,k,e,ey,l⟩| ⟨Κ,k,b,e,ey,eb,l⟩
 .subst ey;let(z,hd,vs,rel,dd):=dG I.aN e;show wpAny_notIn_of (rX ry) hd dd.mapOf ?_;rw[<-(rel.val k).jK,<-l];show h _ (I.tok _)
 .subst ey;cases(show u=Value.ref b from ry);let(z,hd,xs,rel,dd):=uq I.aN e;show wpAny_notIn_heap (tupleKind_room_in1 hu) (qS I.aN eb) hd dd ?_;let q:=(rel.val k).jK;rw[Option.isSome_map]at q;rw[<-q,<-l];show h _ (I.tok _)
def sJ{t':Nat}(I:Inv X η σ H s)(mu:UP (H a))(hs:Heap.SameBut a s.heap h')(he:∃q,h'.get? a=!q)(new:cf X.prog X.w (upd H a ob) h' a ob):
  Inv X η σ (upd H a ob) {s with heap:=h',toks:=t'}:=
 I.write (x:=a) (e:=a) mu (.inl rfl) (λb q hb z=>(hs.2 b hb).trans z) he new
def sY{h':Heap}{Κ:List (Key×V)}(z:-Κ<=sizeLine)(hd:(a==sysModules)=false)(rel:KV Κ vs)(dd:h'.DictOf (bJ P w) a vs):
  cf P w H' h' a (.dK Κ):=(z,hd,vs,rel,dd)
def IK{Q:Unit->Shared->Prop}(hu:A.units+1 < cLine)(I:Inv X η σ H s)(g:LN H a y v H')(ry:az y u)(rv:az v r)(h:∀s',Inv X η σ H' s'->Q Unit.unit s'):
  wpAny (model X.prog X.w) A (setItem (.ref a) u r) Q E s:=by
 rcases g with ⟨Κ,k,e,ey,l,eH⟩| ⟨Κ,k,b,e,ey,eb,l,eH⟩
 .subst ey eH;let(z,hd,vs,rel,dd):=Fq I.aN e;let hz:-vs<=sizeLine:=by rw[<--rel];show z
  let hl:-(jz Κ k v)<=sizeLine:=by have:=mi Κ k v;omega
  show wpAny_setItem_pairs (hsz:=hz) (rX ry) dd λh' Px hs=>h _ ?_;let he:∃q,h'.get? a=!q:=let (q,_,_,hq,_):=Px;(q,hq)
  show sJ I (by rw[e];show True.intro) hs he (sY hl hd (rel.put k rv) Px)
 .subst ey eH;cases(show u=Value.ref b from ry);let(z,hd,xs,rel,dd):=XH I.aN e;let hz:-xs<=sizeLine:=by rw[<-Paired.length rel];show z
  let hl:-(jz Κ k v)<=sizeLine:=by have:=mi Κ k v;omega
  show wpAny_setItem_heap (hsz:=hz) (tupleKind_room_in1 hu) (qS I.aN eb) dd λh' Px hs=>h _ ?_;let(q,es,ep,hq,h2,h3,h4,_,h5):=Px;show sJ I (by rw[e];show True.intro) hs (q,hq) (hl,hd,_,(rel.put k eb rv).keeps λc ys ec=>?_,q,es,ep,hq,h2,h3,h4,h5);rw[Ρ (VE ec e nofun)];show ec
end
section
variable{X:Cx}{η:List (Addr×Obj)}{σ:St}{H:Hp}{s:Shared}{a:Addr}{Κ:List (Key×V)}{k:Key}{u:Value}{A:Around}{E:Value->Shared->Prop}
def Xr{Q:Value->Shared->Prop}(I:Inv X η σ H s)(e:Rd H a (.dK Κ))(h:∀t s',Inv X η σ H s'->Q (.int (-Κ) t) s'):wpAny (model X.prog X.w) A (call (.builtin "len") [.ref a]) Q E s:=by let(z,hd,vs,rel,dd):=dG I.aN e;show call_len_dict hd dd (by rw[<--rel];rw[sizeLine_eq]at z;omega) ?_;rw[<--rel];show h _ _ (I.tok _)
end
def DN(i:Expr):Prop:=∀ov iv,subscripted i false ov iv=operate [ov,iv] (getItem ov iv)
def Ae{id:String}
  (hl:typeLookup (.type T) "__getitem__"=pure (!(.builtin id))) (hs:DN slice)
  (h:wpAny (model prog w) A (eval value env) (λo s₁=>wpAny (model prog w) A (eval slice env) (λi s₂=>s₂.TypeIs o T/\wpAny (model prog w) A (getItem o i) Q E s₂) E s₁) E s):
  wpAny (model prog w) A (eval (.Subscript value slice pos) env) Q E s:=by
 show Subscript_ (adb h (λo s₁ h₁=>adb h₁ (λi s₂ h₂=>?_) λ_ _ x=>x) λ_ _ x=>x);let(hT,h₂):=h₂;unfold subscriptTail;show aaq ?_;rw[getitemInPython_of_ne hT.not_modules];show aaq (wpAny_specialOf hT hl ?_);let fin:wpAny (model prog w) A (subscripted slice false o i) (λr s₃=>wpAny (model prog w) A (letTemporaryGo value o r >>= λ_=>pure r) Q E s₃) E s₂:=by rw[hs o i];show wpAny_operating (adb h₂ (λr s₃ h₃=>aaq (wpAny_letTemporaryGo (abd h₃))) λ_ _ x=>x)
 first
  | show abd (aaq fin)
  | show aaq (abd (aaq fin))
  | show aaq fin
def A9{H:Hp}(I:Inv X η σ H s)(g:uD H a y o):s.TypeIs (.ref a) "dict":=by
 rcases g with ⟨Κ,k,e,_,_⟩| ⟨Κ,k,b,e,_,_,_⟩
 .let(_,_,vs,_,dd):=dG I.aN e;show dd.typeIs
 .let(_,_,xs,_,dd):=uq I.aN e;show dd.typeIs
def V8(td ty:TE):TE:=λσ H Q=>td σ H λx H1=>ty σ H1 λy H2=>∃a v,x= .ref a/\uD H2 a y (!v)/\Q v H2
def Xo(td ty tv:TE):TS:=λD σ H=>tv σ H λv H1=>td σ H1 λx H2=>ty σ H2 λy H3=>∃a H4,x= .ref a/\LN H3 a y v H4/\D.nx σ H4
section
variable{X:Cx}{o i e value:Expr}{pos pos' wG:Pos}{td ty tv:TE}
def Pt(hu:X.A.units+1 < cLine)(ho:PE X o td)(hi:PE X i ty)(hs:DN i):PE X (.Subscript o i pos) (V8 td ty):=by intro η s σ H Q I h;show Ae adk.lookup hs (bP (ho η s σ H _ I h) fun u s1 (x,H1,I1,rx,q1)=>bP (hi η s1 σ H1 _ I1 q1) λiv s2 xz=>?_);let(y,H2,I2,ry,a,v,ex,g,q2):=xz;subst ex;obtain rfl:u=Value.ref a:=rx;show(A9 I2 g,Jc hu I2 g ry λw' s3 I3 Ff=>(v,H2,I3,Ff,q2))
def OW(hu:X.A.units+1 < cLine)(ho:PE X o td)(hi:PE X i ty)(hv:PE X value tv)(hs:swapsWith value (!(.Subscript o i pos')) pos.line X.env=pure false):
  PS X (.Assign [.Subscript o i pos'] value pos) (Xo td ty tv):=by
 intro η s σ H D I h;show wpAny_Assign_Subscript (bP (hv η s σ H _ I h) fun r s1 (v,H1,I1,rv,q1)=>bP (ho η s1 σ H1 _ I1 q1) fun u s2 (x,H2,I2,rx,q2)=>bP (hi η s2 σ H2 _ I2 q2) λiv s3 xz=>?_) hs;let(y,H3,I3,ry,a,H4,ex,g,q3):=xz;subst ex;obtain rfl:u=Value.ref a:=rx;show IK hu I3 g ry rv λs4 I4=>(σ,H4,I4,q3)
end
def AO{H:Hp}(h:Heap)(hb:sysModules < h.objs.size):cf P w H (h.push {cls:=.type "dict",data:=.dict #[]}) h.objs.size (.dK []):=
 (ac0 _,beq_eq_false_iff_ne.mpr (Ne.symm (abr hb)),[],.nil,Heap.DictOf.new h)
def Sj:TE:=λ_ H Q=>∀p,H p=none->Q (.ref p) (upd H p (.dK []))
section
variable{X:Cx}{pos:Pos}
def LM:PE X (.Dict [] [] pos) Sj:=λη s σ H Q I h=>
 wpAny_Dict_empty (.ref s.heap.objs.size,_,I.laid (a:=s.heap.objs.size) (o:=.dK []) (t':=s.toks) (λ_ _ q=>aar _ q) (aas _) (AO s.heap I.big),rfl,h _ (I.aN.fresh (aas _)))
end
def Es:List (TE×TE)->St->Hp->(List (V×V)->Hp->Prop)->Prop
 | [],_,H,Q=>Q [] H
 | (tk, tv)::r,σ,H,Q=>tk σ H λx H1=>tv σ H1 λy H2=>Es r σ H2 λps H3=>Q ((x, y)::ps) H3
abbrev VV:List (V×V)->List (Value×Value)->Prop:=Paired λp q=>az p.1 q.1/\az p.2 q.2
def Yu(X:Cx)(pos:Pos)(keys:List (Option Expr))(values:List Expr)(OX:List (TE×TE)):Prop:=
 ∀(η:List (Addr×Obj)) (s:Shared) (σ:St) (H:Hp) (Q:List (V×V)->Hp->Prop),Inv X η σ H s->Es OX σ H Q->
  wpAny (model X.prog X.w) X.A (evalPairs (pairTrees keys values X.env pos)) (λvs s'=>∃ps H',Inv X η σ H' s'/\VV ps vs/\Q ps H') X.xe s
def Pz:Yu X pos [] [] []:=λη s σ H Q I h=>pairTrees_nil_walk ([],H,I,.nil,h)
def Lh{k:Expr}(hk:PE X k tk)(hv:PE X v tv)(hr:Yu X pos ks vs OX):
  Yu X pos ((!k)::ks) (v::vs) ((tk, tv)::OX):=λη s σ H Q I h=>
 pairTrees_cons_walk (bP (hk η s σ H _ I h) fun u s1 (x,H1,I1,rx,q1)=>bP (hv η s1 σ H1 _ I1 q1) fun w2 s2 (y,H2,I2,ry,q2)=>
  bP (hr η s2 σ H2 _ I2 q2) λws s3 (ps,H3,I3,rel,q3)=>((x, y)::ps,H3,I3,.cons (rx,ry) rel,q3))
noncomputable def ju(Κ more:List (Key×V)):List (Key×V):=more.foldl (λΙ kv=>jz Ι kv.1 kv.2) Κ
def KV.merge:∀{more:List (Key×V)} {rs:List (Key×Value)} {Κ:List (Key×V)} {vs:List (Key×Value)},KV more rs->KV Κ vs->KV (ju Κ more) (merged vs rs):=by
 intro more rs Κ vs r;unfold KV at r
 induction r generalizing Κ vs with
 | nil=>intro q;show q
 | @cons p q ps qs h t ih=>
  intro r0;let e:KV (jz Κ p.1 p.2) (stored vs q.1 q.2):=by have:=r0.put p.1 h.2;rw[<-h.1];show this
  show ih e
def jj:∀(more Κ:List (Key×V)),-(ju Κ more)<=-Κ+-more
 | [],Κ=>by change -Κ<=-Κ+0;omega
 | p::r,Κ=>by let h1:=jj r (jz Κ p.1 p.2);let h2:=mi Κ p.1 p.2;change(ju (jz Κ p.1 p.2) r).length<=_;rw[aaQ];omega
def ve:∀{Κ:List (Key×V)} {ws:List (Value×Value)},VV (Κ.map λkv=>(kV kv.1, kv.2)) ws->∃rs,Carries (bJ P w) ws rs/\KV Κ rs
 | [],_,r=>by rw[ads]at r;cases r;show([],True.intro,.nil)
 | p::Κ,_,r=>by
  rw[aaX]at r;cases r with
  | @cons a b as bs h t=>
   let(rs,c,q):=ve (P:=P) (w:=w) t;let(b1,b2):=b;show((p.1, b2)::rs,(rX h.1,rfl,c),.cons (rfl,h.2) q)
def U4(OX:List (TE×TE)):TE:=λσ H Q=>∀p,H p=none->Es OX σ (upd H p (.dK [])) λps H2=>H2 p=!(.dK [])/\∃Κ:List (Key×V),ps=Κ.map (λkv=>(kV kv.1, kv.2))/\-Κ<=15/\Q (.ref p) (upd H2 p (.dK (ju [] Κ)))
def PZ{keys:List (Option Expr)}(h:Yu X pos keys values OX)(CJ:keys.all (·.isSome)=true)(hl:-keys=-values)(h0:keys≠[])
  (h15:-keys<=15):PE X (.Dict keys values pos) (U4 OX):=by
 intro η s σ H Q I q;let hn:=I.aN.fresh (aas s.heap.objs.size);let I1:=I.laid (a:=s.heap.objs.size) (o:=.dK []) (h':=s.heap.push {cls:=.type "dict",data:=.dict #[]}) (t':=s.toks) (λ_ _ q=>aar _ q) (aas _) (AO s.heap I.big);show wpAny_Dict_walk (knd:=bJ X.prog X.w) CJ hl h0 h15 (bP (h η _ σ _ _ I1 (q _ hn)) λws s2 xz=>?_);let(ps,H2,I2,rel,e,Κ,ep,lk,q2):=xz;subst ep;let(rs,c,rk):=ve (P:=X.prog) (w:=X.w) rel;let(z,hd,vs0,r0,dd):=Fq I2.aN e;cases r0;show(rs,c,dd,λh' Px hs=>(.ref s.heap.objs.size,_,?_,rfl,q2));let hz:-(ju [] Κ)<=sizeLine:=by let h1:=jj Κ [];rw[List.length_nil]at h1;rw[sizeLine_eq];omega
 let he:∃q,h'.get? s.heap.objs.size=!q:=let (q,_,_,hq,_):=Px;(q,hq)
 show sJ I2 (by rw[e];show True.intro) hs he (sY hz hd (rk.merge .nil) Px)
structure M1(X:Cx)(o:Expr)(m:Str)(apos:Pos)(e:Expr)(cN:Pos):Prop where
 base:attributeBase o m X.env (eval o X.env)=eval o X.env
 Nu:((backTo cN (starEach [e] X.env)).all (λx=> ! x.1)&&(backToKw cN (keywordEach [] X.env)).all (λx=>x.1.isSome)
  &&decide (-([e]:List Expr)+-([]:List Keyword)+(if ([]:List Keyword).isEmpty then 0 else 1) < 30))=true
 line:(apos.endLine==cN.line)=true
 trees:backTo cN (starEach [e] X.env)=[(false, eval e X.env)]
def Zc(H:Hp)(a:Addr):Prop:=(∃Κ,Rd H a (.dK Κ))\/∃Κ,Rd H a (.dT Κ)
def J6{H:Hp}(I:Inv X η σ H s)(d:Zc H a):
  s.TypeIs (.ref a) "dict"/\(∀b,Value.ref a= .ref b->∃ob,s.heap.get? b=!ob/\ob.dict=none)/\(a==sysModules)=false:=by
 rcases d with ⟨Κ,e⟩| ⟨Κ,e⟩
 .let(_,hd,vs,_,dd):=dG I.aN e;show(dd.typeIs,λb q=>?_,hd);cases q;let(ob,_,_,h1,h2,_):=dd;show(ob,h1,h2.2.1)
 .let(_,hd,xs,_,dd):=uq I.aN e;show(dd.typeIs,λb q=>?_,hd);cases q;let(ob,_,_,h1,h2,_):=dd;show(ob,h1,h2.2.1)
section
variable{X:Cx}{η:List (Addr×Obj)}{σ:St}{H:Hp}{s:Shared}{a:Addr}{y d:V}{u r:Value}{o:Option V}{A:Around}{E:Value->Shared->Prop}
def SG{Q:Value->Shared->Prop}(hu:A.units+1 < cLine)(I:Inv X η σ H s)(g:uD H a y o)(ry:az y u)(h:∀w' s',Inv X η σ H s'->az (o.getD .bt) w'->Q w' s'):
  wpAny (model X.prog X.w) A (call (.builtin "dict.get") [.ref a,u]) Q E s:=by
 rcases g with ⟨Κ,k,e,ey,l⟩| ⟨Κ,k,b,e,ey,eb,l⟩
 .subst ey;let(z,hd,vs,rel,dd):=dG I.aN e;show call_meetsIn PySem.F.slot_dict_get dd.typeIs PySem.F.entry_dict_get (PySem.F.args_dict_get_2 _ _) (meets_dict_get (bJ X.prog X.w) a (rX ry) hd) (_,dd.mapOf,h _ _ (I.tok _) ?_);rw[l];show(rel.val k).getD rfl
 .subst ey;cases(show u=Value.ref b from ry);let(z,hd,xs,rel,dd):=uq I.aN e;show call_meetsIn PySem.F.slot_dict_get dd.typeIs PySem.F.entry_dict_get (PySem.F.args_dict_get_2 _ _) (meetsH_dict_get (tupleKind (bJ X.prog X.w)) a b hd) (tupleKind_room_in1 hu,k,xs,qS I.aN eb,dd,h _ _ (I.tok _) ?_);rw[l];show(rel.val k).getD rfl
end
def S7(td ty:TE):TE:=λσ H Q=>td σ H λx H1=>∃a,x= .ref a/\Zc H1 a/\ty σ H1 λy H2=>∃o,uD H2 a y o/\Q (o.getD .bt) H2
section
variable{X:Cx}{o e f:Expr}{apos cN:Pos}{td ty tx:TE}
def Lv(hu:X.A.units+1 < cLine)(ho:PE X o td)(he:PE X e ty)(m:M1 X o "get" apos e cN):PE X (.Call (.Attribute o "get" apos) [e] [] cN) (S7 td ty):=by intro η s σ H Q I h;show wpAny_Call_method m.base m.Nu m.line PySem.F.plainAttrs_dict PySem.F.slot_dict_get PySem.F.type_dict_get (bP (ho η s σ H _ I h) λu s1 xz=>?_);let(x,H1,I1,rx,a,ex,d,q1):=xz;subst ex;obtain rfl:u=Value.ref a:=rx;let(t1,t2,_):=J6 I1 d;show(t1,t2,?_);rw[m.trees];show Calls.callWith_builtin rfl (Calls.evalArgs_plain (Calls.spliced_cons (bP (he η s1 σ H1 _ I1 q1) fun iv s2 (y,H2,I2,ry,ov,g,q2)=>Calls.spliced_nil ?_)));show SG hu I2 g ry λw' s3 I3 Ff=>(_,H2,I3,Ff,q2)
end
section
variable{X:Cx}{η:List (Addr×Obj)}{σ:St}{H:Hp}{s:Shared}{a:Addr}{Κ:List (Key×V)}{A:Around}{E:Value->Shared->Prop}
def L8{Q:Value->Shared->Prop}(I:Inv X η σ H s)(e:Rd H a (.dK Κ))(h:∀p s',H p=none->Inv X η σ (upd H p (.dK Κ)) s'->Q (.ref p) s'):wpAny (model X.prog X.w) A (call (.type "dict") [.ref a]) Q E s:=by let(z,hd,vs,rel,dd):=dG I.aN e;show kt_call_dict hd dd (by rw[<--rel];show z) λh' Px hs=>?_;show h _ _ (I.aN.fresh (aas _)) (I.laid (a:=s.heap.objs.size) (o:=.dK Κ) (t':=s.toks) (λb q hq=>?_) (aas _) (sY z (beq_eq_false_iff_ne.mpr (Ne.symm (abr I.big))) rel Px));show(hs.2 b (abr (aaM hq))).trans (aar _ hq)
end
end L2
namespace Att
open PySem PySem.W PySem.Calls PyProof.Rows
end Att
namespace L2
open PySem PySem.Spec PyProof.Rows
end L2
/- THE Za Pn (shape;LID, My.* are Vz):
  My.Adr:a structure of O4 addresses Z' ZG UZ names (classes, HE);My.Txt K t:a structure (Prop) of O4 equations sE K;
  My.EX:{K} {implicit addresses ..} (e1:nsIn K mainGlobals "law"=!(!(.ref f))) (e2:K.lookup f=!(oc,od,.func (fnOf "law" "law" params body scope dV kV doc pm an bf ct),sl)) (e3:codeIn K bf "law"=true) .. :∃t,My.Txt K t
set_option maxRecDepth 100000 in
set_option maxHeartbeats 0 in
def PySem.Challenge.cw_LID_holds : PySem.Challenge.rw_LID.Holds := by
 w_on;o_law;k_head;(case hw=>w_witness2)
 k_fill
 show L2.Az (l:=PySem.Challenge.rw_LID) (n:=63) (k:=40) (x:="script") (CX:=fun w=>..) (sp:=fun _=>My.SV) rfl @_ rfl (rfl,@_,@_) (fun w h Y=>PySem.W.kIn_of Y) ?F ?S ?C
 case F=>
  intro w mg fa h KX G PC;let T:∃t,My.Txt (L2.KOf KX) t:=by
   dsimp only[L2.KOf]
   refine' My.EX ?e1 ?e2 ?e3 ..
   (case e1=>PySem.W.k_is)
   (case e2=>PySem.W.k_is)
   ..
  let(t,T):=T;let e0:=PC.symm.trans (PySem.W.mg_of KX G T.law);cases e0;show(_,λs u=>.of_eq rfl,λbase kb nb=>My.DU T kb nb)
 case S=>exactλw H a ns hl hO hS=>..
 case C=>show ..
(O4 tactic k_is has no namespace:write k_is) -/
namespace L2
open PySem PySem.Spec PyProof.Rows
section
variable{X:Cx}
def Ik:eC X (.builtin "len") (λxs H Q=>∃a Κ,xs=[V.ref a]/\H a=!(.dK Κ)/\Q (.int (-Κ)) H):=by intro η s σ H xs us Q I r h;let(a,Κ,rfl,ha,q):=h;let(u,rfl,ru):=k_ r;cases ru;show Xr I (.inl ha) λt s' I'=>(.int (-Κ),H,I',(t,rfl),q)
end
variable{X:Cx}{G:Hp}{L:List Addr}{d:Dt}{v:V}{R:St->XK}{o i e b iter tg:Expr}{to ti te ta tb:DE}{pos p apos:Pos}{k' n ep:Nat}{x:Str}{η:List (Addr×Obj)}{σ:St}{s:Shared}{its:Array Value}{M:Ms}{ds:List Dt}{vs:List V}{a f:Addr}{t:DA}{A:Around}{prog P:Program}{w:World}{E Q:Value->Shared->Prop}{c:Bool}{Κ:List (Key×V)}{scope:Scope}{ys ps:List Str}{ae:List Nat}{ks:List Key}{st:Stmt}{fd:FuncData}
def yV:Dt->Option Key
 | .int i=>!(.inl i)
 | .str z=>!(.inr z)
 | _=>none
def aV(ks:List Key)(ds:List Dt)(k:Key):Option Dt:=((ks.zip ds).find? λp=>decide (p.1=k)).map (·.2)
def kj{K:fI}{k:Key}(h:yV d=!k)(n:Den K G L d v):v=kV k:=by
 cases d with
 | int i=>cases h;show n
 | str z=>cases h;show n
 | _=>cases h
def mE{K:fI}{G:Hp}{L:List Addr}{k:Key}:∀{ks:List Key} {ds:List Dt} {vs:List V} {d:Dt},Υ K G L ds vs->aV ks ds k=!d->∃v,fZ (ks.zip vs) k=!v/\Den K G L d v
 | [],_,_,_,_,h=>by cases h
 | _::_,[],_,_,_,h=>by cases h
 | c::ks,d0::ds,_,d,(v0,vs,e,n0,n),h=>by
  subst e;rw[ab0];by_cases hc:c=k
  .let h':aV (c::ks) (d0::ds) k=!d0:=by unfold aV;rw[List.zip_cons_cons,List.find?_cons_of_pos (by simpa using hc)];rfl
   rw[h']at h;cases h;show(v0,dR hc,n0)
  .let h':aV (c::ks) (d0::ds) k=aV ks ds k:=by unfold aV;rw[List.zip_cons_cons,List.find?_cons_of_neg (by simpa using hc)]
   rw[h']at h;let(v,h1,h2):=mE n h;show(v,by rw[dw hc];show h1,h2)
def QZ(to ti:DE):DE:=λρ M q x=>to ρ M (λd M1=>ti ρ M1 (λdi M2=>∃k ks ds key v,d= .loc k/\M2[k]? =!(.cZ ks ds)/\yV di=!key/\aV ks ds key=!v/\q v M2) x) x
def w8:∀(more Ι:List (Key×V)),(∀p∈more,fZ Ι p.1=none)->(more.map (·.1)).Nodup->ju Ι more=Ι++more
 | [],Ι,_,_=>by change Ι=Ι++[];rw[abU]
 | p::more,Ι,h,nd=>by
  change ju (jz Ι p.1 p.2) more=_;rw[LQ p.2 (h p aaf),w8 more _ (λq hq=>?_) (acD.mp nd).2]
  .simp
  .let e:=w6 p.1 q.1 p.2 Ι (h p aaf);rw[show(Ι++[(p.1, p.2)])=Ι++[(p.1, p.2)] from rfl,e,aa2]
   .show h q (aah _ hq)
   .intro z;show(acD.mp nd).1 (aap.mpr (q,hq,z))
section
def kE(hr:bV k' X.A)(ho:JE X R o to)(hi:JE X R i ti)(hs:DN i:=by intro _ _;rfl):JE X R (.Subscript o i pos) (QZ to ti):=
 .of (Pt (AZ hr) ho hi hs) λσ H G L ρ M q x rl n h hx=>by show(G,L,ρ,M,_,x,rl,n,h,hx,λv H1 xz=>?_);let(d1,G1,L1,M1,e1,r1,n1,h1):=xz;show(G1,L1,ρ,M1,_,x,r1,n.mono e1,h1,hx.on e1,λv2 H2 xz=>?_);let(d2,G2,L2,M2,e2,r2,n2,k,ks,ds,key,y,ed,hm,hk,hg,h2):=xz;subst ed;let(a,rfl,Io):=n1;let I_:=e2.l.get Io;let(_,vs,hH,hl,dn):=r2.fv k a _ I_ hm;let(u,hu,du):=mE dn hg;show(a,u,rfl,.inl (_,key,.inl hH,kj hk n2,hu.symm),fin_same (e1.trans e2) r2 du h2)
end
structure Um(K:fI)(w:World)(mg:Str->Option Value)(x:Str)(tab:List (Str×Str)):Prop where
 ex:∃a es n,mg x=!(.ref a)/\K.lookup a=!(.type "dict",none,.dict es n,#[])/\PySem.W.KeysLit w.params es.toList/\∀z y,tab.lookup z=!y->∃tk,PySem.W.nsIn K a z=!(!(.str y tk))
def WU(tab:List (Str×Str))(ti:DE):DE:=λρ M q x=>ti ρ M (λd M1=>∃z y,d= .str z/\tab.lookup z=!y/\q (.str y) M1) x
def aay(tab:List (Str×Str))(ti:TE):TE:=λσ H Q=>ti σ H λv H1=>∃z y,v= .str z/\tab.lookup z=!y/\Q (.str y) H1
section
variable{tab:List (Str×Str)}
def Rq{ti:TE}(T:Um X.K X.w X.mg x tab)(hi:PE X i ti)(hs:DN i)(hg:Gl X x)(pv:(x==("__debug__":Str))=false):PE X (.Subscript (.Name x p) i pos) (aay tab ti):=by let(a,es,n,hm,hl,hk,ht):=T.ex;intro η s σ H Q I h;show Ae adk.lookup hs (sT I hg hm ?_ pv);show bP (hi η s σ H _ I h) λiv s2 xz=>?_;let(v,H2,I2,rv,z,y,ev,hy,q2):=xz;subst ev;let(t,rfl):=rv;let(tk,hn):=ht z y hy;let hM:=PySem.W.mapOf_K (prog:=X.prog) (w:=X.w) I2.rP hl hk;show(hM.typeIs,wpAny_getItem_of (strKind_is X.prog X.w z t) hM (PySem.W.find_K hl hn) (.str y,H2,I2.tok _,(tk,rfl),q2))
def WM(T:Um X.K X.w X.mg x tab)(hi:JE X R i ti)(hs:DN i:=by intro _ _;rfl)(hg:Gl X x|>1)(pv:(x==("__debug__":Str))=false|>2):JE X R (.Subscript (.Name x p) i pos) (WU tab ti):=
 .of (Rq T hi hs hg pv) λσ H G L ρ M q x rl n h hx=>by show(G,L,ρ,M,_,x,rl,n,h,hx,λv H1 xz=>?_);let(d1,G1,L1,M1,e1,r1,n1,z,y,ed,hy,h1):=xz;subst ed;show(z,y,n1,hy,bB e1 r1 h1)
end
inductive Lm(K:fI)(H:Hp):Nat->V->V->Bool->Prop
 | flat {n:Nat} {x y:V} (h1:eJ x=true) (h2:eJ y=true):Lm K H n x y (rM x y)
 | tup {n:Nat} {a b:Addr} {xs ys:List V} {f:Nat->Bool} (h1:nj K H a xs) (h2:nj K H b ys) (h:∀j x y,xs[j]? =!x->ys[j]? =!y->Lm K H n x y (f j)):Lm K H (n+1) (.ref a) (.ref b) ((List.range (min (-xs) (-ys))).all f&&-xs==-ys)
 | lst {n:Nat} {a b:Addr} {xs ys:List V} {f:Nat->Bool} (h1:gY K H a xs) (h2:gY K H b ys) (hl:-xs=-ys) (h:∀j x y,xs[j]? =!x->ys[j]? =!y->Lm K H n x y (f j)):Lm K H (n+1) (.ref a) (.ref b) ((List.range (-xs)).all f)
 | len {n:Nat} {a b:Addr} {xs ys:List V} (h1:gY K H a xs) (h2:gY K H b ys) (hl:-xs≠-ys):Lm K H (n+1) (.ref a) (.ref b) false
def B6{x:V}(h:eJ x=true):rM x x=true:=by cases x <;> first| rfl| (show(_==_)=true;simp)| cases h
section
variable{H:Hp}
def By(I:Inv X η σ H s){x:V}{b:Bool}(h:Lm X.K H n x y b):x=y->b=true:=by
 induction h with
 | flat h1 h2=>intro e;subst e;show B6 h1
 | @tup n a b xs ys f h1 h2 h ih=>
  intro e;cases e;cases I.wY h1 h2;rw[adt,beq_self_eq_true,Bool.and_true];show acy.mpr λj hj=>?_;let hj:=abS.mp hj;show ih j _ _ (aaa hj) (aaa hj) rfl
 | @lst n a b xs ys f h1 h2 hl h ih=>
  intro e;cases e;cases I.iB h1 h2;show acy.mpr λj hj=>?_;let hj:=abS.mp hj;show ih j _ _ (aaa hj) (aaa hj) rfl
 | len h1 h2 hl=>
  intro e;cases e;cases I.iB h1 h2;show abc rfl hl
def gH{its:List Value}(r:aD xs its){j:Nat}(h:j < its.toArray.size):∃x,xs[j]? =!x/\az x its.toArray[j]:=by
 let hj:j < -its:=by simpa using h
 let hx:j < -xs:=by rw[-r];show hj
 let(u,g,ru):=r.get (aaa hx);rw[aaa hj]at g;cases g;show(_,List.getElem?_eq_getElem hx,by simpa using ru)
def Fi(I:Inv X η σ H s){x:V}{b:Bool}(h:Lm X.K H n x y b):∀{A:Around} {u v:Value},az x u->az y v->A.units+n < cLine->SeqAt.EqAt A s u v b:=by
 induction h with
 | flat h1 h2=>exactλru rv _=>tN ru rv h1 h2
 | @tup n a b xs ys f h1 h2 h ih=>
  intro A u v ru rv hu;cases ru;cases rv;by_cases e:a=b
  .have:=By I (.tup h1 h2 h) (abI V.ref e);rw[this,e];show SeqAt.EqAt.same _
  .let(i1,v1,t1,_):=I.tuple h1;let(i2,v2,t2,_):=I.tuple h2
   have:=SeqAt.RcAt.tuples (A:=A) (e:=f) (show s.heap.IsTuple a i1.toArray from t1) (show s.heap.IsTuple b i2.toArray from t2) () (λj g1 g2=>by
    let(x,hx,rx):=gH v1 g1;let(y,hy,ry):=gH v2 g2
    show ih j x y hx hy rx ry (by change A.units+1+n < cLine;omega))
   rw[aaY,aaY,<--v1,<--v2]at this;show SeqAt.EqAt.of_refs e this
 | @lst n a b xs ys f h1 h2 hl h ih=>
  intro A u v ru rv hu;cases ru;cases rv;by_cases e:a=b
  .have:=By I (.lst h1 h2 hl h) (abI V.ref e);rw[this,e];show SeqAt.EqAt.same _
  .let(i1,v1,t1,_):=I.list h1;let(i2,v2,t2,_):=I.list h2
   have:=SeqAt.RcAt.lists (A:=A) (e:=f) t1.isList t2.isList (by rw[aaY,aaY,<--v1,<--v2];show hl) () (λj g1 g2=>by
    let(x,hx,rx):=gH v1 g1;let(y,hy,ry):=gH v2 g2
    show ih j x y hx hy rx ry (by change A.units+1+n < cLine;omega))
   rw[aaY,<--v1]at this;show SeqAt.EqAt.of_refs e this
 | @len n a b xs ys h1 h2 hl=>
  intro A u v ru rv hu;cases ru;cases rv;let e:a≠b:=λe=>by subst e;cases I.iB h1 h2;show hl rfl
  let(i1,v1,t1,_):=I.list h1;let(i2,v2,t2,_):=I.list h2;show SeqAt.EqAt.of_refs e (SeqAt.RcAt.lists_lengths t1.isList t2.isList (by rw[List.size_toArray,List.size_toArray,<--v1,<--v2];simpa using hl) ())
end
def VD(K:fI)(n:Nat):R2:=λx y H Q=>∃a b c,x= .ref a/\y= .ref b/\Lm K H n x y c/\Q (.bl c) H
section
def KL(hu:X.A.units+n < cLine):jW X (compareOp .Eq) (VD X.K n):=by
 intro η s σ H x y v u Q I rx ry h;let(a,b,c,rfl,rfl,h,q):=h;cases rx;cases ry;cases h with
 | flat h1 h2=>cases h1
 | @tup n _ _ xs ys f h1 h2 h=>
  let(i1,v1,t1,_):=I.tuple h1;let(i2,v2,t2,_):=I.tuple h2;show SeqAt.eq_tupleAt (e:=f) (show s.heap.IsTuple a i1.toArray from t1) (show s.heap.IsTuple b i2.toArray from t2) () (λj g1 g2=>?_) ?_
  .let(x,hx,rx):=gH v1 g1;let(y,hy,ry):=gH v2 g2;show Fi I (h j x y hx hy) rx ry (by change X.A.units+1+n < cLine;omega)
  .rw[aaY,aaY,<--v1,<--v2];show(.bl _,H,I,rfl,q)
 | @lst n _ _ xs ys f h1 h2 hl h=>
  let(i1,v1,t1,_):=I.list h1;let(i2,v2,t2,_):=I.list h2;show SeqAt.eq_listAt (e:=f) t1.isList t2.isList (by rw[aaY,aaY,<--v1,<--v2];show hl) () (λj g1 g2=>?_) ?_
  .let(x,hx,rx):=gH v1 g1;let(y,hy,ry):=gH v2 g2;show Fi I (h j x y hx hy) rx ry (by change X.A.units+1+n < cLine;omega)
  .rw[aaY,<--v1];show(.bl _,H,I,rfl,q)
 | @len n _ _ xs ys h1 h2 hl=>
  let(i1,v1,t1,_):=I.list h1;let(i2,v2,t2,_):=I.list h2;show SeqAt.eq_list_lengthsAt t1.isList t2.isList (by rw[List.size_toArray,List.size_toArray,<--v1,<--v2];simpa using hl) () (.bl _,H,I,rfl,q)
end
noncomputable def lK(M:Ms):Dt->Option (List Dt)
 | .lst xs=>!xs
 | .jC ns=>!(ns.map .int)
 | .loc k=>match M[k]? with
  | some (.lst xs)=>!xs
  | _=>none
 | _=>none
inductive zM(M:Ms):Nat->Dt->Dt->Bool->Prop
 | flat {n:Nat} {d e:Dt} {x y:V} (h1:rF d=!x) (h2:rF e=!y):zM M n d e (rM x y)
 | tup {n:Nat} {ds es:List Dt} {f:Nat->Bool} (h:∀j d e,ds[j]? =!d->es[j]? =!e->zM M n d e (f j)):zM M (n+1) (.tup ds) (.tup es) ((List.range (min (-ds) (-es))).all f&&-ds==-es)
 | lst {n:Nat} {d e:Dt} {ds es:List Dt} {f:Nat->Bool} (h1:lK M d=!ds) (h2:lK M e=!es) (hl:-ds=-es) (h:∀j d e,ds[j]? =!d->es[j]? =!e->zM M n d e (f j)):zM M (n+1) d e ((List.range (-ds)).all f)
 | len {n:Nat} {d e:Dt} {ds es:List Dt} (h1:lK M d=!ds) (h2:lK M e=!es) (hl:-ds≠-es):zM M (n+1) d e false
set_option tactic.hygienic true in
def fE{K:fI}{H:Hp}(r:Rl K G L M H)(n:Den K G L d v)(h:lK M d=!xs):∃a vs,v= .ref a/\gY K H a vs/\Υ K G L xs vs:=by
 cases d with
 | lst ds=>cases h;let(a,vs,rfl,e,m):=n;show(a,vs,rfl,.of (r.sub _ _ e),m)
 | jC ns=>cases h;let(a,rfl,e):=n;show(a,_,rfl,r.sub.seq e,jX)
 | loc k=>
  let(a,rfl,e):=n;let h:(match M[k]? with| some (.lst xs)=>!xs| _=>none)=!xs:=h;split at h
  .rename_i ys hm;cases h;let(_,vs,e1,m1):=r.fv k a _ e hm;show(a,vs,rfl,.of e1,m1)
  .cases h
 | _=>cases h
def Υ.back{K:fI}{i:Nat}(h:Υ K G L ds vs)(e:vs[i]? =!v):∃d,ds[i]? =!d/\Den K G L d v:=by
 let hi:i < -ds:=by rw[-h];show(aae.mp e).1
 let(v',e',n):=h.get (aaa hi);rw[e]at e';cases e';show(_,aaa hi,n)
def Qg{K:fI}{H:Hp}(r:Rl K G L M H){e:Dt}{b:Bool}(h:zM M n d e b):∀{v u:V},Den K G L d v->Den K G L e u->Lm K H n v u b:=by
 induction h with
 | flat h1 h2=>
  intro v u n1 n2;let(rfl,f1):=iL h1 n1;let(rfl,f2):=iL h2 n2;show .flat f1 f2
 | @tup n ds es f h ih=>
  intro v u n1 n2;let(a,vs,rfl,e1,m1):=n1;let(b,us,rfl,e2,m2):=n2;rw[-m1,-m2];show .tup (.of (r.sub _ _ e1)) (.of (r.sub _ _ e2)) λj x y hx hy=>?_;let(d,hd,dn):=m1.back hx;let(e,he,en):=m2.back hy;show ih j d e hd he dn en
 | @lst n d e ds es f h1 h2 hl h ih=>
  intro v u n1 n2;let(a,vs,rfl,s1,m1):=fE r n1 h1;let(b,us,rfl,s2,m2):=fE r n2 h2;rw[-m1];show .lst s1 s2 (by rw[<--m1,<--m2];show hl) λj x y hx hy=>?_;let(d,hd,dn):=m1.back hx;let(e,he,en):=m2.back hy;show ih j d e hd he dn en
 | @len n d e ds es h1 h2 hl=>
  intro v u n1 n2;let(a,vs,rfl,s1,m1):=fE r n1 h1;let(b,us,rfl,s2,m2):=fE r n2 h2;show .len s1 s2 (by rw[<--m1,<--m2];show hl)
def S8(M:Ms)(d:Dt):Prop:=(∃ds,d= .tup ds)\/∃xs,lK M d=!xs
def Gv{K:fI}{H:Hp}(r:Rl K G L M H)(n:Den K G L d v)(h:S8 M d):∃a,v= .ref a:=by
 rcases h with ⟨ds,rfl⟩| ⟨xs,h⟩
 .let(a,vs,rfl,_):=n;show(a,rfl)
 .let(a,vs,rfl,_):=fE r n h;show(a,rfl)
def T7(n:Nat):Dt->Dt->Ms->DQ->Prop:=λd e M q=>∃b,S8 M d/\S8 M e/\zM M n d e b/\q (.bl b) M
def Vo{K:fI}:mY K (VD K n) (T7 n):=by intro G0 L0 H0 G L M H v1 v2 d1 d2 q e r n1 n2 ⟨b,h1,h2,h,hq⟩;let(a,rfl):=Gv r n1 h1;let(a',rfl):=Gv r n2 h2;show(a,a',b,rfl,rfl,Qg r h n1 n2,bB e r hq)
section
variable{a l u:Expr}{tl tu:DE}{p2:Pos}
def LK{k:Nat}(hr:bV k A)(hn:n<=64):A.units+n < cLine:=abz (Nat.add_le_add_left hn _) hr.units
def QH(n:Nat)(hr:bV k' X.A)(ja:JE X R a ta)(jb:JE X R b tb)(hn:n<=64|>2)(hm:behindInMarks .Eq b=false|>1):JE X R (.Compare a [.Eq] [b] pos) (fN (T7 n) ta tb):=u9 (KL (LK hr hn)) Vo ja jb hm
def Sx(n:Nat)(hr:bV k' X.A)(ja:JE X R a ta)(jb:JE X R b tb)(hn:n<=64|>2)(hm:behindInMarks .Eq b=false|>1):JT X R (.Compare a [.Eq] [b] pos) (jT (fN (T7 n) ta tb)):=fD (KL (LK hr hn)) Vo ja jb hm
def Hm(xs:List V)(k:Nat):wx xs none (!(k:Int))=xs.take k:=by
 unfold wx;rw[HT.sH,HT.Cv,adG,Nat.sub_zero];by_cases h:k<=-xs
 .rw[adz h]
 .rw[Nat.min_eq_right (),acV (aas _),acV ()]
def W_(te tl:DE):DE:=λρ M q x=>te ρ M (λd M1=>tl ρ M1 (λdi M2=>∃ds n,lK M2 d=!ds/\di= .int (n:Nat)/\q (.loc (-M2)) (M2++[.lst (ds.drop n)])) x) x
def rf(he:JE X R e te)(hl:JE X R l tl):JE X R (.Subscript e (.Slice (!l) none none p2) pos) (W_ te tl):=
 .of (uz Aa he (mJ hl) G8) λσ H G L ρ M q x rl n h hx=>by show(G,L,ρ,M,_,x,rl,n,h,hx,λv H1 xz=>?_);let(d1,G1,L1,M1,e1,r1,n1,h1):=xz;show(G1,L1,ρ,M1,_,x,r1,n.mono e1,h1,hx.on e1,λv2 H2 xz=>?_);let(d2,G2,L2,M2,e2,r2,n2,ds,k,ed,ei,h2):=xz;subst ei;let(a,vs,rfl,sq,m):=fE r2 (Den.mono e2.g e2.l _ _ n1) ed;let n2:v2= .int k:=n2;subst n2;show(k,rfl,a,vs,rfl,sq,λp hp=>?_);rw[Iw];show i9 (e1.trans e2) r2 hp (Υ.of (uT k m.pair)) h2
end
open PySem PySem.SeqAt
def mP(prog:Program)(w:World)(A:Around)(s:Shared)(y x:Value)(b:Bool):Prop:=
 ∀(E:Value->Shared->Prop) (Q:Bool->Shared->Prop),Q b s->wpAny (model prog w) A (eqBool y x) Q E s
def IW{K:Type} [DecidableEq K]{knd:KeyKind prog w K}{es:List DictEntry}{Κ:List (K×Value)}(p:Pairs knd es Κ):∀{i:Nat} {e:DictEntry},es[i]? =!e->∃k,Κ[i]? =!(k, e.val)/\knd.is k e.key=true:=by
 induction p with
 | nil=>intro i e h;simp at h
 | @cons e0 kv es Κ h1 h2 _ ih=>
  intro i e h;cases i with
  | zero=>
   have:e0=e:=by simpa using h
   subst this;show(kv.1,by rw[h2];rfl,h1)
  | succ i=>show ih (by simpa using h)
def G_{K:Type} [DecidableEq K]{knd:KeyKind prog w K}{es:Array DictEntry}{Κ:List (K×Value)}(p:Pairs knd es.toList Κ)(k:K):
  (valueAt Κ k=none/\(es.findIdx? λe=>knd.is k e.key)=none)\/∃i e,valueAt Κ k=!e.val/\(es.findIdx? λe=>knd.is k e.key)=!i/\es[i]? =!e:=by
 let hf:(es.find? λe=>knd.is k e.key).map (·.val)=valueAt Κ k:=by rw[<-Array.find?_toList];show p.find k
 cases hi:es.findIdx? λe=>knd.is k e.key with
 | none=>
  left;show(?_,rfl);rw[<-hf];have:(es.find? λe=>knd.is k e.key)=none:=by rw[Array.find?_eq_none];rw[Array.findIdx?_eq_none_iff]at hi;intro x hx;simpa using hi x hx
  rw[this];rfl
 | some i=>
  right;rw[Array.findIdx?_eq_some_iff_getElem]at hi;let(Nw,h1,h2):=hi;show(i,es[i],?_,rfl,adl Nw);rw[<-hf];have:(es.find? λe=>knd.is k e.key)=!es[i]:=by rw[Array.find?_eq_some_iff_getElem];show(h1,i,Nw,rfl,λj hj=>by simpa using h2 j hj)
  rw[this];rfl
def oS{K:Type} [DecidableEq K]{knd:KeyKind prog w K}{id:String}{b:Addr}{Κ d9:List (K×Value)}(ha:s.heap.DictOf knd a Κ)(hb:s.heap.DictOf knd b d9)(N_:(a==sysModules)=false)(pv:(b==sysModules)=false)(hl:-Κ=-d9)
  {e:Nat->Bool} (he:∀j k v,Κ[j]? =!(k, v)->(valueAt d9 k=none/\e j=false)\/∃v',valueAt d9 k=!v'/\mP prog w A s v v' (e j)) {Q:Bool->Shared->Prop} (h:Q ((List.range (-Κ)).all e) s):
  wpAny (model prog w) A (Builtin.Dict.samePairs id a b) Q E s:=by
 let(o1,GZ,ep1,g1,x1,d1,k1,p1,n1):=ha;let(o2,es2,ep2,g2,x2,d2,k2,p2,n2):=hb;let sa:∀{c:Addr} {Q:Unit->Shared->Prop},(c==sysModules)=false->Q Unit.unit s->wpAny (model prog w) A (Builtin.Dict.showsAll c) Q E s:=λhc hq=>by unfold Builtin.Dict.showsAll;rw[aa2 (by rw[hc];decide)];show abd hq
 unfold Builtin.Dict.samePairs;show aaq (sa N_ (aaq (sa pv (aaq (wpAny_dictEntries g1 d1 (aaq (wpAny_dictEntries g2 d2 ?_)))))));let z1:GZ.size=-Κ:=by rw[<--p1];simp
 let z2:es2.size=-d9:=by rw[<--p2];simp
 rw[if_neg (by rw[z1,z2,hl];simp)];show aaq (wpAny_dictEpoch g1 d1 ?_);show aaq ?_;rw[Std.Legacy.Range.forIn_eq_forIn_range'];let sz:[:GZ.size].size=GZ.size:=by simp[Std.Legacy.Range.size]
 rw[sz];show wpAny_forIn_list _ (λrest b s'=>s'=s/\b.1=none/\∃i,rest=List.range' i (GZ.size - i)/\i<=GZ.size/\((List.range i).all e=true)) _ ?_ ?_ _ _ (rfl,rfl,0,by simp,Nat.zero_le _,rfl)
 .rintro x rest b s' ⟨rfl,hb,i,hr,hi,CJ⟩;let Nw:i < GZ.size:=by
   rcases adI i GZ.size with h'| h'
   .show h'
   .rw[Nat.sub_eq_zero_of_le h']at hr;cases hr
  rw[show GZ.size - i=(GZ.size - (i+1))+1 by omega,List.range'_succ]at hr;injection hr with hx JU
  subst hx;show aaq (wpAny_dictEntries g1 d1 ?_);rw[adl Nw];dsimp only;let(k,Io,I_):=IW p1 (i:=x) (e:=GZ[x]) (by rw[Array.getElem?_toList,adl Nw]);let(k',zY,hk4):=k1 GZ[x] (Array.getElem_mem Nw);obtain rfl:k=k':=knd.inj _ _ _ I_ zY;rw[hk4];show aaq (adb (Q:=λr Uv=>Uv=s'/\r=e x) (E:=E) ?_ (fun r Uv (es,er)=>?_) λ_ _ h'=>h')
  .show wpAny_holding (aaq (wpAny_dictFind_of I_ g2 d2 k2 ?_));rcases he x k _ Io with ⟨h1,h2⟩| ⟨v',h1,h2⟩
   .rcases G_ p2 k with ⟨_,q⟩| ⟨j,f,q,_⟩
    .rw[q];show abd (rfl,h2.symm)
    .rw[h1]at q;cases q
   .rcases G_ p2 k with ⟨q,_⟩| ⟨j,f,q,q1,q2⟩
    .rw[h1]at q;cases q
    .rw[q1];dsimp only;show aaq (wpAny_dictEntries g2 d2 ?_);rw[q2];dsimp only;rw[h1]at q;obtain rfl:v'=f.val:=aaI q;show wpAny_holding (h2 _ _ (rfl,rfl))
  .subst es er;cases hex:e x with
   | false=>
    rw[aa1 (by rfl)];show abd (abd ?_);have:(List.range (-Κ)).all e=false:=by rw[List.all_eq_false];show(x,abS.mpr (),by rw[hex];decide)
    rw[this]at h;show h
   | true=>
    rw[aa2 @_];show aaq (wpAny_dictEpoch g1 d1 ?_);rw[if_neg (by simp)];show abd (rfl,rfl,x+1,JU,(),?_);rw[adg,List.all_append,CJ];simp[hex]
 .rintro⟨b1,b2⟩ s' ⟨rfl,hb,i,hr,hi,CJ⟩;let hb:b1=none:=hb;subst hb;have:i=GZ.size:=by have:=abI List.length hr;rw[List.length_range']at this;simp at this;omega
  subst this;rw[z1]at CJ;rw[CJ]at h;show abd h
def mZ{K:Type} [DecidableEq K]{knd:KeyKind prog w K}{id:String}{b:Addr}{Κ d9:List (K×Value)}(ha:s.heap.DictOf knd a Κ)(hb:s.heap.DictOf knd b d9)(N_:(a==sysModules)=false)(pv:(b==sysModules)=false)(hl:-Κ≠-d9)
  {Q:Bool->Shared->Prop} (h:Q false s):wpAny (model prog w) A (Builtin.Dict.samePairs id a b) Q E s:=by
 let(o1,GZ,ep1,g1,x1,d1,k1,p1,n1):=ha;let(o2,es2,ep2,g2,x2,d2,k2,p2,n2):=hb;let sa:∀{c:Addr} {Q:Unit->Shared->Prop},(c==sysModules)=false->Q Unit.unit s->wpAny (model prog w) A (Builtin.Dict.showsAll c) Q E s:=λhc hq=>by unfold Builtin.Dict.showsAll;rw[aa2 (by rw[hc];decide)];show abd hq
 unfold Builtin.Dict.samePairs;show aaq (sa N_ (aaq (sa pv (aaq (wpAny_dictEntries g1 d1 (aaq (wpAny_dictEntries g2 d2 ?_)))))));let z1:GZ.size=-Κ:=by rw[<--p1];simp
 let z2:es2.size=-d9:=by rw[<--p2];simp
 rw[if_pos (by rw[z1,z2];simpa using hl)];show aaq (wpAny_rule (abd h))
section
variable{K:Type} [DecidableEq K]{knd:KeyKind prog w K}{b:Addr}{Κ d9:List (K×Value)}
def vH(ha:s.heap.DictOf knd a Κ)(hb:s.heap.DictOf knd b d9)(hu:A.units < cLine)(h:∀{E:Value->Shared->Prop} {Q:Bool->Shared->Prop},Q c s->wpAny (model prog w) A.in1 (Builtin.Dict.samePairs (toString "dict."++toString "__eq__") a b) Q E s)(q:Q (.bool c) s):wpAny (model prog w) A (richCompare .Eq (.ref a) (.ref b)) Q E s:=by
 show wpAny_richCompare_same_room ha.typeIs hb.typeIs F.slot_dict_eq (wpAny_call_entry F.slot_dict_eq ha.typeIs F.entry_dict_eq ?_ (F.args_dict_eq_2 _ _)) hu;change wpAny _ _ (Builtin.Dict.dictSlotArgs "__eq__" ([.ref a,.ref b],[]) >>= _) _ _ s;show aaq ?_;unfold Builtin.Dict.dictSlotArgs;show aaq (wpAny_notOrdered_dict ha.typeIs ?_);show aaq (m:=slotArgs "__eq__" 1 _) (abd ?_);show abd ?_;show aaq (wpAny_isInstance hb.typeIs isSubtype_dict_dict ?_);rw[aa2 @_];show aaq (abd (aaq (abd (aaq (h ?_)))));let e:(c==true)=c:=by cases c <;> rfl
 show abd (Value.bool (c==true),rfl,(nofun,?_));rw[e];show q
def wU(ha:s.heap.DictOf knd a Κ)(hb:s.heap.DictOf knd b d9)(N_:(a==sysModules)=false)(pv:(b==sysModules)=false)(hu:A.units < cLine)(hl:-Κ=-d9){e:Nat->Bool}(he:∀j k v,Κ[j]? =!(k, v)->(valueAt d9 k=none/\e j=false)\/∃v',valueAt d9 k=!v'/\mP prog w A.in1 s v v' (e j))
   (q:Q (.bool ((List.range (-Κ)).all e)) s):wpAny (model prog w) A (richCompare .Eq (.ref a) (.ref b)) Q E s:=vH ha hb hu (λh=>oS ha hb N_ pv hl he h) q
def mU(ha:s.heap.DictOf knd a Κ)(hb:s.heap.DictOf knd b d9)(N_:(a==sysModules)=false)(pv:(b==sysModules)=false)(hu:A.units < cLine)(hl:-Κ≠-d9)
   (q:Q (.bool false) s):wpAny (model prog w) A (richCompare .Eq (.ref a) (.ref b)) Q E s:=vH ha hb hu (λh=>mZ ha hb N_ pv hl h) q
def mP.same(v:Value):mP prog w A s v v true:=λE Q h=>SeqAt.EqAt.same v prog w E Q h
def mP.of_refs{k:Bool}(lu:a≠b)(h:∀(E:Value->Shared->Prop) (Q:Value->Shared->Prop),Q (.bool k) s->wpAny (model prog w) A (richCompare .Eq (.ref a) (.ref b)) Q E s):mP prog w A s (.ref a) (.ref b) k:=λE Q hq=>by unfold eqBool;show wpAny_holding ?_;show wpAny_ite_split (λJG=>abc (by have:=eq_of_beq JG;injection this) lu) (λ_=>?_);show aaq (h E _ (wpAny_truthy_bool hq))
end
inductive vx(H:Hp):Nat->V->V->Bool->Prop
 | flat {n:Nat} {x y:V} (h1:eJ x=true) (h2:eJ y=true):vx H n x y (rM x y)
 | cZ {n:Nat} {a b:Addr} {Κ d9:List (Key×V)} {e:Nat->Bool} (h1:Rd H a (.dK Κ)) (h2:Rd H b (.dK d9)) (hl:-Κ=-d9) (hn:∀j k v,Κ[j]? =!(k, v)->fZ d9 k=none->e j=false)
   (h:∀j k v v',Κ[j]? =!(k, v)->fZ d9 k=!v'->vx H n v v' (e j)):vx H (n+1) (.ref a) (.ref b) ((List.range (-Κ)).all e)
 | len {n:Nat} {a b:Addr} {Κ d9:List (Key×V)} (h1:Rd H a (.dK Κ)) (h2:Rd H b (.dK d9)) (hl:-Κ≠-d9):vx H (n+1) (.ref a) (.ref b) false
def Cg{κ:Type} [DecidableEq κ]:∀{Κ:List (κ×V)} {j:Nat} {k:κ} {v:V},(Κ.map (·.1)).Nodup->Κ[j]? =!(k, v)->fZ Κ k=!v
 | [],j,k,v,_,h=>by simp at h
 | p::r,0,k,v,_,h=>by
  have:p=(k, v):=by simpa using h
  subst this;show dR rfl
 | p::r,j+1,k,v,hn,h=>by
  let h:r[j]? =!(k, v):=by simpa using h
  rw[aaX,acD]at hn;have:¬p.1=k:=λe=>hn.1 (by rw[e];show aap.mpr (_,aao h,rfl));rw[dw this];show Cg hn.2 h
def Ee{H:Hp}{v:HO}(h1:Rd H a u)(h2:Rd H a v)(hu:∀o w,u≠ .w4 o w)(hv:∀o w,v≠ .w4 o w):u=v:=by
 rcases h1 with h1| ⟨o,h1⟩ <;> rcases h2 with h2| ⟨o',h2⟩ <;> rw[h1]at h2
 .show aaI h2
 .show abc (aaI h2) (hu _ _)
 .show abc (aaI h2).symm (hv _ _)
 .have:=aaI h2;injection this
def uQ{κ:Type}:∀{Κ:List (κ×V)} {vs:List (κ×Value)},KV Κ vs->∀{j:Nat} {k:κ} {u:Value},vs[j]? =!(k, u)->∃v,Κ[j]? =!(k, v)/\az v u
 | _,_,.nil,j,k,u,h=>by simp at h
 | _,_,.cons (a:=p) (b:=q) r t,0,k,u,h=>by
  have:q=(k, u):=by simpa using h
  subst this;let e:p.1=k:=r.1;show(p.2,by change (!p)=_;rw[<-e],r.2)
 | _,_,.cons r t,j+1,k,u,h=>by let(v,e,rv):=uQ t (show _=!(k, u) by simpa using h);show(v,by simpa using e,rv)
section
variable{H:Hp}
def M_(I:Inv X η σ H s)(h:Rd H a (.dK Κ)):(Κ.map (·.1)).Nodup:=by let(_,_,vs,r,o,es,ep,_,_,_,_,_,n):=dG I.aN h;rw[r.keys];show n
def Hg(I:Inv X η σ H s){x:V}{b:Bool}(h:vx H n x y b):x=y->b=true:=by
 induction h with
 | flat h1 h2=>intro e;subst e;show B6 h1
 | @cZ n a b Κ d9 f h1 h2 hl hn h ih=>
  intro e;cases e;have:=Ee h1 h2 (λ_ _ z=>nomatch z) (λ_ _ z=>nomatch z);cases this;show acy.mpr λj hj=>?_;let hj:=abS.mp hj;let g:Κ[j]? =!(Κ[j].1, Κ[j].2):=aaa hj;show ih j _ _ _ g (Cg (M_ I h1) g) rfl
 | len h1 h2 hl=>
  intro e;cases e;have:=Ee h1 h2 (λ_ _ z=>nomatch z) (λ_ _ z=>nomatch z);cases this;show abc rfl hl
def yX{vs:List (Key×Value)}(r:KV Κ vs)(k:Key):(fZ Κ k=none/\valueAt vs k=none)\/∃v u,fZ Κ k=!v/\valueAt vs k=!u/\az v u:=by
 have:=r.val k;cases h1:fZ Κ k with
 | none=>
  cases h2:valueAt vs k with
  | none=>show .inl (rfl,rfl)
  | some u=>rw[h1,h2]at this;show this.elim
 | some v=>
  cases h2:valueAt vs k with
  | none=>rw[h1,h2]at this;show this.elim
  | some u=>rw[h1,h2]at this;show .inr (v,u,rfl,rfl,this)
def EF(I:Inv X η σ H s){x:V}(h:vx H n x y c):∀{A:Around} {u v:Value},az x u->az y v->A.units+n < cLine->mP X.prog X.w A s u v c:=by
 induction h with
 | flat h1 h2=>exactλru rv _ E Q q=>tN ru rv h1 h2 X.prog X.w E Q q
 | @cZ n a b Κ d9 f h1 h2 hl hn h ih=>
  intro A u v ru rv hu;cases ru;cases rv;by_cases e:a=b
  .have:=Hg I (.cZ h1 h2 hl hn h) (abI V.ref e);rw[this,e];show mP.same _
  .let(_,z1,vs,r1,d1):=dG I.aN h1;let(_,z2,ya,r2,d2):=dG I.aN h2;show mP.of_refs e λE Q q=>?_;rw[-r1]at q;show wU d1 d2 z1 z2 () (by rw[<--r1,<--r2];show hl) (λj k u hj=>?_) q;let(v,hv,rv):=uQ r1 hj;rcases yX r2 k with ⟨q1,q2⟩| ⟨v',u',q1,q2,q3⟩
   .show .inl (q2,hn j k v hv q1)
   .show .inr (u',q2,ih j k v v' hv q1 rv q3 (by change A.units+1+n < cLine;omega))
 | @len n a b Κ d9 h1 h2 hl=>
  intro A u v ru rv hu;cases ru;cases rv;let e:a≠b:=λe=>by subst e;have:=Ee h1 h2 (λ_ _ z=>nomatch z) (λ_ _ z=>nomatch z);cases this;show hl rfl
  let(_,z1,vs,r1,d1):=dG I.aN h1;let(_,z2,ya,r2,d2):=dG I.aN h2;show mP.of_refs e λE Q q=>mU d1 d2 z1 z2 () (by rw[<--r1,<--r2];show hl) q
end
def QX(n:Nat):R2:=λx y H Q=>∃a b c,x= .ref a/\y= .ref b/\vx H n x y c/\Q (.bl c) H
def Om(hu:X.A.units+n < cLine):jW X (compareOp .Eq) (QX n):=by
 intro η s σ H x y v u Q I rx ry h;let(a,b,c,rfl,rfl,h,q):=h;cases rx;cases ry;cases h with
 | flat h1 h2=>cases h1
 | @cZ n _ _ Κ d9 f h1 h2 hl hn h=>
  let(_,z1,vs,r1,d1):=dG I.aN h1;let(_,z2,ya,r2,d2):=dG I.aN h2;rw[-r1]at q;change wpAny _ _ (richCompare .Eq _ _) _ _ s;show wU d1 d2 z1 z2 () (by rw[<--r1,<--r2];show hl) (e:=f) (λj k u hj=>?_) (.bl _,H,I,rfl,q);let(v,hv,rv):=uQ r1 hj;rcases yX r2 k with ⟨q1,q2⟩| ⟨v',u',q1,q2,q3⟩
  .show .inl (q2,hn j k v hv q1)
  .show .inr (u',q2,EF I (h j k v v' hv q1) rv q3 (by change X.A.units+1+n < cLine;omega))
 | @len n _ _ Κ d9 h1 h2 hl=>
  let(_,z1,vs,r1,d1):=dG I.aN h1;let(_,z2,ya,r2,d2):=dG I.aN h2;change wpAny _ _ (richCompare .Eq _ _) _ _ s;show mU d1 d2 z1 z2 () (by rw[<--r1,<--r2];show hl) (.bl _,H,I,rfl,q)
section
variable{a f:Expr}{tf:DE}{cN:Pos}
def xT{K:fI}{G:Hp}{L:List Addr}{k:Key}:∀{ks:List Key} {ds:List Dt} {vs:List V},Υ K G L ds vs->aV ks ds k=none->fZ (ks.zip vs) k=none
 | [],_,_,_,_=>rfl
 | _::_,[],_,h,_=>by cases h;rfl
 | c::ks,d0::ds,_,(v0,vs,e,n0,n),h=>by
  subst e;rw[ab0];by_cases hc:c=k
  .let h':aV (c::ks) (d0::ds) k=!d0:=by unfold aV;rw[List.zip_cons_cons,List.find?_cons_of_pos (by simpa using hc)];rfl
   rw[h']at h;cases h
  .let h':aV (c::ks) (d0::ds) k=aV ks ds k:=by unfold aV;rw[List.zip_cons_cons,List.find?_cons_of_neg (by simpa using hc)]
   rw[h']at h;rw[dw hc];show xT n h
end
def CM(M:Ms):Dt->Option (List Dt)
 | .lst xs=>!xs
 | .loc k=>match M[k]? with
  | some (.lst xs)=>!xs
  | _=>none
 | _=>none
set_option tactic.hygienic true in
def yS{K:fI}{H:Hp}(r:Rl K G L M H)(n:Den K G L d v)(h:CM M d=!xs):∃a vs,v= .ref a/\H a=!(.lst vs)/\Υ K G L xs vs:=by
 cases d with
 | lst ds=>cases h;let(a,vs,rfl,e,m):=n;show(a,vs,rfl,r.sub _ _ e,m)
 | loc k=>
  let(a,rfl,e):=n;let h:(match M[k]? with| some (.lst xs)=>!xs| _=>none)=!xs:=h;split at h
  .rename_i ys hm;cases h;let(_,vs,e1,m1):=r.fv k a _ e hm;show(a,vs,rfl,e1,m1)
  .cases h
 | _=>cases h
def Qu:Dt->Dt->Ms->DQ->Prop:=λd e M q=>∃xs ys,CM M d=!xs/\CM M e=!ys/\-xs+-ys<=sizeLine/\q (.lst (xs++ys)) M
def Wa{K:fI}:mY K SI Qu:=by intro G0 L0 H0 G L M H v1 v2 d1 d2 q e r n1 n2 ⟨xs,ys,h1,h2,hz,hq⟩;let(p1,w1,rfl,e1,m1):=yS r n1 h1;let(p2,w2,rfl,e2,m2):=yS r n2 h2;show(p1,p2,w1,w2,rfl,rfl,e1,e2,by rw[<--m1,<--m2];show hz,λp hp=>?_);show mq e r hp (sQ r hp (m1.app m2)) hq
section
variable{a:Expr}
def nJ(ja:JE X R a ta)(jb:JE X R b tb):JE X R (.BinOp a .Add b pos) (fN Qu ta tb):=zc Mr Wa ja jb
end
section
variable{l:Expr}{tl:DE}{p2:Pos}
def Lb(te tl:DE):DE:=λρ M q x=>te ρ M (λd M1=>tl ρ M1 (λdi M2=>∃ds n,lK M2 d=!ds/\di= .int (n:Nat)/\q (.loc (-M2)) (M2++[.lst (ds.take n)])) x) x
def Ay(he:JE X R e te)(hl:JE X R l tl):JE X R (.Subscript e (.Slice none (!l) none p2) pos) (Lb te tl):=
 .of (uz Aa he G8 (mJ hl)) λσ H G L ρ M q x rl n h hx=>by show(G,L,ρ,M,_,x,rl,n,h,hx,λv H1 xz=>?_);let(d1,G1,L1,M1,e1,r1,n1,h1):=xz;show(G1,L1,ρ,M1,_,x,r1,n.mono e1,h1,hx.on e1,λv2 H2 xz=>?_);let(d2,G2,L2,M2,e2,r2,n2,ds,k,ed,ei,h2):=xz;subst ei;let(a,vs,rfl,sq,m):=fE r2 (Den.mono e2.g e2.l _ _ n1) ed;let n2:v2= .int k:=n2;subst n2;show(k,rfl,a,vs,rfl,sq,λp hp=>?_);rw[Hm];show i9 (e1.trans e2) r2 hp (Υ.of (tX k m.pair)) h2
end
def t_(g:Dt->En->(En->Prop)->Prop)(te:DE)(ρ0:En)(ok:Ms->Prop):List Dt->List Dt->Ms->(List Dt->Ms->Prop)->Prop
 | [],Ι,M,k=>ok M/\k Ι M
 | x::xs,Ι,M,k=>ok M/\g x ρ0 λρ'=>te ρ' M (λd M2=>t_ g te ρ0 ok xs (Ι++[d]) M2 k) nc
def nU(n:Nat)(ti:DK)(g:Dt->En->(En->Prop)->Prop)(te:DE)(ae:List Nat):DE:=λρ M q x=>ti ρ M (λxs ok M1=>-xs<=sizeLine/\t_ g te (List.replicate n none++qh ae ρ) ok xs [] M1 (λys M2=>q (.lst ys) M2)) x
def Ad{g:Dt->En->(En->Prop)->Prop}{te:DE}{ok:Ms->Prop}:∀xs,t_ g te cs ok xs=jP g rK te cs ok xs
 | []=>rfl
 | x::xs=>funext λΙ=>funext λM=>funext λk=>by change(ok M/\g x cs λρ'=>te ρ' M (λd M1=>t_ g te cs ok xs (Ι++[d]) M1 k) nc)=(ok M/\g x cs λρ'=>te ρ' M (λd M1=>jP g rK te cs ok xs (Ι++[d]) M1 k) nc);rw[Ad xs]
section
variable{elt:Expr}{y:Str}{px py tp:Pos}{ti:DK}{kk:Nat}
def Gh(S:aG X scope [x,y] ys ae)(hi:JK X R (.Tuple [.Name x px,.Name y py] kk tp) iter ti)(he:∀C s H fp,JE (Cx.comp X (x::y::ys) scope C s H fp) (λ_=>E0) elt te)(hc:X.calm=true|>1)(hs:(∀x,foldedSetIterable iter X.env x=pure x)|>3):JE X R (.ListComp elt [(.Tuple [.Name x px,.Name y py] kk tp,iter,[],0)] scope pos) (nU 2 ti (g2 0 1) te ae):=V_ false S hi (yz hc S) lQ (qb (Nat.zero_lt_succ 1) (Nat.lt_succ_self 1)) (λ_ _ _ _=>mr) he hc hs λρ M q x h=>by unfold nU at h;simp only[Ad]at h;show h
end
def qO{g:Dt->En->(En->Prop)->Prop}{te:DE}{ok:Ms->Prop}{M:Ms}{k:List Dt->Ms->Prop}(ho:ok M)(f:Dt->Dt):∀(xs Ι:List Dt),(∀x∈xs,∀q:DQ,q (f x) M->g x ρ0 λρ'=>te ρ' M q nc)->k (Ι++xs.map f) M->t_ g te ρ0 ok xs Ι M k
 | [],Ι,_,h=>(ho,by simpa using h)
 | x::xs,Ι,ht,h=>(ho,ht x List.mem_cons_self _ (qO ho f xs _ (λy hy=>ht y (List.mem_cons_of_mem _ hy)) (by simpa using h)))
def IL(xs:List V)(a b:Nat):wx xs (!(a:Int)) (!(b:Int))=(xs.drop a).take (b - a):=by
 unfold wx;rw[HT.sH,HT.sH];by_cases ha:a<=-xs
 .rw[adz ha];by_cases hb:b<=-xs
  .rw[adz hb]
  .rw[Nat.min_eq_right (),acV (by rw[acQ];omega),acV (by rw[acQ];omega)]
 .let h1:min a (-xs)=-xs:=Nat.min_eq_right ();rw[h1,adf (aas (-xs)),adf (show -xs<=a by omega)];simp
section
variable{l u a:Expr}{tl tu:DE}{p2:Pos}
def WD(te tl tu:DE):DE:=λρ M q x=>te ρ M (λd M1=>tl ρ M1 (λdi M2=>∃n:Nat,di= .int n/\tu ρ M2 (λdu M3=>∃ds m,lK M3 d=!ds/\du= .int (m:Nat)/\q (.loc (-M3)) (M3++[.lst ((ds.drop n).take (m - n))])) x) x) x
def x5(he:JE X R e te)(hl:JE X R l tl)(hu:JE X R u tu):JE X R (.Subscript e (.Slice (!l) (!u) none p2) pos) (WD te tl tu):=
 .of (uz Aa he (mJ hl) (mJ hu)) λσ H G L ρ M q x rl n h hx=>by show(G,L,ρ,M,_,x,rl,n,h,hx,λv H1 xz=>?_);let(d1,G1,L1,M1,e1,r1,n1,h1):=xz;show(G1,L1,ρ,M1,_,x,r1,n.mono e1,h1,hx.on e1,λv2 H2 xz=>?_);let(d2,G2,L2,M2,e2,r2,n2,k,ek,h2):=xz;subst ek;let n2:v2= .int k:=n2;subst n2;show(k,rfl,G2,L2,ρ,M2,_,x,r2,(n.mono e1).mono e2,h2,(hx.on e1).on e2,λv3 H3 xz=>?_);let(d3,G3,L3,M3,e3,r3,n3,ds,m,ed,em,h3):=xz;subst em;let IF:=e2.trans e3;let(a,vs,rfl,sq,dn):=fE r3 (Den.mono IF.g IF.l _ _ n1) ed;let n3:v3= .int m:=n3;subst n3;show(m,rfl,a,vs,rfl,sq,λp hp=>?_);rw[IL];show i9 (e1.trans IF) r3 hp (Υ.of (tX (m - k) (uT k dn.pair))) h3
def QU:Dt->Dt->Ms->DQ->Prop:=λd e M q=>∃xs k,CM M d=!xs/\e= .int k/\ - (2 ^ 63)<=k/\k < 2 ^ 63/\-xs * k.toNat<=sizeLine/\q (.loc (-M)) (M++[.lst (List.replicate k.toNat xs).flatten])
def U8{K:fI}:mY K Uh QU:=by intro G0 L0 H0 G L M H v1 v2 d1 d2 q e r n1 n2 ⟨xs,k,h1,h2,a,b,hz,hq⟩;let(p1,w1,rfl,e1,m1):=yS r n1 h1;subst h2;let n2:v2= .int k:=n2;subst n2;show(p1,k,w1,rfl,rfl,e1,a,b,by rw[<--m1];show hz,λp hp=>?_);show i9 e r hp (Υ.of (zW m1.pair k.toNat)) hq
def Eg(ja:JE X R a ta)(jb:JE X R b tb):JE X R (.BinOp a .Mult b pos) (fN QU ta tb):=zc KA U8 ja jb
end
def KU(ks:List Key)(k:Key):Bool:=ks.any λc=>decide (c=k)
def pJ{k:Key}:∀{ks:List Key} {vs:List V},-ks=-vs->(fZ (ks.zip vs) k).isSome=KU ks k
 | [],[],_=>rfl
 | c::ks,v::vs,h=>by
  let h:-ks=-vs:=by simpa using h
  rw[ab0];by_cases e:c=k
  .rw[dR e];subst e;simp[KU]
  .rw[dw e,pJ h];unfold KU;rw[ac8,aa4 e,Bool.false_or]
section
variable{a:Expr}
def zU:JE X R (.Dict [] [] pos) (λ_ M q _=>q (.loc (-M)) (M++[.cZ [] []])):=
 .of LM λσ H G L ρ M q x rl n h hx=>by intro p hp;show(.loc (-M),G,L++[p],_,rl.X2 hp,rl.OL (m:=.cZ [] []) hp ([],au,rfl,rfl),(p,rfl,by rw[<-rl.len,List.getElem?_append_right (Nat.le_refl _)];simp),h)
def Xb:Dt->Dt->Ms->DQ->Prop:=λdi d M q=>∃k ks ds key,d= .loc k/\M[k]? =!(.cZ ks ds)/\yV di=!key/\q (.bl (KU ks key)) M
def Ry(hu:X.A.units+1 < cLine):jW X (compareOp .In) (λy x H Q=>∃a o,x=V.ref a/\uD H a y o/\Q (.bl o.isSome) H):=by intro η s σ H x y u v Q I rx ry ⟨a,o,ex,g,q⟩;subst ex;obtain rfl:v=Value.ref a:=ry;show Z1 hu I g rx λs3 I3=>(.bl o.isSome,H,I3,rfl,q)
def Y'{K:fI}:mY K (λy x H Q=>∃a o,x=V.ref a/\uD H a y o/\Q (.bl o.isSome) H) Xb:=by intro G0 L0 H0 G L M H v1 v2 d1 d2 q e r n1 n2 ⟨k,ks,ds,key,ed,hm,hk,h⟩;subst ed;let(a,rfl,Io):=n2;let(_,vs,hH,hl,dn):=r.fv k a _ Io hm;show(a,_,rfl,.inl (_,key,.inl hH,kj hk n1,rfl),?_);let D7:-ks=-vs:=hl.trans (-dn);rw[pJ D7];show bB e r h
def Vg(hr:bV k' X.A)(ja:JE X R a ta)(jb:JE X R b tb)(hm:behindInMarks .In b=false|>1):JE X R (.Compare a [.In] [b] pos) (fN Xb ta tb):=u9 (Ry (AZ hr)) Y' ja jb hm
end
def g7(ks:List Key)(k:Key):List Key:=if KU ks k=true then ks else ks++[k]
def mX{α:Type}(k:Key)(v:α):List Key->List α->List α
 | c::ks,x::xs=>(if c=k then v else x)::mX k v ks xs
 | _,_=>[]
def fG{α:Type}(ks:List Key)(k:Key)(xs:List α)(v:α):List α:=if KU ks k=true then mX k v ks xs else xs++[v]
def qG{α:Type}{k:Key}{v:α}:∀{ks:List Key} {xs:List α},-ks=-xs->-(mX k v ks xs)=-ks
 | [],[],_=>rfl
 | _::ks,_::xs,h=>by
  let h:-ks=-xs:=by simpa using h
  change(mX k v ks xs).length+1=-ks+1;rw[qG h]
def xI{k:Key}{v:V}:∀{ks:List Key} {vs:List V},-ks=-vs->(ks.zip vs).map (λkv=>if kv.1=k then (kv.1, v) else kv)=ks.zip (mX k v ks vs)
 | [],[],_=>rfl
 | c::ks,x::vs,h=>by
  let h:-ks=-vs:=by simpa using h
  rw[ab0,aaX,xI h];change _=(c, if c=k then v else x)::ks.zip (mX k v ks vs)
  congr 1
  change(if c=k then (c, v) else (c, x))=_;split <;> rfl
def qc{K:fI}{G:Hp}{L:List Addr}{k:Key}{d:Dt}{v:V}(n:Den K G L d v):∀{ks:List Key} {ds:List Dt} {vs:List V},Υ K G L ds vs->-ks=-ds->Υ K G L (mX k d ks ds) (mX k v ks vs)
 | [],[],_,h,_=>by cases h;rfl
 | c::ks,x::ds,_,(y,vs,e,n0,ns),hl=>by
  subst e;let hl:-ks=-ds:=by simpa using hl
  show(_,_,rfl,?_,qc n ns hl);change Den K G L (if c=k then d else x) (if c=k then v else y);split
  .show n
  .show n0
def M6{k:Key}(h:-ks=-vs):jz (ks.zip vs) k v=(g7 ks k).zip (fG ks k vs v):=by
 unfold jz g7 fG;rw[pI,pJ h];split
 .show xI h
 .rw[List.zip_append h];rfl
def nR(to ti tv:DE):DS:=λDn ρ M=>tv ρ M (λy M1=>to ρ M1 (λd M2=>ti ρ M2 (λdi M3=>∃k ks ds key,d= .loc k/\M3[k]? =!(.cZ ks ds)/\yV di=!key/\-ks < 1000/\Dn.nx ρ (M3.set k (.cZ (g7 ks key) (fG ks key ds y)))) Dn.x) Dn.x) Dn.x
section
variable{value:Expr}{tv:DE}{pos':Pos}
def iU(hr:bV k' X.A)(ho:JE X R o to)(hi:JE X R i ti)(hv:JE X R value tv)(hs:swapsWith value (!(.Subscript o i pos')) pos.line X.env=pure false|>1):JS X R (.Assign [.Subscript o i pos'] value pos) (nR to ti tv):=
 .of (OW (AZ hr) ho hi hv hs) λσ H G L ρ M Dn rl n h hx=>by
  show(G,L,ρ,M,_,_,rl,n,h,hx,λv H1 xz=>?_);let(dv,G1,L1,M1,e1,r1,n1,h1):=xz;show(G1,L1,ρ,M1,_,_,r1,n.mono e1,h1,hx.on e1,λov H2 xz=>?_);let(d,G2,L2,M2,e2,r2,n2,h2):=xz;show(G2,L2,ρ,M2,_,_,r2,(n.mono e1).mono e2,h2,(hx.on e1).on e2,λiv H3 xz=>?_);let(di,G3,L3,M3,e3,r3,n3,k,ks,ds,key,ed,hm,hk,hlen,h3):=xz;subst ed;let(a,rfl,AE):=n2;let zY:=e3.l.get AE;let(_,vs,hH,hl,dn):=r3.fv k a _ zY hm;let IF:=e2.trans e3;let Yb:=Den.mono IF.g IF.l _ _ n1;let D7:-ks=-vs:=hl.trans (-dn);obtain rfl:iv=kV key:=kj hk n3;let z:-(ks.zip vs) < sizeLine:=by rw[ab1];show abz (Nat.min_le_left _ _) (Nat.lt_trans hlen @_)
  show(a,_,rfl,LN.k hH z,ρ,G3,L3,_,((e1.trans e2).trans e3).trans (r3.Hz zY),r3.setM (m:=.cZ (g7 ks key) (fG ks key ds dv)) zY (fG ks key vs v,by rw[au,M6 D7],?_,?_),(((n.mono e1).mono e2).mono e3).mono (r3.Hz (o:=.own a) zY),h3)
  .unfold g7 fG;split
   .rw[qG hl]
   .rw[aaj,aaj,hl];rfl
  .unfold fG;split
   .show qc Yb dn hl
   .show dn.app (_,_,rfl,Yb,rfl)
end
inductive Jo(M:Ms):Nat->Dt->Dt->Bool->Prop
 | flat {n:Nat} {d e:Dt} {x y:V} (h1:rF d=!x) (h2:rF e=!y):Jo M n d e (rM x y)
 | cZ {n k1 k2:Nat} {ks mC:List Key} {ds sC:List Dt} {f:Nat->Bool} (h1:M[k1]? =!(.cZ ks ds)) (h2:M[k2]? =!(.cZ mC sC)) (hl:-ks=-mC) (hn:∀j k,ks[j]? =!k->aV mC sC k=none->f j=false)
   (h:∀j k d d',ks[j]? =!k->ds[j]? =!d->aV mC sC k=!d'->Jo M n d d' (f j)):Jo M (n+1) (.loc k1) (.loc k2) ((List.range (-ks)).all f)
 | len {n k1 k2:Nat} {ks mC:List Key} {ds sC:List Dt} (h1:M[k1]? =!(.cZ ks ds)) (h2:M[k2]? =!(.cZ mC sC)) (hl:-ks≠-mC):Jo M (n+1) (.loc k1) (.loc k2) false
def mL{K:fI}{G:Hp}{L:List Addr}:∀{ds:List Dt} {vs:List V},Υ K G L ds vs->∀{j:Nat} {v:V},vs[j]? =!v->∃d,ds[j]? =!d/\Den K G L d v
 | [],vs,h,j,v,e=>by cases h;simp at e
 | d::ds,_,(y,r,e0,n0,ns),0,v,e=>by
  subst e0;have:y=v:=by simpa using e
  subst this;show(d,rfl,n0)
 | d::ds,_,(y,r,e0,n0,ns),j+1,v,e=>by subst e0;let(d',h1,h2):=mL ns (show r[j]? =!v by simpa using e);show(d',by simpa using h1,h2)
def zC{K:fI}{G:Hp}{L:List Addr}{k:Key}:∀{ks:List Key} {ds:List Dt} {vs:List V},Υ K G L ds vs->-ks=-ds->(aV ks ds k=none/\fZ (ks.zip vs) k=none)\/∃d v,aV ks ds k=!d/\fZ (ks.zip vs) k=!v/\Den K G L d v
 | [],ds,vs,_,_=>.inl (rfl,rfl)
 | c::ks,[],vs,_,hl=>by simp at hl
 | c::ks,d::ds,_,(y,r,e0,n0,ns),hl=>by
  subst e0;let hl:-ks=-ds:=by simpa using hl
  let e1:aV (c::ks) (d::ds) k=if c=k then !d else aV ks ds k:=by
   unfold aV;rw[ab0,List.find?_cons];by_cases e:c=k
   .rw[if_pos e];simp[e]
   .rw[if_neg e];simp[e]
  rw[ab0,e1];by_cases e:c=k
  .rw[aa1 e,dR e];show .inr (d,y,rfl,rfl,n0)
  .rw[aa2 e,dw e];show zC ns hl
def KI{K:fI}{H:Hp}(r:Rl K G L M H){e:Dt}(h:Jo M n d e c):∀{x y:V},Den K G L d x->Den K G L e y->vx H n x y c:=by
 induction h with
 | flat h1 h2=>
  intro x y n1 n2;let(e1,f1):=iL h1 n1;let(e2,f2):=iL h2 n2;subst e1 e2;show .flat f1 f2
 | @cZ n k1 k2 ks mC ds sC f h1 h2 hl hn h ih=>
  intro x y n1 n2;let(a,rfl,a1):=n1;let(b,rfl,b1):=n2;let(_,vs,hH,hz,dn):=r.fv k1 a _ a1 h1;let(_,ya,Pm,QP,JM):=r.fv k2 b _ b1 h2;let l1:-(ks.zip vs)=-ks:=by rw[ab1,<--dn,hz,adt]
  let l2:-(mC.zip ya)=-mC:=by rw[ab1,<--JM,QP,adt]
  have:=vx.cZ (H:=H) (n:=n) (e:=f) (.inl hH) (.inl Pm) (by rw[l1,l2];show hl) (λj k v hj hv=>by
   let(g1,g2):=acL.mp hj;rcases zC (k:=k) JM QP with ⟨q1,_⟩| ⟨d',v',_,q2,_⟩
   .show hn j k g1 q1
   .rw[hv]at q2;cases q2) (λj k v v' hj hv=>by
   let(g1,g2):=acL.mp hj;let(d0,g3,g4):=mL dn g2;rcases zC (k:=k) JM QP with ⟨_,q1⟩| ⟨d',v2,q1,q2,q3⟩
   .rw[hv]at q1;cases q1
   .rw[hv]at q2;obtain rfl:v'=v2:=aaI q2
    show ih j k d0 d' g1 g3 q1 g4 q3)
  rwa[l1]at this
 | @len n k1 k2 ks mC ds sC h1 h2 hl=>
  intro x y n1 n2;let(a,rfl,a1):=n1;let(b,rfl,b1):=n2;let(_,vs,hH,hz,dn):=r.fv k1 a _ a1 h1;let(_,ya,Pm,QP,JM):=r.fv k2 b _ b1 h2;let l1:-(ks.zip vs)=-ks:=by rw[ab1,<--dn,hz,adt]
  let l2:-(mC.zip ya)=-mC:=by rw[ab1,<--JM,QP,adt]
  show .len (.inl hH) (.inl Pm) (by rw[l1,l2];show hl)
def XB(n:Nat):Dt->Dt->Ms->DQ->Prop:=λd e M q=>∃k1 k2 c,d= .loc k1/\e= .loc k2/\Jo M n d e c/\q (.bl c) M
def ab8{K:fI}:mY K (QX n) (XB n):=by intro G0 L0 H0 G L M H v1 v2 d1 d2 q e r n1 n2 ⟨k1,k2,c,e1,e2,h,hq⟩;have:=KI r h n1 n2;subst e1 e2;let(a,rfl,_):=n1;let(b,rfl,_):=n2;show(a,b,c,rfl,rfl,this,bB e r hq)
section
variable{f a v1 v2:Expr}{tx t1 t2:DE}{cN:Pos}
def QG(n:Nat)(hr:bV k' X.A)(ja:JE X R a ta)(jb:JE X R b tb)(hn:n<=64|>2)(hm:behindInMarks .Eq b=false|>1):JE X R (.Compare a [.Eq] [b] pos) (fN (XB n) ta tb):=u9 (Om (LK hr hn)) ab8 ja jb hm
def FK:Dt->Dt->Ms->DQ->Prop:=λdi d M q=>∃k ks ds key,d= .loc k/\M[k]? =!(.cZ ks ds)/\yV di=!key/\q (.bl (! KU ks key)) M
def Jb(hu:X.A.units+1 < cLine):jW X (compareOp .NotIn) (λy x H Q=>∃a o,x=V.ref a/\uD H a y o/\Q (.bl (! o.isSome)) H):=by intro η s σ H x y u v Q I rx ry ⟨a,o,ex,g,q⟩;subst ex;obtain rfl:v=Value.ref a:=ry;show NX hu I g rx λs3 I3=>(.bl (! o.isSome),H,I3,rfl,q)
def PJ{K:fI}:mY K (λy x H Q=>∃a o,x=V.ref a/\uD H a y o/\Q (.bl (! o.isSome)) H) FK:=by intro G0 L0 H0 G L M H v1 v2 d1 d2 q e r n1 n2 ⟨k,ks,ds,key,ed,hm,hk,h⟩;subst ed;let(a,rfl,Io):=n2;let(_,vs,hH,hl,dn):=r.fv k a _ Io hm;show(a,_,rfl,.inl (_,key,.inl hH,kj hk n1,rfl),?_);let D7:-ks=-vs:=hl.trans (-dn);rw[pJ D7];show bB e r h
def qi(hr:bV k' X.A)(ja:JE X R a ta)(jb:JE X R b tb)(hm:behindInMarks .NotIn b=false|>1):JT X R (.Compare a [.NotIn] [b] pos) (jT (fN FK ta tb)):=fD (Jb (AZ hr)) PJ ja jb hm
def yZ:eC X (.type "dict") (λxs H Q=>∃a Κ,xs=[V.ref a]/\Rd H a (.dK Κ)/\∀p,H p=none->Q (.ref p) (upd H p (.dK Κ))):=by
 intro η s σ H xs us Q I r ⟨a,Κ,ex,e,q⟩;subst ex;cases r with
 | cons r1 r2=>
  cases r2;cases r1;show L8 I e λp s' hp I'=>(.ref p,_,I',rfl,q p hp)
def GX:List Dt->Ms->DQ->Prop
 | [d],M,q=>∃k ks ds,d= .loc k/\M[k]? =!(.cZ ks ds)/\q (.loc (-M)) (M++[.cZ ks ds])
 | _,_,_=>False
set_option tactic.hygienic true in
def VG{K:fI}:CZ K (λxs H Q=>∃a Κ,xs=[V.ref a]/\Rd H a (.dK Κ)/\∀p,H p=none->Q (.ref p) (upd H p (.dK Κ))) GX:=by
 intro G0 L0 H0 G L M H vs ds q e r n h;unfold GX at h;split at h
 .rename_i d;let(v,rfl,n1):=bD n;let(k,ks,ds,ed,hm,h):=h;subst ed;let(a,rfl,hk):=n1;let(_,vs,hH,hl,dn):=r.fv k a _ hk hm;show(a,_,rfl,.inl hH,λp hp=>?_);show(.loc (-M),G,L++[p],_,e.trans (r.X2 hp),r.OL (m:=.cZ ks ds) hp (vs,au,hl,Υ.mono (.refl _) ([p],rfl) _ _ dn),(p,rfl,by rw[<-r.len,List.getElem?_append_right (Nat.le_refl _)];simp),h)
 .show h.elim
def vv:bootBuiltins "dict"=!(.type "dict"):=by decide+kernel
def zD(hm:X.mg "dict"=none)(ha:JA X R [e] t)(hg:Gl X "dict"|>1)(he:starEach [e] X.env=(false, eval e X.env)::starEach [] X.env|>1)(gL:(backTo pos (starEach [] X.env)).any (·.1)=false|>1):JE X R (.Call (.Name "dict" p) [e] [] pos) (sA GX t):=
 pq yZ VG hm vv ha hg @_ @_ he gL
end
section
variable{f v1 v2:Expr}{tx t1 t2:DE}{cN:Pos}
def Pq{K:fI}{H:Hp}{p:Addr}{q:DQ}(e:Ex G1 L1 H1 G L H)(r:Rl K G L M H)(Qo:H1 p=none)(hg:G p=none)(hl:p∉L)(h:H p=!(.dK (ks.zip vs)))(hk:-ks=-ds)(n:Υ K G L ds vs)(k:q (.loc (-M)) (M++[.cZ ks ds])):Fin K G1 L1 H1 q (.ref p) H:=by
 show(.loc (-M),G,L++[p],M++[.cZ ks ds],(e.g,e.l.trans ([p],rfl),e.fr,e.out,λb hb=>?_,e.FD),(r.sub,by rw[List.length_append,List.length_append,r.len];rfl,List.nodup_append.mpr (r.nd,by simp,λa ha b hb=>?_),λk a m h1 h2=>?_),(p,rfl,by rw[<-r.len,List.getElem?_append_right (Nat.le_refl _)];simp),k)
 .rcases abt.mp hb with z| z
  .show e.new b z
  .let e:b=p:=by simpa using z
   right;rw[e];show Qo
 .let e:b=p:=by simpa using hb
  rw[e];exactλz=>hl (z▸ha)
 .by_cases rO:k < -L
  .rw[aaJ rO]at h1;rw[aaJ (by rw[<-r.len];show rO)]at h2;let(q1,q2):=r.fv k a m h1 h2;show(q1,q2.mono (.refl _) ([p],rfl) rfl)
  .let e:k=-L:=by have:=(aae.mp h1).1;rw[aaj]at this;simp at this;omega
   rw[e,aaB (aas _)]at h1;rw[e,r.len,aaB (aas _)]at h2;simp at h1 h2;subst h1 h2;show(hg,vs,h,hk,Υ.mono (.refl _) ([p],rfl) _ _ n)
end
def Ui:Dt->Bool
 | .bt=>true
 | _=>false
def GJ{K:fI}(n:Den K G L d v):decide (v= .bt)=Ui d:=by
 cases d with
 | bt=>cases n;rfl
 | bl b=>cases n;rfl
 | int i=>cases n;rfl
 | str x=>cases n;rfl
 | tup ds=>let(a,vs,rfl,_):=n;rfl
 | lst ds=>let(a,vs,rfl,_):=n;rfl
 | obj C ns ds=>let(a,dx,vs,rfl,_):=n;rfl
 | loc k=>let(a,rfl,_):=n;rfl
 | ref a=>cases n;rfl
 | ty m=>cases n;rfl
 | jC ns=>let(a,rfl,_):=n;rfl
 | kt ds=>let(a,vs,rfl,_):=n;rfl
 | exc C ns ds=>let(a,od,vs,rfl,_):=n;rfl
 | UJ x C od ns ds=>let(vs,rfl,_):=n;rfl
def VC:Dt->Dt->Ms->DQ->Prop:=λd e M q=>e= .bt/\q (.bl (Ui d)) M
def QQ:Dt->Dt->Ms->DQ->Prop:=λd e M q=>e= .bt/\q (.bl (! Ui d)) M
def aam{K:fI}:mY K (λx y H Q=>y= .bt/\Q (.bl (decide (x= .bt))) H) VC:=by intro G0 L0 H0 G L M H v1 v2 d1 d2 q e r n1 n2 ⟨e2,h⟩;subst e2;show(n2,?_);rw[GJ n1];show bB e r h
def Vd{K:fI}:mY K (λx y H Q=>y= .bt/\Q (.bl (! decide (x= .bt))) H) QQ:=by intro G0 L0 H0 G L M H v1 v2 d1 d2 q e r n1 n2 ⟨e2,h⟩;subst e2;show(n2,?_);rw[GJ n1];show bB e r h
section
variable{a:Expr}
def Sm(ja:JE X R a ta)(jb:JE X R b tb):JT X R (.Compare a [.Is] [b] pos) (jT (fN VC ta tb)):=fD Kd aam ja jb (gU _)
def NK(ja:JE X R a ta)(jb:JE X R b tb):JT X R (.Compare a [.IsNot] [b] pos) (jT (fN QQ ta tb)):=fD O2 Vd ja jb (gU _)
end
def jZ{α:Type}(is:List Nat)(xs:List α):List α:=is.filterMap λi=>xs[i]?
def EO{α β:Type}{F:α->β->Prop}:∀{xs:List α} {ys:List β},Paired F xs ys->∀{i:Nat} {x:α},xs[i]? =!x->∃y,ys[i]? =!y/\F x y
 | _,_,.nil,i,x,h=>by simp at h
 | _,_,.cons r t,0,x,h=>by obtain rfl:=aaI h;show(_,rfl,r)
 | _,_,.cons r t,i+1,x,h=>by let(y,e,f):=EO t (show _=!x by simpa using h);show(y,by simpa using e,f)
def vo{α β:Type}{F:α->β->Prop}{xs:List α}{ys:List β}(p:Paired F xs ys):∀is:List Nat,Paired F (jZ is xs) (jZ is ys)
 | []=>.nil
 | i::is=>by
  let ih:=vo p is;unfold jZ at ih⊢;rw[adp,adp];cases hx:xs[i]? with
  | none=>
   have:ys[i]? =none:=by rw[List.getElem?_eq_none_iff]at hx⊢;rw[<-Paired.length p];show hx
   rw[this];show ih
  | some x=>
   let(y,hy,r):=EO p hx;rw[hy];show .cons r ih
def HH{a b:Nat}(its:List Value)(hb:0 < b)(ha:a<=-its):slicePick its.toArray (!(a:Int)) none (!(b:Int))=(jZ (sliceRange a (-its) b) its).toArray:=by
 let hs:sliceBounds (!(a:Int)) none (!(b:Int)) (-its)=((a:Int), (-its:Int),(b:Int)):=by
  unfold sliceBounds;let h1:(b:Int) > 0:=()
  let h2:¬(a:Int) < 0:=()
  simp only[Option.getD_some,h1,if_true,h2,if_false];show Prod.ext ?_ rfl;change max (0:Int) (min (a:Int) (-its:Int))=a;omega
 unfold slicePick;rw[aaY,hs]
 congr 1
 unfold jZ
 congr 1
 funext i
 simp
section
variable{l k:Expr}{te tl tk:TE}{p2:Pos}
def WB(K:fI)(a b:Nat)(te tl tk:TE):TE:=λσ H Q=>te σ H λx H1=>tl σ H1 λy H2=>∃i:Int,y= .int i/\(!i)=!(a:Int)/\tk σ H2 λz H3=>∃j:Int,z= .int j/\(!j)=!(b:Int)/\∃c xs,x= .ref c/\gY K H3 c xs/\a<=-xs/\-(sliceRange a (-xs) b)<=-xs/\∀p,H3 p=none->Q (.ref p) (upd H3 p (.lst (jZ (sliceRange a (-xs) b) xs)))
def KZ{α:Type}{xs:List α}:∀is:List Nat,-(jZ is xs)<=-is:=λis=>List.length_filterMap_le _ _
def NJ{a b:Nat}(hb:0 < b)(he:PE X e te)(hl:PE X l tl)(hk:PE X k tk):PE X (.Subscript e (.Slice (!l) none (!k) p2) pos) (WB X.K a b te tl tk):=by intro η s σ H Q I h;show Subscript_ (bP (he η s σ H _ I h) λv s1 xz=>?_);let(x,H1,I1,r1,q1):=xz;show wpAny_Slice (bP (mJ hl η s1 σ H1 (λo H2=>o=!(a:Int)/\tk σ H2 λz H3=>∃j:Int,z= .int j/\(!j)=!(b:Int)/\∃c xs,x= .ref c/\gY X.K H3 c xs/\a<=-xs/\-(sliceRange a (-xs) b)<=-xs/\∀p,H3 p=none->Q (.ref p) (upd H3 p (.lst (jZ (sliceRange a (-xs) b) xs)))) I1 q1) λvl s2 xz=>?_);let(o1,H2,I2,pl,el,q2):=xz;rw[evalPart_none];show abd ?_;show bP (mJ hk η s2 σ H2 (λo H3=>o=!(b:Int)/\∃c xs,x= .ref c/\gY X.K H3 c xs/\a<=-xs/\-(sliceRange a (-xs) b)<=-xs/\∀p,H3 p=none->Q (.ref p) (upd H3 p (.lst (jZ (sliceRange a (-xs) b) xs)))) I2 q2) λvs s3 xz=>?_;let(o,H3,I3,ps,eo,c,xs,ex,hx,ha,hn,q):=xz;subst el eo ex;cases r1;let I4:Inv X η σ H3 {s3 with heap:=s3.heap.push {cls:=.type "slice",data:=.fields #[vl,.none,vs]}}:=I3.kept (t':=s3.toks) λb ob q=>aar _ q;let(its,r,ht,hz):=I4.list hx;let hlen:=-r;change wpAny (model X.prog X.w) X.A (subscriptTail e (.Slice (!l) none (!k) p2) (.ref c) (.ref s3.heap.objs.size)) (EP X η σ Q) X.xe {s3 with heap:=s3.heap.push {cls:=.type "slice",data:=.fields #[vl,.none,vs]}};show tail_any (ops:=[.ref c,.ref s3.heap.objs.size]) ht.isList.typeIs slot_list_getitem.lookup ?_ (by with_unfolding_all rfl);show wpAny_getItem_list_slice ht.isList (Heap.IsSliceOf.new ..) pl .none ps (λz=>by injection z with z;omega) ?_ (by rw[aaY] <;> omega);rw[HH its hb (),<-hlen];show(.ref _,_,I4.laid (t':=s3.toks) (o:=.lst (jZ (sliceRange a (-xs) b) xs)) (λb ob q=>aar _ q) (aas _) ?_,rfl,q _ (I4.aN.fresh (aas _)));show(aaR (KZ _) (aaR hn hz),_,0,vo r _,abn _ rfl)
end
def V0(td te:TE):TE:=λσ H Q=>td σ H λx H1=>∃a,x= .ref a/\Zc H1 a/\te σ H1 λy H2=>∃b Κ more,y= .ref b/\a≠b/\H2 a=!(.dK Κ)/\Rd H2 b (.dK more)/\-Κ+-more<=sizeLine/\Q .bt (upd H2 a (.dK (ju Κ more)))
section
variable{cN:Pos}{td te:TE}
def Pa(ho:PE X o td)(he:PE X e te)(m:M1 X o "update" apos e cN):PE X (.Call (.Attribute o "update" apos) [e] [] cN) (V0 td te):=by
 intro η s σ H Q I h;show wpAny_Call_method m.base m.Nu m.line PySem.F.plainAttrs_dict PySem.F.slot_dict_update PySem.F.type_dict_update (bP (ho η s σ H _ I h) λu s1 xz=>?_);let(x,H1,I1,rx,a,ex,d,q1):=xz;subst ex;obtain rfl:u=Value.ref a:=rx;let(t1,t2,_):=J6 I1 d;show(t1,t2,?_);rw[m.trees];show Calls.callWith_builtin rfl (Calls.evalArgs_plain (Calls.spliced_cons (bP (he η s1 σ H1 _ I1 q1) fun iv s2 (y,H2,I2,ry,b,Κ,more,ey,lu,hA,hB,hz,q2)=>Calls.spliced_nil ?_)));subst ey;obtain rfl:iv=Value.ref b:=ry;let(z1,d1,vs,r1,Yk):=Fq I2.aN hA;let(z2,d2,rs,r2,JN):=dG I2.aN hB;show call_meetsIn PySem.F.slot_dict_update Yk.typeIs PySem.F.entry_dict_update (PySem.F.args_dict_update_2 _ _) (meets_dict_update (bJ X.prog X.w) a b lu d2) (vs,rs,Yk,JN,by rw[<--r1,<--r2];show hz,λh' hm _ hs=>?_);let hex:∃q,h'.get? a=!q:=let (q,_,_,hq,_):=hm;(q,hq)
 show(.bt,_,sJ (t':=s2.toks) I2 (by rw[hA];show True.intro) hs hex (sY (aaR (jj more Κ) hz) d1 (KV.merge r2 r1) hm),rfl,q2)
end
section
variable{l k a:Expr}{tl tk:DE}{p2 cN:Pos}
def QO(a b:Nat)(te tl tk:DE):DE:=λρ M q x=>te ρ M (λd M1=>tl ρ M1 (λdi M2=>di= .int a/\tk ρ M2 (λdk M3=>∃ds,lK M3 d=!ds/\dk= .int b/\a<=-ds/\-(sliceRange a (-ds) b)<=-ds/\q (.loc (-M3)) (M3++[.lst (jZ (sliceRange a (-ds) b) ds)])) x) x) x
def T3{a b:Nat}(he:JE X R e te)(hl:JE X R l tl)(hk:JE X R k tk)(hb:0 < b|>2):JE X R (.Subscript e (.Slice (!l) none (!k) p2) pos) (QO a b te tl tk):=
 .of (NJ hb he hl hk) λσ H G L ρ M q x rl n h hx=>by show(G,L,ρ,M,_,x,rl,n,h,hx,λv H1 xz=>?_);let(d1,G1,L1,M1,e1,r1,n1,h1):=xz;show(G1,L1,ρ,M1,_,x,r1,n.mono e1,h1,hx.on e1,λv2 H2 xz=>?_);let(d2,G2,L2,M2,e2,r2,n2,ei,h2):=xz;subst ei;let n2:v2= .int a:=n2;subst n2;show(_,rfl,rfl,G2,L2,ρ,M2,_,x,r2,(n.mono e1).mono e2,h2,(hx.on e1).on e2,λv3 H3 xz=>?_);let(d3,G3,L3,M3,e3,r3,n3,ds,ed,ek,ha,hn,h3):=xz;subst ek;let n3:v3= .int b:=n3;subst n3;let IF:=e2.trans e3;let(c,vs,rfl,sq,m):=fE r3 (Den.mono IF.g IF.l _ _ n1) ed;let hl:=-m;show(_,rfl,rfl,c,vs,rfl,sq,by rw[<-hl];show ha,by rw[<-hl];show hn,λp hp=>?_);rw[<-hl];show i9 (e1.trans IF) r3 hp (Υ.of (vo m.pair _)) h3
def Qx(to te:DE):DE:=λρ M q x=>to ρ M (λd M1=>(∃k ks ds,d= .loc k/\M1[k]? =!(.cZ ks ds))/\te ρ M1 (λdi M2=>∃k ks ds key,d= .loc k/\M2[k]? =!(.cZ ks ds)/\yV di=!key/\q ((aV ks ds key).getD .bt) M2) x) x
def J3(hr:bV k' X.A)(ho:JE X R o to)(he:JE X R e te)(m:M1 X o "get" apos e cN:=by exact⟨rfl,rfl,rfl,rfl⟩):JE X R (.Call (.Attribute o "get" apos) [e] [] cN) (Qx to te):=
 .of (Lv (AZ hr) ho he m) λσ H G L ρ M q x rl n h hx=>by
  show(G,L,ρ,M,_,x,rl,n,h,hx,λv H1 xz=>?_);let(d1,G1,L1,M1,e1,r1,n1,(k0,ks0,ds0,Z5,Yg),h1):=xz;subst Z5;let(a,rfl,hk):=n1;let(_,vs0,YS,_,_):=r1.fv k0 a _ hk Yg;show(a,rfl,.inl (_,.inl YS),G1,L1,ρ,M1,_,x,r1,n.mono e1,h1,hx.on e1,λv2 H2 xz=>?_);let(d2,G2,L2,M2,e2,r2,n2,k,ks,ds,key,ed,hm,MP,h3):=xz;cases ed;let zY:=e2.l.get hk;let(_,vs,hH,_,dn):=r2.fv k0 a _ zY hm;show(_,.inl (_,key,.inl hH,kj MP n2,rfl),?_);cases hg:aV ks ds key with
  | none=>
   rw[hg]at h3;rw[xT dn hg];show fin_same (e1.trans e2) r2 (show Den X.K G2 L2 .bt V.bt from rfl) h3
  | some d=>
   rw[hg]at h3;let(u,hu,du):=mE dn hg;rw[hu];show fin_same (e1.trans e2) r2 du h3
def rY(ks:List Key):List Key->List Key
 | []=>ks
 | k::r=>rY (g7 ks k) r
def uR(ks:List Key)(ds:List Dt):List Key->List Dt->List Dt
 | k::r,d::sC=>uR (g7 ks k) (fG ks k ds d) r sC
 | _,_=>ds
def RO{α:Type}{k:Key}{xs:List α}{v:α}(h:-ks=-xs):-(g7 ks k)=-(fG ks k xs v):=by
 unfold g7 fG;split
 .rw[qG h]
 .rw[aaj,aaj,h];rfl
def RE{K:fI}{k:Key}(n:Den K G L d v)(h:Υ K G L ds vs)(hl:-ks=-ds):Υ K G L (fG ks k ds d) (fG ks k vs v):=by
 unfold fG;split
 .show qc n h hl
 .show h.app (_,_,rfl,n,rfl)
def FQ{K:fI}{G:Hp}{L:List Addr}:∀{mC:List Key} {sC:List Dt} {ya:List V} {ks:List Key} {ds:List Dt} {vs:List V},-mC=-sC->Υ K G L sC ya->-ks=-ds->Υ K G L ds vs->
  ∃us,ju (ks.zip vs) (mC.zip ya)=(rY ks mC).zip us/\-(rY ks mC)=-(uR ks ds mC sC)/\Υ K G L (uR ks ds mC sC) us
 | [],[],_,ks,ds,vs,_,h2,hl,h=>by cases h2;show(vs,rfl,hl,h)
 | k::mC,d::sC,_,ks,ds,vs,D7,(v,ya,e,n0,ns),hl,h=>by
  subst e;let D7:-mC=-sC:=by simpa using D7
  let(us,e1,e2,e3):=FQ (ks:=g7 ks k) (ds:=fG ks k ds d) (vs:=fG ks k vs v) D7 ns (RO hl) (RE n0 h hl);show(us,?_,e2,e3);rw[ab0];change ju (jz (ks.zip vs) k v) (mC.zip ya)=(rY (g7 ks k) mC).zip us;rw[M6 (hl.trans (-h)),e1]
def FJ(to te:DE):DE:=λρ M q x=>to ρ M (λd M1=>(∃k ks ds,d= .loc k/\M1[k]? =!(.cZ ks ds))/\te ρ M1 (λd2 M2=>∃k k2 ks ds mC sC,d= .loc k/\d2= .loc k2/\k≠k2/\M2[k]? =!(.cZ ks ds)/\M2[k2]? =!(.cZ mC sC)/\-ks+-mC<=1000/\q .bt (M2.set k (.cZ (rY ks mC) (uR ks ds mC sC)))) x) x
def Dm(ho:JE X R o to)(he:JE X R e te)(m:M1 X o "update" apos e cN:=by exact⟨rfl,rfl,rfl,rfl⟩):JE X R (.Call (.Attribute o "update" apos) [e] [] cN) (FJ to te):=
 .of (Pa ho he m) λσ H G L ρ M q x rl n h hx=>by
  show(G,L,ρ,M,_,x,rl,n,h,hx,λv H1 xz=>?_);let(d1,G1,L1,M1,e1,r1,n1,(k0,ks0,ds0,Z5,Yg),h1):=xz;subst Z5;let(a,rfl,hk):=n1;let(_,vs0,YS,_,_):=r1.fv k0 a _ hk Yg;show(a,rfl,.inl (_,.inl YS),G1,L1,ρ,M1,_,x,r1,n.mono e1,h1,hx.on e1,λv2 H2 xz=>?_);let(d2,G2,L2,M2,e2,r2,n2,k,k2,ks,ds,mC,sC,ed,ed2,lu,hm,hm2,hz,h3):=xz;cases ed;subst ed2;let zY:=e2.l.get hk;let(b,rfl,XI):=n2;let(_,vs,hH,hl,dn):=r2.fv k0 a _ zY hm;let(_,ya,Pm,D7,JM):=r2.fv k2 b _ XI hm2;let z1:-(ks.zip vs)<=-ks:=by rw[ab1];show Nat.min_le_left _ _
  let z2:-(mC.zip ya)<=-mC:=by rw[ab1];show Nat.min_le_left _ _
  let sz:(1000:Nat)<=sizeLine:=@_
  let(us,u1,u2,u3):=FQ D7 JM hl dn;let ab:a≠b:=λz=>by subst z;let i1:=(aae.mp zY).1;have:=(List.getElem?_inj (l:=L2) i1 r2.nd).mp (zY.trans XI.symm);show lu this
  show(b,_,_,rfl,ab,hH,.inl Pm,(),?_);show(.bt,G2,L2,_,(e1.trans e2).trans (r2.Hz zY),r2.setM (m:=.cZ (rY ks mC) (uR ks ds mC sC)) zY (us,by rw[au,u1],u2,u3),rfl,h3)
end
def Kx(P:Program)(w:World)(a:Addr)(Κ:List (Key×V))(ep:Nat)(h:Heap):Prop:=-Κ<=sizeLine/\(a==sysModules)=false/\∃vs,KV Κ vs/\h.DictAt (bJ P w) a vs ep
def yc(P:Program)(w:World)(a:Addr)(Κ:List (Key×V))(ep:Nat):HO:=.ext (Kx P w a Κ ep)
section
variable{P':Program}{w':World}{H:Hp}{h:Heap}
def FI(ok:mN P w H h)(e:H a=!(yc P' w' a Κ ep)):Kx P' w' a Κ ep h:=(ok a _ e).1
def RB(x:Kx P' w' a Κ ep h):cf P w H h a (yc P' w' a Κ ep):=by
 show(x,?_,λh1 h2 y k=>?_)
 .let(_,_,vs,_,o,es,e,_):=x;show(o,e)
 .let(z,hd,vs,r,o,es,e,c):=y;show(z,hd,vs,r,o,es,k _ e,c)
end
section
variable{H:Hp}
def Inv.Th(I:Inv X η σ H s)(mu:UP (H a))(x:Kx X.prog X.w a Κ ep s.heap):Inv X η σ (upd H a (yc X.prog X.w a Κ ep)) s:=by
 let he:∃u,s.heap.get? a=!u:=let (_,_,_,_,o,_,e,_):=x;(o,e)
 show I.write (x:=a) (e:=a) (h':=s.heap) (t':=s.toks) mu (.inl rfl) (λb u _ q=>q) he (RB x)
def Inv.walkOut(I:Inv X η σ H s)(e:H a=!(yc X.prog X.w a Κ ep)):Inv X η σ (upd H a (.dK Κ)) s:=by
 let(z,hd,vs,r,dd):=FI I.aN e;let he:∃u,s.heap.get? a=!u:=let (o,_,e,_):=dd;(o,e)
 show I.write (x:=a) (e:=a) (h':=s.heap) (t':=s.toks) (by rw[e];show True.intro) (.inl rfl) (λb u _ q=>q) he (sY z hd r dd.dictOf)
def Qp{k:Key}(h:(bJ P w).is k u=true):az (kV k) u:=by
 rcases bT h with ⟨i,t,rfl,rfl⟩| ⟨x,t,rfl,rfl⟩
 .show(t,rfl)
 .show(t,rfl)
end
def Yh(P:Program)(w:World)(a:Addr)(Κ:List (Key×V))(ep:Nat):It:=
 (λi H=>H a=!(yc P w a Κ ep)/\i < -Κ,λi H x H'=>H'=H/\∃kv,Κ[i]? =!kv/\x=kV kv.1,λi H=>H a=!(yc P w a Κ ep)/\-Κ<=i)
def Ia{K:fI}(a it:Addr)(Κ:List (Key×V))(ep:Nat):Turn P w K tg (Yh P w a Κ ep) [it] it (λi h=>h.IsKeyIter it a i (-Κ) ep) where
 mem:=by simp
 obj:=λi h st b hb=>by
  let e:b=it:=by simpa using hb
  subst e;let(o,e,c,d):=st;show(o,e,λv z=>by rw[d]at z;cases z)
 keep:=λi h h' st k=>by let(o,e,r):=st;show(o,k it (by simp) o e,r)
 item:=by
  intro X hP hw hK hc i η s σ H E I hf st hg;subst hP hw hK;let(hq,hi):=hg;let(z,hd,vs,rel,dd):=FI I.aN hq;let(f0,f1,f2,f3,f4,f5):=hf it (by simp);let hx:Κ[i]? =!Κ[i]:=aaa hi;let(q,UN,r1,r2):=EO rel hx;let(k,v):=q;let Y7:s.heap.IsKeyIter it a i (-vs) ep:=by rw[<--rel];show st
  show wpAny_pyNext_dict_item Y7 dd UN λkey h' hk An sb=>?_;let An:h'.IsKeyIter it a (i+1) (-Κ) ep:=by rw[-rel];show An
  let I1:Inv X η σ H {s with heap:=h'}:=I.turned (t':=s.toks) (λb o hb e=>(sb.2 b hb).trans e) f0 f1 f3 f4 f5;let(o,e,c,d):=id An;show(key,rfl,xk (s:={s with heap:=h'}) e c d @_ (kV k,H,I1,Qp hk,(rfl,Κ[i],hx,by rw[r1]),An,λb hb=>(hf b hb).1))
 done:=by
  intro X hP hw hK hc i η s σ H E I hf st hg;subst hP hw hK;let(hq,hi):=hg;let(z,hd,vs,rel,dd):=FI I.aN hq;let(f0,f1,f2,f3,f4,f5):=hf it (by simp);let Y7:s.heap.IsKeyIter it a i (-vs) ep:=by rw[<--rel];show st
  show wpAny_pyNext_dict_end (I.ok.hd hc) Y7 dd (acN (by rw[<--rel];show hi)) λh' eb=>(rfl,I.turned (t':=s.toks) (λb o hb e=>eb b o hb e) f0 f1 f3 f4 f5)
 self:=λ_ _ _ _ _ st h=>wpAny_pyIter_keyiter st h
section
variable{H:Hp}{Q:It->Hp->Prop}
def Pc(I:Inv X η σ H s)(e:H a=!(.dK Κ))(q:∀ep,Q (Yh X.prog X.w a Κ ep) (upd H a (yc X.prog X.w a Κ ep))):wpAny (model X.prog X.w) X.A (pyIter (.ref a)) (Np X η σ tg Q) E s:=by
 let(z,hd,vs,rel,dd):=Fq I.aN e;let(ep,dd):=dd.dictAt;show wpAny_pyIter_dict hd dd ?_;let I1:=I.Th (by rw[e];show True.intro) (show Kx X.prog X.w a Κ ep s.heap from(z,hd,vs,rel,dd));show(s.heap.objs.size,[s.heap.objs.size],_,_,_,rfl,I1.kept (t':=s.toks) λb o e=>aar _ e,Ia a _ Κ ep,(_,abn _ rfl,rfl,by rw[-rel];rfl),λb hb=>?_,q ep);let e:b=s.heap.objs.size:=by simpa using hb
 subst e;show I1.E8 (aas _) (I1.aN.fresh (aas _))
end
def NxW(P:Program)(w:World)(D:AA):St->Hp->Prop:=λσ H=>∃a Κ ep,H a=!(yc P w a Κ ep)/\D.nx σ (upd H a (.dK Κ))
section
variable{t:TS}{td ty:TE}
def HJ(h:PS X st t):PS X st (λD σ H=>t {D with nx:=NxW X.prog X.w D} σ H):=by
 intro η s σ H D I h';show bP (h η s σ H _ I h') λf s' sp=>?_;cases f with
 | next=>
  let(σ',H',I',a,Κ,ep,e,q):=sp;show(σ',_,I'.walkOut e,q)
 | brk=>show sp
 | cont=>show sp
 | ret u=>show sp
def Ug(P:Program)(w:World)(td ty:TE):TE:=λσ H Q=>td σ H λx H1=>ty σ H1 λy H2=>∃a Κ ep k v,x= .ref a/\H2 a=!(yc P w a Κ ep)/\y=kV k/\fZ Κ k=!v/\Q v H2
def Kv(ho:PE X o td)(hi:PE X i ty)(hs:DN i):PE X (.Subscript o i pos) (Ug X.prog X.w td ty):=by intro η s σ H Q I h;show Ae adk.lookup hs (bP (ho η s σ H _ I h) fun u s1 (x,H1,I1,rx,q1)=>bP (hi η s1 σ H1 _ I1 q1) λiv s2 xz=>?_);let(y,H2,I2,ry,a,Κ,ep,k,v,ex,e,ey,l,q2):=xz;subst ex ey;obtain rfl:u=Value.ref a:=rx;let(z,hd,vs,rel,dd):=FI I2.aN e;let dd:=dd.dictOf;let(w',hw,Ff):=kB.some_of (v:=v) (o:=valueAt vs k) (by rw[<-l];show rel.val k);show(dd.typeIs,wpAny_getItem_of (rX ry) dd.mapOf hw (v,H2,I2.tok _,Ff,q2))
end
def oO:Key->Dt
 | .inl i=>.int i
 | .inr x=>.str x
def yq{K:fI}{G:Hp}{L:List Addr}:∀k:Key,Den K G L (oO k) (kV k)
 | .inl _=>rfl
 | .inr _=>rfl
def pF{K:fI}{G:Hp}{L:List Addr}:∀is:List Int,Υ K G L (is.map Dt.int) (is.map V.int)
 | []=>rfl
 | _::is=>(_,_,rfl,rfl,pF is)
def tI{K:fI}{G:Hp}{L:List Addr}:∀{is:List Int} {vs:List V},Υ K G L (is.map Dt.int) vs->vs=is.map V.int
 | [],vs,h=>h
 | i::is,vs,h=>by let(v,r,rfl,h1,h2):=h;let h1:v= .int i:=h1;rw[h1,tI h2];rfl
def JB(P:Program)(w:World)(ks:List Key)(is:List Int)(ep:Nat):Addr->HO:=λa=>yc P w a (ks.zip (is.map V.int)) ep
def wF(g:Dt->En->(En->Prop)->Prop)(tb:DS)(Dn:eG)(k:Nat)(u:Addr->HO)(m:MO):List Key->En->Ms->Prop
 | [],ρ,M=>M[k]? =!(.raw u)/\Dn.nx ρ (M.set k m)
 | x::xs,ρ,M=>M[k]? =!(.raw u)/\g (oO x) ρ λρ'=>tb {Dn with nx:=wF g tb Dn k u m xs,ct:=wF g tb Dn k u m xs,bk:=λρ M=>M[k]? =!(.raw u)/\Dn.nx ρ (M.set k m)} ρ' M
def Vt(P:Program)(w:World)(te:DE)(g:Dt->En->(En->Prop)->Prop)(tb:DS):DS:=λDn ρ M=>te ρ M (λd M1=>∃k ks is,d= .loc k/\M1[k]? =!(.cZ ks (is.map Dt.int))/\∀ep,wF g tb Dn k (JB P w ks is ep) (.cZ ks (is.map Dt.int)) ks ρ (M1.set k (.raw (JB P w ks is ep)))) Dn.x
def Rr(P:Program)(w:World)(t:TE):TI:=λσ H R=>t σ H λv H1=>∃a Κ,v= .ref a/\H1 a=!(.dK Κ)/\∀ep,R (Yh P w a Κ ep) (upd H1 a (yc P w a Κ ep))
def GR{t:TE}(h:PE X e t):PI X tg e (Rr X.prog X.w t):=by intro η s σ H R I ht;show bP (h η s σ H _ I ht) λu s1 xz=>?_;let(v,H1,I1,rv,a,Κ,ev,ha,q):=xz;subst ev;obtain rfl:u=Value.ref a:=rv;show Pc I1 ha q
section
variable{body:List Stmt}{gg:TG}{g:Dt->En->(En->Prop)->Prop}{tb:DS}
def Oa(hi:JE X R iter te)(hg:PG X tg gg)(gd:GD X.K gg g)(hb:Fh X R body tb)(hp:PassesOwn (model X.prog X.w) X.A X.env X.xe|>5)(hc:X.calm=true|>1)(hs:(∀x,foldedSetIterable iter X.env x=pure x)|>3):
  JS X R (.For tg iter body [] pos) (Vt X.prog X.w te g tb):=.of (HJ (DW hp hc (GR hi) hg hb hs)) λσ H G L ρ M Dn rl n h hx=>by
 show(G,L,ρ,M,_,_,rl,n,h,hx,λv H1 xz=>?_);let(d,G1,L1,M1,e1,r1,n1,k,ks,is,ed,hk,h1):=xz;subst ed;let(a,rfl,AE):=n1;let(hGa,vs,hH,hl,dn):=r1.fv k a _ AE hk;let hvs:=tI dn;subst hvs;rw[aac]at hl;show(a,_,rfl,hH,λep=>?_);let h1:=h1 ep;generalize hu:JB X.prog X.w ks is ep=u at h1;let NF:yc X.prog X.w a (ks.zip (is.map V.int)) ep=u a:=by rw[<-hu];rfl
 let r2:Rl X.K G1 L1 (M1.set k (.raw u)) (upd H1 a (yc X.prog X.w a (ks.zip (is.map V.int)) ep)):=r1.setM (m:=.raw u) AE (show upd H1 a _ a=!(u a) by rw[au,NF]);let e2:Ex G1 L1 H1 G1 L1 (upd H1 a (yc X.prog X.w a (ks.zip (is.map V.int)) ep)):=r1.Hz AE;let zl:-(ks.zip (is.map V.int))=-ks:=by rw[ab1,aac];omega
 generalize Pm:upd H1 a (yc X.prog X.w a (ks.zip (is.map V.int)) ep)=H2 at r2 e2;let K7:=e1.trans e2;let out:∀{G':Hp} {L':List Addr} {H':Hp} {M':Ms} {ρ':En} {σ':St},Ex G1 L1 H2 G' L' H'->Rl X.K G' L' M' H'->mT X.K G' L' ρ' σ'->M'[k]? =!(.raw u)->Dn.nx ρ' (M'.set k (.cZ ks (is.map Dt.int)))->NxW X.prog X.w (v8 X.K G L H Dn) σ' H':=λ{G' L' H' M' ρ' σ'} e' r' n' hm Xj=>by let E6:=e'.l.get AE;let Oh:H' a=!(u a):=(r'.fv k a _ E6 hm).2;show(a,ks.zip (is.map V.int),ep,by rw[NF];show Oh,ρ',G',L',_,(K7.trans e').trans (r'.Hz E6),r'.setM (m:=.cZ ks (is.map Dt.int)) E6 (is.map V.int,au,by rw[aac];show hl,pF is),n'.mono (r'.Hz (o:=.own a) E6),Xj)
 show(λi m σ' H'=>m+i=-ks/\fM X.K G1 L1 H2 (λρ' M'=>wF g tb Dn k u (.cZ ks (is.map Dt.int)) (ks.drop i) ρ' M') σ' H',(-ks,rfl,ρ,G1,L1,_,.refl _ _ _,r2,n.mono e1,by rw[adG];show h1),?_);rintro i m σ' H' ⟨hm,ρ',G',L',M',e',r',n',h'⟩;let E6:=e'.l.get AE;by_cases hi:i < -ks
 .right;rw[acg hi]at h';let(NH,h'):=h';let Oh:H' a=!(u a):=(r'.fv k a _ E6 NH).2;show((by rw[NF];show Oh,()),fM X.K G1 L1 H2 (λρ' M'=>wF g tb Dn k u (.cZ ks (is.map Dt.int)) (ks.drop (i+1)) ρ' M'),λσ2 H3 f=>(m - 1,(),(),f),λv H3 hy=>?_);let(rfl,kv,Xf,rfl):=hy;let Io:kv.1=ks[i]:=by rw[acL]at Xf;have:=Xf.1;rw[aaa hi]at this;show(aaI this).symm
  rw[Io];show gd G' L' M' H3 _ _ ρ' σ' _ _ r' (yq _) n' h' λρ3 σ3 n3 h3=>?_;show(G',L',ρ3,M',_,r',n3,h3,hx.on (K7.trans e'),(λ_ _ f=>fM.back e' f,λ_ _ f=>Fin.back (K7.trans e') f,λσ4 H4 f=>?_,λ_ _ f=>fM.back e' f));let(ρ4,G4,L4,M4,e4,r4,n4,hm4,h4):=f;show out (e'.trans e4) r4 n4 hm4 h4
 .left;rw[ade ()]at h';let Oh:H' a=!(u a):=(r'.fv k a _ E6 h'.1).2;show((by rw[NF];show Oh,()),out e' r' n' h'.1 h'.2)
def Ta(P:Program)(w:World)(to ti:DE):DE:=λρ M q x=>to ρ M (λd M1=>ti ρ M1 (λdi M2=>∃k ks is ep key j,d= .loc k/\M2[k]? =!(.raw (JB P w ks is ep))/\yV di=!key/\aV ks (is.map Dt.int) key=!(.int j)/\q (.int j) M2) x) x
def NV(ho:JE X R o to)(hi:JE X R i ti)(hs:DN i:=by intro _ _;rfl):JE X R (.Subscript o i pos) (Ta X.prog X.w to ti):=
 .of (Kv ho hi hs) λσ H G L ρ M q x rl n h hx=>by show(G,L,ρ,M,_,x,rl,n,h,hx,λv H1 xz=>?_);let(d1,G1,L1,M1,e1,r1,n1,h1):=xz;show(G1,L1,ρ,M1,_,x,r1,n.mono e1,h1,hx.on e1,λv2 H2 xz=>?_);let(d2,G2,L2,M2,e2,r2,n2,k,ks,is,ep,key,j,ed,hm,hk,hg,h2):=xz;subst ed;let(a,rfl,Io):=n1;let I_:=e2.l.get Io;let hH:H2 a=!(JB X.prog X.w ks is ep a):=(r2.fv k a _ I_ hm).2;obtain rfl:v2=kV key:=kj hk n2;let(v,hv,dv):=mE (K:=X.K) (G:=G2) (L:=L2) (pF is) hg;show(a,_,ep,key,v,rfl,hH,rfl,hv,_,G2,L2,M2,e1.trans e2,r2,dv,h2)
end
section
variable{k1 v1 k2 v2:Expr}{s1 t1 s2 t2:DE}
structure Jy(K:fI)(G0:Hp)(L0:List Addr)(H0:Hp)(p:Addr)(G:Hp)(L:List Addr)(M:Ms)(H:Hp):Prop where
 ex:Ex G0 L0 (upd H0 p (.dK [])) G L H
 rl:Rl K G L M H
 at_:H p=!(.dK [])
 g:G p=none
 l:p∉L
def Jy.on{K:fI}{p:Addr}{H:Hp}(a:Jy K G0 L0 H0 p G L M H)(e:Ex G L H G' L' H')(r:Rl K G' L' M' H'):Jy K G0 L0 H0 p G' L' M' H':=
 (a.ex.trans e,r,e.out _ _ a.at_ a.l,e.fr _ a.g (by rw[a.at_];simp),λz=>(e.new _ z).elim a.l λq=>by rw[a.at_]at q;cases q)
def VP{K:fI}{H:Hp}{p:Addr}(rl:Rl K G L M H)(hp:H p=none):Ex G L H G L (upd H p (.dK []))/\Jy K G L H p G L M (upd H p (.dK [])):=by
 let gn:G p=none:=rl.sub.free hp;let ln:p∉L:=rl.RG hp;let e0:Ex G L H G L (upd H p (.dK [])):=(.refl _,.refl _,λ_ h _=>h,λb u h1 _=>by rw[Ρ (λz=>by rw[z,hp]at h1;cases h1)];show h1,λ_ h=>.inl h,λb h=>by rw[Ρ (λz=>h (by rw[z];show hp))];show h)
 let r0:Rl K G L M (upd H p (.dK [])):=(λb u e=>by rw[Ρ (λz=>by rw[z,gn]at e;cases e)];show rl.sub b u e,rl.len,rl.nd,λi a m h1 h2=>by
  let(q1,q2):=rl.fv i a m h1 h2
  show(q1,q2.mono (.refl _) (.refl _) (Ρ λz=>q2.there (by rw[z];show hp))))
 show(e0,.refl _ _ _,r0,au,gn,ln)
def Jy.fin{K:fI}{p:Addr}{H:Hp}{q:DQ}(a:Jy K G0 L0 H0 p G L M H)(e0:Ex G0 L0 H0 G0 L0 (upd H0 p (.dK [])))(hp:H0 p=none)(hk:-ks=-ds)(n:Υ K G L ds vs)(k:q (.loc (-M)) (M++[.cZ ks ds])):Fin K G0 L0 H0 q (.ref p) (upd H p (.dK (ks.zip vs))):=by
 let e:=e0.trans a.ex;let gne:∀{b:Addr} {w:HO},G b=!w->b≠p:=λe z=>by rw[z,a.g]at e;cases e
 show Pq (G:=G) (L:=L) (M:=M) (ks:=ks) (ds:=ds) (vs:=vs) (e.g,e.l,e.fr,λb w h1 h2=>?_,e.new,λb h=>?_) (λb w e=>?_,a.rl.len,a.rl.nd,λi c m h1 h2=>?_) hp a.g a.l au hk n k
 .rw[Ρ (λz=>by rw[z,hp]at h1;cases h1)];show e.out b w h1 h2
 .by_cases hb:b=p
  .rw[hb,au];simp
  .rw[Ρ hb];show e.FD b h
 .rw[Ρ (gne e)];show a.rl.sub b w e
 .let(q1,q2):=a.rl.fv i c m h1 h2;show(q1,q2.mono (.refl _) (.refl _) (Ρ λz=>a.l (by rw[<-z];show aao h1)))
def EH(s1 t1:DE):DE:=λρ M q x=>s1 ρ M (λc1 M1=>t1 ρ M1 (λd1 M2=>∃y1,yV c1=!y1/\q (.loc (-M2)) (M2++[.cZ [y1] [d1]])) x) x
def CA(Io:JE X R k1 s1)(hv1:JE X R v1 t1):JE X R (.Dict [!k1] [v1] pos) (EH s1 t1):=
 .of (PZ (Lh Io hv1 Pz) rfl rfl (by simp) (by change 1<=15;decide)) λσ H G L ρ M q x rl n h hx=>by intro p hp;let(e0,a0):=VP rl hp;show(G,L,ρ,M,_,x,a0.rl,n,h,hx.on e0,λu1 H1 xz=>?_);let(d1,G1,L1,M1,e1,r1,n1,h1):=xz;let a1:=a0.on e1 r1;show(G1,L1,ρ,M1,_,x,r1,n.mono (e0.trans e1),h1,hx.on (e0.trans e1),λu2 H2 xz=>?_);let(d2,G2,L2,M2,e2,r2,n2,y1,hy,h2):=xz;let a2:=a1.on e2 r2;obtain rfl:u1=kV y1:=kj hy n1;show(a2.at_,[(y1, u2)],rfl,by change 1<=15;decide,?_);rw[w8 _ [] (λ_ _=>rfl) (by simp),List.nil_append];show a2.fin (ks:=[y1]) (ds:=[d2]) (vs:=[u2]) e0 hp rfl (_,_,rfl,n2,rfl) h2
end
def Mq:List Dt->Ms->DQ->Prop
 | [d],M,q=>∃k ks ds,d= .loc k/\M[k]? =!(.cZ ks ds)/\q (.int (-ks)) M
 | _,_,_=>False
def W0{K:fI}:CZ K (λxs H Q=>∃a Κ,xs=[V.ref a]/\H a=!(.dK Κ)/\Q (.int (-Κ)) H) Mq:=by
 intro G0 L0 H0 G L M H vs ds q e r n h;unfold Mq at h;split at h
 .let(k,ks,ds,rfl,hm,h):=h;let(v,rfl,n1):=bD n;let(a,rfl,hk):=n1;let(_,vs,hH,hl,dn):=r.fv k a _ hk hm;show(a,_,rfl,hH,.int (-ks),G,L,M,e,r,?_,h);change V.int _=V.int _;rw[ab1,<--dn,<-hl,adt]
 .show h.elim
section
def EY(hm:X.mg "len"=none)(ha:JA X R [e] t)(hg:Gl X "len"|>1)(he:starEach [e] X.env=(false, eval e X.env)::starEach [] X.env|>1)(gL:(backTo pos (starEach [] X.env)).any (·.1)=false|>1):JE X R (.Call (.Name "len" p) [e] [] pos) (sA Mq t):=
 hV Ik W0 hm PySem.boot_len ha hg @_ @_ he gL
end
structure HU(K:fI)(x:Str)(st:Stmt)(T:Addr)(its:Array Value)(f:Addr)(fd:FuncData):Prop where
 ex:∃(oc:Value) (od:Option Addr) (kV doc pm:Value) (an:Option Addr) (bf ct:Value) (CY:Array (Option Value)),
  fd=PySem.W.fnOf x x (hI st) (eP st) (υ st) (.ref T) kV doc pm an bf ct/\K.lookup f=!(oc,od,.func fd,CY)/\PySem.W.codeIn K bf x=true
 tup:∃o n,K.lookup T=!o/\o.data= .seq its n
 kp:PySem.W.keepIn K (.ref f)=true
section
variable{K:fI}{mg:Str->Option Value}{base:Heap}
def HU.dX{k:Nat}{T:DF}(F:HU K x st U its f fd)(S:Ζ N ps (υ st))(len:∀ds M q x,T ds M q x->-ds=-ps)
  (tj:∀(bf:Value) (A:Around) (outer:List Env) (s:Shared) (H:Hp) (E:XK),bV k (A.deeper (envOfC x (υ st) s.heap.objs.size f bf))->
   ∃t,Fh (wB (b9 P w) P w K mg base N x (υ st) f bf A outer s H E) (λ_=>E) (eP st) t/\∀ds M q x,T ds M q x->t {nx:=λ_ M'=>q .bt M',rt:=q,x:=λ_=>x} (lS N ds) M):
  aq P w K mg base (b9 P w) (k+1) f fd ps (cM K T):=by
 let(oc,od,kV,doc,pm,an,bf,ct,CY,rfl,lk,Gg):=F.ex;show Q6 lk Gg S (λvs H Q E h=>?_) λA outer s H vs Q E hr h=>?_
 .let(G,L,ds,M,q,x,rl,n,hT,_):=h;rw[<--n];show len _ _ _ _ hT
 .let(t,j,ht):=tj bf A outer s H E hr;let(G,L,ds,M,q,x,rl,n,hT,hQ,hE):=h;show(_,j,G,L,lS N ds,M,_,rl,BO n,ht ds M q x hT,λσ ρ C fs M' G' L' H' od hx e r _ y=>hE C fs M' G' L' H' od hx e r y,(λσ' H' (ρ',G',L',M',e,r,_,h)=>hQ _ _ (.bt,G',L',M',e,r,rfl,h),λv H' f=>hQ v H' f,λ_ _ (_,_,_,_,_,_,_,h)=>h.elim,λ_ _ (_,_,_,_,_,_,_,h)=>h.elim))
def HU.binds{ds:List Value}(F:HU K x st U its f fd)
  (h:∀(kV doc pm:Value) (an:Option Addr) (bf ct:Value) (us:List Value),-(us++ds)=-ps->∃k,bindArgs (PySem.W.fnOf x x (hI st) (eP st) (υ st) (.ref U) kV doc pm an bf ct) (us,[])=(seqItems? (.ref U) >>= k)/\k (!its)=pure (ps.zip (us++ds))):jd K fd ps ds:=by
 let(oc,od,kV,doc,pm,an,bf,ct,CY,rfl,lk,Gg):=F.ex;let(o,n,l,e):=F.tup;intro s us hK hl;let(k,h1,h2):=h kV doc pm an bf ct us hl;show BindsTo.of_defaults rfl (hK _ _ l) e h1 h2
structure N1(P:Program)(w:World)(K:fI)(mg:Str->Option Value)(base:Heap)(k:Nat)(x:Str)(ps:List Str)(T:DF)(S2:List Dt)(f:Addr)(fd:FuncData):Prop where
 ok:aq P w K mg base (b9 P w) k f fd ps (cM K T)
 b:∃(pW:List V) (ds:List Value),jd K fd ps ds/\aD pW ds/\∀G L,Υ K G L S2 pW
 m:mg x=!(.ref f)
 kp:PySem.W.keepIn K (.ref f)=true
end
def Bf{K:fI}{G:Hp}{L:List Addr}:∀{ds es:List Dt} {vs us:List V},Υ K G L ds vs->Υ K G L es us->Υ K G L (ds++es) (vs++us)
 | [],_,vs,us,h,k=>by obtain rfl:vs=[]:=h;show k
 | _::_,_,_,_,(v,r,e,a,b),h=>by subst e;show(v,_,rfl,a,Bf b h)
def Tp(T:DF)(S2:List Dt)(t:DA):DE:=λρ M q x=>t ρ M (λds M1=>T (ds++S2) M1 q (λC fs M'=>x ρ C fs M')) x
section
variable{T:DF}{k:Nat}{S2:List Dt}{es:List Expr}
def L6(C:N1 X.prog X.w X.K X.mg X.base k x ps T S2 f fd)(hr:bV k' X.A)(hx:eB (b9 X.prog X.w) X R)(ha:JA X R (e::es) t)(hk:k<=k'|>2)(hg:Gl X x|>1)(pv:(x==("__debug__":Str))=false|>2)
  (he:starEach (e::es) X.env=(false, eval e X.env)::starEach es X.env|>1) (gL:(backTo pos (starEach es X.env)).any (·.1)=false|>1):JE X R (.Call (.Name x p) (e::es) [] pos) (Tp T S2 t):=by
 let(pW,ds,hb,hv,hd):=C.b;show .of (B2 C.ok (hr.mono hk) hg C.m C.kp hb hv hx ha pv he gL) λσ H G L ρ M q x rl n h hx=>?_;show(G,L,ρ,M,_,x,rl,n,h,hx,λvs H1 xz=>?_);let(ds,G1,L1,M1,e1,r1,n1,h1):=xz;show(G1,L1,ds++S2,M1,q,_,r1,Bf n1 (hd G1 L1),h1,λv H' f=>Fin.back e1 f,λC fs M' G' L' H' od hq e' r' y=>hx σ ρ C fs M' G' L' H' od hq (e1.trans e') r' (n.mono (e1.trans e')) y)
end
section
variable{elt:Expr}{z:Str}{px pz tp:Pos}{ti:DK}{kk:Nat}
def Bh{i:Nat}{vE:Pos}(hN:X.N.Nodup)(RV:X.N[i]? =!y)(hy:Loc X.env.scope y)(S:aG X scope [x,z] ys ae)(hi:JK X R (.Tuple [.Name x px,.Name z pz] kk tp) iter ti)(he:∀C s H fp,JE (Cx.comp X (x::z::ys) scope C s H fp) (λ_=>E0) elt te)(hc:X.calm=true|>1)(RF:swapsWith (.ListComp elt [(.Tuple [.Name x px,.Name z pz] kk tp,iter,[],0)] scope pos) (!(.Name y py)) vE.line X.env=pure true|>1)(hs:(∀x,foldedSetIterable iter X.env x=pure x)|>3)(hf:X.fn y=true\/X.env.scope.names.lookup y=some .local|>4):JS X R (.Assign [.Name y py] (.ListComp elt [(.Tuple [.Name x px,.Name z pz] kk tp,iter,[],0)] scope pos) vE) (zx i (nU 2 ti (g2 0 1) te ae)):=jcS false S hi (yz hc S) lQ (qb (Nat.zero_lt_succ 1) (Nat.lt_succ_self 1)) (λ_ _ _ _=>mr) he hc hs hN RV hy RF hf λρ M q x h=>by unfold nU at h;simp only[Ad]at h;show h
end
def Jm{t:TE}(h:PE X e t):PE X e (λσ H Q=>t σ H λv H1=>∃a Κ ep,H1 a=!(yc X.prog X.w a Κ ep)/\Q v (upd H1 a (.dK Κ))):=by intro η s σ H Q I ht;show bP (h η s σ H _ I ht) λu s1 (v,H1,I1,rv,a,Κ,ep,e,q)=>(v,_,I1.walkOut e,rv,q)
def MQ(P:Program)(w:World)(to te:DE)(ae:List Nat):DE:=λρ M q x=>to ρ M (λd M1=>∃k ks is,d= .loc k/\M1[k]? =!(.cZ ks (is.map Dt.int))/\-ks<=sizeLine/\∀ep,ug te (qh ae ρ) (λM'=>M'[k]? =!(.raw (JB P w ks is ep))) (ks.map oO) [] (M1.set k (.raw (JB P w ks is ep))) λys M2=>M2[k]? =!(.raw (JB P w ks is ep))/\q (.lst ys) (M2.set k (.cZ ks (is.map Dt.int)))) x
section
variable{elt:Expr}{px:Pos}
def Pu(S:aG X scope [x] ys ae)(hi:JE X R iter to)(he:∀C s H fp,JE (Cx.comp X (x::ys) scope C s H fp) (λ_=>E0) elt te)(hc:X.calm=true|>1)(hs:(∀x,foldedSetIterable iter X.env x=pure x)|>3):JE X R (.ListComp elt [(.Name x px,iter,[],0)] scope pos) (MQ X.prog X.w to te ae):=
 .of (Jm (Cw (tc:=Dd X.K (λ_=>E0) rK) (te:=zZ X.K (λ_=>E0) te) S hc (GR hi) (iP S (i:=0) rfl) (iC (Nat.zero_lt_succ 0)) (λ_ _ _ _=>mr) he hs)) λσ H G L ρ M q x rl n h hx=>by
  show(G,L,ρ,M,_,x,rl,n,h,hx,λv H1 xz=>?_);let(d,G1,L1,M1,e1,r1,n1,k,ks,is,ed,hk,hz,h1):=xz;subst ed;let(a,rfl,AE):=n1;let(hGa,vs,hH,hl,dn):=r1.fv k a _ AE hk;let hvs:=tI dn;subst hvs;rw[aac]at hl;show(a,_,rfl,hH,λep D hD=>?_);let h1:=h1 ep;generalize hu:JB X.prog X.w ks is ep=u at h1;let NF:yc X.prog X.w a (ks.zip (is.map V.int)) ep=u a:=by rw[<-hu];rfl
  let r2:Rl X.K G1 L1 (M1.set k (.raw u)) (upd H1 a (yc X.prog X.w a (ks.zip (is.map V.int)) ep)):=r1.setM (m:=.raw u) AE (show upd H1 a _ a=!(u a) by rw[au,NF]);let e2:Ex G1 L1 H1 G1 L1 (upd H1 a (yc X.prog X.w a (ks.zip (is.map V.int)) ep)):=r1.Hz AE;let zl:-(ks.zip (is.map V.int))=-ks:=by rw[ab1,aac];omega
  generalize Pm:upd H1 a (yc X.prog X.w a (ks.zip (is.map V.int)) ep)=H2 at r2 e2 hD;let yl:QI X.K (Yh X.prog X.w a (ks.zip (is.map V.int)) ep) (ks.map oO) (λM'=>M'[k]? =!(.raw u)) G1 L1:=by
   show(λi G' L' M' H' d g l r' aN hd=>?_,λi G' L' M' H' g l r' aN hd=>?_)
   .let Oh:H' a=!(u a):=(r'.fv k a _ (l.get AE) aN).2;let hi:i < -ks:=by have:=(aae.mp hd).1;rwa[aac]at this
    show((by rw[NF];show Oh,()),λv H3 hy=>?_);let(rfl,kv,Xf,rfl):=hy;rw[acL]at Xf;rw[aaw,Xf.1]at hd;let hd:oO kv.1=d:=aaI hd;rw[<-hd];show(G',.refl _ _ _,r',yq _)
   .let Oh:H' a=!(u a):=(r'.fv k a _ (l.get AE) aN).2;rw[aac]at hd;show(by rw[NF];show Oh,())
  rw[sF]at h1;show uV aH r2 ((n.mono e1).mono e2) yl hD (by rw[aac];show hz) h1 fun G3 L3 M3 H3 ds vs e3 r3 g3 l3 hD3 n3 (hm,hq)=>?_;let Rm:=e3.l.get AE;let X3:H3 a=!(u a):=(r3.fv k a _ Rm hm).2;show(a,ks.zip (is.map V.int),ep,by rw[NF];show X3,?_);let ne:D≠a:=λz=>by rw[z,X3,<-NF]at hD3;cases hD3
  show Fin.back (e1.trans e2) (GA (e3.trans (r3.Hz Rm)) (r3.setM (m:=.cZ ks (is.map Dt.int)) Rm (is.map V.int,au,by rw[aac];show hl,pF is)) hD g3 l3 (by rw[Ρ ne];show hD3) n3 hq)
end
def Rb(K:fI):List Dt->Ms->DQ->Prop:=λds M q=>∃k c ks es t' b,ds=[.loc k,c]/\M[k]? =!(.cZ ks es)/\Tj c=!t'/\PySem.W.kitOne K (.type "dict") t'=!b/\q (.bl b) M
def Wm{K:fI}:CZ K (λxs H Q=>∃x c t t' b,xs=[x,c]/\l_ K H x t/\Mv c=!t'/\PySem.W.kitOne K t t'=!b/\Q (.bl b) H) (Rb K):=by intro G0 L0 H0 G L M H vs ds q e r n ⟨k,c,ks,es,t',b,ed,h1,h2,hb,h⟩;subst ed;let(v,u,rfl,n1,n2):=d7 n;let(a,rfl,ka):=n1;let(_,vs,e1,_):=r.fv k a _ ka h1;show(_,u,_,t',b,rfl,.dK e1,GQ n2 h2,hb,bB e r h)
section
variable{e2:Expr}
def SX(K:fI)(hm:X.mg "isinstance"=none)(ha:JA X R [e,e2] t)(he:starEach [e,e2] X.env=(false, eval e X.env)::starEach [e2] X.env|>1)(gL:(backTo pos (starEach [e2] X.env)).any (·.1)=false|>1)(hg:Gl X "isinstance"|>1)(hK:X.K=K|>1):JE X R (.Call (.Name "isinstance" p) [e,e2] [] pos) (sA (Rb K) t):=by subst hK;show hV rQ Wm hm jV ha hg @_ @_ he gL
end
section
variable{K:Type} [DecidableEq K]{knd:KeyKind prog w K}{b:Addr}{Κ d9:List (K×Value)}
def uy(ha:s.heap.DictOf knd a Κ)(hb:s.heap.DictOf knd b d9)(hu:A.units < cLine)(h:∀{E:Value->Shared->Prop} {Q:Bool->Shared->Prop},Q c s->wpAny (model prog w) A.in1 (Builtin.Dict.samePairs (toString "dict."++toString "__ne__") a b) Q E s)(q:Q (.bool (! c)) s):wpAny (model prog w) A (richCompare .NotEq (.ref a) (.ref b)) Q E s:=by
 show wpAny_richCompare_same_room ha.typeIs hb.typeIs F.slot_dict_ne (wpAny_call_entry F.slot_dict_ne ha.typeIs F.entry_dict_ne ?_ (F.args_dict_ne_2 _ _)) hu;change wpAny _ _ (Builtin.Dict.dictSlotArgs "__ne__" ([.ref a,.ref b],[]) >>= _) _ _ s;show aaq ?_;unfold Builtin.Dict.dictSlotArgs;show aaq (wpAny_notOrdered_dict ha.typeIs ?_);show aaq (m:=slotArgs "__ne__" 1 _) (abd ?_);show abd ?_;show aaq (wpAny_isInstance hb.typeIs isSubtype_dict_dict ?_);rw[aa2 @_];show aaq (abd (aaq (abd (aaq (h ?_)))));let e:(c==false)= ! c:=by cases c <;> rfl
 show abd (Value.bool (c==false),rfl,(nofun,?_));rw[e];show q
end
def QJ(n:Nat):R2:=λx y H Q=>∃a b c,x= .ref a/\y= .ref b/\vx H n x y c/\Q (.bl (! c)) H
def NL(hu:X.A.units+n < cLine):jW X (compareOp .NotEq) (QJ n):=by
 intro η s σ H x y v u Q I rx ry h;let(a,b,c,rfl,rfl,h,q):=h;cases rx;cases ry;cases h with
 | flat h1 h2=>cases h1
 | @cZ n _ _ Κ d9 f h1 h2 hl hn h=>
  let(_,z1,vs,r1,d1):=dG I.aN h1;let(_,z2,ya,r2,d2):=dG I.aN h2;rw[-r1]at q;change wpAny _ _ (richCompare .NotEq _ _) _ _ s;show uy d1 d2 () (λhq=>oS d1 d2 z1 z2 (by rw[<--r1,<--r2];show hl) (e:=f) (λj k u hj=>?_) hq) (.bl _,H,I,rfl,q);let(v,hv,rv):=uQ r1 hj;rcases yX r2 k with ⟨q1,q2⟩| ⟨v',u',q1,q2,q3⟩
  .show .inl (q2,hn j k v hv q1)
  .show .inr (u',q2,EF I (h j k v v' hv q1) rv q3 (by change X.A.units+1+n < cLine;omega))
 | @len n _ _ Κ d9 h1 h2 hl=>
  let(_,z1,vs,r1,d1):=dG I.aN h1;let(_,z2,ya,r2,d2):=dG I.aN h2;change wpAny _ _ (richCompare .NotEq _ _) _ _ s;show uy d1 d2 () (λhq=>mZ d1 d2 z1 z2 (by rw[<--r1,<--r2];show hl) hq) (.bl _,H,I,rfl,q)
def V3(n:Nat):Dt->Dt->Ms->DQ->Prop:=λd e M q=>∃k1 k2 c,d= .loc k1/\e= .loc k2/\Jo M n d e c/\q (.bl (! c)) M
def aaF{K:fI}:mY K (QJ n) (V3 n):=by intro G0 L0 H0 G L M H v1 v2 d1 d2 q e r n1 n2 ⟨k1,k2,c,e1,e2,h,hq⟩;have:=KI r h n1 n2;subst e1 e2;let(a,rfl,_):=n1;let(b,rfl,_):=n2;show(a,b,c,rfl,rfl,this,bB e r hq)
section
variable{a:Expr}
def R1(n:Nat)(hr:bV k' X.A)(ja:JE X R a ta)(jb:JE X R b tb)(hn:n<=64|>2)(hm:behindInMarks .NotEq b=false|>1):JT X R (.Compare a [.NotEq] [b] pos) (jT (fN (V3 n) ta tb)):=fD (NL (LK hr hn)) aaF ja jb hm
end
def g3(i j k:Nat):Dt->En->(En->Prop)->Prop:=λd ρ f=>match d with
 | .tup [a,b,c]=>f (((ρ.set i (!a)).set j (!b)).set k (!c))
 | _=>False
set_option tactic.hygienic true in
def Kj{K:fI}{i:Nat}:GD K (Hj K 3 (kW (gX i) (kW (gX j) (kW (gX l) Jl)))) (g3 i j l):=λG L M H d v ρ σ k Q rl n en h hQ=>by
 unfold g3 at h;split at h
 .rename_i a b c;let(p,vs,rfl,e,v1,r,rfl,n1,n):=n;let(v2,v3,rfl,n2,n3):=d7 n;show(p,_,rfl,.inl (.inl (rl.sub _ _ e)),rfl,v1,_,rfl,v2,_,rfl,v3,_,rfl,rfl,hQ _ _ (((en.set i n1).set j n2).set l n3) h)
 .show h.elim
def Ku{α β:Type}{F:α->β->Prop}:∀{xs:List α} {ys:List β},-xs=-ys->(∀(i:Nat) x y,xs[i]? =!x->ys[i]? =!y->F x y)->Paired F xs ys
 | [],[],_,_=>.nil
 | x::xs,y::ys,hl,h=>.cons (h 0 x y rfl rfl) (Ku (by simpa using hl) λi a b ha hb=>h (i+1) a b (by simpa using ha) (by simpa using hb))
section
variable{K:Type} [DecidableEq K]{knd:KeyKind prog w K}
def IX{Κ:List (K×Value)}{Q:Bool->Shared->Prop}(hm:s.heap.DictOf knd a Κ)(h:Q false s):wpAny (model prog w) A (Builtin.List.listLengthHint (.ref a)) Q E s:=by
 unfold Builtin.List.listLengthHint;show aaq (wpAny_specialOf hm.typeIs F.slot_dict_len.lookup ?_);generalize hid:("dict.__len__":String)=id0
 wp_delta
 rw[show splitId id0=!("dict", "__len__") from by subst hid;decide+kernel];subst hid;show aaq (wpAny_isInstance hm.typeIs isSubtype_dict_dict ?_);show wpAny_ite_split (λJG=>abc JG @_) (λ_=>?_);show wpAny_ite_split (λ_=>?_) (λJG=>abc (by decide+kernel) JG);show aaq (wpAny_typeOf hm.typeIs ?_);show abd h
def AH{R:Result->Shared->Prop}{d:Addr}{Κ:List (K×Value)}(hh:A.handled=none)(hd:(d==sysModules)=false)(hm:s.heap.DictAt knd d Κ ep)(hlen:-Κ<=sizeLine)(S:Addr)(res:Value)(c₀:Nat)(hS:s.heap.get? S=some {cls:=.type "list",data:=.seq #[] c₀})
  (hR:∀h' tk bK c',(∀b o,b≠S->s.heap.get? b=!o->h'.get? b=!o)->h'.get? S=some {cls:=.type "list",dict:=none,data:=.seq bK c',slots:= #[]}->
   ItemsOf (λi v=>∃k x,Κ[i]? =!(k, x)/\knd.is k v=true) bK (-Κ)->R (.ok (.ret res)) {s with heap:=h',toks:=tk}):
  wpAny (model prog w) A.in1 (Builtin.List.listExtendWith (.ref S) (.ref d) res)
   (λfin s'=>match fin with| .done f=>R (.ok f) s'| .again c'=>c'.quiet=true/\codeAny (model prog w) A c' R s') (λe s'=>R (.error e) s') s:=by
 let Wb:S≠d:=λe=>by let(o,es,ho,hc,_):=hm;rw[<-e,hS]at ho;cases ho;show absurd hc.1 (by simp)
 let aal:S < s.heap.objs.size:=aaM hS;let hdI:d≠s.heap.objs.size:=abr hm.lt_size;let hSI:S≠s.heap.objs.size:=abr aal;let hSf:S∉[s.heap.objs.size,d]:=λq=>by
  rcases aba.mp q with q| q
  .show hSI q
  .show Wb (abe.mp q)
 let W:=(Walks.dictKeys (prog:=prog) (w:=w) (knd:=knd) (A:=A.in1) hh s.heap.objs.size d hdI Κ ep).toS
 let key:∀(h:Heap) (c₁ tk:Nat),h.IsKeyIter s.heap.objs.size d 0 (-Κ) ep->h.DictAt knd d Κ ep->(∀b o,b≠S->s.heap.get? b=!o->h.get? b=!o)->
   h.get? S=some {cls:=.type "list",data:=.seq #[] c₁}->codeAny (model prog w) A (.builtin "list.extend.loop" ([.ref S,.ref s.heap.objs.size,res],[])) R {s with heap:=h,toks:=tk}:=by
  intro h c₁ tk hit N_ hk A7;show codeAny_extend_loopS W hlen S hSf res (-Κ) 0 _ #[] c₁ rfl (ac0 _) (hit,N_) A7 (ItemsOf.nil _) λs' bK c' hm Wg zg=>?_;rw[Moved.eq_with hm];show hR s'.heap s'.toks bK c' (λb o hb e=>hm.heap b o (λRu=>?_) (hk b o hb e)) Wg zg;rcases aba.mp Ru with e'| Ru
  .show hb e'
  .show abc (aaM e) (by rw[abe.mp Ru];show aci _)
 let hT:=hm.dictOf.typeIs;unfold Builtin.List.listExtendWith;show aaq (wpAny_typeOf hT ?_);let h1:Builtin.List.listSameRef (.ref S) (.ref d)=false:=by simp[Builtin.List.listSameRef,Wb]
 let h2:(Value.type "dict"==Value.type "list")=false:=@_
 let h3:(Value.type "dict"==Value.type "tuple")=false:=@_
 simp only[h1,h2,h3,Bool.or_false,Bool.false_eq_true,if_false];show aaq (wpAny_pyIter_dict hd hm ?_);show aaq (wpAny_holding (IX (hm.push _).dictOf ?_));let MC:(s.heap.push {cls:=.type "dict_keyiterator",data:=.fields #[.ref d,.int 0 0,.int (-Κ) 0,.int ep 0]}).IsKeyIter s.heap.objs.size d 0 (-Κ) ep:=(_,abn _ rfl,rfl,rfl);let A7:=aar {cls:=.type "dict_keyiterator",data:=.fields #[.ref d,.int 0 0,.int (-Κ) 0,.int ep 0]} hS;show wpAny_ite_split (λ_=>?_) (λ_=>abd (plainId_quiet F.plain_extend_loop _,key _ c₀ _ MC (hm.push _) (λb o _ e=>aar _ e) A7));show aaq (wpAny_rule ?_);show aaq ?_;change wpAny _ _ (updateSeq S (·.push .none) >>= λ_=>updateSeq S (·.pop)) _ _ _;show aaq (wpAny_updateSeq A7 rfl ?_);let FE:=Heap.get?_update_self (Obj.mapSeq (·.push Value.none)) A7 rfl;show wpAny_updateSeq (hz:=by seq_fits) FE rfl ?_;let WZ:=Heap.get?_update_self (Obj.mapSeq (·.pop)) FE rfl;let AD:∀b o,b≠S->(s.heap.push {cls:=.type "dict_keyiterator",data:=.fields #[.ref d,.int 0 0,.int (-Κ) 0,.int ep 0]}).get? b=!o->(((s.heap.push {cls:=.type "dict_keyiterator",data:=.fields #[.ref d,.int 0 0,.int (-Κ) 0,.int ep 0]}).update S (Obj.mapSeq (·.push Value.none))).update S (Obj.mapSeq (·.pop))).get? b=!o:=λb o hb e=>(Heap.get?_update_other _ _ (Ne.symm hb)).trans ((Heap.get?_update_other _ _ (Ne.symm hb)).trans e);show abd (plainId_quiet F.plain_extend_loop _,key _ _ _ (MC.at λo e=>AD _ o (Ne.symm hSI) e) ((hm.push _).at' λo e=>AD _ o (Ne.symm Wb) e) (λb o hb e=>AD b o hb (aar _ e)) WZ)
def vO{d:Addr}{Κ:List (K×Value)}(hh:A.handled=none)(hd:(d==sysModules)=false)(hm:s.heap.DictAt knd d Κ ep)(hlen:-Κ<=sizeLine)
  (hQ:∀h' tk bK c',(∀b o,s.heap.get? b=!o->h'.get? b=!o)->
   h'.get? s.heap.objs.size=some {cls:=.type "list",dict:=none,data:=.seq bK c',slots:= #[]}->ItemsOf (λi v=>∃k x,Κ[i]? =!(k, x)/\knd.is k v=true) bK (-Κ)->Q (.ref s.heap.objs.size) {s with heap:=h',toks:=tk}):
  wpAny (model prog w) A (call (.type "list") [.ref d]) Q E s:=by
 show callType_codes (Q₁:=λobj s₁=>obj= .ref s.heap.objs.size/\s₁={s with heap:=s.heap.push {cls:=.type "list",data:=.seq #[]}}) F.called_list (F.typeCall_list_1 _) F.entry_list_init
  (code_list_new _ (rfl,rfl)) λobj s₁ h₁=>?_
 let(rfl,rfl):=h₁;let hS:(s.heap.push {cls:=.type "list",data:=.seq #[]}).get? s.heap.objs.size=some {cls:=.type "list",data:=.seq #[]}:=abn _ rfl;show((_,hS,rfl),F.args_list_init_2 _ _,?_);let hm1:=hm.push {cls:=.type "list",data:=.seq #[]};generalize hS0:s.heap.objs.size=S at hS hQ⊢;change wpAny _ _ (do let  old<-Builtin.List.listItems (.ref S);Builtin.List.listUpdate (.ref S) (λ_=> #[]);letGo old.toList.reverse;Builtin.List.listExtendWith (.ref S) (.ref d) .none) _ _ _;show aaq ?_;unfold Builtin.List.listItems;show aaq (wpAny_seqItems hS rfl (abd ?_));change wpAny _ _ (updateSeq S (λ_=> #[]) >>= λ_=>letGo (#[]:Array Value).toList.reverse >>= λ_=>Builtin.List.listExtendWith (.ref S) (.ref d) .none) _ _ _;show aaq (wpAny_updateSeq hS rfl ?_);let FE:=Heap.get?_update_self (Obj.mapSeq (λ_=>(#[]:Array Value))) hS rfl
 let AD:∀b o,b≠S->(s.heap.push {cls:=.type "list",data:=.seq #[]}).get? b=!o->((s.heap.push {cls:=.type "list",data:=.seq #[]}).update S (Obj.mapSeq (λ_=>(#[]:Array Value)))).get? b=!o:=
  λb o hb e=>(Heap.get?_update_other _ _ (Ne.symm hb)).trans e
 show aaq (wpAny_letGo ?_);let Wb:d≠S:=λe=>abc hm.lt_size (by rw[hS0,e];show aci _);show AH (A:=A.in1) hh hd (hm1.at' λo e=>AD d o Wb e) hlen S .none _ FE λh' tk bK c' hk Wg zg=>?_;show(rfl,hQ h' tk bK c' (λb o e=>hk b o ?_ (AD b o ?_ (aar _ e))) Wg zg)
 all_goals exactλz=>abc (aaM e) (by rw[hS0,z];show aci _)
end
section
def wz(hc:X.calm=true):eC X (.type "list") (λxs H Q=>∃a Κ,xs=[V.ref a]/\Rd H a (.dK Κ)/\∀p,H p=none->Q (.ref p) (upd H p (.lst (Κ.map λkv=>kV kv.1)))):=by
 intro η s σ H xs us Q I r ⟨a,Κ,ex,e,q⟩;subst ex;let(u,rfl,rx):=k_ r;cases rx;let(z,hd,vs,rel,dd):=dG I.aN e;let(ep,da):=dd.dictAt;let vl:=-rel;show vO (I.ok.hd hc) hd da () λh' tk bK c' kp el it=>?_;let hv:aD (Κ.map λkv=>kV kv.1) bK.toList:=by let(il,ip):=it;show Ku (by rw[List.length_map];show rel.length.trans (il.symm.trans (by simp))) λi x y hx hy=>?_;rw[aaw]at hx;let(k,u,hk,hi):=ip i y (by simpa using hy);let(v,hv,_):=uQ rel hk;rw[hv]at hx;cases hx;show Qp hi
 show(.ref s.heap.objs.size,_,I.laid (t':=tk) kp (Nat.le_refl _) (show cf X.prog X.w _ h' _ (.lst _) from(by rw[List.length_map];show z,bK.toList,c',hv,by simpa using el)),rfl,q _ (I.aN.fresh (Nat.le_refl _)))
end
section
open PySem.AutoSeq1 (wpAny_loadPart')
open PySem.MeetsSeq PySem.MeetsSeq2 PySem.MeetsSeq3 PySem.SeqRoads2
def HP{b:Addr}{xs ys:Array Value}{n:Nat}{dd JN:Option Addr}{sl Nz:Array (Option Value)}(hz:xs.size=ys.size):
  MeetsIn prog w (Builtin.«tuple.__eq__» ([.ref l,.ref b],[])) (λA R s=>s.heap.get? l=some {cls:=.type "tuple",dict:=dd,data:=.seq xs n,slots:=sl}/\s.heap.get? b=some {cls:=.type "tuple",dict:=JN,data:=.seq ys n2,slots:=Nz}/\
   (∀j (h1:j < xs.size) (h2:j < ys.size),mP prog w A.in1 s xs[j] ys[j] true)/\R (.ok (.ret (.bool true))) s):=λA R s h=>by
 let(hp,g,d,tk,os):=s;let(hl,hb,he,h):=h;let f2:=PySem.AutoSeq1.sub_tuple_tuple
 wp_walk using wpAny_loadPart' hl,wpAny_loadPart' hb,wpAny_forIn_list _ (λrest b s'=>b.1=none/\s'=((hp,g,d,tk,os):Shared)/\∃i,rest=(xs.toList.zip ys.toList).drop i) _
 case turn=>
  rintro⟨y,x⟩ rest b s' ⟨hb',rfl,i,Qi⟩;let Nw:i < -(xs.toList.zip ys.toList):=by
   rcases adI i (-(xs.toList.zip ys.toList)) with h'| h'
   .show h'
   .rw[adf h']at Qi;cases Qi
  let hZ:-(xs.toList.zip ys.toList)=min xs.size ys.size:=by simp
  let h1:i < xs.size:=()
  let h2:i < ys.size:=()
  rw[acg Nw]at Qi;injection Qi with hyx JU
  let hy:y=xs[i]:=by have:=congrArg Prod.fst hyx;simpa using this
  let hx:x=ys[i]:=by have:=congrArg Prod.snd hyx;simpa using this
  subst hy hx;show aaq (he i h1 h2 _ _ ?_)
  wp_walk
  show(rfl,rfl,i+1,JU)
 case fin=>
  rintro⟨b1,b2⟩ s' ⟨hb',rfl,- ⟩;simp only at hb';subst hb'
  wp_walk
  rw[hz];simpa [Builtin.Tuple.tupleCompareSizes] using h
 case h=>
  show(rfl,rfl,0,by simp)
def ng{b:Addr}{xs ys:Array Value}{n:Nat}{dd JN:Option Addr}{sl Nz:Array (Option Value)}(hz:xs.size=ys.size):
  ∀k i:Nat,xs.size - i=k->MeetsIn prog w (Builtin.«list.__eq__.loop» ([.ref l,.ref b,rawInt i,rawInt 3],[])) (λA R s=>s.heap.get? l=some {cls:=.type "list",dict:=dd,data:=.seq xs n,slots:=sl}/\s.heap.get? b=some {cls:=.type "list",dict:=JN,data:=.seq ys n2,slots:=Nz}/\
   (∀j (h1:j < xs.size) (h2:j < ys.size),mP prog w A.in1 s xs[j] ys[j] true)/\R (.ok (.ret (.bool false))) s)
 | 0,i,hk=>λA R s h=>by
  let(hp,g,d,tk,os):=s;let(h1,h2,h3,h4):=h
  wp_walk using wpAny_loadPart' h1,wpAny_loadPart' h2
  let a1:xs[((i:Nat):Int).toNat]? =none:=by simp;omega
  let a2:ys[((i:Nat):Int).toNat]? =none:=by simp;omega
  rw[a1,a2]
  wp_walk using wpAny_loadPart' h1,wpAny_loadPart' h2
  change R (.ok (.ret (.bool (xs.size != ys.size)))) _;rw[hz];simpa using h4
 | k+1,i,hk=>λA R s h=>by
  let(hp,g,d,tk,os):=s;let(h1,h2,h3,h4):=h
  wp_walk using wpAny_loadPart' h1,wpAny_loadPart' h2
  let l1:i < xs.size:=()
  let l2:i < ys.size:=()
  let a1:xs[((i:Nat):Int).toNat]? =!xs[i]:=by simp[l1]
  let a2:ys[((i:Nat):Int).toNat]? =!ys[i]:=by simp[l2]
  let a4:((i:Int)+1)=((i+1:Nat):Int):=by push_cast;rfl
  rw[a1,a2];show aaq (h3 i l1 l2 _ _ ?_)
  wp_walk
  rw[a4];show(plainId_quiet plain_eq_loop _,codeAny_builtin entry_eq_loop ?_);rw[Around.under_plainId plain_eq_loop _];show ng hz k (i+1) () A R _ (h1,h2,h3,h4)
def DO{b:Addr}{xs ys:Array Value}{n:Nat}{dd JN:Option Addr}{sl Nz:Array (Option Value)}(hz:xs.size=ys.size):
  MeetsIn prog w (Builtin.«list.__ne__» ([.ref l,.ref b],[])) (λA R s=>s.heap.get? l=some {cls:=.type "list",dict:=dd,data:=.seq xs n,slots:=sl}/\s.heap.get? b=some {cls:=.type "list",dict:=JN,data:=.seq ys n2,slots:=Nz}/\
   (∀j (h1:j < xs.size) (h2:j < ys.size),mP prog w A.in1 s xs[j] ys[j] true)/\R (.ok (.ret (.bool false))) s):=λA R s h=>by
 let(hp,g,d,tk,os):=s;let(h1,h2,h3,h4):=h;let f3:=PySem.AutoSeq1.sub_list_list;let lu:¬(xs.size != ys.size)=true:=by simp[hz]
 wp_walk using wpAny_loadPart' h1,wpAny_loadPart' h2
 show(plainId_quiet plain_eq_loop _,codeAny_builtin entry_eq_loop ?_);rw[Around.under_plainId plain_eq_loop _];show ng hz _ 0 rfl A R _ (h1,h2,h3,h4)
end
def PrH(K:fI)(H:Hp)(n:Nat)(x y:V):Prop:=∃a b d1 l1 d2 l2,x= .ref a/\y= .ref b/\nj K H a [d1,l1]/\nj K H b [d2,l2]/\vx H n d1 d2 true/\Lm K H n l1 l2 true
def pY{its:List Value}{j:Nat}{u:Value}(h:j < its.toArray.size)(e:its[j]? =!u):its.toArray[j]=u:=by have:=List.getElem?_eq_getElem (l:=its) (i:=j) (by simpa using h);rw[e]at this;simpa using(Option.some.inj this).symm
section
variable{H:Hp}
def TV(I:Inv X η σ H s){x:V}(h:PrH X.K H n x y){v:Value}(ru:az x u)(rv:az y v)(hu:A.units+(n+1) < cLine):mP X.prog X.w A s u v true:=by
 let(a,b,d1,l1,d2,l2,rfl,rfl,h1,h2,e1,e2):=h;cases ru;cases rv;by_cases e:a=b
 .subst e;show mP.same _
 show mP.of_refs e λE Q q=>?_;let(its,r1,((c1,Yk,t1,s1),g1,rfl,n1,rfl),_):=I.tuple h1;let(jts,r2,((c2,JN,t2,s2),g2,rfl,n2,rfl),_):=I.tuple h2;let hz:its.toArray.size=jts.toArray.size:=by rw[aaY,aaY,<--r1,<--r2];rfl
 show wpAny_richCompare_same_room (T:="tuple") (_,g1,rfl) (_,g2,rfl) PySem.F.slot_tuple_eq (call_meetsIn PySem.F.slot_tuple_eq (_,g1,rfl) PySem.F.entry_tuple_eq (PySem.F.args_tuple_eq_2 _ _) (HP hz) (g1,g2,λj j1 j2=>?_,(nofun,q))) ();let hj:j < 2:=by
  have:its.toArray.size=2:=by rw[aaY,<--r1];rfl
  omega
 let hu':A.in1.units+n < cLine:=by change A.units+1+n < cLine;omega
 match j,hj with
 | 0,_=>
  let(u1,q1,w1):=r1.get (i:=0) rfl;let(u2,q2,w2):=r2.get (i:=0) rfl;rw[pY j1 q1,pY j2 q2];show EF I e1 w1 w2 hu'
 | 1,_=>
  let(u1,q1,w1):=r1.get (i:=1) rfl;let(u2,q2,w2):=r2.get (i:=1) rfl;rw[pY j1 q1,pY j2 q2];exactλE Q h=>Fi I e2 w1 w2 hu' X.prog X.w E Q h
end
def Qe(K:fI)(n:Nat):R2:=λx y H Q=>∃a b xs ys,x= .ref a/\y= .ref b/\gY K H a xs/\gY K H b ys/\-xs=-ys/\(∀(j:Nat) u v,xs[j]? =!u->ys[j]? =!v->PrH K H n u v)/\Q (.bl false) H
def Ow(hu:X.A.units+(n+2) < cLine):jW X (compareOp .NotEq) (Qe X.K n):=by
 intro η s σ H x y v u Q I rx ry ⟨a,b,xs,ys,ex,ey,h1,h2,hl,h,q⟩;subst ex ey;cases rx;cases ry;let(its,r1,((c1,Yk,t1,s1),n1,g1,rfl,rfl,rfl),_):=I.list h1;let(jts,r2,((c2,JN,t2,s2),n2,g2,rfl,rfl,rfl),_):=I.list h2;change wpAny _ _ (richCompare .NotEq _ _) _ _ s;let hz:its.toArray.size=jts.toArray.size:=by rw[aaY,aaY,<--r1,<--r2];show hl
 show wpAny_richCompare_same_room (T:="list") (_,g1,rfl) (_,g2,rfl) PySem.F.slot_list_ne (call_meetsIn PySem.F.slot_list_ne (_,g1,rfl) PySem.F.entry_list_ne (PySem.F.args_list_ne_2 _ _) (DO hz) (g1,g2,λj j1 j2=>?_,(nofun,(.bl _,H,I,rfl,q)))) ();let k1:j < -xs:=by rw[-r1];simpa using j1
 let e1:xs[j]? =!xs[j]:=aaa k1;let e2:ys[j]? =!(ys[j]'()):=aaa _;let(u1,q1,w1):=r1.get e1;let(u2,q2,w2):=r2.get e2;rw[pY j1 q1,pY j2 q2];show TV I (h j _ _ e1 e2) w1 w2 (by change X.A.units+1+(n+1) < cLine;omega)
def Bu{K:fI}{G:Hp}{L:List Addr}:∀ks:List Key,Υ K G L (ks.map oO) (ks.map kV)
 | []=>rfl
 | k::ks=>(kV k,ks.map kV,rfl,yq k,Bu ks)
def zX:List Dt->Ms->DQ->Prop
 | [d],M,q=>∃k ks ds,d= .loc k/\M[k]? =!(.cZ ks ds)/\q (.loc (-M)) (M++[.lst (ks.map oO)])
 | _,_,_=>False
set_option tactic.hygienic true in
def RM{K:fI}:CZ K (λxs H Q=>∃a Κ,xs=[V.ref a]/\Rd H a (.dK Κ)/\∀p,H p=none->Q (.ref p) (upd H p (.lst (Κ.map λkv=>kV kv.1)))) zX:=by
 intro G0 L0 H0 G L M H vs ds q e r n h;unfold zX at h;split at h
 .rename_i d;let(v,rfl,n1):=bD n;let(k,ks,ds,ed,hm,h):=h;subst ed;let(a,rfl,hk):=n1;let(_,vs,hH,hl,dn):=r.fv k a _ hk hm;show(a,_,rfl,.inl hH,λp hp=>?_);let e1:(ks.zip vs).map (λkv=>kV kv.1)=ks.map kV:=by
   have:((ks.zip vs).map Prod.fst).map kV=ks.map kV:=by rw[List.map_fst_zip (by rw[hl,-dn];show aas _)]
   rw[<-this,abf];rfl
  rw[e1];show i9 e r hp (Bu ks) h
 .show h.elim
section
variable{a:Expr}
def PV(hm:X.mg "list"=none)(ha:JA X R [e] t)(hg:Gl X "list"|>1)(he:starEach [e] X.env=(false, eval e X.env)::starEach [] X.env|>1)(gL:(backTo pos (starEach [] X.env)).any (·.1)=false|>1)(hc:X.calm=true|>1):JE X R (.Call (.Name "list" p) [e] [] pos) (sA zX t):=
 pq (wz hc) RM hm kM ha hg @_ @_ he gL
end
def PrD(M:Ms)(n:Nat)(u v:Dt):Prop:=∃d1 l1 d2 l2,u= .tup [d1,l1]/\v= .tup [d2,l2]/\Jo M n d1 d2 true/\zM M n l1 l2 true
def Sf(n:Nat):Dt->Dt->Ms->DQ->Prop:=λd e M q=>∃ds es,lK M d=!ds/\lK M e=!es/\-ds=-es/\(∀(j:Nat) u v,ds[j]? =!u->es[j]? =!v->PrD M n u v)/\q (.bl false) M
def aan{K:fI}:mY K (Qe K n) (Sf n):=by intro G0 L0 H0 G L M H v1 v2 d1 d2 q e r n1 n2 ⟨ds,es,h1,h2,hl,h,hq⟩;let(a,xs,rfl,s1,m1):=fE r n1 h1;let(b,ys,rfl,s2,m2):=fE r n2 h2;show(a,b,xs,ys,rfl,rfl,s1,s2,by rw[<--m1,<--m2];show hl,λj u v hu hv=>?_,bB e r hq);let(u',g1,k1):=mL m1 hu;let(v',g2,k2):=mL m2 hv;let(d1,l1,d2,l2,rfl,rfl,q1,q2):=h j u' v' g1 g2;let(a,vs,rfl,t1,w1):=k1;let(b,us,rfl,t2,w2):=k2;let(x1,x2,rfl,y1,y2):=d7 w1;let(x3,x4,rfl,y3,y4):=d7 w2;show(a,b,_,_,_,_,rfl,rfl,.of (r.sub _ _ t1),.of (r.sub _ _ t2),KI r q1 y1 y3,Qg r q2 y2 y4)
section
variable{a:Expr}
def Sw(n:Nat)(hr:bV k' X.A)(ja:JE X R a ta)(jb:JE X R b tb)(hn:n+2<=64|>2)(hm:behindInMarks .NotEq b=false|>1):JT X R (.Compare a [.NotEq] [b] pos) (jT (fN (Sf n) ta tb)):=fD (Ow (LK hr hn)) aan ja jb hm
end
end L2
namespace Fr0
variable{b t:Int}
def g(a b:Int):Int:=(Int.gcd a b:Nat)
def CK(h:b≠0):0 < g a b:=by have:=Int.gcd_pos_of_ne_zero_right a h;unfold g;omega
def LW{a:Int}(h:0<=a):g a 0=a:=by unfold g;rw[Int.gcd_zero_right];omega
def MI{a:Int}(hb:0 < b):g b (a.fmod b)=g a b:=by
 unfold g;rw[acX a (aav hb),Int.gcd_comm a b]
 congr 1
 show Int.gcd_right_eq_iff.mpr λc hc=>?_;rw[Int.emod_def];constructor
 .intro h;have:=Int.dvd_add h (Int.dvd_mul_of_dvd_left (c:=a / b) hc);rwa[Int.sub_add_cancel]at this
 .intro h;show Int.dvd_sub h (Int.dvd_mul_of_dvd_left (c:=a / b) hc)
def Q_(a b:Int):g (if a < 0 then - a else a) (if b < 0 then - b else b)=g a b:=by unfold g;split <;> split <;> simp
def dv(t b:Int):Int:=if b < 0 then - (g t b) else g t b
def aC(t b:Int):Int×Int:=(t.fdiv (dv t b), b.fdiv (dv t b))
def FF(h:b≠0):dv t b≠0:=by have:=CK (a:=t) h;unfold dv;split <;> omega
def BL{k p:Int}(h:k≠0):(k * p).fdiv k=p:=by rw[abZ];show Int.mul_fdiv_cancel p h
def MT(h:b≠0):∃p q:Int,t=dv t b * p/\b=dv t b * q/\0 < q/\Int.gcd p q=1:=by
 let hg:=CK (a:=t) h;let h0:0 < Int.gcd t b:=Int.gcd_pos_of_ne_zero_right t h;let(p,hp):=Int.gcd_dvd_left t b;let(q,hq):=Int.gcd_dvd_right t b;let hc:Int.gcd p q=1:=by
  let e:=Int.gcd_ediv_gcd_ediv_gcd h0;let n0:(Int.gcd t b:Int)≠0:=()
  let e1:t / (Int.gcd t b:Int)=p:=by
   conv=>lhs;arg 1;rw[hp]
   show acA p n0
  let e2:b / (Int.gcd t b:Int)=q:=by
   conv=>lhs;arg 1;rw[hq]
   show acA q n0
  rwa[e1,e2]at e
 let Bl:t=g t b * p:=hp;let AF:b=g t b * q:=hq;by_cases hb:b < 0
 .let hd:dv t b= - (g t b):=by unfold dv;rw[if_pos hb]
  show(- p,- q,?_,?_,?_,?_)
  .rw[hd,Int.neg_mul_neg];show Bl
  .rw[hd,Int.neg_mul_neg];show AF
  .have:g t b * q < 0:=by rw[<-AF];show hb
   by_cases q0:0<=q
   .show abc (ab9 (aav hg) q0) ()
   .omega
  .simpa using hc
 .let hd:dv t b=g t b:=by unfold dv;rw[if_neg hb]
  show(p,q,by rw[hd];show Bl,by rw[hd];show AF,?_,hc);have:0 < g t b * q:=by rw[<-AF];omega
  show Int.pos_of_mul_pos_right this hg
def h7  (h : b ≠ 0) : ∃p q : Int,aC t b = (p, q) /\ 0 < q /\ Int.gcd p q = 1 /\ t = dv t b * p /\ b = dv t b * q :=by
  obtain⟨p,q,hp,hq,h0,hc⟩ :=MT (t :=t) h;let n0 :=FF (t :=t) h;show(p,q,?_,h0,hc,hp,hq);unfold aC
  have e1 : t.fdiv (dv t b) = p := by conv => lhs; arg 1; rw [hp]
                                      show BL n0
  have e2 : b.fdiv (dv t b) = q := by conv => lhs; arg 1; rw [hq]
                                      show BL n0
  rw[e1,e2]
def c7(h:b≠0):t * (aC t b).2=b * (aC t b).1:=by
 let(p,q,e,_,_,hp,hq):=h7 (t:=t) h;rw[e];change t * q=b * p
 calc t * q=dv t b * p * q:=by rw[<-hp]
  _=dv t b * q * p:=by rw[adA,abZ p q,<-adA]
  _=b * p:=by rw[<-hq]
def de(h:b≠0):0 < (aC t b).2:=by let(p,q,e,h0,_):=h7 (t:=t) h;rw[e];show h0
def Cd(h:b≠0):Int.gcd (aC t b).1 (aC t b).2=1:=by let(p,q,e,_,hc,_):=h7 (t:=t) h;rw[e];show hc
def rR{k m n:Int}(h:k∣m * n)(hc:Int.gcd k m=1):k∣n:=by have:=(Int.dvd_gcd_mul_iff_dvd_mul (k:=k) (n:=m) (m:=n)).mpr h;rw[hc]at this;simpa using this
def Df{q q':Int}(hq:0 < q)(AF:0 < q')(h:Int.gcd p q=1)(h':Int.gcd p' q'=1)(e:p * q'=p' * q):p=p'/\q=q':=by
 let d1:q∣q':=by have:q∣p * q':=(p',by rw[e,abZ]);show rR this (by rw[Int.gcd_comm];show h)
 let d2:q'∣q:=by have:q'∣p' * q:=(p,by rw[<-e,abZ]);show rR this (by rw[Int.gcd_comm];show h')
 let eq:q=q':=Int.le_antisymm (ada AF d1) (ada hq d2);subst eq;show(Int.eq_of_mul_eq_mul_right () e,rfl)
def ze{q:Int}(h:b≠0)(hq:0 < q)(hc:Int.gcd p q=1)(e:t * q=b * p):aC t b=(p, q):=by
 let h1:=c7 (t:=t) h;let h2:=de (t:=t) h;let h3:=Cd (t:=t) h;let h4:(aC t b).1 * q=p * (aC t b).2:=by
  have:b * ((aC t b).1 * q)=b * (p * (aC t b).2):=by rw[<-adA,<-h1,Int.mul_right_comm,e,adA]
  show abK h this
 have:=Df h2 hq h3 hc h4;show Prod.ext this.1 this.2
def xN{q:Int}(hq:0 < q)(hc:Int.gcd p q=1):aC p q=(p, q):=ze () hq hc (abZ _ _)
def yI(h:b≠0):(dv t b).natAbs<=b.natAbs:=by
 let e:(dv t b).natAbs=Int.gcd t b:=by unfold dv g;split <;> omega
 rw[e];show Int.gcd_le_natAbs_right t h
def sW  (h : b ≠ 0) : (aC t b).1.natAbs <= t.natAbs :=by
  obtain⟨p,q,e,_,_,hp,_⟩ :=h7 (t :=t) h;let n0 :=FF (t :=t) h;rw[e];change p.natAbs <= t.natAbs
  have : t.natAbs = (dv t b).natAbs * p.natAbs := by conv => lhs; rw [hp]
                                                     show acb _ _
  rw[this];show Nat.le_mul_of_pos_left _ ()
def mf  (h : b ≠ 0) : (aC t b).2.natAbs <= b.natAbs :=by
  obtain⟨p,q,e,_,_,_,hq⟩ :=h7 (t :=t) h;let n0 :=FF (t :=t) h;rw[e];change q.natAbs <= b.natAbs
  have : b.natAbs = (dv t b).natAbs * q.natAbs := by conv => lhs; rw [hq]
                                                     show acb _ _
  rw[this];show Nat.le_mul_of_pos_left _ ()
def O1(h:0 < b):aC t b=(t.fdiv (g t b), b.fdiv (g t b)):=by unfold aC dv;rw[aa2 ()]
end Fr0
namespace Tx
open PySem PySem.NumText
end Tx
namespace Bz
variable{f:Nat->Int}{n i a m:Nat}{ο ρ:List Nat}{d B:Int}
abbrev Row:=Nat->Int
variable{γ:List Row}{A W:Nat->Row}{w:Row}
abbrev Fn:=List Nat->Int
def Lx(x:Row):Fn->Fn
 | _,[]=>0
 | F,c::cs=>x c * F cs - Lx x (λt=>F (c::t)) cs
def ET(x:Row):∀(cs:List Nat) (F G:Fn),Lx x (λt=>F t+G t) cs=Lx x F cs+Lx x G cs
 | [],F,G=>by simp[Lx]
 | c::cs,F,G=>by have:=ET x cs (λt=>F (c::t)) (λt=>G (c::t));simp only[Lx];rw[this];grind
def oo(x:Row)(k:Int):∀(cs:List Nat) (F:Fn),Lx x (λt=>k * F t) cs=k * Lx x F cs
 | [],F=>by simp[Lx]
 | c::cs,F=>by have:=oo x k cs (λt=>F (c::t));simp only[Lx];rw[this];grind
def MV(x:Row)(cs:List Nat)(F G:Fn):Lx x (λt=>F t - G t) cs=Lx x F cs - Lx x G cs:=by
 let h1:=ET x cs F (λt=>(- 1) * G t);let h2:=oo x (- 1) cs G;let e:(λt=>F t - G t)=λt=>F t+(- 1) * G t:=by funext t;grind
 rw[e,h1,h2];grind
def GK(x:Row):∀(cs:List Nat),Lx x (λ_=>0) cs=0
 | []=>rfl
 | c::cs=>by simp only[Lx];rw[GK x cs];simp
def Af(x y:Row):∀(cs:List Nat) (F:Fn),Lx x (Lx y F) cs= - Lx y (Lx x F) cs
 | [],F=>rfl
 | c::cs,F=>by let ih:=Af x y cs (λt=>F (c::t));let e1:(λt=>Lx y F (c::t))=λt=>y c * F t - Lx y (λu=>F (c::u)) t:=rfl;let e2:(λt=>Lx x F (c::t))=λt=>x c * F t - Lx x (λu=>F (c::u)) t:=rfl;change x c * Lx y F cs - Lx x (λt=>Lx y F (c::t)) cs= - (y c * Lx x F cs - Lx y (λt=>Lx x F (c::t)) cs);rw[e1,e2,MV,MV,oo,oo,ih];grind
def O8(x:Row)(cs:List Nat)(F:Fn):Lx x (Lx x F) cs=0:=by have:=Af x x cs F;omega
def y9(x:Row)(d:Nat):∀(cs:List Nat) (F:Fn),Lx x F (cs++[d])=Lx x (λt=>F (t++[d])) cs+(- 1) ^ (-cs) * (x d * F cs)
 | [],F=>by simp[Lx]
 | c::cs,F=>by have:=y9 x d cs (λt=>F (c::t));change x c * F (cs++[d]) - Lx x (λt=>F (c::t)) (cs++[d])=_;rw[this];change _=(x c * F (cs++[d]) - Lx x (λt=>F (c::(t++[d]))) cs)+(- 1) ^ (-cs+1) * (x d * F (c::cs));let e:(λt=>F (c::(t++[d])))=λt=>(λu=>F (c::u)) (t++[d]):=rfl;rw[e,acZ];grind
def BJ(x:Row){F G:Fn}{n:Nat}:∀(cs:List Nat),(∀t,-t+1=-cs->F t=G t)->Lx x F cs=Lx x G cs:=by
 intro cs
 induction cs generalizing F G with
 | nil=>intro _;rfl
 | cons c cs ih=>
  intro h;simp only[Lx];rw[h cs (by simp),ih (F:=λt=>F (c::t)) (G:=λt=>G (c::t)) λt ht=>h (c::t) (by simp;omega)]
def Η(f:Nat->Int):Nat->Int
 | 0=>0
 | n+1=>Η f n+f n
def iN(f g:Nat->Int):∀n,Η (λi=>f i+g i) n=Η f n+Η g n
 | 0=>rfl
 | n+1=>by simp only[Η];rw[iN f g n];omega
def Ψ(k:Int)(f:Nat->Int):∀n,Η (λi=>k * f i) n=k * Η f n
 | 0=>by simp[Η]
 | n+1=>by simp only[Η];rw[Ψ k f n,Int.mul_add]
def Α{f g:Nat->Int}:∀{n:Nat},(∀i,i < n->f i=g i)->Η f n=Η g n
 | 0,_=>rfl
 | n+1,h=>by simp only[Η];rw[Α λi hi=>h i (),h n ()]
def jH(h:∀i,i < n->f i=0):Η f n=0:=by
 rw[Α h];clear h
 induction n with
 | zero=>rfl
 | succ n ih=>simp only[Η];rw[ih];rfl
def jF{j:Nat}(hj:j < n)(h:∀i,i < n->i≠j->f i=0):Η f n=f j:=by
 induction n with
 | zero=>omega
 | succ n ih=>
  simp only[Η];by_cases e:j=n
  .subst e;rw[jH λi hi=>h i () ()];omega
  .rw[ih () λi hi lu=>h i () lu,h n () ()];omega
def nD(f:Nat->Int):∀n,Η f (n+1)=f 0+Η (λi=>f (i+1)) n
 | 0=>by simp[Η]
 | n+1=>by have:=nD f n;rw[show Η f (n+1+1)=Η f (n+1)+f (n+1) from rfl,this];simp only[Η];omega
def ef(f:Nat->Nat->Int)(m:Nat):∀n,Η (λi=>Η (f i) m) n=Η (λj=>Η (λi=>f i j) n) m
 | 0=>by rw[show Η (λi=>Η (f i) m) 0=0 from rfl];show(jH λ_ _=>rfl).symm
 | n+1=>by rw[show Η (λi=>Η (f i) m) (n+1)=Η (λi=>Η (f i) m) n+Η (f n) m from rfl,ef f m n,<-iN];rfl
def yT(x:Row):∀(cs:List Nat) (F:Fn),Lx x F cs=Η (λp=>(- 1) ^ p * (x (cs.getD p 0) * F (cs.eraseIdx p))) (-cs)
 | [],F=>rfl
 | c::cs,F=>by
  let ih:=yT x cs (λt=>F (c::t));change x c * F cs - Lx x (λt=>F (c::t)) cs=_;rw[aaQ,nD,ih];let e:Η (λp=>(- 1) ^ (p+1) * (x ((c::cs).getD (p+1) 0) * F ((c::cs).eraseIdx (p+1)))) (-cs)= - 1 * Η (λp=>(- 1) ^ p * (x (cs.getD p 0) * F (c::cs.eraseIdx p))) (-cs):=by rw[<-Ψ];show Α λp _=>?_;simp only[List.getD_cons_succ,List.eraseIdx_cons_succ];rw[Int.pow_succ];grind
  rw[e];simp only[List.getD_cons_zero,List.eraseIdx_cons_zero,Int.pow_zero];omega
def F0:Fn:=λcs=>if cs=[] then 1 else 0
def D:List Row->Fn
 | []=>F0
 | x::xs=>Lx x (D xs)
def oQ(y:Row):∀(xs ys:List Row) (cs:List Nat),D (xs++y::ys) cs=(- 1) ^ (-xs) * D (y::(xs++ys)) cs
 | [],ys,cs=>by simp
 | x::xs,ys,cs=>by
  change Lx x (D (xs++y::ys)) cs=_;let e:D (xs++y::ys)=λt=>(- 1) ^ (-xs) * D (y::(xs++ys)) t:=by funext t;show oQ y xs ys t
  rw[e,oo];change(- 1) ^ (-xs) * Lx x (Lx y (D (xs++ys))) cs=(- 1) ^ (-xs+1) * Lx y (Lx x (D (xs++ys))) cs;rw[Af x y,Int.pow_succ];grind
def Wq(y:Row)(xs ys zs:List Row)(cs:List Nat):D (xs++y::(ys++y::zs)) cs=0:=by
 rw[oQ];let e:D (y::(xs++(ys++y::zs))) cs=Lx y (λt=>D (xs++(ys++y::zs)) t) cs:=rfl;let e2:(λt=>D (xs++(ys++y::zs)) t)=λt=>(- 1) ^ (-(xs++ys)) * Lx y (D (xs++ys++zs)) t:=by
  funext t
  rw[<-ab6,oQ];rfl
 rw[e,e2,oo,O8];simp
def fR(γ:List Row)(ο:List Nat)(p k:Nat):Int:=(- 1) ^ (p+k) * D (γ.eraseIdx k) (ο.eraseIdx p)
def zr:Row:=λ_=>0
def S'(n:Nat):((- 1:Int) ^ n) * (- 1) ^ n=1:=by
 induction n with
 | zero=>rfl
 | succ n ih=>rw[Int.pow_succ];grind
def ME{α:Type}:∀{l:List α} {k:Nat} (h:k < -l),l=l.take k++l[k]::l.drop (k+1):=by intro l k h;rw[List.getElem_cons_drop,List.take_append_drop]
def Jz{α:Type}{l:List α}{k:Nat}(hi:i < -l)(lu:i≠k):l[i]∈l.eraseIdx k:=by rw[List.mem_eraseIdx_iff_getElem];show(i,hi,lu,rfl)
def PA{k:Nat}(hl:-ο=-γ)(hi:i < -γ)(hk:k < -γ):Η (λp=>γ.getD i zr (ο.getD p 0) * fR γ ο p k) (-γ)=if i=k then D γ ο else 0:=by
 let gi:γ.getD i zr=γ[i]:=by rw[aab,aaa hi];rfl
 let e:Η (λp=>γ.getD i zr (ο.getD p 0) * fR γ ο p k) (-γ)=(- 1) ^ k * D (γ.getD i zr::γ.eraseIdx k) ο:=by change _=(- 1) ^ k * Lx (γ.getD i zr) (D (γ.eraseIdx k)) ο;rw[yT,<-Ψ,hl];show Α λp _=>?_;unfold fR;rw[Int.pow_add];grind
 rw[e,gi];by_cases h:i=k
 .subst h;rw[aa1 rfl];let s:=ME hi;let f:=oQ γ[i] (γ.take i) (γ.drop (i+1)) ο;rw[<-s,adn,adz ()]at f;rw[f,List.eraseIdx_eq_take_drop_succ]
 .rw[aa2 h];let(ys,zs,e2):=List.append_of_mem (Jz hi h);rw[e2];have:=Wq γ[i] [] ys zs ο;rw[show D (γ[i]::(ys++γ[i]::zs)) ο=0 from this];simp
def Av(x:Row)(g:Nat->Int)(F:Nat->Fn)(cs:List Nat):∀n,Lx x (λt=>Η (λk=>g k * F k t) n) cs=Η (λk=>g k * Lx x (F k) cs) n
 | 0=>GK x cs
 | n+1=>by have:=ET x cs (λt=>Η (λk=>g k * F k t) n) (λt=>g n * F n t);change Lx x (λt=>Η (λk=>g k * F k t) n+g n * F n t) cs=_;rw[this,Av x g F cs n,oo];rfl
def Qt(c:Nat):∀(γ:List Row) (t:List Nat),D γ (t++[c])=Η (λk=>(- 1) ^ (-t+k) * (γ.getD k zr c * D (γ.eraseIdx k) t)) (-γ)
 | [],t=>by change F0 (t++[c])=0;unfold F0;simp
 | x::xs,t=>by
  change Lx x (D xs) (t++[c])=_;rw[y9,aaQ,nD];let e:Lx x (λu=>D xs (u++[c])) t=Η (λk=>(- 1) ^ (-t+(k+1)) * ((x::xs).getD (k+1) zr c * D ((x::xs).eraseIdx (k+1)) t)) (-xs):=by
   let e1:Lx x (λu=>D xs (u++[c])) t=Lx x (λu=>Η (λk=>((- 1) ^ (-t+(k+1)) * xs.getD k zr c) * D (xs.eraseIdx k) u) (-xs)) t:=by show BJ x (n:=0) t λu hu=>?_;rw[Qt c xs u];show Α λk _=>?_;rw[<-hu,show -u+1+(k+1)=-u+k+1+1 by omega,Int.pow_succ,Int.pow_succ];grind
   rw[e1,Av x (λk=>(- 1) ^ (-t+(k+1)) * xs.getD k zr c) (λk=>D (xs.eraseIdx k))];show Α λk _=>?_;simp only[List.getD_cons_succ,List.eraseIdx_cons_succ];change _=(- 1) ^ (-t+(k+1)) * (xs.getD k zr c * Lx x (D (xs.eraseIdx k)) t);grind
  rw[e];simp only[List.getD_cons_zero,List.eraseIdx_cons_zero,Nat.add_zero];omega
def MA{y:Row}{c:Nat}(hl:-ο=-γ):D (γ++[y]) (ο++[c])=y c * D γ ο - Η (λp=>y (ο.getD p 0) * Η (λk=>fR γ ο p k * γ.getD k zr c) (-γ)) (-γ):=by
 rw[oQ,abU];change(- 1) ^ (-γ) * Lx y (D γ) (ο++[c])=_;rw[y9];let e1:Lx y (λt=>D γ (t++[c])) ο= - ((- 1) ^ (-γ) * Η (λp=>y (ο.getD p 0) * Η (λk=>fR γ ο p k * γ.getD k zr c) (-γ)) (-γ)):=by
  let e2:Lx y (λt=>D γ (t++[c])) ο=Lx y (λt=>Η (λk=>(- ((- 1) ^ (-γ+k) * γ.getD k zr c)) * D (γ.eraseIdx k) t) (-γ)) ο:=by show BJ y (n:=0) ο λt ht=>?_;rw[Qt c γ t];show Α λk _=>?_;rw[<-hl,<-ht,show -t+1+k=-t+k+1 by omega,Int.pow_succ];grind
  rw[e2,Av y (λk=> - ((- 1) ^ (-γ+k) * γ.getD k zr c)) (λk=>D (γ.eraseIdx k))];let e3:Η (λk=> - ((- 1) ^ (-γ+k) * γ.getD k zr c) * Lx y (D (γ.eraseIdx k)) ο) (-γ)=Η (λk=>Η (λp=> - ((- 1) ^ (-γ)) * (y (ο.getD p 0) * (fR γ ο p k * γ.getD k zr c))) (-γ)) (-γ):=by show Α λk _=>?_;rw[yT,<-Ψ,hl];show Α λp _=>?_;unfold fR;rw[Int.pow_add,Int.pow_add];grind
  rw[e3,ef];let e4:Η (λp=>Η (λk=> - ((- 1) ^ (-γ)) * (y (ο.getD p 0) * (fR γ ο p k * γ.getD k zr c))) (-γ)) (-γ)=Η (λp=> - ((- 1) ^ (-γ)) * (y (ο.getD p 0) * Η (λk=>fR γ ο p k * γ.getD k zr c) (-γ))) (-γ):=by show Α λp _=>?_;rw[Ψ,Ψ]
  rw[e4,Ψ];grind
 rw[e1,hl];let s:=S' (-γ);generalize ((- 1:Int) ^ (-γ))=z at *
 generalize Η _ (-γ)=q;grind
def ML{v:Nat->Int}{e:Int}{k:Nat}(hl:-ο=-γ)(hi:i < -γ)(hk:k < -γ)
  (h:∀p,p < -γ->Η (λj=>v j * γ.getD j zr (ο.getD p 0)) (-γ)=if i=p then e else 0):v k * D γ ο=e * fR γ ο i k:=by
 let a:Η (λp=>Η (λj=>v j * γ.getD j zr (ο.getD p 0)) (-γ) * fR γ ο p k) (-γ)=e * fR γ ο i k:=by rw[jF hi λp hp lu=>by rw[h p hp,if_neg (Ne.symm lu)];simp];rw[h i hi,aa1 rfl]
 let b:Η (λp=>Η (λj=>v j * γ.getD j zr (ο.getD p 0)) (-γ) * fR γ ο p k) (-γ)=Η (λj=>v j * Η (λp=>γ.getD j zr (ο.getD p 0) * fR γ ο p k) (-γ)) (-γ):=by
  let e1:Η (λp=>Η (λj=>v j * γ.getD j zr (ο.getD p 0)) (-γ) * fR γ ο p k) (-γ)=Η (λp=>Η (λj=>v j * (γ.getD j zr (ο.getD p 0) * fR γ ο p k)) (-γ)) (-γ):=by show Α λp _=>?_;rw[abZ,<-Ψ];show Α λj _=>?_;grind
  rw[e1,ef];show Α λj _=>?_;rw[<-Ψ]
 rw[<-a,b,jF hk λj hj lu=>by rw[PA hl hj hk,if_neg lu];simp];rw[PA hl hk hk,aa1 rfl]
def ind(a k:Nat):Int:=if a=k then 1 else 0
def rv(A:Nat->Row)(n:Nat)(w:Row)(x:Nat):Int:=Η (λk=>w k * A k x) n
def oV(h:a < n):Η (λk=>ind a k * f k) n=f a:=by rw[jF h λi _ lu=>by unfold ind;rw[if_neg (Ne.symm lu)];simp];unfold ind;rw[if_pos rfl];simp
def zb{u v:Row}{a b:Int}(h:∀k,w k=a * u k - b * v k)(x:Nat):rv A n w x=a * rv A n u x - b * rv A n v x:=by
 unfold rv;let e:Η (λk=>w k * A k x) n=Η (λk=>a * (u k * A k x)+(- b) * (v k * A k x)) n:=Α λk _=>by rw[h k];grind
 rw[e,iN,Ψ,Ψ];grind
def Lo{g:Nat->Int}{u:Nat->Row}(h:∀k,w k=Η (λj=>g j * u j k) r)(x:Nat):rv A n w x=Η (λj=>g j * rv A n (u j) x) r:=by
 unfold rv;let e:Η (λk=>w k * A k x) n=Η (λk=>Η (λj=>g j * (u j k * A k x)) r) n:=Α λk _=>by rw[h k,abZ,<-Ψ];show Α λj _=>by grind
 rw[e,ef];show Α λj _=>Ψ _ _ _
def D9(h:a < n)(x:Nat):rv A n (ind a) x=A a x:=by unfold rv;show oV (f:=λk=>A k x) h
structure St(A:Nat->Row)(n:Nat)(ρ ο:List Nat)(q:Nat->Nat)(d:Int)(W:Nat->Row):Prop where
 lc:-ο=-ρ
 rn:-ρ<=n
 NG:∀i,i < n->q i < n
 Cn:∀j,j < -ρ->ρ.getD j 0 < n
 det:D (ρ.map A) ο=d
 wp:∀i,i < -ρ->∀k,W i k=Η (λj=>fR (ρ.map A) ο i j * ind (ρ.getD j 0) k) (-ρ)
 wn:∀i,-ρ<=i->i < n->∀k,W i k=d * ind (q i) k - Η (λp=>A (q i) (ο.getD p 0) * W p k) (-ρ)
 one:∀i p,i < -ρ->p < -ρ->rv A n (W i) (ο.getD p 0)=if i=p then d else 0
section
variable{q:Nat->Nat}
def vU{j:Nat}(h:j < -ρ):(ρ.map A).getD j zr=A (ρ.getD j 0):=by rw[aab,aaw,aaa h,aab,aaa h];rfl
def St.Up(s:St A n ρ ο q d W)(hi:i < -ρ)(x:Nat):rv A n (W i) x=Η (λj=>fR (ρ.map A) ο i j * A (ρ.getD j 0) x) (-ρ):=by rw[Lo (u:=λj=>ind (ρ.getD j 0)) (s.wp i hi)];show Α λj hj=>by rw[D9 (s.Cn j hj)]
def St.SM(s:St A n ρ ο q d W)(h1:-ρ<=i)(hi:i < n)(x:Nat):rv A n (W i) x=d * A (q i) x - Η (λp=>A (q i) (ο.getD p 0) * rv A n (W p) x) (-ρ):=by
 let h:∀k,W i k=d * ind (q i) k - 1 * Η (λp=>A (q i) (ο.getD p 0) * W p k) (-ρ):=λk=>by rw[s.wn i h1 hi k];omega
 rw[zb h x,D9 (s.NG i hi),Lo (w:=λk=>Η (λp=>A (q i) (ο.getD p 0) * W p k) (-ρ)) (u:=W) (λk=>rfl)];omega
def St.zero(s:St A n ρ ο q d W){p:Nat}(h1:-ρ<=i)(hi:i < n)(hp:p < -ρ):rv A n (W i) (ο.getD p 0)=0:=by
 rw[s.SM h1 hi];let e:Η (λp'=>A (q i) (ο.getD p' 0) * rv A n (W p') (ο.getD p 0)) (-ρ)=A (q i) (ο.getD p 0) * d:=by rw[jF hp λp' Bl lu=>by rw[s.one p' p Bl hp,if_neg lu];simp];rw[s.one p p hp hp,aa1 rfl]
 rw[e];grind
def St.head(s:St A n ρ ο q d W)(hr:-ρ < n)(c:Nat):D ((ρ++[q (-ρ)]).map A) (ο++[c])=rv A n (W (-ρ)) c:=by
 rw[abw,s.SM (aas _) hr];change D (ρ.map A++[A (q (-ρ))]) (ο++[c])=_;rw[MA (by rw[aac];show s.lc),s.det,aac,abZ]
 congr 1
 show Α λp hp=>?_;rw[s.Up hp]
 congr 1
 show Α λk hk=>by rw[vU hk]
def o_{j:Nat}{l:List Nat}(h:j < -l):(l++[a]).getD j 0=l.getD j 0:=by rw[aab,aaJ h,<-aab]
def pK{l:List Nat}:(l++[a]).getD (-l) 0=a:=by simp
def mix(f:Nat->Int)(s:St A n ρ ο q d W)(a L:Int)(g:Nat->Int):
  Η (λj=>(if j < -ρ then a * g j+L * Η (λp=>A (q (-ρ)) (ο.getD p 0) * fR (ρ.map A) ο p j) (-ρ) else - (L * d)) * f ((ρ++[q (-ρ)]).getD j 0)) (-ρ+1)
  =a * Η (λj=>g j * f (ρ.getD j 0)) (-ρ) - L * (d * f (q (-ρ)) - Η (λp=>A (q (-ρ)) (ο.getD p 0) * Η (λj=>fR (ρ.map A) ο p j * f (ρ.getD j 0)) (-ρ)) (-ρ)):=by
 rw[show∀F:Nat->Int,Η F (-ρ+1)=Η F (-ρ)+F (-ρ) fromλ_=>rfl,pK,aa2 (aci _)]
 let e:Η (λj=>(if j < -ρ then a * g j+L * Η (λp=>A (q (-ρ)) (ο.getD p 0) * fR (ρ.map A) ο p j) (-ρ) else - (L * d)) * f ((ρ++[q (-ρ)]).getD j 0)) (-ρ)
   =Η (λj=>a * (g j * f (ρ.getD j 0))+L * Η (λp=>A (q (-ρ)) (ο.getD p 0) * (fR (ρ.map A) ο p j * f (ρ.getD j 0))) (-ρ)) (-ρ):=by
  show Α λj hj=>?_;rw[aa1 hj,o_ hj];let e2:Η (λp=>A (q (-ρ)) (ο.getD p 0) * (fR (ρ.map A) ο p j * f (ρ.getD j 0))) (-ρ)=f (ρ.getD j 0) * Η (λp=>A (q (-ρ)) (ο.getD p 0) * fR (ρ.map A) ο p j) (-ρ):=by rw[<-Ψ];show Α λp _=>by grind
  rw[e2];grind
 rw[e,iN,Ψ,Ψ,ef (λj p=>A (q (-ρ)) (ο.getD p 0) * (fR (ρ.map A) ο p j * f (ρ.getD j 0)))]
 let e3:Η (λp=>Η (λj=>A (q (-ρ)) (ο.getD p 0) * (fR (ρ.map A) ο p j * f (ρ.getD j 0))) (-ρ)) (-ρ)=Η (λp=>A (q (-ρ)) (ο.getD p 0) * Η (λj=>fR (ρ.map A) ο p j * f (ρ.getD j 0)) (-ρ)) (-ρ):=
  Α λp _=>Ψ _ _ _
 rw[e3];grind
def St.step(s:St A n ρ ο q d W)(hr:-ρ < n)(c:Nat)(d0:d≠0)(h0:rv A n (W (-ρ)) c≠0):
  ∃W':Nat->Row,St A n (ρ++[q (-ρ)]) (ο++[c]) q (rv A n (W (-ρ)) c) W'/\(∀k,W' (-ρ) k=W (-ρ) k)/\
   ∀i,i < n->i≠-ρ->∀k,d * W' i k=rv A n (W (-ρ)) c * W i k - rv A n (W i) c * W (-ρ) k:=by
 let hd:=s.head hr c;generalize hE:rv A n (W (-ρ)) c=E at *
 let lr:-((ρ++[q (-ρ)]).map A)=-ρ+1:=by simp
 let lc':-(ο++[c])=-((ρ++[q (-ρ)]).map A):=by rw[lr];simp[s.lc]
 let cg:∀p,p < -ρ->(ο++[c]).getD p 0=ο.getD p 0:=λp hp=>o_ (by rw[s.lc];show hp);let cl:(ο++[c]).getD (-ρ) 0=c:=by rw[<-s.lc];show pK
 let rg:∀j,j < -ρ+1->((ρ++[q (-ρ)]).map A).getD j zr=A ((ρ++[q (-ρ)]).getD j 0):=λj hj=>vU (by simp;omega);let head:∀j,j < -ρ+1->(if j < -ρ then (0:Int) * 0+(- 1) * Η (λp=>A (q (-ρ)) (ο.getD p 0) * fR (ρ.map A) ο p j) (-ρ) else - ((- 1) * d))=fR ((ρ++[q (-ρ)]).map A) (ο++[c]) (-ρ) j:=λj hj=>by
  have:=ML (γ:=(ρ++[q (-ρ)]).map A) (ο:=ο++[c]) (v:=λj=>if j < -ρ then (0:Int) * 0+(- 1) * Η (λp=>A (q (-ρ)) (ο.getD p 0) * fR (ρ.map A) ο p j) (-ρ) else - ((- 1) * d)) (e:=E) (i:=-ρ) (k:=j) lc' (by rw[lr];omega) (by rw[lr];show hj) (λp hp=>by
   rw[lr]at hp⊢;let e1:=mix (λa=>A a ((ο++[c]).getD p 0)) s 0 (- 1) (λ_=>0);let e2:Η (λj=>(if j < -ρ then (0:Int) * 0+(- 1) * Η (λp=>A (q (-ρ)) (ο.getD p 0) * fR (ρ.map A) ο p j) (-ρ) else - ((- 1) * d)) * ((ρ++[q (-ρ)]).map A).getD j zr ((ο++[c]).getD p 0)) (-ρ+1)=_:=(Α λj hj=>by rw[rg j hj]).trans e1;rw[e2];let e3:d * A (q (-ρ)) ((ο++[c]).getD p 0) - Η (λp'=>A (q (-ρ)) (ο.getD p' 0) * Η (λj=>fR (ρ.map A) ο p' j * A (ρ.getD j 0) ((ο++[c]).getD p 0)) (-ρ)) (-ρ)=rv A n (W (-ρ)) ((ο++[c]).getD p 0):=by
    rw[s.SM (aas _) hr]
    congr 1
    show Α λp' Bl=>by rw[s.Up Bl]
   rw[e3];by_cases Jt:p < -ρ
   .rw[cg p Jt,s.zero (Nat.le_refl _) hr Jt,if_neg ()];simp
   .have:p=-ρ:=()
    subst this
    rw[cl,hE,aa1 rfl];omega)
  rw[hd]at this;show abK h0 ?_;rw[<-this];grind
 let hk:∀k,W (-ρ) k=Η (λj=>fR ((ρ++[q (-ρ)]).map A) (ο++[c]) (-ρ) j * ind ((ρ++[q (-ρ)]).getD j 0) k) (-ρ+1):=λk=>by
  let e1:=mix (λa=>ind a k) s 0 (- 1) (λ_=>0);let e2:Η (λj=>fR ((ρ++[q (-ρ)]).map A) (ο++[c]) (-ρ) j * ind ((ρ++[q (-ρ)]).getD j 0) k) (-ρ+1)=_:=(Α λj hj=>by rw[<-head j hj]).trans e1;rw[e2,s.wn _ (aas _) hr k];let e3:Η (λp=>A (q (-ρ)) (ο.getD p 0) * W p k) (-ρ)=Η (λp=>A (q (-ρ)) (ο.getD p 0) * Η (λj=>fR (ρ.map A) ο p j * ind (ρ.getD j 0) k) (-ρ)) (-ρ):=Α λp hp=>by rw[s.wp p hp k]
  rw[e3];omega
 let above:∀i,i < -ρ->∀j,j < -ρ+1->(if j < -ρ then E * fR (ρ.map A) ο i j+rv A n (W i) c * Η (λp=>A (q (-ρ)) (ο.getD p 0) * fR (ρ.map A) ο p j) (-ρ) else - (rv A n (W i) c * d))=d * fR ((ρ++[q (-ρ)]).map A) (ο++[c]) i j:=λi hi j hj=>by
  have:=ML (γ:=(ρ++[q (-ρ)]).map A) (ο:=ο++[c]) (v:=λj=>if j < -ρ then E * fR (ρ.map A) ο i j+rv A n (W i) c * Η (λp=>A (q (-ρ)) (ο.getD p 0) * fR (ρ.map A) ο p j) (-ρ) else - (rv A n (W i) c * d)) (e:=d * E) (i:=i) (k:=j) lc' (by rw[lr];omega) (by rw[lr];show hj) (λp hp=>by
   rw[lr]at hp⊢;let e1:=mix (λa=>A a ((ο++[c]).getD p 0)) s E (rv A n (W i) c) (λj=>fR (ρ.map A) ο i j);let e2:Η (λj=>(if j < -ρ then E * fR (ρ.map A) ο i j+rv A n (W i) c * Η (λp=>A (q (-ρ)) (ο.getD p 0) * fR (ρ.map A) ο p j) (-ρ) else - (rv A n (W i) c * d)) * ((ρ++[q (-ρ)]).map A).getD j zr ((ο++[c]).getD p 0)) (-ρ+1)=_:=(Α λj hj=>by rw[rg j hj]).trans e1;rw[e2];let e3:d * A (q (-ρ)) ((ο++[c]).getD p 0) - Η (λp'=>A (q (-ρ)) (ο.getD p' 0) * Η (λj=>fR (ρ.map A) ο p' j * A (ρ.getD j 0) ((ο++[c]).getD p 0)) (-ρ)) (-ρ)=rv A n (W (-ρ)) ((ο++[c]).getD p 0):=by
    rw[s.SM (aas _) hr]
    congr 1
    show Α λp' Bl=>by rw[s.Up Bl]
   rw[e3,<-s.Up hi];by_cases Jt:p < -ρ
   .rw[cg p Jt,s.zero (aas _) hr Jt,s.one i p hi Jt];split <;> grind
   .have:p=-ρ:=()
    subst this
    rw[cl,hE,if_neg ()];grind)
  rw[hd]at this;show abK h0 ?_;rw[Int.mul_comm,this];grind
 let abk:∀i,i < -ρ->∀k,d * Η (λj=>fR ((ρ++[q (-ρ)]).map A) (ο++[c]) i j * ind ((ρ++[q (-ρ)]).getD j 0) k) (-ρ+1)=E * W i k - rv A n (W i) c * W (-ρ) k:=λi hi k=>by
  let e1:=mix (λa=>ind a k) s E (rv A n (W i) c) (λj=>fR (ρ.map A) ο i j);let e2:d * Η (λj=>fR ((ρ++[q (-ρ)]).map A) (ο++[c]) i j * ind ((ρ++[q (-ρ)]).getD j 0) k) (-ρ+1)=_:=((Ψ _ _ _).symm.trans (Α λj hj=>by rw[above i hi j hj];grind)).trans e1;rw[e2,s.wn _ (aas _) hr k,s.wp i hi k];let e3:Η (λp=>A (q (-ρ)) (ο.getD p 0) * W p k) (-ρ)=Η (λp=>A (q (-ρ)) (ο.getD p 0) * Η (λj=>fR (ρ.map A) ο p j * ind (ρ.getD j 0) k) (-ρ)) (-ρ):=Α λp hp=>by rw[s.wp p hp k]
  rw[e3]
 let  V:Nat->Row:=λi k=>if i=-ρ then W (-ρ) k else Η (λj=>fR ((ρ++[q (-ρ)]).map A) (ο++[c]) i j * ind ((ρ++[q (-ρ)]).getD j 0) k) (-ρ+1)
 let  W':Nat->Row:=λi k=>if i < -ρ+1 then V i k else E * ind (q i) k - Η (λp=>A (q i) ((ο++[c]).getD p 0) * V p k) (-ρ+1)
 let Wr:∀k,W' (-ρ) k=W (-ρ) k:=λk=>by change(if -ρ < -ρ+1 then (if -ρ=-ρ then W (-ρ) k else _) else _)=_;rw[aa1 (acu _),aa1 rfl]
 let Wi:∀i,i < -ρ->∀k,W' i k=Η (λj=>fR ((ρ++[q (-ρ)]).map A) (ο++[c]) i j * ind ((ρ++[q (-ρ)]).getD j 0) k) (-ρ+1):=λi hi k=>by change(if i < -ρ+1 then (if i=-ρ then _ else _) else _)=_;rw[aa1 (),aa2 ()]
 let WV:∀p,p < -ρ+1->∀k,W' p k=V p k:=λp hp k=>by change(if p < -ρ+1 then V p k else _)=_;rw[aa1 hp]
 let Wn:∀i,-ρ+1<=i->∀k,W' i k=E * ind (q i) k - Η (λp=>A (q i) ((ο++[c]).getD p 0) * W' p k) (-ρ+1):=λi hi k=>by
  change(if i < -ρ+1 then V i k else _)=_;rw[aa2 ()]
  congr 1
  show Α λp hp=>by rw[WV p hp]
 let H:∀i,i < n->i≠-ρ->∀k,d * W' i k=E * W i k - rv A n (W i) c * W (-ρ) k:=λi hi lu k=>by
  by_cases yN:i < -ρ
  .rw[Wi i yN k];show abk i yN k
  .rw[Wn i () k,s.wn i () hi k,s.SM () hi c];rw[show∀F:Nat->Int,Η F (-ρ+1)=Η F (-ρ)+F (-ρ) fromλ_=>rfl,cl,Wr];let e1:d * Η (λp=>A (q i) ((ο++[c]).getD p 0) * W' p k) (-ρ)=Η (λp=>E * (A (q i) (ο.getD p 0) * W p k)+(- (W (-ρ) k)) * (A (q i) (ο.getD p 0) * rv A n (W p) c)) (-ρ):=by rw[<-Ψ];show Α λp hp=>?_;have:=abk p hp k;rw[cg p hp,Wi p hp k];grind
   rw[iN,Ψ,Ψ]at e1;grind
 show(W',(by simp[s.lc],by simp;omega,s.NG,λj hj=>?_,hd,λi hi k=>?_,λi h1 hi k=>?_,λi p hi hp=>?_),Wr,H)
 .by_cases hjr:j < -ρ
  .rw[o_ hjr];show s.Cn j hjr
  .have:j=-ρ:=by simp at hj;omega
   rw[this,pK];show s.NG _ hr
 .rw[show(ρ++[q (-ρ)]).length=-ρ+1 by simp]at hi⊢;by_cases yN:i < -ρ
  .show Wi i yN k
  .have:i=-ρ:=()
   subst this;rw[Wr k];show hk k
 .rw[show(ρ++[q (-ρ)]).length=-ρ+1 by simp]at h1⊢;show Wn i h1 k
 .rw[show(ρ++[q (-ρ)]).length=-ρ+1 by simp]at hi hp;let hrr:∀x,rv A n (W' (-ρ)) x=rv A n (W (-ρ)) x:=λx=>by unfold rv;show Α λk _=>by rw[Wr k]
  by_cases yN:i < -ρ
  .let lin:d * rv A n (W' i) ((ο++[c]).getD p 0)=E * rv A n (W i) ((ο++[c]).getD p 0) - rv A n (W i) c * rv A n (W (-ρ)) ((ο++[c]).getD p 0):=by have:=zb (A:=A) (n:=n) (w:=λk=>d * W' i k) (u:=W i) (v:=W (-ρ)) (a:=E) (b:=rv A n (W i) c) (λk=>H i () () k) ((ο++[c]).getD p 0);rw[<-this];unfold rv;rw[<-Ψ];show Α λk _=>by grind
   show abK d0 ?_;rw[lin];by_cases Jt:p < -ρ
   .rw[cg p Jt,s.zero (aas _) hr Jt,s.one i p yN Jt];split <;> grind
   .have:p=-ρ:=()
    subst this;rw[cl,hE,if_neg ()];grind
  .have:i=-ρ:=()
   subst this;rw[hrr];by_cases Jt:p < -ρ
   .rw[cg p Jt,s.zero (aas _) hr Jt,aa2 ()]
   .have:p=-ρ:=()
    subst this;rw[cl,hE,aa1 rfl]
end
def St.start:St A n [] [] id 1 (λi=>ind i) where
 lc:=rfl
 rn:=ac0 _
 NG:=λ_ h=>h
 Cn:=λ_ h=>abc h (acO _)
 det:=rfl
 wp:=λ_ h=>abc h (acO _)
 wn:=λi _ _ k=>by change ind i k=1 * ind i k - 0;omega
 one:=λ_ _ h=>abc h (acO _)
def St.perm{q:Nat->Nat}(s:St A n ρ ο q d W){π:Nat->Nat}(h1:∀i,i < -ρ->π i=i)(h2:∀i,-ρ<=i->i < n->-ρ<=π i/\π i < n):St A n ρ ο (λi=>q (π i)) d (λi=>W (π i)) where
 lc:=s.lc
 rn:=s.rn
 NG:=λi hi=>s.NG _ (by
  by_cases h:i < -ρ
  .rw[h1 i h];show hi
  .show(h2 i () hi).2)
 Cn:=s.Cn
 det:=s.det
 wp:=λi hi k=>by change W (π i) k=_;rw[h1 i hi];show s.wp i hi k
 wn:=λi hi hn k=>by
  let(a,b):=h2 i hi hn;have:=s.wn (π i) a b k;rw[this]
  congr 1
  show Α λp hp=>by rw[h1 p hp]
 one:=λi p hi hp=>by change rv A n (W (π i)) _=_;rw[h1 i hi];show s.one i p hi hp
def Ab(x B:Int):Prop:= - B<=x/\x<=B
def Ab.mul(h:Ab x B)(h':Ab y C):Ab (x * y) (B * C):=by
 let(a,b):=h;let(c,d):=h';let B0:0<=B:=()
 let C0:0<=C:=()
 let hb:x.natAbs<=B.natAbs:=()
 let hc:y.natAbs<=C.natAbs:=()
 let hm:=Nat.mul_le_mul hb hc;rw[<-acb,<-acb]at hm;let p:=ab9 B0 C0;show((),())
def Ab.add(h:Ab x B)(h':Ab y C):Ab (x+y) (B+C):=(by have:=h.1;have:=h'.1;omega,by have:=h.2;have:=h'.2;omega)
def Ab.sub(h:Ab x B)(h':Ab y C):Ab (x - y) (B+C):=(by have:=h.1;have:=h'.2;omega,by have:=h.2;have:=h'.1;omega)
def Ab.mono{C:Int}(h:Ab x B)(h':B<=C):Ab x C:=(by have:=h.1;omega,by have:=h.2;omega)
def Ab.sum{f:Nat->Int}{B:Int}:∀{n:Nat},(∀i,i < n->Ab (f i) B)->Ab (Η f n) (n * B)
 | 0,_=>(by simp[Η],by simp[Η])
 | n+1,h=>by
  let i:=Ab.sum (n:=n) λi hi=>h i ();have:=Ab.add i (h n ());let e:(n:Int) * B+B=((n+1:Nat):Int) * B:=by rw[show((n+1:Nat):Int)=(n:Int)+1 from rfl,Int.add_mul,Int.one_mul]
  rw[e]at this;show this
def Ab.pow{k:Nat}(h:Ab x B):Ab ((- 1) ^ k * x) B:=by
 rcases(by induction k with
  | zero=>show .inl rfl
  | succ k ih=>rw[Int.pow_succ];rcases ih with e| e <;> rw[e] <;> simp:((- 1:Int) ^ k=1\/(- 1:Int) ^ k= - 1)) with e| e
 .rw[e,Int.one_mul];show h
 .rw[e];let(a,b):=h;show((),())
def Ab.det{B:Int}(B0:1<=B):∀(γ:List Row) (ο:List Nat),(∀x∈γ,∀c∈ο,Ab (x c) B)->-ο<=12->Ab (D γ ο) ((12 * B) ^ (-γ))
 | [],ο,_,_=>by
  change Ab (F0 ο) ((12 * B) ^ 0);rw[Int.pow_zero];unfold F0;split
  .show(@_,@_)
  .show(@_,@_)
 | x::γ,ο,h,hl=>by
  change Ab (Lx x (D γ) ο) _;rw[yT,aaQ,acZ];let P0:(0:Int)<=(12 * B) ^ (-γ):=ac1 ();let each:∀p,p < -ο->Ab ((- 1) ^ p * (x (ο.getD p 0) * D γ (ο.eraseIdx p))) (B * (12 * B) ^ (-γ)):=λp hp=>by
   show Ab.pow (Ab.mul ?_ (Ab.det B0 γ (ο.eraseIdx p) (λy hy c hc=>h y (aah _ hy) c (adu hc)) ?_))
   .rw[aab,aaa hp];show h x aaf _ (aa9 hp)
   .rw[List.length_eraseIdx];split <;> omega
  show(Ab.sum each).mono ?_;let Q0:0<=B * (12 * B) ^ (-γ):=ab9 () P0;have:=abm (show(-ο:Int)<=12 by omega) Q0;show acG this ?_;let e:12 * (B * (12 * B) ^ (-γ))=(12 * B) ^ (-γ) * (12 * B):=by grind
  omega
section
variable{q:Nat->Nat}
structure Bd(A:Nat->Row)(n m:Nat)(B:Int):Prop where
 b1:1<=B
 ab:∀k x,k < n->x < m->Ab (A k x) B
def top(B:Int)(r:Nat):Int:=(12 * B) ^ (r+3)
def y8{b:Nat}(h:1<=B)(JG:a<=b):(12 * B) ^ a<=(12 * B) ^ b:=by
 let(c,rfl):=Nat.exists_eq_add_of_le JG;rw[Int.pow_add];let p:(1:Int)<=(12 * B) ^ c:=by have:0 < (12 * B) ^ c:=Int.pow_pos ();omega
 let q:(0:Int)<=(12 * B) ^ a:=ac1 ();have:=aaS p q;omega
def St.abs(s:St A n ρ ο q d W)(b:Bd A n m B)(hc:∀c∈ο,c < m)(hr:-ρ<=12):
  (∀i k,i < n->Ab (W i k) (top B (-ρ)))/\(∀i x,i < n->x < m->Ab (rv A n (W i) x) (top B (-ρ)))/\Ab d (top B (-ρ)):=by
 let B0:=b.b1;let mem:∀j,j < -ρ->ρ.getD j 0∈ρ:=λj hj=>by rw[aab,aaa hj];show aa9 hj
 let ρn:∀a∈ρ,a < n:=λa ha=>by let(j,hj,e):=acd ha;have:=s.Cn j hj;rw[aab,aaa hj]at this;rw[<-e];show this
 let ent:∀x∈ρ.map A,∀c∈ο,Ab (x c) B:=λx hx c CF=>by let(a,ha,rfl):=aap.mp hx;show b.ab a c (ρn a ha) (hc c CF)
 let cl:-ο<=12:=by rw[s.lc];show hr
 let hd:Ab d ((12 * B) ^ (-ρ)):=by have:=Ab.det B0 (ρ.map A) ο ent cl;rw[s.det,aac]at this;show this
 let XU:∀p k,Ab (fR (ρ.map A) ο p k) ((12 * B) ^ (-ρ)):=λp k=>by
  unfold fR;show Ab.pow ((Ab.det B0 _ _ (λx hx c CF=>ent x (adu hx) c (adu CF)) ?_).mono (y8 B0 ?_))
  .rw[List.length_eraseIdx];split <;> omega
  .rw[List.length_eraseIdx,aac];split <;> omega
 let i1:∀a k,Ab (ind a k) 1:=λa k=>by unfold ind;split <;> show(@_,@_)
 let P0:(0:Int)<=(12 * B) ^ (-ρ):=ac1 ();let Ph:∀{C:Int},0<=C->(-ρ:Int) * C<=12 * C:=λh=>abm () h;let c1:12 * (12 * B) ^ (-ρ)<=(12 * B) ^ (-ρ+1):=by rw[acZ];have:=aaS (show(12:Int)<=12 * B by omega) P0;omega
 let wp:∀i k,i < -ρ->Ab (W i k) ((12 * B) ^ (-ρ+1)):=λi k hi=>by rw[s.wp i hi k];show(Ab.sum (B:=(12 * B) ^ (-ρ)) λj hj=>?_).mono (acG (Ph P0) c1);have:=Ab.mul (XU i j) (i1 (ρ.getD j 0) k);rw[Int.mul_one]at this;show this
 let rp:∀i x,i < -ρ->x < m->Ab (rv A n (W i) x) ((12 * B) ^ (-ρ+1)):=λi x hi hx=>by
  rw[s.Up hi];let Q0:0<=(12 * B) ^ (-ρ) * B:=ab9 P0 ();show(Ab.sum (B:=(12 * B) ^ (-ρ) * B) λj hj=>Ab.mul (XU i j) (b.ab _ x (s.Cn j hj) hx)).mono (acG (Ph Q0) ?_);rw[acZ];have:12 * ((12 * B) ^ (-ρ) * B)=(12 * B) ^ (-ρ) * (12 * B):=by grind
  omega
 let S0:(0:Int)<=(12 * B) ^ (-ρ+1):=ac1 ();let T0:(0:Int)<=(12 * B) ^ (-ρ+2):=ac1 ();let c2:12 * (B * (12 * B) ^ (-ρ+1))=(12 * B) ^ (-ρ+2):=by rw[show -ρ+2=-ρ+1+1 from rfl,Int.pow_succ];grind
 let c3:(12 * B) ^ (-ρ+2)+(12 * B) ^ (-ρ+2)<=top B (-ρ):=by unfold top;let e:(12 * B) ^ (-ρ+3)=(12 * B) ^ (-ρ+2) * (12 * B):=acZ _ _;rw[e];have:=aaS (show(2:Int)<=12 * B by omega) T0;omega
 let c4:(12 * B) ^ (-ρ+1)<=(12 * B) ^ (-ρ+2):=y8 B0 ();let c5:(12 * B) ^ (-ρ)<=(12 * B) ^ (-ρ+2):=y8 B0 ();let c6:(12 * B) ^ (-ρ) * B<=(12 * B) ^ (-ρ+2):=by show acG ?_ c4;rw[acZ];show aaS () P0
 let U0:0<=B * (12 * B) ^ (-ρ+1):=ab9 () S0;let U1:∀p,p < -ρ->ο.getD p 0 < m:=λp hp=>by
  let Bl:p < -ο:=by rw[s.lc];show hp
  rw[aab,aaa Bl];show hc _ (aa9 Bl)
 show(λi k hi=>?_,λi x hi hx=>?_,hd.mono ())
 .by_cases yN:i < -ρ
  .show(wp i k yN).mono ()
  .rw[s.wn i () hi k];let a1:=Ab.mul hd (i1 (q i) k);rw[Int.mul_one]at a1;show(Ab.sub a1 (Ab.sum (B:=B * (12 * B) ^ (-ρ+1)) λp hp=>Ab.mul (b.ab (q i) _ (s.NG i hi) (U1 p hp)) (wp p k hp))).mono ?_;have:=Ph U0;omega
 .by_cases yN:i < -ρ
  .show(rp i x yN hx).mono ()
  .rw[s.SM () hi];show(Ab.sub (Ab.mul hd (b.ab (q i) x (s.NG i hi) hx)) (Ab.sum (B:=B * (12 * B) ^ (-ρ+1)) λp hp=>Ab.mul (b.ab (q i) _ (s.NG i hi) (U1 p hp)) (rp p x hp hx))).mono ?_;have:=Ph U0;omega
end
def dH(n i:Nat):List Int:=(List.range n).map (ind i)
def lZ(ls:List (List Int))(f k:Nat):List (List Int):=ls.take f++[ls.getD k []]++(ls.drop f).take (k - f)++ls.drop (k+1)
def dQ(l h:List Int)(c:Nat)(d:Int):List Int:=(l.zip h).map λp=>(h.getD c 0 * p.1 - l.getD c 0 * p.2).fdiv d
def aI(A:Nat->Row)(n m:Nat)(w:Row):List Int:=(List.range m).map (λx=>rv A n w x)++(List.range n).map w
def ah(A:Nat->Row)(n m:Nat)(W:Nat->Row):List (List Int):=(List.range n).map λi=>aI A n m (W i)
def arr(γ:List (List Int)):Nat->Row:=λk x=>(γ.getD k []).getD x 0
def fH:-(aI A n m w)=m+n:=by unfold aI;simp
def iZ{x:Nat}(h:x < m):(aI A n m w).getD x 0=rv A n w x:=by unfold aI;rw[List.getD_eq_getElem?_getD,List.getElem?_append_left (by simpa using h),List.getElem?_map,List.getElem?_range h];rfl
def lH(h:i < n):(ah A n m W).getD i []=aI A n m (W i):=by unfold ah;rw[aab,aaw,aby h];rfl
def d_:-(ah A n m W)=n:=by unfold ah;simp
def Dz{u:Row}(h:∀k,w k=u k):aI A n m w=aI A n m u:=by have:w=u:=funext h;rw[this]
def CP{γ:List (List Int)}(hl:∀r∈γ,-r=m):(List.range (-γ)).map (λi=>γ.getD i []++dH (-γ) i)=ah (arr γ) (-γ) m (λi=>ind i):=by
 unfold ah;apply ab3;intro i hi;let hi:=abS.mp hi;unfold aI dH
 congr 1
 let g:γ.getD i []=γ[i]:=by rw[aab,aaa hi];rfl
 let ml:=hl γ[i] (aa9 hi);apply acv
 .rw[g,ml];simp
 .intro x h1 h2;simp only[List.getElem_map,List.getElem_range];rw[D9 hi];unfold arr;rw[aab (l:=γ.getD i []),aaa h1];rfl
def j4(r k i:Nat):Nat:=if i < r then i else if i=r then k else if i<=k then i - 1 else i
def A0{r k:Nat}(hr:r<=k)(hk:k < n):lZ (ah A n m W) r k=ah A n m (λi=>W (j4 r k i)):=by
 unfold lZ;rw[lH hk];unfold ah;apply adF;intro i;rw[aaw];simp only[List.append_assoc];by_cases h1:i < r
 .rw[List.getElem?_append_left (by simp;omega),List.getElem?_take_of_lt h1,List.getElem?_map];rw[aby ()];have:j4 r k i=i:=by unfold j4;rw[if_pos h1]
  simp[this]
 .rw[List.getElem?_append_right (by simp;omega)];let lt:-((List.map (λi=>aI A n m (W i)) (List.range n)).take r)=r:=by simp;omega
  rw[lt];by_cases h2:i=r
  .subst h2;rw[Nat.sub_self,List.getElem?_append_left (by simp)];rw[aby ()];have:j4 i k i=k:=by unfold j4;rw[if_neg (Nat.lt_irrefl _),if_pos rfl]
   simp[this]
  .rw[List.getElem?_append_right (by simp;omega)];change(_++_)[i - r - 1]? =_;let l2:-((List.map (λi=>aI A n m (W i)) (List.range n)).drop r|>.take (k - r))=k - r:=by simp;omega
   by_cases h3:i<=k
   .rw[aaJ (by rw[l2];omega),adq (),List.getElem?_drop,aaw,aby (),aby ()];have:j4 r k i=i - 1:=by unfold j4;rw[if_neg h1,if_neg h2,if_pos h3]
    simp only[Option.map_some,this];rw[show r+(i - r - 1)=i - 1 by omega]
   .rw[aaB (by rw[l2];omega),l2,List.getElem?_drop,aaw];rw[show k+1+(i - r - 1 - (k - r))=i by omega];by_cases h4:i < n
    .rw[aby h4];have:j4 r k i=i:=by unfold j4;rw[if_neg h1,if_neg h2,if_neg h3]
     simp[this]
    .rw[List.getElem?_eq_none (by simpa using h4)];rfl
def ue{a b:Int}(h:d≠0)(e:d * b=a):a.fdiv d=b:=by rw[<-e];show Int.mul_fdiv_cancel_left b h
def vC{c:Nat}{v:Row}(hc:c < m)(d0:d≠0)(h:∀k,d * v k=rv A n u c * w k - rv A n w c * u k):dQ (aI A n m w) (aI A n m u) c d=aI A n m v:=by
 let hr:∀x,d * rv A n v x=rv A n u c * rv A n w x - rv A n w c * rv A n u x:=λx=>by have:=zb (A:=A) (n:=n) (w:=λk=>d * v k) (u:=w) (v:=u) (a:=rv A n u c) (b:=rv A n w c) h x;rw[<-this];unfold rv;rw[<-Ψ];show Α λk _=>by grind
 unfold dQ;rw[iZ hc,iZ hc];unfold aI;rw[List.zip_append (by simp),List.map_append]
 congr 1
 .apply acv
  .simp
  .intro x h1 h2;simp only[List.getElem_map,List.getElem_zip,List.getElem_range];show ue d0 (hr x)
 .apply acv
  .simp
  .intro x h1 h2;simp only[List.getElem_map,List.getElem_zip,List.getElem_range];show ue d0 (h x)
structure Turn(A:Nat->Row)(n:Nat)(col:Nat)(ρ ο:List Nat)(q:Nat->Nat)(d:Int)(W:Nat->Row):Prop where
 st:St A n ρ ο q d W
 d0:d≠0
 cl:∀c∈ο,c < col
 TH:∀i,i < -ρ->q i=ρ.getD i 0
 T5:∀k,k < n->∃i,i < n/\q i=k
 zero:∀i,-ρ<=i->i < n->∀x,x < col->rv A n (W i) x=0
 all:ο=List.range col\/∃x,x < col/\x∉ο
def Turn.start:Turn A n 0 [] [] id 1 (λi=>ind i) where
 st:=St.start
 d0:=@_
 cl:=λ_ h=>nomatch h
 TH:=λ_ h=>abc h (acO _)
 T5:=λk h=>(k,h,rfl)
 zero:=λ_ _ _ _ h=>abc h (acO _)
 all:=.inl rfl
section
variable{col:Nat}{q:Nat->Nat}
def Turn.skip(t:Turn A n col ρ ο q d W)(h:∀i,-ρ<=i->i < n->rv A n (W i) col=0):Turn A n (col+1) ρ ο q d W where
 st:=t.st
 d0:=t.d0
 cl:=λc hc=>ac5 (t.cl c hc)
 TH:=t.TH
 T5:=t.T5
 zero:=λi h1 h2 x hx=>by
  by_cases e:x=col
  .rw[e];show h i h1 h2
  .show t.zero i h1 h2 x ()
 all:=.inr (col,acu _,λz=>abc (t.cl col z) (aci _))
def Turn.move(t:Turn A n col ρ ο q d W){k:Nat}(h1:-ρ<=k)(h2:k < n):Turn A n col ρ ο (λi=>q (j4 (-ρ) k i)) d (λi=>W (j4 (-ρ) k i)) where
 st:=t.st.perm (λi hi=>by unfold j4;rw[if_pos hi]) λi a b=>by unfold j4;split <;> (try split) <;> (try split) <;> omega
 d0:=t.d0
 cl:=t.cl
 TH:=λi hi=>by change q (j4 (-ρ) k i)=_;rw[show j4 (-ρ) k i=i by unfold j4;rw[if_pos hi]];show t.TH i hi
 T5:=λj hj=>by
  let(i,hi,e):=t.T5 j hj;by_cases a:i < -ρ
  .show(i,hi,by change q (j4 (-ρ) k i)=j;rw[show j4 (-ρ) k i=i by unfold j4;rw[if_pos a]];show e)
  .by_cases b:i=k
   .show(-ρ,(),by change q (j4 (-ρ) k (-ρ))=j;rw[show j4 (-ρ) k (-ρ)=k by unfold j4;rw[if_neg (Nat.lt_irrefl _),if_pos rfl],<-b];show e)
   .by_cases c:i < k
    .show(i+1,(),by change q (j4 (-ρ) k (i+1))=j;rw[show j4 (-ρ) k (i+1)=i by unfold j4;rw[if_neg (),if_neg (),if_pos ()];omega];show e)
    .show(i,hi,by change q (j4 (-ρ) k i)=j;rw[show j4 (-ρ) k i=i by unfold j4;rw[if_neg a,if_neg (),if_neg ()]];show e)
 zero:=λi a b x hx=>by
  have:-ρ<=j4 (-ρ) k i/\j4 (-ρ) k i < n:=by unfold j4;split <;> (try split) <;> (try split) <;> omega
  show t.zero _ this.1 this.2 x hx
 all:=t.all
def Turn.step(t:Turn A n col ρ ο q d W)(hr:-ρ < n)(hm:col < m)(h0:rv A n (W (-ρ)) col≠0):
  ∃W',Turn A n (col+1) (ρ++[q (-ρ)]) (ο++[col]) q (rv A n (W (-ρ)) col) W'/\
   ((ah A n m W).take (-ρ)).map (λl=>dQ l (aI A n m (W (-ρ))) col d)++[aI A n m (W (-ρ))]++((ah A n m W).drop (-ρ+1)).map (λl=>dQ l (aI A n m (W (-ρ))) col d)=ah A n m W':=by
 let(W',s',e1,e2):=t.st.step hr col t.d0 h0;show(W',(s',h0,λc hc=>?_,λi hi=>?_,t.T5,λi a b x hx=>?_,?_),?_)
 .rcases abt.mp hc with z| z
  .show ac5 (t.cl c z)
  .have:c=col:=by simpa using z
   omega
 .by_cases yN:i < -ρ
  .rw[o_ yN];show t.TH i yN
  .have:i=-ρ:=by simp at hi;omega
   rw[this,pK]
 .rw[show(ρ++[q (-ρ)]).length=-ρ+1 by simp]at a;let lin:d * rv A n (W' i) x=rv A n (W (-ρ)) col * rv A n (W i) x - rv A n (W i) col * rv A n (W (-ρ)) x:=by have:=zb (A:=A) (n:=n) (w:=λk=>d * W' i k) (u:=W i) (v:=W (-ρ)) (λk=>e2 i b () k) x;rw[<-this];unfold rv;rw[<-Ψ];show Α λk _=>by grind
  show abK t.d0 ?_;rw[lin];by_cases e:x=col
  .subst e;grind
  .rw[t.zero i () b x (),t.zero (-ρ) (Nat.le_refl _) hr x ()];simp
 .rcases t.all with z| ⟨x,a,b⟩
  .left;rw[z,adg]
  .show .inr (x,(),λz=>?_);rcases abt.mp z with z| z
   .show b z
   .have:x=col:=by simpa using z
    omega
 .unfold ah;rw[<-adC,<-adD,abf,abf];apply adF;intro i;simp only[List.append_assoc];let lt:-(List.map ((λl=>dQ l (aI A n m (W (-ρ))) col d) ∘ λi=>aI A n m (W i)) ((List.range n).take (-ρ)))=-ρ:=by simp;omega
  by_cases h1:i < -ρ
  .rw[aaJ (by rw[lt];show h1),aaw,aaw,adq h1,aby ()];change (!(dQ (aI A n m (W i)) (aI A n m (W (-ρ))) col d))=!_;rw[vC hm t.d0 (e2 i () ())]
  .rw[aaB (by rw[lt];omega),lt,aaw];by_cases h2:i=-ρ
   .subst h2;rw[adJ,aby hr];change (!(aI A n m (W (-ρ))))=!(aI A n m (W' (-ρ)));rw[Dz e1]
   .rw[List.getElem?_append_right (by simp;omega)];change(List.map _ ((List.range n).drop (-ρ+1)))[i - -ρ - 1]? =_;rw[aaw,List.getElem?_drop,show -ρ+1+(i - -ρ - 1)=i by omega];by_cases h4:i < n
    .rw[aby h4];change (!(dQ (aI A n m (W i)) (aI A n m (W (-ρ))) col d))=!_;rw[vC hm t.d0 (e2 i h4 h2)]
    .rw[List.getElem?_eq_none (by simpa using h4)];rfl
end
section
variable{col:Nat}{q:Nat->Nat}
def Turn.back(t:Turn A n col ρ ο q d W){k y:Nat}(hk:k < n)(hy:y < col):d * A k y=Η (λp=>A k (ο.getD p 0) * rv A n (W p) y) (-ρ):=by
 let(i,hi,e):=t.T5 k hk;let s:=t.st;by_cases yN:i < -ρ
 .let ek:k=ρ.getD i 0:=by rw[<-e];show t.TH i yN
  let lr:-(ρ.map A)=-ρ:=aac _;let e1:Η (λp=>A k (ο.getD p 0) * rv A n (W p) y) (-ρ)=Η (λp=>Η (λj=>(A k (ο.getD p 0) * fR (ρ.map A) ο p j) * A (ρ.getD j 0) y) (-ρ)) (-ρ):=Α λp hp=>by rw[s.Up hp,<-Ψ];show Α λj _=>by grind
  let e2:Η (λp=>Η (λj=>(A k (ο.getD p 0) * fR (ρ.map A) ο p j) * A (ρ.getD j 0) y) (-ρ)) (-ρ)=Η (λj=>A (ρ.getD j 0) y * Η (λp=>(ρ.map A).getD i zr (ο.getD p 0) * fR (ρ.map A) ο p j) (-ρ)) (-ρ):=by rw[ef];show Α λj _=>?_;rw[<-Ψ];show Α λp _=>?_;rw[vU yN,<-ek];grind
  rw[e1,e2];let pa:∀j,j < -ρ->Η (λp=>(ρ.map A).getD i zr (ο.getD p 0) * fR (ρ.map A) ο p j) (-ρ)=if i=j then d else 0:=λj hj=>by have:=PA (γ:=ρ.map A) (ο:=ο) (i:=i) (k:=j) (by rw[lr];show s.lc) (by rw[lr];show yN) (by rw[lr];show hj);rw[lr,s.det]at this;show this
  rw[jF yN λj hj lu=>by rw[pa j hj,if_neg (Ne.symm lu)];simp];rw[pa i yN,if_pos rfl,ek];grind
 .have:=s.SM () hi y;rw[t.zero i () hi y hy,e]at this;omega
def Turn.kernel(t:Turn A n col ρ ο q d W){x:Nat}(hx:x < col)(hf:x∉ο):∃z:Row,z x= - d/\∀k,k < n->Η (λy=>A k y * z y) col=0:=by
 let s:=t.st;let cm:∀i,i < -ρ->ο.getD i 0∈ο:=λi hi=>by
  let v7:i < -ο:=by rw[s.lc];show hi
  rw[aab,aaa v7];show aa9 v7
 show(λy=>Η (λi=>rv A n (W i) x * ind (ο.getD i 0) y) (-ρ) - d * ind x y,?_,λk hk=>?_)
 .let e1:Η (λi=>rv A n (W i) x * ind (ο.getD i 0) x) (-ρ)=0:=jH λi hi=>by unfold ind;rw[if_neg λz=>hf (by rw[<-z];show cm i hi)];simp
  change Η (λi=>rv A n (W i) x * ind (ο.getD i 0) x) (-ρ) - d * ind x x= - d;rw[e1];unfold ind;rw[if_pos rfl];omega
 .let gen:∀f:Row,Η (λy=>f y * (Η (λi=>rv A n (W i) x * ind (ο.getD i 0) y) (-ρ) - d * ind x y)) col=Η (λi=>rv A n (W i) x * f (ο.getD i 0)) (-ρ) - d * f x:=λf=>by
   let e1:Η (λy=>f y * (Η (λi=>rv A n (W i) x * ind (ο.getD i 0) y) (-ρ) - d * ind x y)) col=Η (λy=>Η (λi=>rv A n (W i) x * (ind (ο.getD i 0) y * f y)) (-ρ)+(- d) * (ind x y * f y)) col:=Α λy _=>by
    have:Η (λi=>rv A n (W i) x * (ind (ο.getD i 0) y * f y)) (-ρ)=f y * Η (λi=>rv A n (W i) x * ind (ο.getD i 0) y) (-ρ):=by rw[<-Ψ];show Α λi _=>by grind
    rw[this];grind
   rw[e1,iN,Ψ,oV (f:=f) hx,ef];let e2:Η (λi=>Η (λy=>rv A n (W i) x * (ind (ο.getD i 0) y * f y)) col) (-ρ)=Η (λi=>rv A n (W i) x * f (ο.getD i 0)) (-ρ):=Α λi hi=>by rw[Ψ,oV (f:=f) (t.cl _ (cm i hi))]
   rw[e2];grind
  show abK t.d0 ?_;rw[Int.mul_zero,gen (A k),Int.mul_sub];let b1:=t.back hk hx;let e3:Η (λi=>rv A n (W i) x * A k (ο.getD i 0)) (-ρ)=d * A k x:=by rw[b1];show Α λi _=>abZ _ _
  rw[e3];grind
def SJ(A:Nat->Row)(n u:Nat)(z:Row)(N:Int):Prop:=∀k,k < n->Η (λx=>A k x * z x) u=N * A k u
def SJ.line(h:SJ A n u z N)(w:Row):Η (λx=>rv A n w x * z x) u=N * rv A n w u:=by
 unfold rv;let e1:Η (λx=>Η (λk=>w k * A k x) n * z x) u=Η (λx=>Η (λk=>w k * (A k x * z x)) n) u:=Α λx _=>by rw[abZ,<-Ψ];show Α λk _=>by grind
 rw[e1,ef,<-Ψ];show Α λk hk=>?_;rw[Ψ,h k hk];grind
def Turn.rest(t:Turn A n col ρ ο q d W)(hs:SJ A n col z N)(hN:N≠0)(h1:-ρ<=i)(hi:i < n):rv A n (W i) col=0:=by
 have:=hs.line (W i);rw[jH λx hx=>by rw[t.zero i h1 hi x hx];simp]at this;rcases Int.mul_eq_zero.mp this.symm with e| e
 .show abc e hN
 .show e
def Turn.told(t:Turn A n col ρ ο q d W)(hc:ο=List.range col)(hs:SJ A n col z N)(hi:i < col):d * z i=N * rv A n (W i) col:=by
 let s:=t.st;let hl:-ρ=col:=by rw[<-s.lc,hc,abP]
 let g:∀p,p < col->ο.getD p 0=p:=λp hp=>by rw[hc,aab,aby hp];rfl
 rw[<-hs.line (W i)]
 rw[jF hi λx hx lu=>by
  have:=s.one i x (by rw[hl];show hi) (by rw[hl];show hx);rw[g x hx,aa2 (Ne.symm lu)]at this
  rw[this];simp]
 have:=s.one i i (by rw[hl];show hi) (by rw[hl];show hi);rw[g i hi,aa1 rfl]at this;rw[this]
end
def Turn.exists{A:Nat->Row}{n:Nat}:∀col:Nat,∃ρ ο q d W,Turn A n col ρ ο q d W
 | 0=>(_,_,_,_,_,Turn.start)
 | col+1=>by
  let(ρ,ο,q,d,W,t):=Turn.exists (A:=A) (n:=n) col;by_cases h:∃k,-ρ<=k/\k < n/\rv A n (W k) col≠0
  .let(k,h1,h2,h3):=h;let t':=t.move h1 h2;let e:j4 (-ρ) k (-ρ)=k:=by unfold j4;rw[if_neg (Nat.lt_irrefl _),if_pos rfl]
   let(W',t2,_):=t'.step (m:=col+1) () () (by change rv A n (W (j4 (-ρ) k (-ρ))) col≠0;rw[e];show h3);show(_,_,_,_,_,t2)
  .show(_,_,_,_,_,t.skip λi h1 h2=>?_);by_cases e:rv A n (W i) col=0
   .show e
   .show abc (i,h1,h2,e) h
section
variable{col:Nat}{q:Nat->Nat}
def NC(A:Nat->Row)(n:Nat)(W:Nat->Row)(ο:List Nat)(s k:Nat):Row:=λy=>Η (λi=>rv A n (W i) s * ind (ο.getD i 0) y) k
def Turn.N4(t:Turn A n col ρ ο q d W){x:Nat}(hx:x < col):∀k,k < n->Η (λy=>A k y * (NC A n W ο x (-ο) y - d * ind x y)) col=0:=λk hk=>by
 let s:=t.st;let cm:∀i,i < -ρ->ο.getD i 0∈ο:=λi hi=>by
  let v7:i < -ο:=by rw[s.lc];show hi
  rw[aab,aaa v7];show aa9 v7
 unfold NC;rw[s.lc];let gen:∀f:Row,Η (λy=>f y * (Η (λi=>rv A n (W i) x * ind (ο.getD i 0) y) (-ρ) - d * ind x y)) col=Η (λi=>rv A n (W i) x * f (ο.getD i 0)) (-ρ) - d * f x:=λf=>by
  let e1:Η (λy=>f y * (Η (λi=>rv A n (W i) x * ind (ο.getD i 0) y) (-ρ) - d * ind x y)) col=Η (λy=>Η (λi=>rv A n (W i) x * (ind (ο.getD i 0) y * f y)) (-ρ)+(- d) * (ind x y * f y)) col:=Α λy _=>by
   have:Η (λi=>rv A n (W i) x * (ind (ο.getD i 0) y * f y)) (-ρ)=f y * Η (λi=>rv A n (W i) x * ind (ο.getD i 0) y) (-ρ):=by rw[<-Ψ];show Α λi _=>by grind
   rw[this];grind
  rw[e1,iN,Ψ,oV (f:=f) hx,ef];let e2:Η (λi=>Η (λy=>rv A n (W i) x * (ind (ο.getD i 0) y * f y)) col) (-ρ)=Η (λi=>rv A n (W i) x * f (ο.getD i 0)) (-ρ):=Α λi hi=>by rw[Ψ,oV (f:=f) (t.cl _ (cm i hi))]
  rw[e2];grind
 show abK t.d0 ?_;rw[Int.mul_zero,gen (A k),Int.mul_sub];let b1:=t.back hk hx;let e3:Η (λi=>rv A n (W i) x * A k (ο.getD i 0)) (-ρ)=d * A k x:=by rw[b1];show Α λi _=>abZ _ _
 rw[e3];grind
def Turn.Xe(t:Turn A n col ρ ο q d W)(h:∀i,-ρ<=i->i < n->rv A n (W i) col=0):SJ A n col (NC A n W ο col (-ο)) d:=λk hk=>by
 have:=(t.skip h).N4 (x:=col) () k hk;let e:Η (λy=>A k y * (NC A n W ο col (-ο) y - d * ind col y)) (col+1)=Η (λy=>A k y * (NC A n W ο col (-ο) y - d * ind col y)) col+A k col * (NC A n W ο col (-ο) col - d * ind col col):=rfl;let e1:Η (λy=>A k y * (NC A n W ο col (-ο) y - d * ind col y)) col=Η (λy=>A k y * NC A n W ο col (-ο) y) col:=Α λy hy=>by
  have:ind col y=0:=by unfold ind;rw[if_neg ()]
  rw[this];grind
 let e2:NC A n W ο col (-ο) col=0:=jH λi hi=>by
  let hm:ο.getD i 0∈ο:=by rw[aab,aaa hi];show aa9 hi
  have:ind (ο.getD i 0) col=0:=by unfold ind;rw[if_neg (by have:=t.cl _ hm;omega)]
  rw[this,Int.mul_zero]
 let e3:ind col col=1:=by unfold ind;rw[if_pos rfl]
 rw[e,e1,e2,e3]at this;have:A k col * (0 - d * 1)= - (d * A k col):=by grind
 omega
def St.YJ(s:St A n ρ ο q d W)(b:Bd A n m B)(hc:∀c∈ο,c < m)(hr:-ρ<=12):Ab d ((12 * B) ^ (-ρ)):=by
 let ρn:∀a∈ρ,a < n:=λa ha=>by let(j,hj,e):=acd ha;have:=s.Cn j hj;rw[aab,aaa hj]at this;rw[<-e];show this
 have:=Ab.det b.b1 (ρ.map A) ο (λx hx c CF=>by
  let(a,ha,rfl):=aap.mp hx
  show b.ab a c (ρn a ha) (hc c CF)) (by rw[s.lc];show hr)
 rw[s.det,aac]at this;show this
end
end Bz
seal L2.JE L2.JT L2.JW L2.JA L2.JS L2.Fh L2.JI L2.JK
local macro_rules| `(tactic| walk_at "vc")=>`(tactic| dsimp only[L2.gN,L2.NP,L2.OM,L2.Nl,L2.ow,L2.Gq,L2.Yn,L2.VU,L2.zx,L2.B',L2.QF,L2.sA,L2.fN,L2.YA,L2.jy,L2.dC,L2.ly,L2.eK,L2.C6,L2.TU,L2.jT,L2.Ve,L2.orT,L2.Xc,L2.Xg,L2.Vq,L2.dIf,L2.lS,List.map_cons,List.map_nil,List.length_cons,List.length_nil,List.cons_append,List.nil_append,List.replicate,List.getElem?_cons_zero,List.getElem?_cons_succ,List.set_cons_zero,List.set_cons_succ,Nat.reduceSub,Nat.reduceAdd,Nat.zero_add])
namespace Pg
open PySem L2
variable{f aY fT uw dI eW:Addr}{fd aX fS vw dN fc:FuncData}{i n j l:Nat}{M:Ms}{d:Dt}{xs ds:List Dt}{b t lo E C B:Int}{A W:Nat->Bz.Row}{kc:List (Int×Nat)}
def top(i:Nat):Stmt:=PySem.Challenge.pw_chanceduel_k32_worths_of_rounds.main.body.getD i (.Pass (0,0,0,0))
def cls(i j:Nat):Stmt:=match top i with
 | .ClassDef _ _ _ b _ _ _ _ _ _ _=>b.getD j (.Pass (0,0,0,0))
 | _=>.Pass (0,0,0,0)
abbrev iE:Stmt:=top 9
abbrev qP:Stmt:=top 10
abbrev LD:Stmt:=top 11
abbrev C4:Stmt:=top 12
abbrev EI:Stmt:=top 13
abbrev Eu:Stmt:=top 14
abbrev ui:Stmt:=top 19
abbrev qB:Stmt:=top 20
abbrev jf:Stmt:=top 21
abbrev kF:Stmt:=top 22
abbrev oq:Stmt:=top 23
abbrev uP:Stmt:=top 24
abbrev om:Stmt:=top 25
abbrev nQ:Stmt:=top 30
abbrev vt:Stmt:=top 31
abbrev rq:Stmt:=top 32
abbrev DV:Stmt:=top 33
abbrev ki:Stmt:=top 36
abbrev ji:Stmt:=top 37
abbrev lC:Stmt:=top 38
abbrev kC:Stmt:=top 39
abbrev ua:Stmt:=top 40
abbrev nH:Stmt:=top 41
abbrev qF:Stmt:=top 43
abbrev qT:Stmt:=top 45
abbrev oI:Stmt:=top 46
abbrev tM:Stmt:=top 47
abbrev vi:Stmt:=top 48
abbrev j7:Stmt:=top 49
abbrev qp:Stmt:=top 50
abbrev qz:Stmt:=top 51
abbrev zK:Stmt:=top 52
abbrev Dp:Stmt:=top 53
abbrev rB:Stmt:=top 54
abbrev iI:Stmt:=top 56
abbrev uS:Stmt:=top 57
abbrev uU:Stmt:=top 59
abbrev yD:Stmt:=top 60
abbrev Du:Stmt:=top 62
abbrev oi:Stmt:=top 63
abbrev oz:Stmt:=top 64
abbrev yp:Stmt:=top 65
abbrev qg:Stmt:=top 66
abbrev j9:Stmt:=top 67
abbrev nA:Stmt:=top 68
abbrev lT:Stmt:=top 69
abbrev q5:Stmt:=top 70
abbrev tT:Stmt:=top 71
abbrev vm:Stmt:=top 72
abbrev uK:Stmt:=top 73
abbrev qA:Stmt:=top 74
abbrev yW:Stmt:=top 75
abbrev rA:Stmt:=top 76
abbrev pZ:Stmt:=top 77
abbrev kI:Stmt:=top 78
abbrev ir:Stmt:=top 79
abbrev qY:Stmt:=top 80
abbrev vj:Stmt:=top 81
abbrev lY:Stmt:=top 82
abbrev Rv:Stmt:=top 83
abbrev nL:Stmt:=cls 34 0
abbrev nY:Stmt:=cls 34 1
abbrev me:Stmt:=cls 34 2
abbrev oh:Stmt:=cls 34 3
abbrev lJ:Stmt:=cls 34 4
abbrev p_:Stmt:=cls 34 5
abbrev l9:Stmt:=cls 34 7
abbrev ie:Stmt:=cls 34 8
abbrev n_:Stmt:=cls 34 9
abbrev nv:Stmt:=cls 34 10
open PySem L2 Fr0 Tx
structure Ev(K:fI)(mg:Str->Option Value)(w:World)(Cm:Addr):Prop where
 bu:mg "len"=none
 tW:mg "abs"=none
 bj:mg "isinstance"=none
 xc:mg "int"=none
 Ac:mg "bool"=none
 mG:mg "tuple"=none
 gR:mg "list"=none
 bX:mg "range"=none
 fq:mg "enumerate"=none
 FC:mg "any"=none
 CB:mg "all"=none
 BR:mg "sum"=none
 xu:mg "zip"=none
 lU:mg "dict"=none
 G9:mg "min"=none
 ib:PySem.W.kitOne K (.type "int") (.type "bool")=!false
 eI:GY K Cm
 cW:jg K Cm "kept_rows"
 gy:jg K Cm "kept_share"
 y6:∃a o its n,mg "HANDS"=!(.ref a)/\K.lookup a=!o/\o.cls= .type "tuple"/\o.data= .seq its n/\its.size<=sizeLine/\Paired (λ(z:Str) (u:Value)=>∃tk,u= .str z tk) ["one","other"] its.toList
 mV:Um K w mg "TURNED_KINDS" [("one", "other"),("other", "one"),("chance", "chance")]
 rW:∃tk,mg "MOST_DOORS"=!(.int 6 tk)
 kG:∃tk,mg "MOST_BOTTOM"=!(.int 1000000 tk)
 pA:∃tk,mg "MOST_PLACES"=!(.int 12 tk)
 iF:∃tk,mg "MOST_SHARE_BOTTOM"=!(.int 1000 tk)
def ot{K:fI}:PySem.W.kitOne K (.type T) (.type T)=!true:=by unfold PySem.W.kitOne;rw[aa1 (beq_self_eq_true _)]
section
variable{P:Program}{w:World}{K:fI}{mg:Str->Option Value}{base:Heap}{Cm:Addr}
def LS:DF:=λds M q _=>match ds with
 | [.int a,.int b]=>q (.int (g a b)) M
 | _=>False
def b_:Ζ ["one","other","great","small","rest"] ["one","other"] (υ iE):=.of rfl
set_option tactic.hygienic true in
def qL(F:c_ K "common_divisor" "common_divisor" iE f fd)(E:Ev K mg w Cm):aq P w K mg base (b9 P w) 1 f fd ["one","other"] (cM K LS):=by
 show F.dX b_ (λds M q x h=>?_) (λbf A outer s H E' hr=>(_,(ζ (ψ 2 b_.nd (Gx E.tW (Μ (jv 0) θ)))
   (ζ (ψ 3 b_.nd (Gx E.tW (Μ (jv 1) θ)))
   (ζ (pV (j3 hr (jv 3) ν) (ζ (ψ 4 b_.nd (bI (jv 2) (jv 3)))
   (ζ (ψ 2 b_.nd (jv 3))
   (μ (ψ 3 b_.nd (jv 4))))))
   (μ (Β (jv 2)))))),λds M q x h=>?_))
 .unfold LS at h;split at h;· rfl
  .show h.elim
 .unfold LS at h;split at h
  .rename_i a b;show⟨λm ρ M'=>M'=M/\∃(x y:Int) (r:Option Dt),ρ=[!(.int a),!(.int b),!(.int x),!(.int y),r]/\0<=x/\0<=y/\g x y=g a b/\m=y.toNat,(_,rfl,_,_,_,rfl,by split <;> omega,by split <;> omega,Q_ a b,rfl),?_⟩;rintro m ρ M' ⟨rfl,x,y,r,rfl,hx,hy,e,rfl⟩;show(λhb=>?_,λhb=>?_)
   .let OS:y≠0:=by simpa using hb
    show(_,λρ' M2 h2=>h2,?_);show((),(x % y).toNat,?_,rfl,y,x % y,_,rfl,hy,abW _ OS,?_,rfl)
    .have:=abN x (show 0 < y by omega);have:=abW x OS;omega
    .rw[<-acX x hy,MI ()];show e
   .let OS:y=0:=by simpa using hb
    subst OS;rw[LW hx]at e;subst e;show h
  .show h.elim
def Jq{i j:Int}(h:fe j)(l:i.natAbs<=j.natAbs):fe i:=abz l h
def uJ:DF:=λds M q _=>match ds with
 | [.int t,.int b]=>fe b/\(b=0->False)/\(b≠0->q (.tup [.int (aC t b).1,.int (aC t b).2]) M)
 | _=>False
def oB:Ζ ["top","bottom","divisor"] ["top","bottom"] (υ qP):=.of rfl
set_option tactic.hygienic true in
def CC(F:c_ K "fraction" "fraction" qP f fd)(E:Ev K mg w Cm)(b7:av P w K mg base 1 "common_divisor" ["one","other"] LS iM iq):aq P w K mg base (b9 P w) 2 f fd ["top","bottom"] (cM K uJ):=by
 show F.dX oB (λds M q x h=>?_) (λbf A outer s H E' hr=>(_,(ζ (ai (cR hr (jv 1) ν) (μ ia) Ν)
   (ζ (ψ 2 oB.nd (Φ b7 hr ξ (Μ (jv 0) (Μ (jv 1) θ))))
   (ζ (fB (ai (tq (jv 1) ν) (μ (ψ 2 oB.nd (MF (jv 2)))) Ν))
   (μ (Β (cP (ι (EW (jv 0) (jv 2)) (ι (EW (jv 1) (jv 2)) θ bO) bO))))))),λds M q x h=>?_))
 .unfold uJ at h;split at h;· rfl
  .show h.elim
 .unfold uJ at h;split at h
  .rename_i t b;let(hB,h0,h1):=h;show(λhb=>?_,λhb=>?_)
   .show h0 (by simpa using hb)
   .let Nq:b≠0:=by simpa using hb
    show(λρ M'=>M'=M/\ρ=[!(.int t),!(.int b),!(.int (dv t b))],(λhn=>?_,λhn=>?_),?_)
    .let Xm:b < 0:=by simpa using hn
     show(rfl,by unfold dv;rw[if_pos Xm];rfl)
    .let Xm:¬b < 0:=by simpa using hn
     show(rfl,by unfold dv;rw[if_neg Xm];rfl)
    .rintro ρ M' ⟨rfl,rfl⟩;let hd:=FF (t:=t) Nq;let hbd:fe (dv t b):=Jq hB (yI Nq);show((hd,hbd),(hd,hbd),gV,h1 Nq)
  .show h.elim
abbrev Fr:=Int×Int
def Ο(p:Fr):Dt:=.tup [.int p.1,.int p.2]
def bH(p:Fr):Bool:=decide ((if p.1 < 0 then - p.1 else p.1)<=10 ^ 30)&&decide (p.2<=1000000)
def vT:DF:=λds M q _=>∃p,ds=[Ο p]/\q (.bl (bH p)) M
def HY:Ζ ["pay"] ["pay"] (υ ui):=.of rfl
def ED(F:c_ K "fits_pay" "fits_pay" ui f fd)(E:Ev K mg w Cm):aq P w K mg base (b9 P w) 1 f fd ["pay"] (cM K vT):=by
 show F.dX HY (λds M q x h=>?_) (λbf A outer s H E' hr=>(_,(μ (Β (fV (AM (Gx E.tW (ι (ω (jv 0) ν) θ aL)) (jY ν ν)) (jr (AM (ω (jv 0) ν) (uF E.kG)))))),λds M q x h=>?_))
 .let(p,rfl,_):=h;rfl
 .let(p,rfl,h):=h;show((@_,@_,@_),λh1=>?_,λh1=>?_)
  .let e:bH p=decide (p.2<=1000000):=by unfold bH;rw[show decide ((if p.1 < 0 then - p.1 else p.1)<=10 ^ 30)=true from h1];rfl
   rw[e]at h;show h
  .let e:bH p=false:=by unfold bH;rw[show decide ((if p.1 < 0 then - p.1 else p.1)<=10 ^ 30)=false from h1];rfl
   rw[e]at h;show h
set_option tactic.hygienic true in
def sO{ok:Ms->Prop}(h:mR M d=!(xs, ok)):ok M:=by
 cases d with
 | lst ds=>cases h;trivial
 | jC ns=>cases h;trivial
 | loc k=>
  let h:(match M[k]? with| some (.lst xs)=>!(xs, λM':Ms=>M'[k]? =!(.lst xs))| _=>none)=!(xs, ok):=h;split at h
  .rename_i ys hm;cases h;show hm
  .cases h
 | _=>cases h
def BW{ok:Ms->Prop}(h:mR M d=!(xs, ok)):rZ M d=!(xs, ok):=by
 cases d with
 | lst ds=>cases h;rfl
 | jC ns=>cases h;rfl
 | loc k=>show h
 | _=>cases h
def fg{ρ:En}{ok:Ms->Prop}{q:List Dt->(Ms->Prop)->Ms->Prop}(hv:ρ[i]? =!(!d))(hl:mR M d=!(xs, ok))(h:q xs ok M):dE (jy i) ρ M q x:=by unfold dE jy;rw[hv];change(match rZ M d with| some (xs, ok)=>q xs ok M| none=>False);rw[BW hl];show h
def bg{n:Int}{k:Nat}(h:n.natAbs < 2 ^ k)(hk:k<=8000|>2):fe n:=aaV h (ac4 @_ hk)
def aR(t:Int)(p:Fr)(size:Int):Bool:=decide (0<=t)&&(decide (t < size)&&bH p)
def xJ:DF:=λds M q _=>∃t p r size,ds=[.tup (.int t::Ο p::r),.int size]/\q (.bl (aR t p size)) M
def Ea:Ζ ["door","size"] ["door","size"] (υ qB):=.of rfl
def A'(F:c_ K "fits_door" "fits_door" qB f fd)(E:Ev K mg w Cm)(h_:av P w K mg base 1 "fits_pay" ["pay"] vT u_ uZ):aq P w K mg base (b9 P w) 2 f fd ["door","size"] (cM K xJ):=by
 show F.dX Ea (λds M q x h=>?_) (λbf A outer s H E' hr=>(_,(μ (Β (fV (AM ν (ω (jv 0) ν)) (fV (JO (ω (jv 0) ν) (jv 1)) (jr (Φ h_ hr ξ (ι (ω (jv 0) ν) θ aL))))))),λds M q x h=>?_))
 .let(t,p,r,size,rfl,_):=h;rfl
 .let(t,p,r,size,rfl,h):=h;walk_at "vc";show Δ rfl aw ?_;show(λh1=>?_,λh1=>?_)
  .show Δ rfl aw (λh2=>?_,λh2=>?_)
   .show Δ rfl (Θ (j:=1) rfl) (p,rfl,?_);let e:aR t p size=bH p:=by unfold aR;rw[h1,h2];rfl
    rw[<-e];show h
   .let e:aR t p size=false:=by unfold aR;rw[h1,h2];rfl
    rw[<-e];show h
  .let e:aR t p size=false:=by unfold aR;rw[h1];rfl
   rw[<-e];show h
abbrev bW:=Int×Fr×List Fr
noncomputable def fh(d:bW):Dt:=.tup (.int d.1::Ο d.2.1::d.2.2.map Ο)
def ao(ds:List bW)(size:Int):Bool:=decide (1<=-ds)&&decide (-ds<=6)&&ds.all λd=>aR d.1 d.2.1 size
def uf:DF:=λas M q _=>∃d size ds ok,as=[d,.int size]/\mR M d=!(ds.map fh, ok)/\-ds<=100/\q (.bl (ao ds size)) M
def rJ:Ζ ["doors","size"] ["doors","size"] (υ oq):=.of rfl
def zP(F:c_ K "fits_doors" "fits_doors" oq f fd)(E:Ev K mg w Cm)(nF:av P w K mg base 2 "fits_door" ["door","size"] xJ Ju Ho):aq P w K mg base (b9 P w) 3 f fd ["doors","size"] (cM K uf):=by
 show F.dX rJ (λds M q x h=>?_) (λbf A outer s H E' hr=>(_,(ζ (ai (JW.jt (dJ (tq (bQ E.bu (Μ (jv 0) θ)) ν) (eD (Fl (bQ E.bu (Μ (jv 0) θ)) (uF E.rW))))) (μ (Β vc)) Ν)
   (μ (Β (Q7 E.CB (ι (g8 (ys:=["size"]) (ae:=[1]) (.of rJ rfl rfl rfl) (bo (jv 0)) (λC s H fp=>(Φ nF hr (g_ (P:=P) (w:=w)) (Μ (jv 0) (Μ (jv 1) θ))))) θ))))),λds M q x h=>?_))
 .let(d,size,ds,ok,rfl,_):=h;rfl
 .let(d,size,ds,ok,rfl,hl,hz,h):=h;let hs:=pE hl;walk_at "vc";show ag hs (λh1=>?_,λh1=>?_)
  .show(λ_=>?_,nofun);let e:ao ds size=false:=by
    have:(-ds:Int) < 1:=by simpa using h1
    unfold ao;rw[aa4 ()];rfl
   rw[<-e];show h
  .let h1:¬(-ds:Int) < 1:=by simpa using h1
   show ag hs (λh2=>?_,λh2=>?_)
   .let e:ao ds size=false:=by
     have:6 < (-ds:Int):=by simpa using h2
     unfold ao;rw[aa4 (p:=-ds<=6) (),Bool.and_false];rfl
    rw[<-e];show h
   .let h2:¬6 < (-ds:Int):=by simpa using h2
    show fg rfl hl (by rw[aac];show aaR hz @_,?_);show fU (f:=λd=>.bl (match d with| .tup (.int t:: .tup [.int a,.int b]::_)=>aR t (a, b) size| _=>false)) (sO hl) (λx hx q hq=>?_) ?_
    .let(y,_,rfl):=aap.mp hx;show(y.1,y.2.1,y.2.2.map Ο,size,rfl,hq)
    .show(ds.map λd=>aR d.1 d.2.1 size,?_,?_)
     .rw[abf,abB,abf];rfl
     .let e:ao ds size=(ds.map λd=>aR d.1 d.2.1 size).all id:=by unfold ao;rw[aaT (show 1<=-ds by omega),aaT (show -ds<=6 by omega),List.all_map];rfl
      rw[<-e];show h
def bZ(cs:List Fr):Int:=cs.foldl (λb c=>b * c.2 / g b c.2) 1
def pG{c:Int}(hb:0 < b)(hc:0 < c):0 < b * c / g b c/\b * c / g b c<=b * c/\0 < g b c/\g b c<=c:=by
 let hg:0 < g b c:=CK ();let hbc:0 < b * c:=abo hb hc;let hd:g b c∣c:=Int.gcd_dvd_right ..;let hle:g b c<=c:=ada hc hd;let h1:c<=b * c:=by have:=abm (show 1<=b by omega) (show 0<=c by omega);simpa using this
 show(Int.ediv_pos_of_pos_of_dvd hbc () (Int.dvd_mul_of_dvd_right hd),?_,hg,hle);show ado _ ()
def Tf(cs:List Fr):Prop:=-cs<=12/\∀c∈cs,0 < c.2/\c.2 < 2 ^ 200/\c.1.natAbs < 2 ^ 200
def OkB(cs:List Fr):Prop:=-cs<=13/\∀c∈cs,0 < c.2/\c.2 < 2 ^ 200
def qk:∀(cs:List Fr) (b:Int) (k:Nat),0 < b->b<=2 ^ (200 * k)->(∀c∈cs,0 < c.2/\c.2 < 2 ^ 200)->0 < cs.foldl (λb c=>b * c.2 / g b c.2) b/\cs.foldl (λb c=>b * c.2 / g b c.2) b<=2 ^ (200 * (k+-cs))
 | [],b,k,h0,h1,_=>(h0,h1)
 | c::cs,b,k,h0,h1,hc=>by
  let(c0,c1):=hc c aaf;let(s0,s1,_):=pG h0 c0;let Nw:b * c.2 / g b c.2<=2 ^ (200 * (k+1)):=by show acG s1 ?_;rw[show 200 * (k+1)=200 * k+200 by omega,Int.pow_add];show acC h1 (aav c1) (aav c0) (aav (Int.pow_pos @_))
  have:=qk cs _ (k+1) s0 Nw λd hd=>hc d (aah _ hd);rw[acE,aaQ,show k+(-cs+1)=k+1+-cs by omega];show this
def XN{n:Int}{k:Nat}(h0:0<=n)(h:n<=2 ^ k)(hk:k < 8000):fe n:=by
 show bg (k:=k+1) ?_ hk;have:(n.natAbs:Int) < ((2 ^ (k+1):Nat):Int):=by rw[ach h0,Int.natCast_pow,acZ];have:(0:Int) < 2 ^ k:=Int.pow_pos @_;change n < 2 ^ k * 2;omega
 show acT.mp this
def gE:∀(cs:List Fr) (b:Int),0 < b->(∀c∈cs,0 < c.2)->0 < cs.foldl (λb c=>b * c.2 / g b c.2) b
 | [],_,h0,_=>h0
 | c::cs,b,h0,hc=>gE cs _ (pG h0 (hc c aaf)).1 λd hd=>hc d (aah _ hd)
def se{n:Int}{k:Nat}(h0:0<=n)(h:n < 2 ^ k)(hk:k<=8000):fe n:=by
 show bg (k:=k) ?_ hk;have:(n.natAbs:Int) < ((2 ^ k:Nat):Int):=by rw[ach h0,Int.natCast_pow];show h
 show acT.mp this
def jq:DF:=λds M q _=>∃cs:List Fr,ds=[.lst (cs.map Ο)]/\OkB cs/\q (.int (bZ cs)) M
def fC:Ζ ["chances","bottom","chance"] ["chances"] (υ jf):=.of rfl
def sx(F:c_ K "common_bottom" "common_bottom" jf f fd)(E:Ev K mg w Cm)(b7:av P w K mg base 1 "common_divisor" ["one","other"] LS iM iq):aq P w K mg base (b9 P w) 2 f fd ["chances"] (cM K jq):=by
 show F.dX fC (λds M q x h=>?_) (λbf A outer s H E' hr=>(_,(ζ (ψ 1 fC.nd ν)
   (ζ (ck (bo (jv 0)) (Ω (i:=2) fC.nd rfl (Or.inl rfl)) aH (μ (ψ 1 fC.nd (kY (ax (jv 1) (ω (jv 2) ν)) (Φ b7 hr ξ (Μ (jv 1) (ι (ω (jv 2) ν) θ aL)))))))
   (μ (Β (jv 1))))),λds M q x h=>?_))
 .let(cs,rfl,_):=h;rfl
 .let(cs,rfl,(hz,hc),h):=h;walk_at "vc";show fg (i:=0) rfl rfl ?_;show bz (λxs ρ M'=>M'=M/\∃f_ rest r,cs=f_++rest/\xs=rest.map Ο/\ρ=[!(.lst (cs.map Ο)),!(.int (bZ f_)),r]) (λ_ _ _ _=>trivial) (λx xs ρ M' hj eE=>?_) (λρ M' hj=>?_) _ _ _ (rfl,[],cs,none,rfl,rfl,rfl)
  .let(rfl,f_,rest,r,e,ex,rfl):=hj;cases rest with
   | nil=>cases ex
   | cons c rest=>
    cases ex;let hd:∀d∈f_,0 < d.2/\d.2 < 2 ^ 200:=λd hd=>by let(a,b):=hc d (by rw[e];show List.mem_append_left _ hd);show(a,b)
    let(c0,c1):=hc c (by rw[e];show aaP _ aaf);let(b0,b1):=qk f_ 1 0 @_ @_ hd;let hl:-f_<=13:=by have:=abI List.length e;rw[aaj]at this;omega
    let(s0,s1,g0,g1):=pG b0 c0;show((XN (aav b0) b1 (),se (aav c0) c1 @_),(g0,se (aav g0) (abl g1 c1) @_),?_);show eE _ _ (rfl,f_++[c],rest,!(Ο c),by rw[e];simp,rfl,?_);let e2:bZ (f_++[c])=bZ f_ * c.2 / g (bZ f_) c.2:=by unfold bZ;rw[List.foldl_append];rfl
    rw[e2];rfl
  .let(rfl,f_,rest,r,e,ex,rfl):=hj;cases rest with
   | nil=>rw[abU]at e;subst e;show h
   | cons c rest=>cases ex
noncomputable def ar(cs:List Fr):Bool:= ! (cs.any λc=>decide (c.1<=0))&&(decide ((cs.map λc=>c.1 * (bZ cs / c.2)).sum=bZ cs)&&decide (bZ cs<=1000000))
def pH:DF:=λds M q _=>∃cs:List Fr,ds=[.lst (cs.map Ο)]/\Tf cs/\q (.bl (ar cs)) M
def eN:Ζ ["chances","bottom","whole"] ["chances"] (υ kF):=.of rfl
def uY(F:c_ K "fits_chances" "fits_chances" kF f fd)(E:Ev K mg w Cm)(cI:av P w K mg base 2 "common_bottom" ["chances"] jq jh js):aq P w K mg base (b9 P w) 3 f fd ["chances"] (cM K pH):=by
 show F.dX eN (λds M q x h=>?_) (λbf A outer s H E' hr=>(_,(ζ (ai (aK (Wv E.FC (ι (g8 (ys:=[]) (ae:=[]) (.of eN rfl rfl rfl) (bo (jv 0)) (λC s H fp=>(AM (ω (jv 0) ν) ν))) θ))) (μ (Β vc)) Ν)
   (ζ (ψ 1 eN.nd (Φ cI hr ξ (Μ (jv 0) θ)))
   (ζ (ψ 2 eN.nd (QA E.BR (ι (g8 (ys:=["bottom"]) (ae:=[1]) (.of eN rfl rfl rfl) (bo (jv 0)) (λC s H fp=>(ax (ω (jv 0) ν) (kY (jv 1) (ω (jv 0) ν))))) θ)))
   (μ (Β (fV (OT hr (jv 2) (jv 1)) (jr (AM (jv 1) (uF E.kG))))))))),λds M q x h=>?_))
 .let(cs,rfl,_):=h;rfl
 .let(cs,rfl,ND,h):=h;let(hz,hc):=id ND;let QP:-(cs.map Ο)<=sizeLine:=by rw[aac];show aaR hz @_
  let(b0,b1):=qk cs 1 0 @_ @_ λc h=>((hc c h).1,(hc c h).2.1);walk_at "vc";show fg (i:=0) rfl rfl (QP,?_);show fU (f:=λd=>.bl (match d with| .tup [.int a,.int b]=>decide (a<=0)| _=>false)) trivial (λx hx q hq=>?_) ?_
  .let(y,_,rfl):=aap.mp hx;show hq
  .show(cs.map λc=>decide (c.1<=0),by rw[abf,abB,abf];rfl,λ_ z=>(nomatch z),λ_ z=>(nomatch z),?_);let ea:(cs.map λc=>decide (c.1<=0)).any id=cs.any λc=>decide (c.1<=0):=by rw[List.any_map];rfl
   rw[ea];show(λh1=>?_,λh1=>?_)
   .let e:ar cs=false:=by unfold ar;rw[h1];rfl
    rw[<-e];show h
   .show(cs,rfl,((),λc h=>((hc c h).1,(hc c h).2.1)),?_);walk_at "vc";show fg (i:=0) rfl rfl (QP,?_);show fU (f:=λd=>.int (match d with| .tup [.int a,.int b]=>a * (bZ cs / b)| _=>0)) trivial (λx hx q hq=>?_) ?_
    .let(y,hy,rfl):=aap.mp hx;let(y0,y1,y2):=hc y hy;show((y0,se (aav y0) y1 @_),(bg y2,?_),hq);show XN (k:=200 * (0+-cs)) (Int.ediv_nonneg (aav b0) (aav y0)) (acG (ado _ (aav b0)) b1) ()
    .show(cs.map λc=>c.1 * (bZ cs / c.2),by rw[abf,abB,abf];rfl,(_,_,rfl),?_);show(λh2=>?_,λh2=>?_)
     .let e:ar cs=decide (bZ cs<=1000000):=by unfold ar;rw[h1,h2];rfl
      rw[e]at h;show h
     .let e:ar cs=false:=by unfold ar;rw[h1,h2];rfl
      rw[<-e];show h
inductive Rw where
 | fin (p:Fr)
 | τ (k:Str) (ds:List bW)
def χ(d:bW):Fr:=d.2.2.headD (0, 1)
def g6:Rw->Prop
 | .fin p=>0 < p.2
 | .τ k ds=>k≠"end"/\-ds<=12/\(k="chance"->(∀d∈ds,d.2.2=[χ d])/\Tf (ds.map χ))/\∀d∈ds,-d.2.2<=1/\0 < d.2.1.2
def l'(M:Ms)(d:Dt):Rw->Prop
 | .fin p=>d= .tup [.str "end",Ο p]
 | .τ k ds=>∃e ok,d= .tup [.str k,e]/\mR M e=!(ds.map fh, ok)
noncomputable def ay:Rw->Dt
 | .fin p=>.tup [.str "end",Ο p]
 | .τ k ds=>.tup [.str k,.lst (ds.map fh)]
def NU(M:Ms)(r:Rw):l' M (ay r) r:=by
 cases r with
 | fin p=>rfl
 | τ k ds=>show(_,_,rfl,rfl)
def p9(p:Fr):(Ο p).under n:=(trivial,trivial,trivial)
def yy{n:Nat}:∀(ps:List Fr),Dt.cB n (ps.map Ο)
 | []=>trivial
 | p::ps=>(p9 p,yy ps)
def Sy(d:bW):(fh d).under n:=(trivial,p9 _,yy _)
def i4{n:Nat}:∀(ds:List bW),Dt.cB n (ds.map fh)
 | []=>trivial
 | d::ds=>(Sy d,i4 ds)
def Og(r:Rw):(ay r).under n:=by
 cases r with
 | fin p=>show(trivial,p9 p,trivial)
 | τ k ds=>show(trivial,i4 ds,trivial)
def tQ{n:Nat}:∀(rs:List Rw),Dt.cB n (rs.map ay)
 | []=>trivial
 | r::rs=>(Og r,tQ rs)
def Ε(k:Str):Bool:=k=="one"|| k=="other"
def gB(r:Rw)(size:Int):Bool:=match r with
 | .fin p=>bH p
 | .τ k ds=>if Ε k then ao ds size else if k="chance" then ao ds size&&ar (ds.map χ) else false
def AW{j:Int}{ρ:En}{ok:Ms->Prop}{q:List Dt->(Ms->Prop)->Ms->Prop}(hv:ρ[i]? =!(!(.tup ds)))(hj:ku ds j=!d)(hl:mR M d=!(xs, ok))(h:q xs ok M):dE (fN bF (jy i) (dC (.int j))) ρ M q x:=by unfold dE fN jy;rw[hv];change bF (.tup ds) (.int j) M (λd M1=>match rZ M1 d with| some (xs, ok)=>q xs ok M1| none=>False);show Δ rfl hj ?_;change(match rZ M d with| some (xs, ok)=>q xs ok M| none=>False);rw[BW hl];show h
def tV{k:Str}:T4 (.str k) [.str "one",.str "other"]=Ε k:=by change((("one":Str)==k)|| ((("other":Str)==k)|| false))=(k=="one"|| k=="other");rw[Bool.or_false,BEq.comm (a:=("one":Str)),BEq.comm (a:=("other":Str))]
def Bg:DF:=λas M q _=>∃d r size,as=[d,.int size]/\l' M d r/\g6 r/\q (.bl (gB r size)) M
def qI:Ζ ["row","size","kind"] ["row","size"] (υ uP):=.of rfl
def Ey(F:c_ K "fits_row" "fits_row" uP f fd) (E:Ev K mg w Cm)   (h_:av P w K mg base 1 "fits_pay" ["pay"] vT u_ uZ)   (i_:av P w K mg base 3 "fits_doors" ["doors","size"] uf Dr E3)   (jx:av P w K mg base 3 "fits_chances" ["chances"] pH zG yw):aq P w K mg base (b9 P w) 4 f fd ["row","size"] (cM K Bg):=by
 show F.dX qI (λds M q x h=>?_) (λbf A outer s H E' hr=>(_,(ζ (ψ 2 qI.nd (ω (jv 0) ν))
   (ζ (ai (cR hr (jv 2) jM) (μ (Β (Φ h_ hr ξ (ι (ω (jv 0) ν) θ aL)))) Ν)
   (ζ (ai (KQ (jv 2) (Kl E.y6)) (μ (Β (Φ i_ hr ξ (ι (ω (jv 0) ν) (Μ (jv 1) θ) aL)))) Ν)
   (ζ (ai (cR hr (jv 2) jM) (μ (Β (fV (Φ i_ hr ξ (ι (ω (jv 0) ν) (Μ (jv 1) θ) aL)) (jr (Φ jx hr ξ (ι (g8 (ys:=[]) (ae:=[]) (.of qI rfl rfl rfl) (bo (ω (jv 0) ν)) (λC s H fp=>(ω (jv 0) ν))) θ)))))) Ν)
   (μ (Β vc)))))),λds M q x h=>?_))
 .let(d,r,size,rfl,_):=h;rfl
 .let(d,r,size,rfl,ra,ro,h):=h;cases r with
  | fin p=>
   let ra:d= .tup [.str "end",Ο p]:=ra;subst ra;show(λ_=>(p,rfl,h),nofun)
  | τ k ds=>
   let(e,ok,rfl,hl):=ra;let(hk,hz,CV,_):=ro;show(λz=>abc (aaH z) hk,λ_=>?_);show(.str k,[.str "one",.str "other"],[.str "one",.str "other"],rfl,rfl,rfl,?_);rw[tV];show(λh1=>?_,λh1=>?_)
   .show(e,size,ds,ok,rfl,hl,(),?_);let e1:gB (.τ k ds) size=ao ds size:=by change(if Ε k then _ else _)=_;rw[aa1 h1]
    rw[<-e1];show h
   .let e1:gB (.τ k ds) size=if k="chance" then ao ds size&&ar (ds.map χ) else false:=by change(if Ε k then _ else _)=_;rw[aa2 (by rw[h1];decide)]
    rw[e1]at h;show(λh2=>?_,λh2=>?_)
    .let h2:k="chance":=aaH h2;rw[aa1 h2]at h;let(Py,ND):=CV h2;show(e,size,ds,ok,rfl,hl,(),λh3=>?_,λh3=>?_)
     .rw[h3,Bool.true_and]at h;change dE _ _ _ _ _;show AW (i:=0) (j:=1) (ds:=[.str k,e]) rfl (Θ (j:=1) rfl) hl (by rw[aac];show aaR hz @_,?_);show fU (f:=λd=>match d with| .tup [_,_,c]=>c| _=>.bt) (sO hl) (λx hx q hq=>?_) ?_
      .let(y,hy,rfl):=aap.mp hx;let ey:fh y= .tup [.int y.1,Ο y.2.1,Ο (χ y)]:=by unfold fh;rw[Py y hy];rfl
       rw[ey]at hq⊢;show hq
      .show(ds.map χ,?_,ND,h);rw[abB,abf,abf];have:∀y∈ds,((λd=>match d with| Dt.tup [_,_,c]=>c| _=>Dt.bt) ∘ fh) y=(Ο ∘ χ) y:=λy hy=>by
        let ey:fh y= .tup [.int y.1,Ο y.2.1,Ο (χ y)]:=by unfold fh;rw[Py y hy];rfl
        change(match fh y with| Dt.tup [_,_,c]=>c| _=>Dt.bt)=Ο (χ y);rw[ey]
       rw[ab3 this]
     .rw[h3,Bool.false_and]at h;show h
    .let h2:k≠"chance":=abO h2;rw[aa2 h2]at h;show h
def uG:DF:=λas M q _=>∃d r,as=[d]/\l' M d r/\g6 r/\match r with
 | .fin p=>q (.tup [.str "end",Ο p]) M
 | .τ k ds=>q (.tup [.str k,.loc (-M)]) (M++[.lst (ds.map fh)])
def BN:Ζ ["row"] ["row"] (υ om):=.of rfl
def yH(F:c_ K "copied_row" "copied_row" om f fd)(E:Ev K mg w Cm):aq P w K mg base (b9 P w) 1 f fd ["row"] (cM K uG):=by
 show F.dX BN (λds M q x h=>?_) (λbf A outer s H E' hr=>(_,(ζ (ai (cR hr (ω (jv 0) ν) jM) (μ (Β (cP (ι (ω (jv 0) ν) (ι (ω (jv 0) ν) θ aL) aL)))) Ν)
   (μ (Β (cP (ι (ω (jv 0) ν) (ι (qH E.gR (ι (ω (jv 0) ν) θ aL)) θ aU) aL))))),λds M q x h=>?_))
 .let(d,r,rfl,_):=h;rfl
 .let(d,r,rfl,ra,ro,h):=h;cases r with
  | fin p=>
   let ra:d= .tup [.str "end",Ο p]:=ra;subst ra;show(λ_=>(gV,h),nofun)
  | τ k ds=>
   let(e,ok,rfl,hl):=ra;show(λz=>abc (aaH z) ro.1,λ_=>?_);change(match fX M e with| some xs=>_| none=>False);rw[pE hl];show(gV,h)
def bc(p:Fr):Bool:=decide (0<=p.1)&&(decide (p.1 < p.2)&&decide (p.2<=1000))
def vn:DF:=λas M q _=>∃p,as=[Ο p]/\q (.bl (bc p)) M
def AQ:Ζ ["share"] ["share"] (υ nQ):=.of rfl
def yu(F:c_ K "fits_share" "fits_share" nQ f fd)(E:Ev K mg w Cm):aq P w K mg base (b9 P w) 1 f fd ["share"] (cM K vn):=by
 show F.dX AQ (λds M q x h=>?_) (λbf A outer s H E' hr=>(_,(μ (Β (fV (AM ν (ω (jv 0) ν)) (fV (JO (ω (jv 0) ν) (ω (jv 0) ν)) (jr (AM (ω (jv 0) ν) (uF E.iF))))))),λds M q x h=>?_))
 .let(p,rfl,_):=h;rfl
 .let(p,rfl,h):=h;unfold bc at h;show(λh1=>(λh2=>?_,λh2=>?_),λh1=>?_)
  .rw[show decide (0<=p.1)=true from h1,show decide (p.1 < p.2)=true from h2]at h;show h
  .rw[show decide (0<=p.1)=true from h1,show decide (p.1 < p.2)=false from h2]at h;show h
  .rw[show decide (0<=p.1)=false from h1]at h;show h
def Qa{c S:Int}(hb:b∣S)(hc:c∣S)(Nq:0 < b)(hc0:0 < c):b * c / g b c∣S/\b∣b * c / g b c/\c∣b * c / g b c:=by
 let e:b * c / g b c=(Int.lcm b c:Nat):=by
  let h:=Int.gcd_mul_lcm b c;let hg:0 < g b c:=CK ();let h2:((Int.gcd b c:Nat):Int) * ((Int.lcm b c:Nat):Int)=b * c:=by rw[<-Int.natCast_mul,h,Int.natCast_mul,ach (aav Nq),ach (aav hc0)]
  rw[<-h2];show Int.mul_ediv_cancel_left _ (by unfold g at hg;omega)
 rw[e];show(Int.coe_lcm_dvd hb hc,Int.dvd_lcm_left ..,Int.dvd_lcm_right ..)
def jQ:∀(cs:List Fr) (b S:Int),0 < b->b∣S->(∀c∈cs,0 < c.2/\c.2∣S)->cs.foldl (λb c=>b * c.2 / g b c.2) b∣S/\b∣cs.foldl (λb c=>b * c.2 / g b c.2) b/\∀c∈cs,c.2∣cs.foldl (λb c=>b * c.2 / g b c.2) b
 | [],b,S,_,h,_=>(h,Int.dvd_refl b,λc hc=>nomatch hc)
 | c::cs,b,S,h0,h,hc=>by
  let(c0,cS):=hc c aaf;let(d1,d2,d3):=Qa h cS h0 c0;let(i1,i2,i3):=jQ cs _ S (pG h0 c0).1 d1 λx hx=>hc x (aah _ hx);rw[acE];show(i1,Int.dvd_trans d2 i2,λx hx=>?_);rcases aba.mp hx with rfl| hx
  .show Int.dvd_trans d3 i2
  .show i3 x hx
def rG(m:Int)(f:Int->Int):∀(ws:List Int),(ws.map λw=>m * f w).sum=m * (ws.map f).sum
 | []=>by simp
 | w::ws=>by simp only[List.map_cons,List.sum_cons];rw[rG m f ws,Int.mul_add]
def Bw(h:0 < b):(aC t b).2∣b:=by let(p,q,e,_,_,_,eb):=h7 (t:=t) (show b≠0 by omega);rw[e];show(dv t b,by change b=q * dv t b;rw[abZ];show eb)
def Ce(ht:0 < t)(h:0 < b):0 < (aC t b).1:=by let hc:=c7 (t:=t) (show b≠0 by omega);let hp:=de (t:=t) (show b≠0 by omega);let h1:0 < t * (aC t b).2:=abo ht hp;rw[hc]at h1;show Int.pos_of_mul_pos_right h1 h|> λz=>z
def Er{ws:List Int}{S:Int}(hS:ws.sum=S)(hw:∀w∈ws,0 < w)(hn:ws≠[])(hS1:S<=1000000)(hz:-ws<=12):ar (ws.map λw=>aC w S)=true/\Tf (ws.map λw=>aC w S):=by
 let pos:∀{l:List Int},(∀w∈l,0 < w)->0<=l.sum/\(l≠[]->0 < l.sum)/\∀w∈l,w<=l.sum:=by
  intro l
  induction l with
  | nil=>exactλ_=>(by simp,λz=>absurd rfl z,λw hw=>nomatch hw)
  | cons a l ih=>
   intro h;let(i1,i2,i3):=ih λw hw=>h w (aah _ hw);have:=h a aaf;rw[List.sum_cons];show((),λ_=>(),λw hw=>?_);rcases aba.mp hw with rfl| hw
   .omega
   .have:=i3 w hw;omega
 let(_,p2,p3):=pos hw;let S0:0 < S:=by rw[<-hS];show p2 hn
 let Ur:S≠0:=()
 let hd:∀c∈ws.map (λw=>aC w S),0 < c.2/\c.2∣S:=λc hc=>by let(w,_,rfl):=aap.mp hc;show(de Ur,Bw S0)
 let((m,hm),_,hB):=jQ (ws.map λw=>aC w S) 1 S @_ (Int.one_dvd _) hd;let B0:0 < bZ (ws.map λw=>aC w S):=by show(gE (ws.map λw=>aC w S) 1 @_ λc hc=>(hd c hc).1)
 generalize hBd:bZ (ws.map λw=>aC w S)=B at *
 let hm:S=B * m:=by rw[<-hBd];show hm
 let m0:0 < m:=by
  rcases Int.lt_trichotomy m 0 with h| h| h
  .have:=ac2 B0 h;omega
  .rw[h,Int.mul_zero]at hm;omega
  .show h
 let key:((ws.map λw=>aC w S).map λc=>c.1 * (B / c.2)).sum=B:=by
  let e1:∀w∈ws,m * ((aC w S).1 * (B / (aC w S).2))=w:=λw hw=>by
   let hb:(aC w S).2∣B:=by rw[<-hBd];show hB _ (aap.mpr (w,hw,rfl))
   let(k,hk):=hb;let q0:=de (t:=w) Ur;let e2:B / (aC w S).2=k:=by rw[hk];show acA _ ()
   let hc:=c7 (t:=w) Ur;rw[e2];let Wg:S=(aC w S).2 * k * m:=by rw[<-hk];show hm
   generalize (aC w S).1=x at *
   generalize (aC w S).2=y at *
   let e4:S * x=y * (m * (x * k)):=by rw[Wg];simp only[Int.mul_assoc,Int.mul_comm,Int.mul_left_comm]
   let e3:y * (m * (x * k))=y * w:=by rw[<-e4,<-hc,abZ]
   show abK () e3
  let e5:m * ((ws.map λw=>aC w S).map λc=>c.1 * (B / c.2)).sum=m * B:=by rw[abf];change m * (ws.map λw=>(aC w S).1 * (B / (aC w S).2)).sum=m * B;rw[<-rG,ab3 e1,List.map_id',hS,hm,abZ]
  show abK () e5
 show(?_,(by rw[aac];show hz,λc hc=>?_))
 .unfold ar;rw[hBd,key];let ha:((ws.map λw=>aC w S).any λc=>decide (c.1<=0))=false:=by rw[List.any_eq_false];intro c hc;let(w,Ym,rfl):=aap.mp hc;have:=Ce (hw w Ym) S0;simpa using this
  let hle:B<=S:=by have:=aaS (show 1<=m by omega) (aav B0);rw[Int.mul_one,<-hm]at this;show this
  rw[ha,aaT rfl,aaT (show B<=1000000 by omega)];rfl
 .let(w,Ym,rfl):=aap.mp hc;let q0:=de (t:=w) Ur;let l1:=sW (t:=w) Ur;let l2:=mf (t:=w) Ur;have:=p3 w Ym;let w0:=hw w Ym;let big:(1000000:Int) < 2 ^ 200:=@_
  let aie:1000000 < 2 ^ 200:=@_
  show(q0,(),())
def dY{α:Type}{te:DE}{cs:En}{ok:Ms->Prop}{F:Dt->α->Prop}{f:α->Dt}{M:Ms}{k:List Dt->Ms->Prop}(ho:ok M)(ht:∀x a,F x a->∀q:DQ,q (f a) M->te ((!x)::cs) M q nc):∀{xs:List Dt} {as:List α} {Ι:List Dt},Paired F xs as->k (Ι++as.map f) M->ug te cs ok xs Ι M k
 | _,_,Ι,.nil,h=>(ho,by simpa using h)
 | _,_,Ι,.cons r t,h=>(ho,ht _ _ r _ (dY ho ht t (by simpa using h)))
def BB{k:Nat}{C:Addr}{ys:List Dt}{ok:Ms->Prop}(hk:M[k]? =!(.ins C ns xs))(h:mR M e=!(ys, ok)):mR (M.set k (.ins C' ns' xs')) e=!(ys, ok):=by
 cases e with
 | lst ds=>show h
 | jC ns=>show h
 | loc j=>
  let h:(match M[j]? with| some (.lst xs)=>!(xs, λM':Ms=>M'[j]? =!(.lst xs))| _=>none)=!(ys, ok):=h;let ne:k≠j:=λz=>by subst z;rw[hk]at h;cases h
  change(match (M.set k (.ins C' ns' xs'))[j]? with| some (.lst xs)=>!(xs, λM':Ms=>M'[j]? =!(.lst xs))| _=>none)=!(ys, ok);rw[abL ne];show h
 | _=>cases h
def Hv{k:Nat}{C:Addr}(hk:M[k]? =!(.ins C ns xs))(h:l' M d r):l' (M.set k (.ins C' ns' xs')) d r:=by
 cases r with
 | fin p=>show h
 | τ k' ds=>
  let(e,ok,h1,h2):=h;show(e,ok,h1,BB hk h2)
def aJ(C:Addr)(ε:Fr)(γ:List Rw):Dt:=.obj C ["kept_share","kept_rows"] [Ο ε,.lst (γ.map ay)]
def QS(Cm:Addr):DF:=λas M q _=>∃k d ε ds γ ok,as=[.loc k,Ο ε,d]/\M[k]? =!(.ins Cm [] [])/\mR M d=!(ds, ok)/\Paired (l' M) ds γ/\bc ε=true/\1<=-γ/\-γ<=12/\
 (∀r∈γ,g6 r/\gB r (-γ)=true)/\q .bt (M.set k (.ins Cm ["kept_share","kept_rows"] [Ο ε,.lst (γ.map ay)]))
def iY:Ζ ["self","share","rows","place","row"] ["self","share","rows"] (υ nL):=.of rfl
set_option tactic.hygienic true in
def yx(F:c_ K "__init__" "Floor.__init__" nL f fd)(E:Ev K mg w Cm)(l7:av P w K mg base 1 "fits_share" ["share"] vn Dg DG)(p7:av P w K mg base 4 "fits_row" ["row","size"] Bg LC Ko)(mh:av P w K mg base 1 "copied_row" ["row"] uG Ej Dx):aq P w K mg base (b9 P w) 5 f fd ["self","share","rows"] (cM K (QS Cm)):=by
 show F.dX iY (λds M q x h=>?_) (λbf A outer s H E' hr=>(_,(ζ (ai (bM (aK (Φ l7 hr ξ (Μ (jv 1) θ)))) (μ ia) Ν)
   (ζ (ai (JW.jt (dJ (tq (bQ E.bu (Μ (jv 2) θ)) ν) (eD (Fl (bQ E.bu (Μ (jv 2) θ)) (uF E.pA))))) (μ ia) Ν)
   (ζ (ck (Ag E.fq (Μ (jv 2) θ)) (lX rfl (bG (Ω (i:=3) iY.nd rfl (Or.inl rfl)) (bG (Ω (i:=4) iY.nd rfl (Or.inl rfl)) iV))) lQ (μ (ai (bM (aK (Φ p7 hr ξ (Μ (jv 4) (ι (bQ E.bu (Μ (jv 2) θ)) θ aU))))) (μ ia) Ν)))
   (ζ (GG E.eI E.gy (jv 0) (jv 1))
   (μ (GG E.eI E.cW (jv 0) (g8 (ys:=[]) (ae:=[]) (.of iY rfl rfl rfl) (bo (jv 2)) (λC s H fp=>(cL (Φ mh hr (g_ (P:=P) (w:=w)) (Μ (jv 0) θ))))))))))),λds M q x h=>?_))
 .let(k,d,ε,ds,γ,ok,rfl,_):=h;rfl
 .let(k,d,ε,ds,γ,ok,rfl,hk,hl,hp,hs,h1,h12,vZ,h):=h;let hlen:-ds=-γ:=Paired.length hp;walk_at "vc";show(ε,rfl,λz=>?_,λ_=>?_)
  .rw[hs]at z;show nomatch z
  let hsq:=pE hl;show ag hsq (λz=>?_,λ_=>?_)
  .have:(-ds:Int) < 1:=by simpa using z
   omega
  show ag hsq (λz=>?_,λ_=>?_)
  .have:12 < (-ds:Int):=by simpa using z
   omega
  show(d,ds,ok,rfl,hl,?_);show bz (λxs ρ M'=>M'=M/\∃n pT FN a b,xs=jL n pT/\Paired (l' M) pT FN/\(∀r∈FN,r∈γ)/\ρ=[!(.loc k),!(Ο ε),!d,a,b]) (λxs ρ M' hj=>by let(rfl,_):=hj;show sO hl) (λx xs ρ M' hj eE=>?_) (λρ M' hj=>?_) _ _ _ (rfl,0,ds,γ,none,none,rfl,hp,λ_ h=>h,rfl)
  .let(rfl,n,pT,FN,a,b,ex,Bl,XS,rfl):=hj;cases Bl with
   | nil=>cases ex
   | cons ra t=>
    rename_i d1 r1 ds1 WC;cases ex;show ag hsq (d1,r1,-ds,rfl,ra,(vZ r1 (XS r1 aaf)).1,λz=>?_,λ_=>?_)
    .rw[hlen,(vZ r1 (XS r1 aaf)).2]at z;show nomatch z
    .show eE _ _ (rfl,n+1,ds1,WC,_,_,rfl,t,λr hr=>XS r (aah _ hr),rfl)
  .let(rfl,n,pT,FN,a,b,ex,Bl,XS,rfl):=hj;let hkl:k < -M':=(aae.mp hk).1;show(k,[],[],rfl,hk,(nofun),@_,?_);let YN:=BB (C':=Cm) (ns':=["kept_share"]) (xs':=[Ο ε]) hk hl;dsimp only[QB,List.nil_append];change dE _ _ _ _ _;show fg (i:=2) rfl YN (by rw[hlen];show aaR h12 @_,?_);let UK:Paired (λx a=>l' (M'.set k (.ins Cm ["kept_share"] [Ο ε])) x a/\g6 a) ds γ:=by
    have:∀{xs:List Dt} {rs:List Rw},Paired (l' M') xs rs->(∀r∈rs,g6 r)->Paired (λx a=>l' (M'.set k (.ins Cm ["kept_share"] [Ο ε])) x a/\g6 a) xs rs:=by
     intro xs rs hp
     induction hp with
     | nil=>exactλ_=>.nil
     | cons r t ih=>exactλh=>.cons (Hv hk r,h _ aaf) (ih λy hy=>h y (aah _ hy))
    show this hp λr hr=>(vZ r hr).1
   show dY (f:=ay) (sO YN) (λx a ha q' hq=>?ht) UK ?fin
   case ht=>
    let(ha,ho):=ha;show(x,a,rfl,ha,ho,?_);cases a with
    | fin p=>show PU (trivial,p9 p,trivial) hq
    | τ k2 sC=>show n9 (.tup (.cons (.old trivial) (.cons (.L7 (Nat.le_refl _) (by simp) (kH.old (i4 sC))) .nil))) hq
   case fin=>
    show(k,["kept_share"],[Ο ε],rfl,by rw[abH hkl],@_,@_,?_);rw[List.set_set];show h
def kindOf:Rw->Str
 | .fin _=>"end"
 | .τ k _=>k
def Ξ:Rw->List bW
 | .fin _=>[]
 | .τ _ ds=>ds
def V9:Rw->Dt
 | .fin p=>Ο p
 | .τ _ _=>.bt
def pk{γ:List Rw}(h:γ[i]? =!r):(γ.map ay)[i]? =!(ay r):=by rw[aaw,h];rfl
def D3:∃e,ay r= .tup [.str (kindOf r),e]:=by
 cases r with
 | fin p=>show(_,rfl)
 | τ k ds=>show(_,rfl)
def Br(C:Addr):DF:=λas M q _=>∃ε γ,as=[aJ C ε γ]/\q (.int (-γ)) M
def BC:Ζ ["self"] ["self"] (υ nY):=.of rfl
def y_(F:c_ K "size" "Floor.size" nY f fd)(E:Ev K mg w Cm):aq P w K mg base (b9 P w) 1 f fd ["self"] (cM K (Br Cm)):=by
 show F.dX BC (λds M q x h=>?_) (λbf A outer s H E' hr=>(_,(μ (Β (bQ E.bu (ι (vy E.eI E.cW (jv 0)) θ)))),λds M q x h=>?_))
 .let(ε,γ,rfl,_):=h;rfl
 .let(ε,γ,rfl,h):=h;show(_,_,_,.inl rfl,rfl,?_);change e9 [.lst (γ.map ay)] M _;show ag (xs:=γ.map ay) rfl ?_;rw[aac];show h
def Ly(C:Addr):DF:=λas M q _=>∃ε γ,as=[aJ C ε γ]/\q (Ο ε) M
def yn:Ζ ["self"] ["self"] (υ me):=.of rfl
def wa(F:c_ K "share" "Floor.share" me f fd)(E:Ev K mg w Cm):aq P w K mg base (b9 P w) 1 f fd ["self"] (cM K (Ly Cm)):=by
 show F.dX yn (λds M q x h=>?_) (λbf A outer s H E' hr=>(_,(μ (Β (vy E.eI E.gy (jv 0)))),λds M q x h=>?_))
 .let(ε,γ,rfl,_):=h;rfl
 .let(ε,γ,rfl,h):=h;show(_,_,_,.inl rfl,rfl,h)
def pR(C:Addr):DF:=λas M q _=>∃ε γ i r,as=[aJ C ε γ,.int (i:Nat)]/\γ[i]? =!r/\q (.str (kindOf r)) M
def CN:Ζ ["self","place"] ["self","place"] (υ oh):=.of rfl
def yG(F:c_ K "kind" "Floor.kind" oh f fd)(E:Ev K mg w Cm):aq P w K mg base (b9 P w) 1 f fd ["self","place"] (cM K (pR Cm)):=by
 show F.dX CN (λds M q x h=>?_) (λbf A outer s H E' hr=>(_,(μ (Β (ω (ω (vy E.eI E.cW (jv 0)) (jv 1)) ν))),λds M q x h=>?_))
 .let(ε,γ,i,r,rfl,_):=h;rfl
 .let(ε,γ,i,r,rfl,hi,h):=h;show(_,_,_,.inl rfl,rfl,?_);walk_at "vc";show Δ (xs:=γ.map ay) rfl (Θ (pk hi)) ?_;let(e,er):=D3 (r:=r);rw[er];show h
def vL(C:Addr):DF:=λas M q _=>∃ε γ i r,as=[aJ C ε γ,.int (i:Nat)]/\γ[i]? =!r/\g6 r/\q (.loc (-M)) (M++[.lst ((Ξ r).map fh)])
def yB:Ζ ["self","place"] ["self","place"] (υ lJ):=.of rfl
def we(F:c_ K "doors" "Floor.doors" lJ f fd)(E:Ev K mg w Cm)(Τ:dU P w K mg base 1 Cm "kind" ["self","place"] (pR Cm) aY aX):aq P w K mg base (b9 P w) 2 f fd ["self","place"] (cM K (vL Cm)):=by
 show F.dX yB (λds M q x h=>?_) (λbf A outer s H E' hr=>(_,(ζ (ai (cR hr (cq Τ hr ξ (jv 0) (Μ (jv 1) θ)) jM) (μ (Β (lM θ))) Ν)
   (μ (Β (qH E.gR (ι (ω (ω (vy E.eI E.cW (jv 0)) (jv 1)) ν) θ aL))))),λds M q x h=>?_))
 .let(ε,γ,i,r,rfl,_):=h;rfl
 .let(ε,γ,i,r,rfl,hi,ro,h):=h;show((_,_,.inl rfl,rfl),ε,γ,i,r,rfl,hi,?_);cases r with
  | fin p=>show(λ_=>(@_,h),nofun)
  | τ k ds=>
   show(λz=>abc (aaH z) ro.1,λ_=>?_);show(_,_,_,.inl rfl,rfl,?_);walk_at "vc";show Δ (xs:=γ.map ay) rfl (Θ (pk hi)) ?_;show h
def Sb(C:Addr):DF:=λas M q _=>∃ε γ i r,as=[aJ C ε γ,.int (i:Nat)]/\γ[i]? =!r/\g6 r/\q (V9 r) M
def C9:Ζ ["self","place"] ["self","place"] (υ p_):=.of rfl
def CH(F:c_ K "pay" "Floor.pay" p_ f fd)(E:Ev K mg w Cm)(Τ:dU P w K mg base 1 Cm "kind" ["self","place"] (pR Cm) aY aX):aq P w K mg base (b9 P w) 2 f fd ["self","place"] (cM K (Sb Cm)):=by
 show F.dX C9 (λds M q x h=>?_) (λbf A outer s H E' hr=>(_,(ζ (ai (cR hr (cq Τ hr ξ (jv 0) (Μ (jv 1) θ)) jM) (μ (Β (ω (ω (vy E.eI E.cW (jv 0)) (jv 1)) ν))) Ν)
   (μ (Β Mo))),λds M q x h=>?_))
 .let(ε,γ,i,r,rfl,_):=h;rfl
 .let(ε,γ,i,r,rfl,hi,ro,h):=h;show((_,_,.inl rfl,rfl),ε,γ,i,r,rfl,hi,?_);cases r with
  | fin p=>
   show(λ_=>?_,nofun);show(_,_,_,.inl rfl,rfl,?_);walk_at "vc";show Δ (xs:=γ.map ay) rfl (Θ (pk hi)) ?_;show h
  | τ k ds=>show(λz=>abc (aaH z) ro.1,λ_=>h)
def jE{α:Type}(f:α->Dt):∀(xs ys:List α),(∀x∈xs,x∈ys)->Paired (λx a=>x=f a/\a∈ys) (xs.map f) xs
 | [],_,_=>.nil
 | x::xs,ys,h=>.cons (rfl,h x aaf) (jE f xs ys λy hy=>h y (aah _ hy))
def c8{q:DQ}(u:Dt.cB (-M) ds)(h:q (.lst ds) M):tS M q (.loc (-M)) (M++[.lst ds]):=n9 (.L7 (aas _) (by rw[adJ];rfl) (kH.old u)) h
def O5{q:DQ}(u:Dt.cB (-M) ds)(h:q (.lst ds) M):pw [.lst ds] M (tS M q):=by change tS M q (.loc (-M)) (M++[.lst ds]);show c8 u h
def A2{d:bW}{q:DQ}(h:q (Ο d.2.1) M):bF (fh d) (.int 1) M q:=Δ (xs:=.int d.1::Ο d.2.1::d.2.2.map Ο) rfl (Θ (j:=1) rfl) h
def GF{d:bW}{q:DQ}(h:q (.int d.1) M):bF (fh d) (.int 0) M q:=Δ (xs:=.int d.1::Ο d.2.1::d.2.2.map Ο) rfl aw h
def AV{k:Str}{q:DQ}(h:q e M):bF (.tup [.str k,e]) (.int 1) M q:=Δ (xs:=[.str k,e]) rfl (Θ (j:=1) rfl) h
def cJ{g:Dt->En->(En->Prop)->Prop}(J:List Dt->En->Ms->Prop)
  (step:∀x xs ρ M,J (x::xs) ρ M->(∀ρ M,J xs ρ M->tH g tb Dn xs ρ M)->g x ρ λρ'=>tb {Dn with nx:=tH g tb Dn xs,ct:=tH g tb Dn xs,bk:=Dn.nx} ρ' M)
  (fin:∀ρ M,J [] ρ M->Dn.nx ρ M):∀(xs:List Dt) (ρ:En) (M:Ms),J xs ρ M->tH g tb Dn xs ρ M
 | [],ρ,M,h=>fin _ _ h
 | x::xs,ρ,M,h=>step x xs ρ M h λρ' M' h'=>cJ J step fin xs ρ' M' h'
def b8{x:Dt}(h:x::xs=dW lo n):∃m,n=m+1/\x= .int lo/\xs=dW (lo+1) m:=by
 cases n with
 | zero=>show nomatch h
 | succ m=>
  unfold dW at h;rw[acH,aaX,abf]at h;cases h;show(m,rfl,by simp,?_);unfold dW;apply ab3;intro k _;change Dt.int (lo+((k+1:Nat):Int))=Dt.int (lo+1+(k:Int))
  congr 1
  omega
def uM{x:Dt}(h:x∈dW lo n):∃k:Nat,k < n/\x= .int (lo+k):=by unfold dW at h;let(k,hk,rfl):=aap.mp h;show(k,abS.mp hk,rfl)
def gP:-(dW lo n)=n:=by unfold dW;simp
def gq{n:Nat}:∀(xs:List Int),Dt.cB n (xs.map Dt.int)
 | []=>trivial
 | _::xs=>(trivial,gq xs)
def LL{m:Int}:∀{l:List Int},(∀w∈l,w<=m)->l.sum<=-l * m
 | [],_=>by simp
 | a::l,h=>by let i:=LL (l:=l) λw hw=>h w (aah _ hw);have:=h a aaf;rw[List.sum_cons,aaQ,acF,Int.add_mul];omega
def sR(aZ:Int)(r:Rw):Prop:=g6 r/\gB r aZ=true
def NZ{k:Str}{ds:List bW}(hk:Ε k=true)(hz:1<=-ds)(hz6:-ds<=6)(hd:∀d∈ds,aR d.1 d.2.1 aZ=true)(hs:∀d∈ds,d.2.2=[]/\0 < d.2.1.2):sR aZ (.τ k ds):=by
 let fd:ao ds aZ=true:=by unfold ao;rw[aaT hz,aaT hz6,acy.mpr hd];rfl
 let ne:k≠"end"/\k≠"chance":=by show(λz=>?_,λz=>?_) <;> (subst z;show abc hk @_)
 show((ne.1,(),λz=>abc z ne.2,λd h=>(by rw[(hs d h).1];show ac0 _,(hs d h).2)),?_);change(if Ε k then _ else _)=true;rw[aa1 hk];show fd
def Hs{ds:List bW}(hz:1<=-ds)(hz6:-ds<=6)(hd:∀d∈ds,aR d.1 d.2.1 aZ=true)(h1:∀d∈ds,d.2.2=[χ d])(hc:ar (ds.map χ)=true)(ho:Tf (ds.map χ))(hp:∀d∈ds,0 < d.2.1.2):sR aZ (.τ "chance" ds):=by
 let fd:ao ds aZ=true:=by unfold ao;rw[aaT hz,aaT hz6,acy.mpr hd];rfl
 show((@_,(),λ_=>(h1,ho),λd h=>(by rw[h1 d h];show aas _,hp d h)),?_);let e:gB (.τ "chance" ds) aZ=(ao ds aZ&&ar (ds.map χ)):=by dsimp only[gB];rw[aa2 @_,aa1 rfl]
 rw[e,fd,hc];rfl
def Ox{aZ:Int}(h0:0<=t)(h1:t < aZ)(hp:bH p=true):aR t p aZ=true:=by unfold aR;rw[aaT h0,aaT h1,hp];rfl
def gW{xs:List Int}(h:j < -xs):ku (xs.map Dt.int) (j:Int)=!(.int xs[j]):=Θ (by rw[aaw,aaa h];rfl)
def Gr:∀{l:List Int},(∀w∈l,0 < w)->l≠[]->0 < l.sum
 | [],_,z=>abc rfl z
 | [a],h,_=>by have:=h a List.mem_cons_self;simpa using this
 | a::b::l,h,_=>by let i:=Gr (l:=b::l) (λw hw=>h w (List.mem_cons_of_mem _ hw)) (by simp);have:=h a aaf;rw[List.sum_cons];omega
def Sz(k:Nat)(p:Fr):Prop:=p.1.natAbs < 2 ^ k/\0 < p.2/\p.2.natAbs < 2 ^ k
def ff(p q:Fr):Fr:=aC (p.1 * q.2+q.1 * p.2) (p.2 * q.2)
def aQ(p q:Fr):Fr:=aC (p.1 * q.1) (p.2 * q.2)
def dz(p q:Fr):Bool:=decide (p.1 * q.2 < q.1 * p.2)
def sG{k k':Nat}(h:Sz k p)(hk:k<=k'):Sz k' p:=
 (aaV h.1 (ac4 @_ hk),h.2.1,aaV h.2.2 (ac4 @_ hk))
def cC{a b k:Nat}(h:a < 2 ^ k)(h':b < 2 ^ l):a * b < 2 ^ (k+l):=by rw[Nat.pow_add];show Nat.mul_lt_mul'' h h'
def GB{k:Nat}(hb:0 < b)(h1:t.natAbs < 2 ^ k)(h2:b.natAbs < 2 ^ k):Sz k (aC t b):=
 (abz (sW ()) h1,de (),abz (mf ()) h2)
def w_{q:Fr}{k:Nat}(hp:Sz k p)(hq:Sz l q):(p.1 * q.2+q.1 * p.2).natAbs < 2 ^ (k+l+1)/\(p.2 * q.2).natAbs < 2 ^ (k+l+1)/\0 < p.2 * q.2:=by
 let a:=cC hp.1 hq.2.2;let b:=cC hq.1 hp.2.2;let c:=cC hp.2.2 hq.2.2;rw[Nat.add_comm l k]at b;let e:(2:Nat) ^ (k+l+1)=2 ^ (k+l)+2 ^ (k+l):=by rw[Nat.pow_succ];omega
 let hn:=Int.natAbs_add_le (p.1 * q.2) (q.1 * p.2);rw[acb,acb]at hn;show(by rw[e];omega,?_,abo hp.2.1 hq.2.1);rw[acb,e];omega
def Ou{q:Fr}{k:Nat}(hp:Sz k p)(hq:Sz l q):Sz (k+l+1) (ff p q):=
 let (a,b,c):=w_ hp hq
 GB c a b
def vB{q:Fr}{k:Nat}(hp:Sz k p)(hq:Sz l q):(p.1 * q.1).natAbs < 2 ^ (k+l)/\(p.2 * q.2).natAbs < 2 ^ (k+l)/\0 < p.2 * q.2:=by let a:=cC hp.1 hq.1;let c:=cC hp.2.2 hq.2.2;show(by rw[acb];show a,by rw[acb];show c,abo hp.2.1 hq.2.1)
def BH{q:Fr}{k:Nat}(hp:Sz k p)(hq:Sz l q):Sz (k+l) (aQ p q):=
 let (a,b,c):=vB hp hq
 GB c a b
def gw{k:Nat}(h:Sz k p)(hk:k<=8000):fe p.1:=bg h.1 hk
def dF{k:Nat}(h:Sz k p)(hk:k<=8000):fe p.2:=bg h.2.2 hk
def Fg(h:bH p=true)(h0:0 < p.2):Sz 101 p:=by
 unfold bH at h;rw[aaW,aaD,aaD]at h;let(h1,h2):=h;let e1:(10:Int) ^ 30 < 2 ^ 101:=@_
 let n1:(p.1.natAbs:Int)<=10 ^ 30:=by split at h1 <;> omega
 show(?_,h0,?_)
 .have:(p.1.natAbs:Int) < ((2 ^ 101:Nat):Int):=abl n1 @_;show acT.mp this
 .have:(p.2.natAbs:Int) < ((2 ^ 101:Nat):Int):=abl (show(p.2.natAbs:Int)<=1000000 by omega) @_;show acT.mp this
def oR(h:bc p=true):Sz 11 p:=by unfold bc at h;rw[aaW,aaW,aaD,aaD,aaD]at h;let(h1,h2,h3):=h;show((),(),())
def kU{p:Fr}{q:DQ}(h:q (.int p.1) M):bF (Ο p) (.int 0) M q:=Δ (xs:=[.int p.1,.int p.2]) rfl aw h
def ix{p:Fr}{q:DQ}(h:q (.int p.2) M):bF (Ο p) (.int 1) M q:=Δ (xs:=[.int p.1,.int p.2]) rfl (Θ (j:=1) rfl) h
def Mu:DF:=λas M q _=>∃p r k l,as=[Ο p,Ο r]/\Sz k p/\Sz l r/\k+l+1<=8000/\q (Ο (ff p r)) M
def R4:Ζ ["one","other"] ["one","other"] (υ LD):=.of rfl
def N7(F:c_ K "plus" "plus" LD f fd)(E:Ev K mg w Cm)(bN:av P w K mg base 2 "fraction" ["top","bottom"] uJ fT fS):aq P w K mg base (b9 P w) 3 f fd ["one","other"] (cM K Mu):=by
 show F.dX R4 (λds M q x h=>?_) (λbf A outer s H E' hr=>(_,(μ (Β (Φ bN hr ξ (ι (bY (ax (ω (jv 0) ν) (ω (jv 1) ν)) (ax (ω (jv 1) ν) (ω (jv 0) ν))) (ι (ax (ω (jv 0) ν) (ω (jv 1) ν)) θ bO) bO)))),λds M q x h=>?_))
 .let(p,r,k,l,rfl,_):=h;rfl
 .let(p,r,k,l,rfl,hp,fb,hk,h):=h;let(a,b,c):=w_ hp fb;show((gw hp (),dF fb ()),(gw fb (),dF hp ()),(dF hp (),dF fb ()),bg b hk,λz=>abc z (),λ_=>h)
def As:DF:=λas M q _=>∃p r k l,as=[Ο p,Ο r]/\Sz k p/\Sz l r/\k+l+1<=8000/\q (Ο (aQ p r)) M
def OE:Ζ ["one","other"] ["one","other"] (υ EI):=.of rfl
def MK(F:c_ K "times" "times" EI f fd)(E:Ev K mg w Cm)(bN:av P w K mg base 2 "fraction" ["top","bottom"] uJ fT fS):aq P w K mg base (b9 P w) 3 f fd ["one","other"] (cM K As):=by
 show F.dX OE (λds M q x h=>?_) (λbf A outer s H E' hr=>(_,(μ (Β (Φ bN hr ξ (ι (ax (ω (jv 0) ν) (ω (jv 1) ν)) (ι (ax (ω (jv 0) ν) (ω (jv 1) ν)) θ bO) bO)))),λds M q x h=>?_))
 .let(p,r,k,l,rfl,_):=h;rfl
 .let(p,r,k,l,rfl,hp,fb,hk,h):=h;let(a,b,c):=vB hp fb;show((gw hp (),gw fb ()),(dF hp (),dF fb ()),bg b (),λz=>abc z (),λ_=>h)
def jw(p q:Fr):Fr:=aC (p.1 * q.2 - q.1 * p.2) (p.2 * q.2)
def D1{q:Fr}{k:Nat}(hp:Sz k p)(hq:Sz l q):(p.1 * q.2 - q.1 * p.2).natAbs < 2 ^ (k+l+1)/\(p.2 * q.2).natAbs < 2 ^ (k+l+1)/\0 < p.2 * q.2:=by
 let a:=cC hp.1 hq.2.2;let b:=cC hq.1 hp.2.2;let c:=cC hp.2.2 hq.2.2;rw[Nat.add_comm l k]at b;let e:(2:Nat) ^ (k+l+1)=2 ^ (k+l)+2 ^ (k+l):=by rw[Nat.pow_succ];omega
 let hn:(p.1 * q.2 - q.1 * p.2).natAbs<=(p.1 * q.2).natAbs+(q.1 * p.2).natAbs:=()
 rw[acb,acb]at hn;show(by rw[e];omega,?_,abo hp.2.1 hq.2.1);rw[acb,e];omega
def Mb:DF:=λas M q _=>∃p r k l,as=[Ο p,Ο r]/\Sz k p/\Sz l r/\k+l+1<=8000/\q (Ο (jw p r)) M
def Po:Ζ ["one","other"] ["one","other"] (υ C4):=.of rfl
def KC(F:c_ K "minus" "minus" C4 f fd)(E:Ev K mg w Cm)(bN:av P w K mg base 2 "fraction" ["top","bottom"] uJ fT fS):aq P w K mg base (b9 P w) 3 f fd ["one","other"] (cM K Mb):=by
 show F.dX Po (λds M q x h=>?_) (λbf A outer s H E' hr=>(_,(μ (Β (Φ bN hr ξ (ι (xS (ax (ω (jv 0) ν) (ω (jv 1) ν)) (ax (ω (jv 1) ν) (ω (jv 0) ν))) (ι (ax (ω (jv 0) ν) (ω (jv 1) ν)) θ bO) bO)))),λds M q x h=>?_))
 .let(p,r,k,l,rfl,_):=h;rfl
 .let(p,r,k,l,rfl,hp,fb,hk,h):=h;let(a,b,c):=D1 hp fb;show((gw hp (),dF fb ()),(gw fb (),dF hp ()),(dF hp (),dF fb ()),bg b hk,λz=>abc z (),λ_=>h)
def oy(B:Int)(c:Fr):Int:=c.1 * (B / c.2)
structure Ib(cs:List Fr):Prop where
 pos:∀c∈cs,0 < oy (bZ cs) c
 sum:(cs.map (oy (bZ cs))).sum=bZ cs
 b0:0 < bZ cs
 b1:bZ cs<=1000000
 ne:cs≠[]
 ND:Tf cs
def VY(h:ar cs=true)(o:Tf cs)(n:cs≠[]):Ib cs:=by
 unfold ar at h;rw[aaW,aaW,aaD,aaD,Bool.not_eq_true']at h;let(h1,h2,h3):=h;let B0:0 < bZ cs:=gE cs 1 @_ λc hc=>(o.2 c hc).1;let(_,_,hB):=jQ cs 1 0 @_ (adK _) λc hc=>((o.2 c hc).1,adK _);show(λc hc=>?_,h2,B0,h3,n,o);let c1:0 < c.1:=by have:=List.any_eq_false.mp h1 c hc;simpa using this
 show abo c1 (Int.ediv_pos_of_pos_of_dvd B0 (aav (o.2 c hc).1) (hB c hc))
def val(p:Fr):Rat:=(p.1:Rat) / (p.2:Rat)
structure Red(p:Fr):Prop where
 pos:0 < p.2
 low:Int.gcd p.1 p.2=1
def aM(h:b≠0):(b:Rat)≠0:=λz=>h (Rat.intCast_eq_zero_iff.mp z)
def Qb{a c d:Int}(h:a * b=c * d):(a:Rat) * b=c * d:=by rw[<-abq,<-abq,h]
def cj(h:b≠0):Red (aC t b):=(de h,Cd h)
def lI(h:b≠0):val (aC t b)=(t:Rat) / (b:Rat):=by
 let hq:=de (t:=t) h;let hx:=Qb (c7 (t:=t) h);let h1:=aM h;let h2:=aM (show(aC t b).2≠0 by omega);unfold val;generalize ((aC t b).1:Rat)=x at *
 generalize ((aC t b).2:Rat)=y at *
 generalize (t:Rat)=t' at *
 generalize (b:Rat)=b' at *
 grind
def AB{q:Fr}(hp:Red p)(hq:Red q)(h:val p=val q):p=q:=by
 let h1:=aM (show p.2≠0 by have:=hp.pos;omega);let h2:=aM (show q.2≠0 by have:=hq.pos;omega);let e:p.1 * q.2=p.2 * q.1:=by
  unfold val at h;let e1:(p.1:Rat) * (q.2:Rat)=(p.2:Rat) * (q.1:Rat):=by
   generalize (p.1:Rat)=a at *
   generalize (p.2:Rat)=b at *
   generalize (q.1:Rat)=c at *
   generalize (q.2:Rat)=d at *
   grind
  rw[<-abq,<-abq]at e1;show Rat.intCast_inj.mp e1
 let a:=ze (show p.2≠0 by have:=hp.pos;omega) hq.pos hq.low e;let b:=xN hp.pos hp.low;rw[<-Prod.eta p,<-b,a]
def vF{p q:Fr}(hp:0 < p.2)(hq:0 < q.2):val (ff p q)=val p+val q:=by
 unfold ff;rw[lI (acs (abo hp hq))];let h1:=aM (show p.2≠0 by omega);let h2:=aM (show q.2≠0 by omega);rw[Rat.intCast_add,abq,abq,abq];unfold val;generalize (p.1:Rat)=a at *
 generalize (p.2:Rat)=b at *
 generalize (q.1:Rat)=c at *
 generalize (q.2:Rat)=d at *
 grind
def mF{p q:Fr}(hp:0 < p.2)(hq:0 < q.2):val (aQ p q)=val p * val q:=by
 unfold aQ;rw[lI (acs (abo hp hq))];let h1:=aM (show p.2≠0 by omega);let h2:=aM (show q.2≠0 by omega);rw[abq,abq];unfold val;generalize (p.1:Rat)=a at *
 generalize (p.2:Rat)=b at *
 generalize (q.1:Rat)=c at *
 generalize (q.2:Rat)=d at *
 grind
def iS(p:Fr)(E:Int):Prop:=∃N,p.1 * E=N * p.2
def qU{N:Int}(h:b≠0)(e:t * E=N * b):iS (aC t b) E:=by
 let hx:=c7 (t:=t) h;generalize hf:aC t b=f at *
 let(x,y):=f;show(N,?_);change x * E=N * y;let hx:t * y=b * x:=hx;have:b * (x * E)=b * (N * y):=by grind
 show abK h this
def Ck(k:Int)(h:iS p E):iS p (E * k):=by let(N,e):=h;show(N * k,by grind)
def Il(p:Fr):iS p p.2:=(p.1,rfl)
def Jf{p q:Fr}(hp:0 < p.2)(hq:0 < q.2)(h:iS p E)(h':iS q E):iS (ff p q) E:=by let(N,e):=h;let(N',e'):=h';unfold ff;show qU (N:=N+N') (Int.ne_of_gt (Int.mul_pos hp hq)) (by grind)
def vN{p q:Fr}(hp:0 < p.2)(hq:0 < q.2)(h:iS p E)(h':iS q F):iS (aQ p q) (E * F):=by let(N,e):=h;let(N',e'):=h';unfold aQ;show qU (N:=N * N') (Int.ne_of_gt (Int.mul_pos hp hq)) (by grind)
def zJ(hp:Red p)(h:iS p E):p.2∣E:=by
 let(N,e):=h;let d:p.2∣p.1 * E:=(N,by rw[e,abZ]);let d2:p.2.natAbs∣p.1.natAbs * E.natAbs:=by rw[<-acb];show Int.natAbs_dvd_natAbs.mpr d
 let co:Nat.Coprime p.2.natAbs p.1.natAbs:=by have:=hp.low;unfold Int.gcd at this;rw[Nat.coprime_comm];show this
 show Int.natAbs_dvd_natAbs.mp (co.dvd_of_dvd_mul_left d2)
def fk(p:Fr)(C:Int):Prop:=p.1<=p.2 * C/\ - (p.2 * C)<=p.1
def pB(h:0 < b)(h1:t<=b * C)(h2: - (b * C)<=t):fk (aC t b) C:=by
 let hx:=c7 (t:=t) (show b≠0 by omega);let hq:=de (t:=t) (show b≠0 by omega);generalize hf:aC t b=f at *
 let(x,y):=f;let hx:t * y=b * x:=hx;let hq:0 < y:=hq;constructor
 .change x<=y * C;have:=abm h1 (aav hq);rw[hx]at this;let e:b * C * y=b * (y * C):=by grind
  rw[e]at this;show adm this h
 .change - (y * C)<=x;have:=abm h2 (aav hq);rw[hx]at this;let e: - (b * C) * y=b * (- (y * C)):=by grind
  rw[e]at this;show adm this h
def cD{a c:Int}(h:a<=b)(hc:0<=c):a * c<=b * c:=abm h hc
def LA{p q:Fr}{D:Int}(hp:0 < p.2)(hq:0 < q.2)(h:fk p C)(h':fk q D):fk (ff p q) (C+D):=by
 unfold ff;let a:=cD h.1 (aav hq);let b:=cD h'.1 (aav hp);let c:=cD h.2 (aav hq);let d:=cD h'.2 (aav hp);show pB (abo hp hq) ?_ ?_
 .let e:p.2 * q.2 * (C+D)=p.2 * C * q.2+q.2 * D * p.2:=by grind
  omega
 .let e: - (p.2 * q.2 * (C+D))= - (p.2 * C) * q.2+ - (q.2 * D) * p.2:=by grind
  omega
def iw(c:Fr):Prop:=0<=c.1/\c.1<=c.2
def HX{c p:Fr}(hc:0 < c.2)(hp:0 < p.2)(u:iw c)(h:fk p C)(hC:0<=C):fk (aQ c p) C:=by
 unfold aQ;let pc:0<=p.2 * C:=ab9 (aav hp) hC;let a:=cD h.1 u.1;let b:=cD u.2 pc;let c':=cD h.2 u.1;show pB (abo hc hp) ?_ ?_
 .let e:c.2 * p.2 * C=c.2 * (p.2 * C):=by grind
  let e1:c.1 * p.1=p.1 * c.1:=abZ ..;let e2:p.2 * C * c.1=c.1 * (p.2 * C):=abZ ..;omega
 .let e: - (c.2 * p.2 * C)= - (c.2 * (p.2 * C)):=by grind
  let e1:c.1 * p.1=p.1 * c.1:=abZ ..;let e2: - (p.2 * C) * c.1= - (c.1 * (p.2 * C)):=by grind
  omega
def DP{c s:Fr}(hc:0 < c.2)(hs:0 < s.2)(u:iw c)(v:iw s):iw (aQ c s):=by
 unfold aQ;let hx:=c7 (t:=c.1 * s.1) (acs (abo hc hs));let hq:=de (t:=c.1 * s.1) (acs (abo hc hs));let t0:0<=c.1 * s.1:=ab9 u.1 v.1
 let t1:c.1 * s.1<=c.2 * s.2:=acG (cD u.2 v.1) (by
  have:=cD v.2 (aav hc)
  rw[abZ c.2 s.1,abZ c.2 s.2];show this)
 let bp:=abo hc hs;generalize c.1 * s.1=t at *
 generalize c.2 * s.2=b at *
 generalize hf:aC t b=f at *
 let(x,y):=f;let hx:t * y=b * x:=hx;let hq:0 < y:=hq;constructor
 .change 0<=x;rcases adv x 0 with z| z
  .have:=ac2 bp z;have:=ab9 t0 (aav hq);omega
  .show z
 .change x<=y;have:=cD t1 (aav hq);rw[hx]at this;show adm this bp
def QV{k m:Nat}(r:Red p)(h:iS p E)(e0:0 < E)(e1:E < 2 ^ k)(a:fk p C)(c0:0<=C)(c1:C < 2 ^ m):Sz (k+m) p:=by
 let d:=ada e0 (zJ r h);let rp:=r.pos;let b1:p.2.natAbs < 2 ^ k:=by
  have:(p.2.natAbs:Int) < ((2 ^ k:Nat):Int):=by rw[ach (aav rp)];show abl d (by exact_mod_cast e1)
  show acT.mp this
 let b2:C.natAbs < 2 ^ m:=by
  have:(C.natAbs:Int) < ((2 ^ m:Nat):Int):=by
   rw[ach c0]
   exact_mod_cast c1
  show acT.mp this
 let b3:=cC b1 b2;show(?_,rp,aaV b1 (ac4 @_ (acY _ _)));show abz ?_ b3;rw[<-acb];let q0:0<=p.2 * C:=ab9 (aav rp) c0;have:=a.1;have:=a.2;omega
def QY{cs:List Fr}(h:j < -cs):ku (cs.map Ο) (j:Int)=!(Ο cs[j]):=Θ (by rw[aaw,aaa h];rfl)
def Qm{ds:List bW}(h:j < -ds):ku (ds.map fh) (j:Int)=!(fh ds[j]):=Θ (by rw[aaw,aaa h];rfl)
structure NM(ε:Fr)(γ:List Rw):Prop where
 sh:bc ε=true
 len:-γ<=12
 row:∀r∈γ,g6 r/\gB r (-γ)=true
structure Vc(γ:List Rw)(k:Str)(ds:List bW):Prop where
 ro:g6 (.τ k ds)
 l1:1<=-ds
 l6:-ds<=6
 kd:Ε k=true\/(Ε k=false/\k="chance"/\Ib (ds.map χ))
 to:∀d∈ds,0<=d.1/\d.1 < -γ
 py:∀d∈ds,bH d.2.1=true/\0 < d.2.1.2
def dq{k:Str}{ds:List bW}(f:NM ε γ)(h:Rw.τ k ds∈γ):Vc γ k ds:=by
 let(ro,h2):=f.row _ h;let h2:(if Ε k then ao ds (-γ) else if k="chance" then ao ds (-γ)&&ar (ds.map χ) else false)=true:=h2;let key:ao ds (-γ)=true/\(Ε k=true\/(Ε k=false/\k="chance"/\ar (ds.map χ)=true)):=by
  by_cases hk:Ε k=true
  .rw[aa1 hk]at h2;show(h2,.inl hk)
  .rw[aa2 hk]at h2;by_cases hc:k="chance"
   .rw[if_pos hc,Bool.and_eq_true]at h2;show(h2.1,.inr (by simpa using hk,hc,h2.2))
   .rw[aa2 hc]at h2;cases h2
 let(fd,hk):=key;unfold ao at fd;rw[aaW,aaW,aaD,aaD]at fd;let((d1,d6),fa):=fd;let each:∀d∈ds,0<=d.1/\d.1 < -γ/\bH d.2.1=true:=λd hd=>by let h3:=acy.mp fa d hd;unfold aR at h3;rw[aaW,aaW,aaD,aaD]at h3;show(h3.1,h3.2.1,h3.2.2)
 show(ro,d1,d6,?_,λd hd=>((each d hd).1,(each d hd).2.1),λd hd=>((each d hd).2.2,(ro.2.2.2 d hd).2));rcases hk with hk| ⟨hk,hc,hf⟩
 .show .inl hk
 .show .inr (hk,hc,VY hf (ro.2.2.1 hc).2 λz=>?_);have:=abI List.length z;rw[aac]at this;have:-ds=0:=this;omega
def Fy{α:Type}(xs:List α)(a:α)(f:α->Dt):(dW 0 (-xs)).map (λx=>match x with| .int j=>f (xs.getD j.toNat a)| _=>.bt)=xs.map f:=by
 unfold dW;rw[abf];apply acv
 .simp
 .intro i h1 h2;simp only[List.getElem_map,List.getElem_range,Function.comp];rw[show(0+(i:Int)).toNat=i by omega];let hi:i < -xs:=by simpa using h2
  rw[aab,aaa hi];rfl
abbrev d0:bW:=(0, (0, 1),[])
def vV(tb:List Fr)(t:Int):Fr:=tb.getD t.toNat (0, 1)
def af(ε:Fr)(tb:List Fr)(d:bW):Fr:=ff d.2.1 (aQ ε (vV tb d.1))
def je(ps:List (Fr×Fr)):Fr:=ps.foldl (λw p=>ff w (aQ p.1 p.2)) (0, 1)
structure Nb(E C:Int)(p:Fr):Prop where
 pos:0 < p.2
 he:iS p E
 ab:fk p C
 sz:Sz 2600 p
structure Bd(E C:Int):Prop where
 e0:0 < E
 e1:E < 2 ^ 2200
 c0:0<=C
 c1:C < 2 ^ 400
def LV(r:Red p)(h:iS p E)(a:fk p C)(b:Bd E C):Nb E C p:=(r.pos,h,a,QV (k:=2200) (m:=400) r h b.e0 b.e1 a b.c0 b.c1)
def PX{D:Int}{q:Fr}(h:Nb E C p)(h':Nb E D q)(b:Bd E (C+D)):Nb E (C+D) (ff p q):=LV (cj (acs (abo h.pos h'.pos))) (Jf h.pos h'.pos h.he h'.he) (LA h.pos h'.pos h.ab h'.ab) b
def AJ{c:Fr}(c0:0 < c.2)(hc:iS c F)(u:iw c)(h:Nb E C p)(b:Bd (F * E) C):Nb (F * E) C (aQ c p):=LV (cj (acs (abo c0 h.pos))) (vN c0 h.pos hc h.he) (HX c0 h.pos u h.ab b.c0) b
def RP{p:Fr}{D:Int}(h0:0 < p.2)(h:fk p C)(hd:C<=D):fk p D:=by have:=aaS hd (aav h0);let(a,b):=h;show((),())
def U7:Nb E 0 (0, 1):=(@_,(0,by simp),(@_,@_),sG (k:=1) (@_,@_,@_) @_)
def J2(h:bc p=true):0 < p.2/\p.2<=1000/\iw p:=by unfold bc at h;rw[aaW,aaW,aaD,aaD,aaD]at h;let(h1,h2,h3):=h;show((),h3,h1,())
def zF{p:Nat}(h:p < n):Fo n (p:Int)=!p:=by unfold Fo;rw[aa1 (),aa1 (),acJ]
def K4(h:CM M d=!xs):fX M d=!xs:=by cases d <;> first| show h| cases h
def jo(h:CM M d=!xs):lK M d=!xs:=by cases d <;> first| show h| cases h
def wQ(h:CM M d=!xs):Gd M d=!(.type "list"):=by
 cases d with
 | lst ds=>rfl
 | loc k=>
  let h:(match M[k]? with| some (.lst xs)=>!xs| _=>none)=!xs:=h;change(match M[k]? with| some (.lst _)=>!(Value.type "list")| _=>none)=_;split at h
  .rfl
  .cases h
 | _=>cases h
def aB{o:MO}:(M++[o])[-M]? =!o:=by simp
def cU{k:Nat}(h:M[k]? =!(MO.lst xs)):CM M (.loc k)=!xs:=by change(match M[k]? with| some (MO.lst xs)=>!xs| _=>none)=!xs;rw[h]
def d8{a:MO}:(M++[a]).set (-M) c=M++[c]:=by simp[List.set_append]
def R8{E:Ms}{o:MO}:(M++o::E)[-M]? =!o:=by simp
def Of{E:Ms}{o:MO}:(M++o::E).set (-M) c=M++c::E:=by simp[List.set_append]
abbrev cT(l:List Int):Dt:=.lst (l.map Dt.int)
abbrev lA(ls:List (List Int)):Dt:=.lst (ls.map cT)
def Fw{ls:List (List Int)}(h:j < -ls):ku (ls.map cT) (j:Int)=!(cT ls[j]):=Θ (by rw[aaw,aaa h];rfl)
def ko{n:Nat}:∀(ls:List (List Int)),Dt.cB n (ls.map cT)
 | []=>trivial
 | l::ls=>(gq l,ko ls)
abbrev dH:=Bz.dH
def B_(h:i < n):((List.replicate (n:Int).toNat [Dt.int 0]).flatten).set i (Dt.int 1)=(dH n i).map Dt.int:=by
 let e:(List.replicate (n:Int).toNat [Dt.int 0]).flatten=List.replicate n (Dt.int 0):=by
  rw[show((n:Int)).toNat=n by omega];clear h
  induction n with
  | zero=>rfl
  | succ n ih=>rw[acr,acK,ih];rfl
 rw[e];unfold dH Bz.dH;apply acv
 .simp
 .intro j h1 h2;rw[List.getElem_set];simp only[List.getElem_replicate,List.getElem_map,List.getElem_range,Bz.ind];split <;> rfl
def Qz:DF:=λas M q _=>∃γ:List (List Int),as=[lA γ]/\-γ<=12/\(∀r∈γ,-r<=13)/\∀E,q (.loc (-M)) (M++MO.lst (((List.range (-γ)).map λi=>γ.getD i []++dH (-γ) i).map cT)::E)
def eL:Ζ ["rows","told","number","row","weights"] ["rows"] (υ ki):=.of rfl
def uk(F:c_ K "with_weights" "with_weights" ki f fd)(E:Ev K mg w Cm):aq P w K mg base (b9 P w) 1 f fd ["rows"] (cM K Qz):=by
 show F.dX eL (λds M q x h=>?_) (λbf A outer s H E' hr=>(_,(ζ (ψ 1 eL.nd (lM θ))
   (ζ (ck (Ag E.fq (Μ (jv 0) θ)) (lX rfl (bG (Ω (i:=2) eL.nd rfl (Or.inl rfl)) (bG (Ω (i:=3) eL.nd rfl (Or.inl rfl)) iV))) lQ (ζ (ψ 4 eL.nd (Eg (eA 3 (d:=.lst [.int 0]) (by rfl)) (bQ E.bu (Μ (jv 0) θ))))
   (ζ (jS (jv 4) (jv 2) ν)
   (μ (eQ (fL (jv 1) (ι (nJ (jv 3) (jv 4)) θ bO)))))))
   (μ (Β (jv 1))))),λds M q x h=>?_))
 .let(γ,rfl,_):=h;rfl
 .let(γ,rfl,r12,r13,h):=h;show(@_,?_);show(lA γ,γ.map cT,λ_=>True,rfl,rfl,?_);show bz (λxs ρ M'=>∃(k:Nat) (rest:List (List Int)) (E:Ms) (o1 o2 o3:Option Dt),xs=jL k (rest.map cT)/\γ.drop k=rest/\k<=-γ/\M'=M++MO.lst (((List.range k).map λi=>γ.getD i []++dH (-γ) i).map cT)::E/\ρ=[!(lA γ),!(.loc (-M)),o1,o2,o3]) (λxs ρ M' hj=>trivial) (λx xs ρ M' hj eE=>?_) (λρ M' hj=>?_) _ _ _ (0,γ,[],none,none,none,rfl,rfl,ac0 _,rfl,rfl)
  .let(k,rest,E,o1,o2,o3,ex,hd,hk,rfl,rfl):=hj;cases rest with
   | nil=>cases ex
   | cons r rest=>
    cases ex;let rO:k < -γ:=by
     rcases adI k (-γ) with z| z
     .show z
     .rw[adf z]at hd;cases hd
    let rk:γ[k]=r:=by have:=acg rO;rw[hd]at this;show(List.cons.inj this).1.symm
    let rg:γ.getD k []=r:=by rw[aab,aaa rO,rk];rfl
    let ajT:=r13 r (by rw[<-rk];show aa9 rO);let Pj:γ.drop (k+1)=rest:=by have:=acg rO;rw[hd]at this;show(List.cons.inj this).2.symm
    dsimp only[g2];walk_at "vc";show(ag (d:=lA γ) (xs:=γ.map cT) rfl ?_:e9 [lA γ] _ _);rw[aac];show([.int 0],-γ,rfl,rfl,(),(),?_,?_)
    .change 1 * ((-γ:Int)).toNat<=sizeLine;show aaR (show _<=12 by omega) @_
    generalize hM2:M++MO.lst (((List.range k).map λi=>γ.getD i []++dH (-γ) i).map cT)::E=M2;show(-M2,k,_,k,rfl,rfl,aB,?_,?_)
    .have:-((List.replicate (-γ:Int).toNat [Dt.int 0]).flatten)=-γ:=by have:=abI List.length (B_ rO);rw[acj,aac]at this;rw[this];unfold dH Bz.dH;simp
     rw[this];show zF rO
    rw[d8,B_ rO];subst hM2;let eM:(M++MO.lst (((List.range k).map λi=>γ.getD i []++dH (-γ) i).map cT)::E)++[MO.lst ((dH (-γ) k).map Dt.int)]=M++MO.lst (((List.range k).map λi=>γ.getD i []++dH (-γ) i).map cT)::(E++[MO.lst ((dH (-γ) k).map Dt.int)]):=by simp
    let at3:((M++MO.lst (((List.range k).map λi=>γ.getD i []++dH (-γ) i).map cT)::E)++[MO.lst ((dH (-γ) k).map Dt.int)])[-M]? =!(.lst (((List.range k).map λi=>γ.getD i []++dH (-γ) i).map cT)):=by rw[eM];show R8
    show((-M,_,rfl,at3),r.map Dt.int,(dH (-γ) k).map Dt.int,rfl,cU aB,?_,-M,_,_,rfl,rfl,at3,?_,?_)
    .rw[aac,aac];unfold dH Bz.dH;rw[aac,abP];show aaR (show _<=30 by omega) @_
    .rw[aac,aac,abP];show abz (show k<=12 by omega) @_
    rw[eM,Of];show eE _ _ (k+1,rest,E++[MO.lst ((dH (-γ) k).map Dt.int)],_,_,_,rfl,Pj,rO,?_,rfl);rw[adg,abw,abw];simp only[List.map_cons,List.map_nil];rw[rg,<-abw]
  .let(k,rest,E,o1,o2,o3,ex,hd,hk,rfl,rfl):=hj;cases rest with
   | cons r rest=>cases ex
   | nil=>
    have:k=-γ:=by have:=abI List.length hd;rw[acQ]at this;simp at this;omega
    subst this;show h E
def Wf:DF:=λas M q _=>∃(ls:List (List Int)) (f c:Nat),as=[lA ls,.int (f:Int),.int (c:Int)]/\f<=-ls/\-ls<=12/\(∀l∈ls,c < -l)/\
 ((∀(k:Nat),f<=k->k < -ls->(ls.getD k []).getD c 0=0)->q .bt M)/\
 (∀(k:Nat),f<=k->k < -ls->(ls.getD k []).getD c 0≠0->q (.int (k:Int)) M)
def mj:Ζ ["lines","first","column","number"] ["lines","first","column"] (υ ji):=.of rfl
def r_(F:c_ K "number_of_head" "number_of_head" ji f fd)(E:Ev K mg w Cm):aq P w K mg base (b9 P w) 1 f fd ["lines","first","column"] (cM K Wf):=by
 show F.dX mj (λds M q x h=>?_) (λbf A outer s H E' hr=>(_,(ζ (gS (HM E.bX (Μ (jv 1) (ι (bQ E.bu (Μ (jv 0) θ)) θ aU))) (Ω (i:=3) mj.nd rfl (Or.inl rfl)) aH (μ (ai (j3 hr (ω (ω (jv 0) (jv 3)) (jv 2)) ν) (μ (Β (jv 3))) Ν)))
   (μ (Β Mo))),λds M q x h=>?_))
 .let(ls,f,c,rfl,_):=h;rfl
 .let(ls,f,c,rfl,hf,ou,hc,h1,h2):=h;walk_at "vc";dsimp only[Me];walk_at "vc";show(ag (d:=lA ls) (xs:=ls.map cT) rfl ?_:e9 [lA ls] _ _);rw[aac];show(((),(),(),()),?_);show cJ (λzs ρ M'=>M'=M/\∃(n k:Nat) (o:Option Dt),zs=dW k n/\f<=k/\k+n=-ls/\(∀j,f<=j->j < k->(ls.getD j []).getD c 0=0)/\ρ=[!(lA ls),!(.int (f:Int)),!(.int (c:Int)),o]) (λx zs ρ M' hj eE=>?_) (λρ M' hj=>?_) _ _ _ (rfl,-ls - f,f,none,?_,aas _,(),λj a b=>abc a (),rfl)
  .let(rfl,n,k,o,ex,hk,hn,hz,rfl):=hj;let(m,rfl,rfl,rfl):=b8 ex;let kl:k < -ls:=()
   let hl:=hc _ (aa9 kl);let e1:(ls.getD k []).getD c 0=(ls[k])[c]:=by rw[aab,aab,aaa kl];change((ls[k])[c]?).getD 0=_;rw[aaa hl];rfl
   walk_at "vc";show(Δ (d:=lA ls) rfl (Fw kl) ?_:bF (lA ls) (.int (k:Int)) _ _);show(Δ (d:=cT ls[k]) rfl (gW hl) ?_:bF (cT ls[k]) (.int (c:Int)) _ _);show(λz=>?_,λz=>?_)
   .let z:(! decide ((ls[k])[c]=0))=true:=z;show h2 k hk kl ?_;rw[e1];intro y;rw[aaT y]at z;show nomatch z
   .let z:(! decide ((ls[k])[c]=0))=false:=z;let z0:(ls[k])[c]=0:=by
     rcases Decidable.em ((ls[k])[c]=0) with y| y
     .show y
     .rw[aa4 y]at z;show nomatch z
    show eE _ _ (rfl,m,k+1,_,by simp,(),(),λj a b=>?_,rfl);by_cases e:j=k
    .rw[e,e1];show z0
    .show hz j a ()
  .let(rfl,n,k,o,ex,hk,hn,hz,rfl):=hj;let Yw:n=0:=by have:=abI List.length ex;unfold dW at this;simpa using this.symm
   show h1 λj a b=>hz j a ()
  .rw[show((-ls:Int) - (f:Int)).toNat=-ls - f by omega]
abbrev lZ:=Bz.lZ
def LY:DF:=λas M q _=>∃(ls:List (List Int)) (f k:Nat),as=[lA ls,.int (f:Int),.int (k:Int)]/\f<=k/\k < -ls/\-ls<=12/\q (lA (lZ ls f k)) M
def yJ:Ζ ["lines","first","number"] ["lines","first","number"] (υ lC):=.of rfl
def wb(F:c_ K "moved_ahead" "moved_ahead" lC f fd)(E:Ev K mg w Cm):aq P w K mg base (b9 P w) 1 f fd ["lines","first","number"] (cM K LY):=by
 show F.dX yJ (λds M q x h=>?_) (λbf A outer s H E' hr=>(_,(μ (Β (nJ (nJ (nJ (cL (Ay (jv 0) (jv 1))) (kT (ι (ω (jv 0) (jv 2)) θ aL))) (cL (x5 (jv 0) (jv 1) (jv 2)))) (cL (rf (jv 0) (bY (jv 2) ν)))))),λds M q x h=>?_))
 .let(ls,f,k,rfl,_):=h;rfl
 .let(ls,f,k,rfl,hf,hk,ou,h):=h;let gk:ls.getD k []=ls[k]:=by rw[aab,aaa hk];rfl
  let sz:∀{n:Nat},n<=40->n<=sizeLine:=λh=>aaR h @_;show(ls.map cT,f,rfl,rfl,?_);rw[<-adC];show c8 (ko _) ?_;walk_at "vc";show(Δ (d:=lA ls) rfl (Fw hk) ?_:bF (lA ls) (.int (k:Int)) _ _);show(sz (by change 1<=40;decide),(ls.take f).map cT,[cT ls[k]],rfl,rfl,sz (by simp;omega),?_);show(f,rfl,ls.map cT,k,rfl,rfl,?_);rw[<-adD,<-adC];show c8 (ko _) ?_;show((ls.take f).map cT++[cT ls[k]],((ls.drop f).take (k - f)).map cT,rfl,rfl,sz (by simp;omega),?_);show(ls.map cT,k+1,rfl,rfl,?_);rw[<-adD];show c8 (ko _) ?_;show((ls.take f).map cT++[cT ls[k]]++((ls.drop f).take (k - f)).map cT,(ls.drop (k+1)).map cT,rfl,rfl,sz (by simp;omega),?_);unfold lZ Bz.lZ at h;rw[gk]at h;let e:(ls.take f).map cT++[cT ls[k]]++((ls.drop f).take (k - f)).map cT++(ls.drop (k+1)).map cT=(ls.take f++[ls[k]]++(ls.drop f).take (k - f)++ls.drop (k+1)).map cT:=by rw[abw,abw,abw];rfl
  rw[e];show h
abbrev dQ:=Bz.dQ
def Dv:DF:=λas M q _=>∃(l h:List Int) (c:Nat) (d:Int),as=[cT l,cT h,.int (c:Int),.int d]/\-l=-h/\-h<=30/\c < -h/\(∀x∈l,fe x)/\(∀x∈h,fe x)/\d≠0/\fe d/\q (cT (dQ l h c d)) M
def mW:Ζ ["line","head","column","divisor"] ["line","head","column","divisor"] (υ kC):=.of rfl
def tE(F:c_ K "cleared_line" "cleared_line" kC f fd)(E:Ev K mg w Cm):aq P w K mg base (b9 P w) 1 f fd ["line","head","column","divisor"] (cM K Dv):=by
 show F.dX mW (λds M q x h=>?_) (λbf A outer s H E' hr=>(_,(μ (Β (Gh (ys:=["divisor","head","column","line"]) (ae:=[3,1,2,0]) (.of mW rfl rfl rfl) (C_ E.xu (Μ (jv 0) (Μ (jv 1) θ))) (λC s H fp=>(EW (xS (ax (ω (jv 3) (jv 4)) (jv 0)) (ax (ω (jv 5) (jv 4)) (jv 1))) (jv 2)))))),λds M q x h=>?_))
 .let(l,h',c,d,rfl,_):=h;rfl
 .let(l,hd,c,d,rfl,hl,h30,hc,bl,bh,d0,bd,h):=h;let cl:c < -l:=()
  let g1:hd.getD c 0=hd[c]:=by rw[aab,aaa hc];rfl
  let g2':l.getD c 0=l[c]:=by rw[aab,aaa cl];rfl
  show(cT l,cT hd,l.map Dt.int,hd.map Dt.int,λ_=>True,λ_=>True,rfl,rfl,rfl,?_);let ez:sf (l.map Dt.int) (hd.map Dt.int)=(l.zip hd).map λp=>.tup [.int p.1,.int p.2]:=by unfold sf;rw[List.zip_map,abf];rfl
  rw[ez];show(?_,?_)
  .rw[aac,ab1];show aaR (show _<=30 by omega) @_
  show qO (trivial,trivial) (λx=>match x with| .tup [.int a,.int b]=>.int ((hd.getD c 0 * a - l.getD c 0 * b).fdiv d)| _=>.bt) _ _ (λx hx q' hq=>?_) ?_
  .let(p,hp,rfl):=aap.mp hx;let hq:q' (.int ((hd.getD c 0 * p.1 - l.getD c 0 * p.2).fdiv d)) M:=hq;let p1:=bl p.1 (acM hp).1;let p2:=bh p.2 (acM hp).2;rw[g1,g2']at hq;let key:bF (cT hd) (.int (c:Int)) M (λx M1=>K1 x (.int p.1) M1 λy M2=>bF (cT l) (.int (c:Int)) M2 λz M3=>K1 z (.int p.2) M3 λu M4=>C5 y u M4 λv M5=>F_ v (.int d) M5 q'):=by show Δ (d:=cT hd) rfl (gW hc) ((bh _ (aa9 hc),p1),?_);show Δ (d:=cT l) rfl (gW cl) ((bl _ (aa9 cl),p2),?_);show((d0,bd),hq)
   show key
  .rw[abB,abf];unfold dQ Bz.dQ at h;rw[show cT ((l.zip hd).map λp=>(hd.getD c 0 * p.1 - l.getD c 0 * p.2).fdiv d)= .lst ((l.zip hd).map λp=>Dt.int ((hd.getD c 0 * p.1 - l.getD c 0 * p.2).fdiv d)) by change Dt.lst _=_;rw[abf];rfl]at h;show h
def Bc{a b:Int}(h0:0<=a)(h:a<=b):∀n:Nat,a ^ n<=b ^ n
 | 0=>by rw[Int.pow_zero,Int.pow_zero];show Int.le_refl _
 | n+1=>by rw[acZ,acZ];show acC (Bc h0 h n) h h0 (ac1 ())
def El(h:Bz.Ab x (Bz.top B r))(h1:1<=B)(hB:B<=2 ^ 450)(hr:r<=12):fe x:=by
 let e1:Bz.top B r<=(12 * B) ^ 15:=Bz.y8 h1 ();let e2:(12 * B) ^ 15<=(12 * 2 ^ 450) ^ 15:=Bc () () 15;let e3:((12 * 2 ^ 450) ^ 15:Int) < ((2 ^ 8000:Nat):Int):=@_
 have:(x.natAbs:Int) < ((2 ^ 8000:Nat):Int):=by let(a,b):=h;omega
 show acT.mp this
section
variable{col:Nat}{ρ ο:List Nat}{qq:Nat->Nat}{d:Int}
def Cu(t:Bz.Turn A n col ρ ο qq d W)(b:Bz.Bd A n m B)(hB:B<=2 ^ 450)(hm:col<=m)(hr:-ρ<=12):(∀i,i < n->∀x∈Bz.aI A n m (W i),fe x)/\fe d:=by
 let(a1,a2,a3):=t.st.abs b (λc hc=>aaV (t.cl c hc) hm) hr;show(λi hi x hx=>?_,El a3 b.b1 hB hr);unfold Bz.aI at hx;rcases abt.mp hx with z| z
 .let(y,hy,rfl):=aap.mp z;show El (a2 i y hi (abS.mp hy)) b.b1 hB hr
 .let(y,hy,rfl):=aap.mp z;show El (a1 i y hi) b.b1 hB hr
end
def pM(n:Nat):Dt:=.int n
def GS{n:Nat}:∀(l:List Nat),Dt.cB n (l.map pM)
 | []=>trivial
 | _::l=>(trivial,GS l)
def xV{l:List Int}(h:l∈Bz.ah A n m W):∃i,i < n/\l=Bz.aI A n m (W i):=by unfold Bz.ah at h;let(i,hi,e):=aap.mp h;show(i,abS.mp hi,e.symm)
def tR{α:Type}(a:α):∀u:Nat,(List.replicate u [a]).flatten=List.replicate u a
 | 0=>rfl
 | u+1=>by rw[acr,acK,tR a u];rfl
structure Ds(γ:List (List Int))(u:Nat)(B:Int):Prop where
 n1:1<=-γ
 EC:-γ<=12
 Uw:u<=12
 ml:∀r∈γ,-r=u+1
 bd:Bz.Bd (Bz.arr γ) (-γ) (u+1) B
 lj:B<=2 ^ 450
def AS:DF:=λas M q _=>∃(γ:List (List Int)) (u:Nat) (B:Int),as=[lA γ,.int (u:Int)]/\Ds γ u B/\
 ∀ρ ο qq d W,Bz.Turn (Bz.arr γ) (-γ) u ρ ο qq d W->q (.tup [lA (Bz.ah (Bz.arr γ) (-γ) (u+1) W),.loc (-M)]) (M++[.lst (ο.map pM)])
def bA:Ζ ["rows","unknowns","lines","columns","divisor","column","rank","number","head","above","below"] ["rows","unknowns"] (υ ua):=.of rfl
def Dj(F:c_ K "cleared" "cleared" ua f fd)(E:Ev K mg w Cm)(jk:av P w K mg base 1 "with_weights" ["rows"] Qz zR zA)(iG:av P w K mg base 1 "number_of_head" ["lines","first","column"] Wf wm wj)(kL:av P w K mg base 1 "moved_ahead" ["lines","first","number"] LY A_ Ct)(gu:av P w K mg base 1 "cleared_line" ["line","head","column","divisor"] Dv yU yP):aq P w K mg base (b9 P w) 2 f fd ["rows","unknowns"] (cM K AS):=by
 show F.dX bA (λds M q x h=>?_) (λbf A outer s H E' hr=>(_,(ζ (ψ 2 bA.nd (cL (Φ jk hr ξ (Μ (jv 0) θ))))
   (ζ (ψ 3 bA.nd (lM θ))
   (ζ (ψ 4 bA.nd ν)
   (ζ (gS (cn E.bX (Μ (jv 1) θ)) (Ω (i:=5) bA.nd rfl (Or.inr rfl)) aH (ζ (ψ 6 bA.nd (bQ E.bu (Μ (jv 3) θ)))
   (ζ (ψ 7 bA.nd (Φ iG hr ξ (Μ (jv 2) (Μ (jv 6) (Μ (jv 5) θ)))))
   (ζ (ai (S6 (jv 7) Mo) (μ rS) Ν)
   (ζ (ψ 2 bA.nd (Φ kL hr ξ (Μ (jv 2) (Μ (jv 6) (Μ (jv 7) θ)))))
   (ζ (ψ 8 bA.nd (ω (jv 2) (jv 6)))
   (ζ (iW (i:=9) bA.nd rfl (Or.inl rfl) (ys:=["head","column","divisor"]) (ae:=[8,5,4]) (.of bA rfl rfl rfl) (bo (cL (Ay (jv 2) (jv 6)))) (λC s H fp=>(Φ gu hr (g_ (P:=P) (w:=w)) (Μ (jv 0) (Μ (jv 1) (Μ (jv 2) (Μ (jv 3) θ)))))))
   (ζ (iW (i:=10) bA.nd rfl (Or.inl rfl) (ys:=["head","column","divisor"]) (ae:=[8,5,4]) (.of bA rfl rfl rfl) (bo (cL (rf (jv 2) (bY (jv 6) ν)))) (λC s H fp=>(Φ gu hr (g_ (P:=P) (w:=w)) (Μ (jv 0) (Μ (jv 1) (Μ (jv 2) (Μ (jv 3) θ)))))))
   (ζ (ψ 2 bA.nd (nJ (nJ (jv 9) (kT (Μ (jv 8) θ))) (jv 10)))
   (ζ (ψ 4 bA.nd (ω (jv 8) (jv 5)))
   (μ (eQ (fL (jv 3) (Μ (jv 5) θ))))))))))))))
   (μ (Β (cP (Μ (jv 2) (Μ (jv 3) θ))))))))),λds M q x h=>?_))
 .let(γ,u,B,rfl,_):=h;rfl
 .let(γ,u,B,rfl,ro,h):=h;let n1:=ro.n1;let EC:=ro.EC;let Uw:=ro.Uw;show(γ,rfl,EC,λr fb=>by rw[ro.ml r fb];omega,λE0'=>?_);rw[Bz.CP ro.ml];show n9 (d':=lA (Bz.ah (Bz.arr γ) (-γ) (u+1) λi=>Bz.ind i)) (.L7 (Nat.le_refl _) (by simp) (kH.old (ko _))) ?_;generalize hA:Bz.arr γ=A at *
  generalize hn:-γ=n at *
  show(@_,?_);walk_at "vc";show(((),()),?_);show cJ (λzs ρ' M'=>∃(c k:Nat) (ρ ο:List Nat) (qq:Nat->Nat) (d:Int) (W:Nat->Bz.Row) (o1 o2 o3 o4 o5 o6:Option Dt),zs=dW k c/\k+c=u/\Bz.Turn A n k ρ ο qq d W/\M'=M++[MO.lst (ο.map pM)]/\ρ'=[!(lA γ),!(.int (u:Int)),!(lA (Bz.ah A n (u+1) W)),!(.loc (-M)),!(.int d),o1,o2,o3,o4,o5,o6]) (λx zs ρ' M' hj eE=>?_) (λρ' M' hj=>?_) _ _ _ (u,0,[],[],id,1,_,none,none,none,none,none,none,by simp,by simp,Bz.Turn.start,rfl,rfl)
  .let(c,k,ρ,ο,qq,d,W,o1,o2,o3,o4,o5,o6,ex,hkc,t,rfl,rfl):=hj;let(m,rfl,rfl,rfl):=b8 ex;let lc:-ο=-ρ:=t.st.lc;let rn:-ρ<=n:=t.st.rn;let hs1:fX (M++[MO.lst (ο.map pM)]) (.loc (-M))=!(ο.map pM):=K4 (cU aB);walk_at "vc";show(ag (d:=.loc (-M)) hs1 ?_:e9 [.loc (-M)] _ _);rw[aac,lc];show(Bz.ah A n (u+1) W,-ρ,k,rfl,by rw[Bz.d_];show rn,by rw[Bz.d_];show EC,λl hl=>?_,λhz=>?_,λk' h1 h2 h0=>?_)
   .let(i,_,rfl):=xV hl;rw[Bz.fH];omega
   .show(λ_=>?_,nofun);show eE _ _ (m,k+1,ρ,ο,qq,d,W,_,_,_,_,_,_,by simp,(),t.skip λi a b=>?_,rfl,rfl);have:=hz i a (by rw[Bz.d_];show b);rw[Bz.lH b,Bz.iZ ()]at this;show this
   .rw[Bz.d_]at h2;rw[Bz.lH h2,Bz.iZ (show k < u+1 by omega)]at h0;show(nofun,λ_=>?_);show(Bz.ah A n (u+1) W,-ρ,k',rfl,h1,by rw[Bz.d_];show h2,by rw[Bz.d_];show EC,?_);rw[show lZ (Bz.ah A n (u+1) W) (-ρ) k'=_ from Bz.A0 h1 h2];let t1:=t.move h1 h2;let UH:-ρ < n:=()
    let h0':Bz.rv A n (W (Bz.j4 (-ρ) k' (-ρ))) k≠0:=by
     have:Bz.j4 (-ρ) k' (-ρ)=k':=by unfold Bz.j4;rw[if_neg (Nat.lt_irrefl _),if_pos rfl]
     rw[this];show h0
    clear h0 h1 h2 t;generalize hW1:(λi=>W (Bz.j4 (-ρ) k' i))=W1 at *
    generalize Ws:(λi=>qq (Bz.j4 (-ρ) k' i))=q1 at *
    let e1:W (Bz.j4 (-ρ) k' (-ρ))=W1 (-ρ):=by rw[<-hW1]
    rw[e1]at h0';let(bl,bd):=Cu t1 (m:=u+1) (by subst hA hn;show ro.bd) ro.lj () ();let(W',t2,el):=t1.step (m:=u+1) UH () h0';let SH:-(Bz.ah A n (u+1) W1)=n:=Bz.d_;let hdg:(Bz.ah A n (u+1) W1)[-ρ]'(by rw[SH];show UH)=Bz.aI A n (u+1) (W1 (-ρ)):=by have:=Bz.lH (A:=A) (m:=u+1) (W:=W1) UH;rw[aab,aaa (by rw[SH];show UH)]at this;show this
    let clr:∀l∈Bz.ah A n (u+1) W1,∀q':DQ,q' (cT (dQ l (Bz.aI A n (u+1) (W1 (-ρ))) k d)) (M++[MO.lst (ο.map pM)])->Dv [cT l,cT (Bz.aI A n (u+1) (W1 (-ρ))),.int (k:Int),.int d] (M++[MO.lst (ο.map pM)]) q' (λC fs M'=>nc [] C fs M'):=λl hl q' AF=>by let(i,hi,rfl):=xV hl;show(_,_,k,d,rfl,by rw[Bz.fH,Bz.fH],by rw[Bz.fH];omega,by rw[Bz.fH];omega,bl i hi,bl _ UH,t1.d0,bd,AF)
    walk_at "vc";show(Δ (d:=lA (Bz.ah A n (u+1) W1)) rfl (Fw (by rw[SH];show UH)) ?_:bF (lA (Bz.ah A n (u+1) W1)) (.int (-ρ:Int)) _ _);rw[hdg];let sz:∀{z:Nat},z<=40->z<=sizeLine:=λh=>aaR h @_;show((Bz.ah A n (u+1) W1).map cT,-ρ,rfl,rfl,?_);rw[<-adC];show c8 (ko _) (sz (by rw[aac,adn];omega),?_);show dY (F:=λx a=>x=cT a/\a∈Bz.ah A n (u+1) W1) (f:=λl=>cT (dQ l (Bz.aI A n (u+1) (W1 (-ρ))) k d)) trivial (λx a ha q' AF=>by let(rfl,ha):=ha;show clr a ha q' AF) (jE cT _ _ λ_ h=>List.mem_of_mem_take h) ?_;rw[abB];show((Bz.ah A n (u+1) W1).map cT,-ρ+1,rfl,rfl,?_);rw[<-adD];show c8 (ko _) (sz (by rw[aac,acQ];omega),?_);show dY (F:=λx a=>x=cT a/\a∈Bz.ah A n (u+1) W1) (f:=λl=>cT (dQ l (Bz.aI A n (u+1) (W1 (-ρ))) k d)) trivial (λx a ha q' AF=>by let(rfl,ha):=ha;show clr a ha q' AF) (jE cT _ _ λ_ h=>List.mem_of_mem_drop h) ?_;rw[abB];show(by change 1<=sizeLine;decide,_,_,rfl,rfl,sz (by simp;omega),_,_,rfl,rfl,sz (by simp;omega),?_);let ek:k < -(Bz.aI A n (u+1) (W1 (-ρ))):=by rw[Bz.fH];omega
    let ev:(Bz.aI A n (u+1) (W1 (-ρ)))[k]=Bz.rv A n (W1 (-ρ)) k:=by have:=Bz.iZ (A:=A) (n:=n) (m:=u+1) (x:=k) (w:=W1 (-ρ)) ();rw[aab,aaa ek]at this;show this
    show Δ (d:=cT (Bz.aI A n (u+1) (W1 (-ρ)))) rfl (gW ek) ?_;rw[ev];show((-M,_,rfl,aB),-M,_,_,rfl,rfl,aB,?_,?_)
    .rw[aac,lc];show abz (show _<=12 by omega) @_
    rw[d8];let ee:=abI (List.map cT) el;rw[abw,abw,abf,abf]at ee;show eE _ _ (m,k+1,ρ++[q1 (-ρ)],ο++[k],q1,_,W',!(.int (k:Int)),!(.int (-ρ:Int)),!(.int (k':Int)),!(cT (Bz.aI A n (u+1) (W1 (-ρ)))),!(.lst (((Bz.ah A n (u+1) W1).take (-ρ)).map λl=>cT (dQ l (Bz.aI A n (u+1) (W1 (-ρ))) k d))),!(.lst (((Bz.ah A n (u+1) W1).drop (-ρ+1)).map λl=>cT (dQ l (Bz.aI A n (u+1) (W1 (-ρ))) k d))),by simp,(),t2,by simp[pM],?_);change _=[!(lA γ),!(Dt.int (u:Int)),!(Dt.lst ((Bz.ah A n (u+1) W').map cT)),!(Dt.loc (-M)),!(Dt.int _),_,_,_,_,_,_];rw[<-ee];rfl
  .let(c,k,ρ,ο,qq,d,W,o1,o2,o3,o4,o5,o6,ex,hkc,t,rfl,rfl):=hj;let Yw:c=0:=by have:=abI List.length ex;unfold dW at this;simpa using this.symm
   have:k=u:=()
   subst this;show(gV,h _ _ _ _ _ t)
def Qd:DF:=λas M q _=>∃(γ:List (List Int)) (u:Nat) (B:Int) (ρ ο:List Nat) (qq:Nat->Nat) (d:Int) (W:Nat->Bz.Row),as=[lA (Bz.ah (Bz.arr γ) (-γ) (u+1) W),.lst (ο.map pM),.int (u:Int),.int (u:Int)]/\Ds γ u B/\Bz.Turn (Bz.arr γ) (-γ) u ρ ο qq d W/\ο=List.range u/\
 q (.loc (-M)) (M++[.lst ((List.range u).map λi=>Ο (aC (Bz.rv (Bz.arr γ) (-γ) (W i) u) d))])
def i8:Ζ ["lines","columns","unknowns","source","told","line","column"] ["lines","columns","unknowns","source"] (υ nH):=.of rfl
def zt(F:c_ K "quotients" "quotients" nH f fd)(E:Ev K mg w Cm)(bN:av P w K mg base 2 "fraction" ["top","bottom"] uJ fT fS):aq P w K mg base (b9 P w) 3 f fd ["lines","columns","unknowns","source"] (cM K Qd):=by
 show F.dX i8 (λds M q x h=>?_) (λbf A outer s H E' hr=>(_,(ζ (ψ 4 i8.nd (Eg (eA 3 (d:=.lst [.tup [.int 0,.int 1]]) (by rfl)) (jv 2)))
   (ζ (ck (C_ E.xu (Μ (jv 0) (Μ (jv 1) θ))) (lX rfl (bG (Ω (i:=5) i8.nd rfl (Or.inl rfl)) (bG (Ω (i:=6) i8.nd rfl (Or.inl rfl)) iV))) lQ (μ (jS (jv 4) (jv 6) (Φ bN hr ξ (ι (ω (jv 5) (jv 3)) (ι (ω (jv 5) (jv 6)) θ aL) aL)))))
   (μ (Β (jv 4))))),λds M q x h=>?_))
 .let(γ,u,B,ρ,ο,qq,d,W,rfl,_):=h;rfl
 .let(γ,u,B,ρ,ο,qq,d,W,rfl,ro,t,hc,h):=h;let Uw:=ro.Uw;let EC:=ro.EC;let hl:-ρ=u:=by rw[<-t.st.lc,hc,abP]
  let un:u<=-γ:=by rw[<-hl];show t.st.rn
  let(bl,bd):=Cu t (m:=u+1) ro.bd ro.lj () ();let d0:=t.d0;let one:∀i,i < u->Bz.rv (Bz.arr γ) (-γ) (W i) i=d:=λi hi=>by have:=t.st.one i i () ();rw[aa1 rfl,hc,aab,aby hi]at this;show this
  generalize hA:Bz.arr γ=A at *
  generalize hn:-γ=n at *
  let  tl:Nat->List Dt:=λk=>(List.range u).map λi=>if i < k then Ο (aC (Bz.rv A n (W i) u) d) else Ο (0, 1)
  let t0:(List.replicate (u:Int).toNat [Ο (0, 1)]).flatten=tl 0:=by
   change _=(List.range u).map λi=>if i < 0 then _ else Ο (0, 1)
   rw[show((u:Int)).toNat=u by omega];apply acv
   .simp
   .intro j h1 h2;let e:(List.replicate u [Ο (0, 1)]).flatten=List.replicate u (Ο (0, 1)):=tR _ u;simp[e]
  let ts:∀k,k < u->(tl k).set k (Ο (aC (Bz.rv A n (W k) u) d))=tl (k+1):=λk hk=>by
   apply acv
   .simp[tl]
   .intro j h1 h2;rw[List.getElem_set];simp only[tl,List.getElem_map,List.getElem_range];by_cases e:k=j
    .subst e;rw[aa1 rfl,aa1 ()]
    .rw[aa2 e];by_cases f:j < k
     .rw[aa1 f,aa1 ()]
     .rw[aa2 f,aa2 ()]
  show([Ο (0, 1)],u,rfl,rfl,(),(),?_,?_)
  .change 1 * ((u:Int)).toNat<=sizeLine;show aaR (show _<=12 by omega) @_
  rw[t0];show(lA (Bz.ah A n (u+1) W),.lst (ο.map pM),_,_,λ_=>True,λ_=>True,rfl,rfl,rfl,?_);let ez:sf ((Bz.ah A n (u+1) W).map cT) (ο.map pM)=(List.range u).map λi=>.tup [cT (Bz.aI A n (u+1) (W i)),pM i]:=by
   unfold sf Bz.ah;rw[hc];apply acv
   .simp;omega
   .intro j h1 h2;simp
  rw[ez];show bz (λzs ρ' M'=>∃(k:Nat) (o1 o2:Option Dt),k<=u/\zs=((List.range u).drop k).map (λi=>.tup [cT (Bz.aI A n (u+1) (W i)),pM i])/\M'=M++[MO.lst (tl k)]/\ρ'=[!(lA (Bz.ah A n (u+1) W)),!(.lst (ο.map pM)),!(.int (u:Int)),!(.int (u:Int)),!(.loc (-M)),o1,o2]) (λzs ρ' M' hj=>(trivial,trivial)) (λx zs ρ' M' hj eE=>?_) (λρ' M' hj=>?_) _ _ _ (0,none,none,ac0 _,rfl,rfl,rfl)
  .let(k,o1,o2,hk,ex,rfl,rfl):=hj;let rO:k < u:=by
    rcases adI k u with z| z
    .show z
    .rw[List.drop_of_length_le (by simpa using z)]at ex;cases ex
   rw[List.drop_eq_getElem_cons (by simpa using rO),List.map_cons,List.getElem_range]at ex;cases ex;let ek:k < -(Bz.aI A n (u+1) (W k)):=by rw[Bz.fH];omega
   let eu:u < -(Bz.aI A n (u+1) (W k)):=by rw[Bz.fH];omega
   let v1:(Bz.aI A n (u+1) (W k))[k]=d:=by have:=Bz.iZ (A:=A) (n:=n) (m:=u+1) (x:=k) (w:=W k) ();rw[aab,aaa ek]at this;rw[<-one k rO];show this
   let v2:(Bz.aI A n (u+1) (W k))[u]=Bz.rv A n (W k) u:=by have:=Bz.iZ (A:=A) (n:=n) (m:=u+1) (x:=u) (w:=W k) ();rw[aab,aaa eu]at this;show this
   dsimp only[g2,qf];walk_at "vc";show Δ (d:=cT (Bz.aI A n (u+1) (W k))) rfl (gW eu) ?_;show Δ (d:=cT (Bz.aI A n (u+1) (W k))) rfl (gW ek) ?_;rw[v1,v2];show(bd,λz=>abc z d0,λ_=>?_);show(-M,k,_,k,rfl,rfl,aB,?_,?_)
   .rw[show(tl k).length=u by simp[tl]];show zF rO
   rw[d8];show eE _ _ (k+1,_,_,rO,rfl,?_,rfl);rw[<-ts k rO];rfl
  .let(k,o1,o2,hk,ex,rfl,rfl):=hj;have:k=u:=by have:=abI List.length ex;simp at this;omega
   subst this;let e:tl k=(List.range k).map λi=>Ο (aC (Bz.rv A n (W i) k) d):=ab3 λi hi=>by rw[aa1 (abS.mp hi)]
   rw[e];show h
def Ap:DF:=λas M q _=>∃(γ:List (List Int)) (u:Nat) (B:Int) (CW:List Fr) (z:Bz.Row) (N:Int),as=[lA γ]/\Ds γ u B/\1<=u/\-CW=u/\Bz.SJ (Bz.arr γ) (-γ) u z N/\N≠0/\
 (∀i,i < u->0 < (CW.getD i (0, 1)).2/\Int.gcd (CW.getD i (0, 1)).1 (CW.getD i (0, 1)).2=1/\N * (CW.getD i (0, 1)).1=z i * (CW.getD i (0, 1)).2)/\
 (∀y:Bz.Row,(∀k,k < -γ->Bz.Η (λx=>Bz.arr γ k x * y x) u=0)->∀x,x < u->y x=0)/\q (.loc (-M)) (M++[.lst (CW.map Ο)])
def eY:Ζ ["rows","unknowns","found","lines","columns","line","answer"] ["rows"] (υ qF):=.of rfl
def BZ(F:c_ K "answer_of" "answer_of" qF f fd)(E:Ev K mg w Cm)(qV:av P w K mg base 2 "cleared" ["rows","unknowns"] AS JV Ki)(lG:av P w K mg base 3 "quotients" ["lines","columns","unknowns","source"] Qd Dh DL):aq P w K mg base (b9 P w) 4 f fd ["rows"] (cM K Ap):=by
 show F.dX eY (λds M q x h=>?_) (λbf A outer s H E' hr=>(_,(ζ (ψ 1 eY.nd (xS (bQ E.bu (ι (ω (jv 0) ν) θ aL)) ν))
   (ζ (ψ 2 eY.nd (cL (Φ qV hr ξ (Μ (jv 0) (Μ (jv 1) θ)))))
   (ζ (ψ 3 eY.nd (ω (jv 2) ν))
   (ζ (ψ 4 eY.nd (ω (jv 2) ν))
   (ζ (ck (bo (cL (rf (jv 3) (bQ E.bu (Μ (jv 4) θ))))) (Ω (i:=5) eY.nd rfl (Or.inl rfl)) aH (μ (ai (j3 hr (ω (jv 5) (jv 1)) ν) (μ ia) Ν)))
   (ζ (ψ 6 eY.nd (Φ lG hr ξ (Μ (jv 3) (Μ (jv 4) (Μ (jv 1) (Μ (jv 1) θ))))))
   (ζ (ai (tq (bQ E.bu (Μ (jv 4) θ)) (jv 1)) (μ ia) Ν)
   (μ (Β (jv 6)))))))))),λds M q x h=>?_))
 .let(γ,u,B,CW,z,N,rfl,_):=h;rfl
 .let(γ,u,B,CW,z,N,rfl,ro,u1,dl,sol,hN,aa5,YV,h):=h;let n1:=ro.n1;let EC:=ro.EC;let Uw:=ro.Uw;let r0:0 < -γ:=()
  let m0:-γ[0]=u+1:=ro.ml _ (aa9 r0);walk_at "vc";show(Δ (d:=lA γ) rfl (Fw r0) ?_:bF (lA γ) (.int 0) _ _);show(ag (d:=cT γ[0]) (xs:=γ[0].map Dt.int) rfl ?_:e9 [cT γ[0]] _ _);rw[aac,m0];dsimp only[C5];rw[show(((u+1:Nat):Int) - 1)=(u:Int) by omega];show(γ,u,B,rfl,ro,λρ ο qq d W t=>?_);let Gu:ο=List.range u:=by
   rcases t.all with e| ⟨x,hx,hf⟩
   .show e
   .let(y,y1,y2):=t.kernel hx hf;have:=YV y y2 x hx;rw[this]at y1;show abc () t.d0
  let hl:-ρ=u:=by rw[<-t.st.lc,Gu,abP]
  let un:u<=-γ:=by rw[<-hl];show t.st.rn
  show n9 (d':=.tup [lA (Bz.ah (Bz.arr γ) (-γ) (u+1) W),.lst (ο.map pM)]) (.tup (.cons (.old (ko _)) (.cons (.L7 (Nat.le_refl _) (by simp) (kH.old (GS _))) .nil))) ?_;let told:(List.range u).map (λi=>Ο (aC (Bz.rv (Bz.arr γ) (-γ) (W i) u) d))=CW.map Ο:=by
   apply acv
   .simp[dl]
   .intro i h1 h2;let hi:i < u:=by simpa using h1
    simp only[List.getElem_map,List.getElem_range];let(p0,p1,p2):=aa5 i hi;let gi:CW.getD i (0, 1)=CW[i]:=by rw[aab,aaa ()];rfl
    rw[gi]at p0 p1 p2;let e:=t.told Gu sol hi
    congr 1
    have:aC (Bz.rv (Bz.arr γ) (-γ) (W i) u) d=(CW[i].1, CW[i].2):=ze t.d0 p0 p1 (by
     show abK hN ?_
     grind)
    show this
  show(Δ (d:=.tup [lA (Bz.ah (Bz.arr γ) (-γ) (u+1) W),.lst (ο.map pM)]) rfl aw ?_:bF (.tup [lA (Bz.ah (Bz.arr γ) (-γ) (u+1) W),.lst (ο.map pM)]) (.int 0) _ _);show(Δ (d:=.tup [lA (Bz.ah (Bz.arr γ) (-γ) (u+1) W),.lst (ο.map pM)]) rfl (Θ (j:=1) rfl) ?_:bF (.tup [lA (Bz.ah (Bz.arr γ) (-γ) (u+1) W),.lst (ο.map pM)]) (.int 1) _ _);let lcu:-(ο.map pM)=u:=by rw[aac,Gu,abP]
  dsimp only[k4,dE,Nl,W_];walk_at "vc";show(ag (d:=.lst (ο.map pM)) (xs:=ο.map pM) rfl ?_:e9 [.lst (ο.map pM)] _ _);show((Bz.ah (Bz.arr γ) (-γ) (u+1) W).map cT,-(ο.map pM),rfl,rfl,?_);rw[lcu,<-adD];show c8 (ko _) ?_;let hz:∀l∈(Bz.ah (Bz.arr γ) (-γ) (u+1) W).drop u,u < -l/\l.getD u 0=0:=λl Zt=>by
   let(j,hj,e):=acd Zt;rw[List.getElem_drop]at e;rw[acQ,Bz.d_]at hj;let hu:u+j < -γ:=()
   let el:l=Bz.aI (Bz.arr γ) (-γ) (u+1) (W (u+j)):=by have:=Bz.lH (A:=Bz.arr γ) (m:=u+1) (W:=W) hu;rw[aab,aaa (by rw[Bz.d_];show hu)]at this;rw[<-e];show this
   rw[el];show(by rw[Bz.fH];omega,?_);rw[Bz.iZ ()];show t.rest sol hN () hu
  show bz (λzs ρ' M'=>M'=M/\∃(rest:List (List Int)) (o:Option Dt),zs=rest.map cT/\(∀l∈rest,u < -l/\l.getD u 0=0)/\ρ'=[!(lA γ),!(.int (u:Int)),!(.tup [lA (Bz.ah (Bz.arr γ) (-γ) (u+1) W),.lst (ο.map pM)]),!(lA (Bz.ah (Bz.arr γ) (-γ) (u+1) W)),!(.lst (ο.map pM)),o,none]) (λzs ρ' M' hj=>trivial) (λx zs ρ' M' hj eE=>?_) (λρ' M' hj=>?_) _ _ _ (rfl,_,none,rfl,hz,rfl)
  .let(rfl,rest,o,ex,fb,rfl):=hj;cases rest with
   | nil=>cases ex
   | cons l rest=>
    cases ex;let(l1,l2):=fb l aaf;let lv:l[u]=0:=by rw[aab,aaa l1]at l2;show l2
    walk_at "vc";show(Δ (d:=cT l) rfl (gW l1) ?_:bF (cT l) (.int (u:Int)) _ _);rw[lv];show(nofun,λ_=>eE _ _ (rfl,rest,_,rfl,λy hy=>fb y (aah _ hy),rfl))
  .let(rfl,rest,o,ex,fb,rfl):=hj;show(γ,u,B,ρ,ο,qq,d,W,rfl,ro,t,Gu,?_);rw[told];walk_at "vc";show(ag (d:=.lst (ο.map pM)) (xs:=ο.map pM) rfl ?_:e9 [.lst (ο.map pM)] _ _);rw[lcu];show(λz=>?_,λ_=>h);let z:(u:Int) < u:=aaH z;omega
def Ld(cs ns:List Fr):sf (cs.map Ο) (ns.map Ο)=(cs.zip ns).map λp=>.tup [Ο p.1,Ο p.2]:=by unfold sf;rw[List.zip_map,abf];rfl
structure Ch(B:Int)(c:Fr):Prop where
 pos:0 < c.2
 he:iS c B
 u:iw c
 sz:Sz 300 c
def ux{E B C:Int}(b0:0 < B)(e0:0 < E)(be:B * E < 2 ^ 2200)(c0:0<=C)(c1:C < 2 ^ 300):∀(ps:List (Fr×Fr)) (w:Fr) (j:Nat),j+-ps<=6->Nb (B * E) (j * C) w->(∀p∈ps,Ch B p.1/\Nb E C p.2)->Nb (B * E) ((j+-ps:Nat) * C) (ps.foldl (λw p=>ff w (aQ p.1 p.2)) w)
 | [],w,j,_,hw,_=>hw
 | p::ps,w,j,hj,hw,h=>by
  rw[aaQ]at hj;let(h1,h2):=h p aaf;let jc:((j:Int)+1) * C=j * C+C:=by rw[Int.add_mul,Int.one_mul]
  let jm:((j:Int)+1) * C<=6 * C:=abm () c0;let j0:0<=(j:Int) * C:=ab9 () c0;let ht:=AJ h1.pos h1.he h1.u h2 (abo b0 e0,be,c0,adw c1 @_);let hp:=PX hw ht (abo b0 e0,be,(),());rw[<-jc]at hp;have:=ux b0 e0 be c0 c1 ps _ (j+1) () (by exact_mod_cast hp) (λq hq=>h q (aah _ hq));rw[acE,aaQ,show j+(-ps+1)=j+1+-ps by omega];show this
def ur:DF:=λas M q _=>∃(cs ns:List Fr) (E B C:Int),as=[.lst (cs.map Ο),.lst (ns.map Ο)]/\-cs<=6/\0 < B/\0 < E/\B * E < 2 ^ 2200/\0<=C/\C < 2 ^ 300/\(∀c∈cs,Ch B c)/\(∀n∈ns,Nb E C n)/\q (Ο (je (cs.zip ns))) M
def jO:Ζ ["chances","numbers","whole","chance","number"] ["chances","numbers"] (υ vt):=.of rfl
def Ew(F:c_ K "weighed" "weighed" vt f fd)(E:Ev K mg w Cm)(rz:av P w K mg base 3 "plus" ["one","other"] Mu Lq Lj)(hJ:av P w K mg base 3 "times" ["one","other"] As uw vw):aq P w K mg base (b9 P w) 4 f fd ["chances","numbers"] (cM K ur):=by
 show F.dX jO (λds M q x h=>?_) (λbf A outer s H E' hr=>(_,(ζ (ψ 2 jO.nd (cP (ι ν (ι ν θ dj) dj)))
   (ζ (ck (C_ E.xu (Μ (jv 0) (Μ (jv 1) θ))) (lX rfl (bG (Ω (i:=3) jO.nd rfl (Or.inl rfl)) (bG (Ω (i:=4) jO.nd rfl (Or.inl rfl)) iV))) lQ (μ (ψ 2 jO.nd (Φ rz hr ξ (Μ (jv 2) (ι (Φ hJ hr ξ (Μ (jv 3) (Μ (jv 4) θ))) θ aU))))))
   (μ (Β (jv 2))))),λds M q x h=>?_))
 .let(cs,ns,E,B,C,rfl,_):=h;rfl
 .let(cs,ns,Ep,B,C,rfl,hz,b0,e0,be,c0,c1,hc,hn,h):=h;show(gV,?_);show(.lst (cs.map Ο),.lst (ns.map Ο),cs.map Ο,ns.map Ο,λ_=>True,λ_=>True,rfl,rfl,rfl,?_);rw[Ld];show bz (λxs ρ M'=>M'=M/\∃(rest:List (Fr×Fr)) (w:Fr) (a b:Option Dt) (j:Nat),xs=rest.map (λp=>.tup [Ο p.1,Ο p.2])/\(∀p∈rest,Ch B p.1/\Nb Ep C p.2)/\Nb (B * Ep) (j * C) w/\j+-rest<=6/\rest.foldl (λw p=>ff w (aQ p.1 p.2)) w=je (cs.zip ns)/\ρ=[!(.lst (cs.map Ο)),!(.lst (ns.map Ο)),!(Ο w),a,b]) (λxs ρ M' hj=>(trivial,trivial)) (λx xs ρ M' hj eE=>?_) (λρ M' hj=>?_) _ _ _ (rfl,cs.zip ns,(0, 1),none,none,0,rfl,λp hp=>(hc _ (acM hp).1,hn _ (acM hp).2),by rw[Int.natCast_zero,Int.zero_mul];show U7,?_,rfl,rfl)
  .let(rfl,rest,w,a,b,j,ex,vZ,hw,hj,hf,rfl):=hj;cases rest with
   | nil=>cases ex
   | cons p rest=>
    cases ex;let(h1,h2):=vZ p aaf;rw[aaQ]at hj;let ht:=AJ h1.pos h1.he h1.u h2 (abo b0 e0,be,c0,adw c1 @_);show(p.1,p.2,300,2600,rfl,h1.sz,h2.sz,@_,w,aQ p.1 p.2,2600,2600,rfl,hw.sz,ht.sz,@_,?_);show eE _ _ (rfl,rest,_,_,_,j+1,rfl,λp hp=>vZ p (aah _ hp),?_,(),hf,rfl);show ux b0 e0 be c0 c1 [p] w j (by simp;omega) hw (λq hq=>by rw[List.mem_singleton.mp hq];show(h1,h2))
  .let(rfl,rest,w,a,b,j,ex,vZ,hw,hj,hf,rfl):=hj;cases rest with
   | nil=>rw[<-hf]at h;show h
   | cons p rest=>cases ex
  .rw[ab1];omega
def rN:List Int->Int
 | []=>1
 | a::l=>a * rN l
def um:∀{l:List Int},(∀a∈l,0 < a)->0 < rN l
 | [],_=>@_
 | a::l,h=>abo (h a aaf) (um λb hb=>h b (aah _ hb))
def Ge:∀{l:List Int},(∀a∈l,0 < a/\a<=1000000)->rN l<=1000000 ^ (-l)
 | [],_=>@_
 | a::l,h=>by let i:=Ge λb hb=>h b (aah _ hb);let p:=um (l:=l) λb hb=>(h b (aah _ hb)).1;let h0:=h a aaf;change a * rN l<=_;rw[aaQ,acZ,abZ a];show acC i h0.2 (aav h0.1) (ac1 @_)
def B9:∀{l:List Int} {a:Int},a∈l->a∣rN l
 | b::l,a,h=>by
  rcases aba.mp h with e| e
  .rw[e];show(rN l,rfl)
  .let(c,hc):=B9 e;show(b * c,by change b * rN l=_;rw[hc];grind)
def CO{p:Fr}(h:p.2∣E):iS p E:=by let(k,e):=h;show(p.1 * k,by rw[e];grind)
def uE:∀{l:List Int} {a:Int},(∀b∈l,0 < b)->a∈l->a<=l.sum
 | b::l,a,h,ha=>by
  let ih:∀{l:List Int},(∀b∈l,0 < b)->0<=l.sum:=λ{l}=>by
   induction l with
   | nil=>intro _;show Int.le_refl _
   | cons c l ih=>
    intro h;have:=ih λd hd=>h d (aah _ hd);have:=h c aaf;rw[List.sum_cons];omega
  rw[List.sum_cons];let h0:=h b aaf;rcases aba.mp ha with e| e
  .have:=ih λd hd=>h d (aah _ hd);omega
  .have:=uE (λd hd=>h d (aah _ hd)) e;omega
def Gs(o:Ib cs){c:Fr}(hc:c∈cs):0 < c.2/\c.2∣bZ cs/\iw c/\Sz 300 c:=by
 let(a,b,d):=o.ND.2 c hc;let B0:=o.b0;let(_,_,hB):=jQ cs 1 0 @_ (adK _) λc hc=>((o.ND.2 c hc).1,adK _);let dv:c.2∣bZ cs:=hB c hc
 let le:=uE (l:=cs.map (oy (bZ cs))) (λb hb=>by
  let(x,hx,rfl):=aap.mp hb
  show o.pos x hx) (aap.mpr (c,hc,rfl))
 rw[o.sum]at le;let wp:=o.pos c hc;unfold oy at le wp;let(m,em):=dv;let em':bZ cs / c.2=m:=by rw[em];show acA m ()
 rw[em']at le wp;let m0:0 < m:=by
  rw[em]at B0;rcases adv 0 m with z| z
  .show z
  .have:=aaS z (aav a);omega
 let c0:0<=c.1:=by
  rcases adv c.1 0 with z| z
  .have:=abm (aav z) (aav m0);omega
  .show z
 let c1:c.1<=c.2:=by rw[em]at le;show Int.le_of_mul_le_mul_right le m0
 show(a,(m,em),(c0,c1),sG (k:=200) (d,a,?_) @_);have:(c.2.natAbs:Int) < ((2 ^ 200:Nat):Int):=by rw[ach (aav a)];show b
 show acT.mp this
abbrev Pl:=List (Int×Int)
def kP(pl:Pl):List Key:=pl.map λp=>Sum.inl p.1
def vP(pl:Pl):List Dt:=pl.map λp=>Dt.int p.2
abbrev dP(pl:Pl):MO:=.cZ (kP pl) (vP pl)
def Λ:Pl->Int->Option Int
 | [],_=>none
 | p::r,i=>if p.1=i then !p.2 else Λ r i
noncomputable def cK(pl:Pl)(i v:Int):Pl:=if (Λ pl i).isSome=true then pl.map (λp=>if p.1=i then (p.1, v) else p) else pl++[(i, v)]
def LI:(decide ((Sum.inl a:Key)=Sum.inl b))=decide (a=b):=by
 by_cases h:a=b
 .rw[aaT h,aaT (abI Sum.inl h)]
 .rw[aa4 h,aa4 λz=>h (Sum.inl.inj z)]
def m8{i:Int}:∀{pl:Pl},aV (kP pl) (vP pl) (Sum.inl i)=(Λ pl i).map Dt.int
 | []=>rfl
 | p::r=>by
  let ih:=m8 (i:=i) (pl:=r);unfold aV at ih⊢;change(List.find? (λq:Key×Dt=>decide (q.1=Sum.inl i)) ((Sum.inl p.1, Dt.int p.2)::(kP r).zip (vP r))).map (·.2)=Option.map Dt.int (if p.1=i then !p.2 else Λ r i);rw[List.find?_cons,LI];by_cases h:p.1=i
  .rw[aaT h,aa1 h];rfl
  .rw[aa4 h,aa2 h];show ih
def HR{i:Int}:∀{pl:Pl},KU (kP pl) (Sum.inl i)=(Λ pl i).isSome
 | []=>rfl
 | p::r=>by
  let ih:=HR (i:=i) (pl:=r);unfold KU at ih⊢;change(decide ((Sum.inl p.1:Key)=Sum.inl i)|| (kP r).any λc=>decide (c=Sum.inl i))=(if p.1=i then !p.2 else Λ r i).isSome;rw[LI,ih];by_cases h:p.1=i
  .rw[aaT h,aa1 h];rfl
  .rw[aa4 h,aa2 h,Bool.false_or]
def Fs{i:Int}:∀{pl:Pl},mX (Sum.inl i:Key) (Dt.int v) (kP pl) (vP pl)=vP (pl.map λp=>if p.1=i then (p.1, v) else p)
 | []=>rfl
 | p::r=>by
  change(if (Sum.inl p.1:Key)=Sum.inl i then Dt.int v else Dt.int p.2)::mX (Sum.inl i:Key) (Dt.int v) (kP r) (vP r)=Dt.int (if p.1=i then (p.1, v) else p).2::vP (r.map λp=>if p.1=i then (p.1, v) else p);rw[Fs];by_cases h:p.1=i
  .rw[aa1 h,aa1 (abI Sum.inl h)]
  .rw[aa2 h,aa2 λz=>h (Sum.inl.inj z)]
def CQ{i v:Int}:∀{pl:Pl},kP (pl.map λp=>if p.1=i then (p.1, v) else p)=kP pl
 | []=>rfl
 | p::r=>by change(Sum.inl (if p.1=i then (p.1, v) else p).1:Key)::kP (r.map λp=>if p.1=i then (p.1, v) else p)=Sum.inl p.1::kP r;rw[CQ];split <;> rfl
def rD{i:Int}:g7 (kP pl) (Sum.inl i)=kP (cK pl i v):=by
 unfold g7 cK;rw[HR];split
 .show CQ.symm
 .unfold kP;rw[List.map_append];rfl
def vA{i:Int}:fG (kP pl) (Sum.inl i) (vP pl) (Dt.int v)=vP (cK pl i v):=by
 unfold fG cK;rw[HR];split
 .show Fs
 .unfold vP;rw[List.map_append];rfl
def sU{i v j:Int}:∀{pl:Pl},Λ (pl.map λp=>if p.1=i then (p.1, v) else p) j=if j=i then (Λ pl j).map λ_=>v else Λ pl j
 | []=>by split <;> rfl
 | p::r=>by
  let ih:=sU (i:=i) (v:=v) (j:=j) (pl:=r);rw[aaX];unfold Λ;by_cases h:p.1=i
  .rw[aa1 h];by_cases hj:p.1=j
   .rw[aa1 hj,aa1 hj,aa1 ()];rfl
   .rw[aa2 hj,aa2 hj];show ih
  .rw[aa2 h];by_cases hj:p.1=j
   .rw[aa1 hj,aa1 hj,aa2 ()]
   .rw[aa2 hj,aa2 hj];show ih
def Gb{i j v:Int}:∀{pl:Pl},Λ (pl++[(i, v)]) j=if (Λ pl j).isSome=true then Λ pl j else if i=j then !v else none
 | []=>rfl
 | p::r=>by
  let ih:=Gb (i:=i) (j:=j) (v:=v) (pl:=r);rw[List.cons_append];unfold Λ;by_cases hj:p.1=j
  .rw[aa1 hj,aa1 hj];rfl
  .rw[aa2 hj,aa2 hj];show ih
set_option tactic.hygienic true
def pO{i j:Int}:Λ (cK pl i v) j=if j=i then !v else Λ pl j:=by
 unfold cK;split
 .rename_i h;rw[sU];split
  .rename_i e;subst e;let(x,hx):=acz.mp h;rw[hx];rfl
  .rfl
 .rename_i h;rw[Gb];by_cases e:j=i
  .subst e;rw[aa2 h,aa1 rfl,aa1 rfl]
  .rw[aa2 e];cases hj:Λ pl j with
   | none=>rw[if_neg (by simp),if_neg ()]
   | some x=>rfl
def sI(pl:Pl):Prop:=(pl.map (·.1)).Nodup
def Ha{i v:Int}:∀{pl:Pl},Λ pl i=!v->(i, v)∈pl
 | [],h=>by cases h
 | p::r,h=>by
  unfold Λ at h;split at h
  .rename_i e;have:p=(i, v):=by rw[<-e,<-aaI h]
   rw[this];show aaf
  .show aah _ (Ha h)
def Gn{i v:Int}:∀{pl:Pl},sI pl->(i, v)∈pl->Λ pl i=!v
 | [],_,h=>by cases h
 | p::r,nd,h=>by
  unfold sI at nd;rw[aaX,acD]at nd;unfold Λ;rcases aba.mp h with e| e
  .rw[aa1 (by rw[<-e])];rw[<-e]
  .have:p.1≠i:=λz=>nd.1 (by rw[z];show aap.mpr (_,e,rfl));rw[aa2 this];show Gn nd.2 e
def Nj{i:Int}(h:Λ pl i=none):i∉pl.map (·.1):=λz=>by
 let(p,hp,e):=aap.mp z;have:∀{pl:Pl},p∈pl->Λ pl i≠none:=λ{pl}=>by
  induction pl with
  | nil=>intro h;cases h
  | cons q r ih=>
   intro h;unfold Λ;rcases aba.mp h with e'| e'
   .rw[if_pos (by rw[<-e'];show e)];simp
   .split
    .simp
    .show ih e'
 show this hp h
def Na{i:Int}(h:sI pl):sI (cK pl i v):=by
 unfold sI cK;split
 .let e:(pl.map λp=>if p.1=i then (p.1, v) else p).map (·.1)=pl.map (·.1):=by rw[abf];show ab3 λp _=>?_;change(if p.1=i then (p.1, v) else p).1=p.1;split <;> rfl
  rw[e];show h
 .rename_i hn;let hn:Λ pl i=none:=by
   cases hg:Λ pl i with
   | none=>rfl
   | some x=>rw[hg]at hn;show abc rfl hn
  rw[abw];show List.nodup_append.mpr (h,by simp,λa ha b hb z=>?_);have:b=i:=by simpa using hb
  show Nj hn (by rw[<-this,<-z];show ha)
set_option tactic.hygienic false
def UI(p1 p2:Pl):Bool:=decide (-p1=-p2)&&(List.range (-p1)).all λj=>decide (Λ p2 (p1.getD j (0, 0)).1=!(p1.getD j (0, 0)).2)
def QL{k:Key}(h:(kP pl)[j]? =!k):j < -pl/\k=Sum.inl (pl.getD j (0, 0)).1:=by unfold kP at h;rw[aaw]at h;let(p,hp,e):=acW.mp h;show((aae.mp hp).1,?_);rw[aab,hp];show e.symm
def Xx(h:(vP pl)[j]? =!d):d= .int (pl.getD j (0, 0)).2:=by unfold vP at h;rw[aaw]at h;let(p,hp,e):=acW.mp h;rw[aab,hp];show e.symm
def NI(a b:Int):rM (V.int a) (V.int b)=decide (a=b):=by
 unfold rM;by_cases h:a=b
 .subst h;simp
 .simp[h]
def FX{k1 k2:Nat}{p1 p2:Pl}(h1:M[k1]? =!(dP p1))(h2:M[k2]? =!(dP p2)):Jo M (n+1) (.loc k1) (.loc k2) (UI p1 p2):=by
 let l1:-(kP p1)=-p1:=by unfold kP;simp
 let l2:-(kP p2)=-p2:=by unfold kP;simp
 by_cases hl:-p1=-p2
 .have:=Jo.cZ (M:=M) (n:=n) (f:=λj=>decide (Λ p2 (p1.getD j (0, 0)).1=!(p1.getD j (0, 0)).2)) h1 h2 (by rw[l1,l2];show hl) (λj k hk hn=>by
   let(hj,e):=QL hk;subst e;rw[m8]at hn;let hn:Λ p2 (p1.getD j (0, 0)).1=none:=by
    cases hg:Λ p2 (p1.getD j (0, 0)).1 with
    | none=>rfl
    | some x=>rw[hg]at hn;cases hn
   rw[hn];rfl) (λj k d d' hk hd hg=>by
   let(hj,e):=QL hk;let ed:=Xx hd;subst e ed;rw[m8]at hg;let(x,hx,ex):=acW.mp hg;subst ex;have:decide (Λ p2 (p1.getD j (0, 0)).1=!(p1.getD j (0, 0)).2)=rM (V.int (p1.getD j (0, 0)).2) (V.int x):=by
    rw[hx,NI];by_cases e:(p1.getD j (0, 0)).2=x
    .rw[decide_eq_true e,e];simp
    .rw[aa4 e,aa4 λz=>e (aaI z).symm]
   change Jo M n _ _ (decide (Λ p2 (p1.getD j (0, 0)).1=!(p1.getD j (0, 0)).2));rw[this]
   show Jo.flat rfl rfl)
  rw[l1]at this;unfold UI;rw[aaT hl,Bool.true_and];show this
 .let e:UI p1 p2=false:=by unfold UI;rw[decide_eq_false hl];rfl
  rw[e];show Jo.len h1 h2 (by rw[l1,l2];show hl)
def Jd{pl:Pl}(h:j < -pl):pl.getD j (0, 0)∈pl:=by rw[aab,aaa h];show aa9 _
def oW(nd:sI pl):UI pl pl=true:=by unfold UI;rw[aaT rfl,Bool.true_and,acy];intro j hj;show aaT (Gn nd (Jd (abS.mp hj)))
def aT{E:Ms}{k:Nat}{m:MO}(h:M[k]? =!m):(M++E)[k]? =!m:=by rw[aaJ (aae.mp h).1];show h
def eU(pl:Pl)(i:Nat)(n:Nat):Bool:=match Λ pl i with
 | some v=>decide (0<=v)&&decide (v < n)
 | none=>false
def kX(pf:Str->Option Pl)(i:Nat)(r:Rw):Bool:=match pf (kindOf r) with
 | some pl=>eU pl i (-(Ξ r))
 | none=>true
def fK(γ:List Rw)(pf:Str->Option Pl)(i:Nat):Bool:=match γ[i]? with
 | some r=>kX pf i r
 | none=>true
def ft(γ:List Rw)(pf:Str->Option Pl):Nat->Pl
 | 0=>[]
 | n+1=>match (γ[n]?).bind λr=>pf (kindOf r) with
  | some pl=>cK (ft γ pf n) n ((Λ pl n).getD 0)
  | none=>ft γ pf n
def zS(γ:List Rw)(pf:Str->Option Pl):∀n,-(ft γ pf n)<=n
 | 0=>aas _
 | n+1=>by
  let ih:=zS γ pf n;unfold ft;split
  .unfold cK;split
   .rw[aac];omega
   .rw[aaj];show Nat.succ_le_succ ih
  .omega
def mI(γ:List Rw)(pf:Str->Option Pl):∀(n i:Nat),Λ (ft γ pf n) i=if i < n then ((γ[i]?).bind λr=>pf (kindOf r)).map λpl=>(Λ pl i).getD 0 else none
 | 0,i=>by rw[aa2 (acO _)];rfl
 | n+1,i=>by
  let ih:=mI γ pf n i;let step:Λ (ft γ pf (n+1)) i=if i=n then (match (γ[n]?).bind λr=>pf (kindOf r) with| some pl=>!((Λ pl n).getD 0)| none=>Λ (ft γ pf n) i) else Λ (ft γ pf n) i:=by
   rw[ft];cases hb:(γ[n]?).bind λr=>pf (kindOf r) with
   | none=>dsimp only;split <;> rfl
   | some pl=>
    dsimp only;rw[pO];by_cases e:i=n
    .rw[aa1 e,aa1 ()]
    .rw[aa2 e,aa2 ()]
  rw[step,ih];by_cases e:i=n
  .subst e;rw[aa1 rfl,aa2 (aci _),aa1 (acu _)];cases(γ[i]?).bind λr=>pf (kindOf r) with
   | none=>rfl
   | some pl=>rfl
  .rw[aa2 e];by_cases h:i < n
   .rw[aa1 h,aa1 ()]
   .rw[aa2 h,aa2 ()]
def UB(M:Ms)(k:Nat)(pf:Str->Option Pl):Prop:=∃ks ds,M[k]? =!(.cZ ks ds)/\∀z:Str,KU ks (Sum.inr z)=(pf z).isSome/\∀pl,pf z=!pl->∃k',aV ks ds (Sum.inr z)=!(.loc k')/\M[k']? =!(dP pl)
def UB.app{E:Ms}{k:Nat}(h:UB M k pf):UB (M++E) k pf:=by let(ks,ds,a,b):=h;show(ks,ds,aT a,λz=>((b z).1,λpl e=>?_));let(k',c,d):=(b z).2 pl e;show(k',c,aT d)
def U9(A:Addr):DF:=λas M q _=>∃ε γ i r k pl,as=[aJ A ε γ,.loc k,.int (i:Nat)]/\M[k]? =!(dP pl)/\γ[i]? =!r/\g6 r/\q (.bl (eU pl i (-(Ξ r)))) M
def Jv:Ζ ["floor","plan","place"] ["floor","plan","place"] (υ tM):=.of rfl
def EJ(F:c_ K "has_door" "has_door" tM f fd)(E:Ev K mg w Cm)(aW:dU P w K mg base 2 Cm "doors" ["self","place"] (vL Cm) dI dN):aq P w K mg base (b9 P w) 3 f fd ["floor","plan","place"] (cM K (U9 Cm)):=by
 show F.dX Jv (λds M q x h=>?_) (λbf A outer s H E' hr=>(_,(μ (Β (fV (Vg hr (jv 2) (jv 1)) (fV (AM ν (kE hr (jv 1) (jv 2))) (jr (JO (kE hr (jv 1) (jv 2)) (bQ E.bu (ι (cL (cq aW hr ξ (jv 0) (Μ (jv 2) θ))) θ aU)))))))),λds M q x h=>?_))
 .let(ε,γ,i,r,k,pl,rfl,_):=h;rfl
 .let(ε,γ,i,r,k,pl,rfl,hk,hi,ro,h):=h;unfold eU at h;let gi:(Sum.inl (i:Int):Key)=Sum.inl ((i:Nat):Int):=rfl;show(k,_,_,Sum.inl (i:Int),rfl,hk,rfl,?_);rw[HR];cases hg:Λ pl i with
  | none=>
   rw[hg]at h;show(nofun,λ_=>h)
  | some v=>
   rw[hg]at h;let h:q (.bl (decide (0<=v)&&decide (v < (-(Ξ r):Int)))) M:=h;let dg:aV (kP pl) (vP pl) (Sum.inl (i:Int))=!(.int v):=by rw[m8,hg];rfl
   show(λ_=>?_,nofun);show(k,_,_,Sum.inl (i:Int),_,rfl,hk,rfl,dg,?_);show(λz=>?_,λz=>?_)
   .let z:0<=v:=aaH z;rw[aaT z,Bool.true_and]at h;show(k,_,_,Sum.inl (i:Int),_,rfl,hk,rfl,dg,?_);show((_,_,.inl rfl,rfl),ε,γ,i,r,rfl,hi,ro,c8 (i4 _) ?_);walk_at "vc";show(ag (d:=.lst ((Ξ r).map fh)) (xs:=(Ξ r).map fh) rfl ?_:e9 [.lst ((Ξ r).map fh)] _ _);rw[aac];show h
   .let z:¬0<=v:=abO z;rw[aa4 z,Bool.false_and]at h;let key:decide (0<=v)=false:=aa4 z;show h
def uA(A:Addr):DF:=λas M q _=>∃ε γ k pf,as=[aJ A ε γ,.loc k]/\UB M k pf/\NM ε γ/\(∀i,i < -γ->fK γ pf i=true)/\q (.loc (-M)) (M++[dP (ft γ pf (-γ))])
def mw:Ζ ["floor","plans","doors","place","hand"] ["floor","plans"] (υ vi):=.of rfl
def ER(F:c_ K "doors_of" "doors_of" vi f fd)(E:Ev K mg w Cm)(bw:dU P w K mg base 1 Cm "size" ["self"] (Br Cm) eW fc)(Τ:dU P w K mg base 1 Cm "kind" ["self","place"] (pR Cm) aY aX)(qj:av P w K mg base 3 "has_door" ["floor","plan","place"] (U9 Cm) MZ L_):aq P w K mg base (b9 P w) 4 f fd ["floor","plans"] (cM K (uA Cm)):=by
 show F.dX mw (λds M q x h=>?_) (λbf A outer s H E' hr=>(_,(ζ (ψ 2 mw.nd zU)
   (ζ (gS (cn E.bX (ι (mD bw hr ξ (jv 0)) θ aU)) (Ω (i:=3) mw.nd rfl (Or.inl rfl)) aH (ζ (ψ 4 mw.nd (cq Τ hr ξ (jv 0) (Μ (jv 3) θ)))
   (ζ (ai (qi hr (jv 4) (jv 1)) (μ rS) Ν)
   (ζ (ai (bM (aK (Φ qj hr ξ (Μ (jv 0) (ι (kE hr (jv 1) (jv 4)) (Μ (jv 3) θ) aL))))) (μ ia) Ν)
   (μ (iU hr (jv 2) (jv 3) (kE hr (kE hr (jv 1) (jv 4)) (jv 3))))))))
   (μ (Β (jv 2))))),λds M q x h=>?_))
 .let(ε,γ,k,pf,rfl,_):=h;rfl
 .let(ε,γ,k,pf,rfl,tw,pl,gd0,hg):=h;let ou:=pl.len;let km:k≠-M:=λe=>by let(ks,ds,a,_):=tw;rw[e,acN (aas _)]at a;cases a
  walk_at "vc";show((_,_,.inl rfl,rfl),ε,γ,rfl,?_);show((),?_);rw[show((-γ:Int)).toNat=-γ by omega];show cJ (λzs ρ' M'=>∃(i m:Nat) (o3 o4:Option Dt),zs=dW (i:Int) m/\i+m=-γ/\M'=M++[dP (ft γ pf i)]/\ρ'=[!(aJ Cm ε γ),!(.loc k),!(.loc (-M)),o3,o4]) (λx zs ρ' M' hj eE=>?_) (λρ' M' hj=>?_) _ _ _ (0,-γ,none,none,rfl,(),rfl,rfl)
  .let(i,m,o3,o4,ex,im,rfl,rfl):=hj;let(m',rfl,rfl,rfl):=b8 ex;let il:i < -γ:=()
   let hi:γ[i]? =!γ[i]:=aaa il;generalize hr0:γ[i]=r at *
   let rm:r∈γ:=aao hi;let ro:=(pl.row r rm).1;let ga:fK γ pf i=kX pf i r:=by unfold fK;rw[hi]
   let ac:∀Bo,pf (kindOf r)=!Bo->ft γ pf (i+1)=cK (ft γ pf i) i ((Λ Bo i).getD 0):=λBo e=>by rw[ft,hi];change(match pf (kindOf r) with| some pl=>_| none=>_)=_;rw[e]
   let an:pf (kindOf r)=none->ft γ pf (i+1)=ft γ pf i:=λe=>by rw[ft,hi];change(match pf (kindOf r) with| some pl=>_| none=>_)=_;rw[e]
   let(ks,ds,ca,cb):=(tw.app:UB (M++[dP (ft γ pf i)]) k pf);show((_,_,.inl rfl,rfl),ε,γ,i,r,rfl,hi,?_);show(k,_,_,Sum.inr (kindOf r),rfl,ca,rfl,?_);rw[(cb (kindOf r)).1];cases hh:pf (kindOf r) with
   | none=>
    show(λ_=>?_,nofun);let e:=hh;show eE _ _ (i+1,m',_,_,by rw[acF];rfl,(),by rw[an e],rfl)
   | some Bo=>
    show(nofun,λ_=>?_);let(k',g2,g4):=(cb (kindOf r)).2 Bo hh;let g1:=ca;let g3:=hh;show(k,ks,ds,Sum.inr (kindOf r),_,rfl,g1,rfl,g2,?_);let gr:kX pf i r=eU Bo i (-(Ξ r)):=by unfold kX;rw[g3]
    show(ε,γ,i,r,k',Bo,rfl,g4,hi,ro,λz=>?_,λz=>?_)
    .let z:eU Bo i (-(Ξ r))=false:=by simpa using z
     have:=gd0 i il;rw[ga,gr,z]at this;cases this
    .let z:eU Bo i (-(Ξ r))=true:=by simpa using z
     obtain⟨v,hv⟩:∃v,Λ Bo i=!v:=by
      unfold eU at z;cases hv:Λ Bo i with
      | none=>rw[hv]at z;cases z
      | some v=>show(v,rfl)
     let dg:aV (kP Bo) (vP Bo) (Sum.inl (i:Int))=!(.int v):=by rw[m8,hv];rfl
     dsimp only[nR,QZ];walk_at "vc";show(k,ks,ds,Sum.inr (kindOf r),_,rfl,g1,rfl,g2,?_);show(k',_,_,Sum.inl (i:Int),_,rfl,g4,rfl,dg,?_);show(-M,_,_,Sum.inl (i:Int),rfl,aB,rfl,?_,?_)
     .unfold kP;rw[List.length_map];have:=zS γ pf i;omega
     rw[rD (v:=v),vA,d8];let e:=ac Bo g3;rw[hv]at e;let e:ft γ pf (i+1)=cK (ft γ pf i) i v:=e;show eE _ _ (i+1,m',_,_,by rw[acF];rfl,(),by rw[e],rfl)
  .let(i,m,o3,o4,ex,im,rfl,rfl):=hj;let m0:m=0:=by have:=abI List.length ex;rw[gP]at this;show this.symm
   have:i=-γ:=()
   subst this;show hg
structure jn(γ:List Rw)(Ι:Pl):Prop where
 hand:∀(i:Nat) (r:Rw),γ[i]? =!r->Ε (kindOf r)=true->∃j:Nat,Λ Ι i=!(j:Int)/\j < -(Ξ r)
 AD:∀(i:Nat) (r:Rw),γ[i]? =!r->Ε (kindOf r)=false->Λ Ι i=none
noncomputable def aF(Ι:Pl)(i:Nat)(r:Rw):List bW:=match Λ Ι i with
 | some j=>let  d:=(Ξ r).getD j.toNat d0;[(d.1, d.2.1,d.2.2++[(1, 1)])]
 | none=>Ξ r
def QC(A:Addr):DF:=λas M q _=>∃ε γ i r k Ι,as=[aJ A ε γ,.int (i:Nat),.loc k]/\M[k]? =!(dP Ι)/\γ[i]? =!r/\g6 r/\jn γ Ι/\q (.lst ((aF Ι i r).map fh)) M
def vM:Ζ ["floor","place","doors","ways"] ["floor","place","doors"] (υ qp):=.of rfl
def Bx(F:c_ K "ways_from" "ways_from" qp f fd)(E:Ev K mg w Cm)(aW:dU P w K mg base 2 Cm "doors" ["self","place"] (vL Cm) dI dN)(Τ:dU P w K mg base 1 Cm "kind" ["self","place"] (pR Cm) aY aX):aq P w K mg base (b9 P w) 3 f fd ["floor","place","doors"] (cM K (QC Cm)):=by
 show F.dX vM (λds M q x h=>?_) (λbf A outer s H E' hr=>(_,(ζ (ψ 3 vM.nd (cL (cq aW hr ξ (jv 0) (Μ (jv 1) θ))))
   (ζ (ai (KQ (cq Τ hr ξ (jv 0) (Μ (jv 1) θ)) (Kl E.y6)) (μ (Β (kT (ι (bY (ω (jv 3) (kE hr (jv 2) (jv 1))) (eA 3 (d:=.tup [.tup [.int 1,.int 1]]) (by rfl))) θ bO)))) Ν)
   (μ (Β (jv 3))))),λds M q x h=>?_))
 .let(ε,γ,i,r,k,Ι,rfl,_):=h;rfl
 .let(ε,γ,i,r,k,Ι,rfl,hk,hi,ro,dk,h):=h;show((_,_,.inl rfl,rfl),ε,γ,i,r,rfl,hi,ro,c8 (i4 _) ?_);show((_,_,.inl rfl,rfl),ε,γ,i,r,rfl,hi,?_);show(_,_,_,rfl,rfl,rfl,?_);rw[tV];cases hh:Ε (kindOf r) with
  | true=>
   show(λ_=>?_,nofun);let(j,hj,jl):=dk.hand i r hi hh;let dg:aV (kP Ι) (vP Ι) (Sum.inl (i:Int))=!(.int (j:Int)):=by rw[m8,hj];rfl
   let e:aF Ι i r=[(((Ξ r).getD j d0).1, ((Ξ r).getD j d0).2.1,((Ξ r).getD j d0).2.2++[(1, 1)])]:=by unfold aF;rw[hj];rfl
   rw[e]at h;let gd:(Ξ r).getD j d0=(Ξ r)[j]:=by rw[aab,aaa jl];rfl
   let dm:-(Ξ r)[j].2.2<=1:=by
    cases r with
    | fin p=>show abc jl (acO _)
    | τ k' ds=>show(ro.2.2.2 _ (aa9 jl)).1
   rw[gd]at h;obtain⟨d,hd⟩:∃d,d=(Ξ r)[j]:=(_,rfl);rw[<-hd]at h dm;walk_at "vc";show(k,_,_,Sum.inl (i:Int),_,rfl,hk,rfl,dg,?_);show(Δ (d:=.lst ((Ξ r).map fh)) rfl (Qm jl) ?_:bF (.lst ((Ξ r).map fh)) (.int (j:Int)) _ _);rw[<-hd];let sz:∀{z:Nat},z<=1000->z<=sizeLine:=λh=>aaR h @_;show((nofun,sz ?_),sz @_,?_)
   .simp;omega
   let e2:fh (d.1, d.2.1,d.2.2++[(1, 1)])= .tup ((.int d.1::Ο d.2.1::d.2.2.map Ο)++[.tup [.int 1,.int 1]]):=by unfold fh;rw[List.map_append];rfl
   let h:q (.lst [fh (d.1, d.2.1,d.2.2++[(1, 1)])]) M:=h;rw[e2]at h;show h
  | false=>
   show(nofun,λ_=>?_);let e:aF Ι i r=Ξ r:=by unfold aF;rw[dk.AD i r hi hh]
   rw[e]at h;show h
def dM(f:Nat->Rat):Nat->Rat
 | 0=>0
 | n+1=>dM f n+f n
def aA(f:bW->Rat):List bW->Rat
 | []=>0
 | d::ds=>f d+aA f ds
def eT{f g:Nat->Rat}:∀{n:Nat},(∀i,i < n->f i=g i)->dM f n=dM g n
 | 0,_=>rfl
 | n+1,h=>by change dM f n+f n=dM g n+g n;rw[eT λi hi=>h i (ac5 hi),h n (acu _)]
def s_(a b:Rat)(f g:Nat->Rat):∀n,dM (λi=>a * f i - b * g i) n=a * dM f n - b * dM g n
 | 0=>by change(0:Rat)=a * 0 - b * 0;grind
 | n+1=>by change dM (λi=>a * f i - b * g i) n+(a * f n - b * g n)=a * (dM f n+f n) - b * (dM g n+g n);rw[s_ a b f g n];grind
def A6{t:Nat}(y:Nat->Rat):∀{n:Nat},n<=t->dM (λx=>(if x=t then 1 else 0) * y x) n=0
 | 0,_=>rfl
 | n+1,h=>by change dM (λx=>(if x=t then 1 else 0) * y x) n+(if n=t then 1 else 0) * y n=0;rw[A6 y (),if_neg ()];grind
def uN{t:Nat}(y:Nat->Rat):∀{n:Nat},t < n->dM (λx=>(if x=t then 1 else 0) * y x) n=y t
 | 0,h=>abc h (acO _)
 | n+1,h=>by
  change dM (λx=>(if x=t then 1 else 0) * y x) n+(if n=t then 1 else 0) * y n=y t;by_cases e:n=t
  .subst e;rw[A6 y (Nat.le_refl _),if_pos rfl];grind
  .rw[uN y (),if_neg e];grind
def qd(f:Nat->Int):∀n,((Bz.Η f n:Int):Rat)=dM (λi=>(f i:Rat)) n
 | 0=>rfl
 | n+1=>by change((Bz.Η f n+f n:Int):Rat)=dM (λi=>(f i:Rat)) n+f n;rw[Rat.intCast_add,qd f n]
def ab(q:Rat):Rat:=if q < 0 then - q else q
def m_{m:Rat}:ab x<=m↔ - m<=x/\x<=m:=by unfold ab;split <;> grind
def R6(x:Rat):0<=ab x:=by unfold ab;split <;> grind
def Mt(x:Nat->Rat):∀n,∃i,i < n+1/\∀j,j < n+1->ab (x j)<=ab (x i)
 | 0=>(0,(),λj hj=>by rw[show j=0 by omega];grind)
 | n+1=>by
  let(i,hi,h):=Mt x n;by_cases c:ab (x i)<=ab (x (n+1))
  .show(n+1,(),λj hj=>?_);by_cases e:j=n+1
   .subst e;grind
   .have:=h j ();grind
  .show(i,(),λj hj=>?_);by_cases e:j=n+1
   .subst e;grind
   .show h j ()
def Nk{x:Nat->Rat}{s c:Rat}(s1:s < 1)(h:∀i,i < n->∀m,(∀j,j < n->ab (x j)<=m)->ab (x i)<=c+s * m):∀i,i < n->ab (x i) * (1 - s)<=c:=λi hi=>by obtain⟨k,rfl⟩:∃k,n=k+1:=(n - 1,());let(t,ht,Vf):=Mt x k;let h1:=h t ht _ Vf;let h2:=Vf i hi;have:=Rat.mul_le_mul_of_nonneg_right h2 (show 0<=1 - s by grind);grind
def nG{f g:bW->Rat}:∀{ds:List bW},(∀d∈ds,f d=g d)->aA f ds=aA g ds
 | [],_=>rfl
 | d::ds,h=>by change f d+aA f ds=g d+aA g ds;rw[h d aaf,nG λx hx=>h x (aah _ hx)]
def tY(f g:bW->Rat):∀ds:List bW,aA (λd=>f d - g d) ds=aA f ds - aA g ds
 | []=>by change(0:Rat)=0 - 0;grind
 | d::ds=>by change(f d - g d)+aA (λd=>f d - g d) ds=(f d+aA f ds) - (g d+aA g ds);rw[tY f g ds];grind
abbrev cV(d:bW):Rat:=val (χ d)
structure EK(n:Nat)(Χ:List bW):Prop where
 to:∀d∈Χ,0<=d.1/\d.1 < n
 c0:∀d∈Χ,0<=cV d
 one:aA cV Χ<=1
def FP{n:Nat}{y:Nat->Rat}{m:Rat}(hm:∀j,j < n->ab (y j)<=m):∀{Χ:List bW},(∀d∈Χ,0<=d.1/\d.1 < n)->(∀d∈Χ,0<=cV d)->ab (aA (λd=>cV d * y d.1.toNat) Χ)<=aA cV Χ * m
 | [],_,_=>by change ab 0<=0 * m;unfold ab;rw[if_neg (by grind)];grind
 | d::Χ,h1,h2=>by let i:=FP hm (λx hx=>h1 x (aah _ hx)) (λx hx=>h2 x (aah _ hx));let(a,b):=h1 d aaf;let c:=h2 d aaf;let y1:=m_.mp (hm d.1.toNat ());change ab (cV d * y d.1.toNat+aA (λd=>cV d * y d.1.toNat) Χ)<=(cV d+aA cV Χ) * m;let e1:=abM y1.1 c;let e2:=abM y1.2 c;let i:=m_.mp i;show m_.mpr (?_,?_) <;> grind
def Fv{Χ:List bW}(w:EK n Χ)(n0:0 < n){y:Nat->Rat}{m:Rat}(hm:∀j,j < n->ab (y j)<=m):ab (aA (λd=>cV d * y d.1.toNat) Χ)<=m:=by
 have:=FP hm w.to w.c0;let m0:0<=m:=by have:=hm 0 n0;have:=R6 (y 0);grind
 have:=acP w.one m0;grind
def JP{c:Fr}(h:0 < c.2)(hd:c.2∣B):((oy B c:Int):Rat)=val c * B:=by
 let(k,rfl):=hd;unfold oy val;rw[acA _ (),abq,abq];have:=aM (show c.2≠0 by omega);generalize (c.1:Rat)=a at *
 generalize (c.2:Rat)=b at *
 generalize (k:Rat)=e at *
 grind
def JR{B:Int}:∀{ds:List bW},(∀d∈ds,0 < (χ d).2/\(χ d).2∣B)->((((ds.map χ).map (oy B)).sum:Int):Rat)=aA cV ds * B
 | [],_=>by change((0:Int):Rat)=0 * B;grind
 | d::ds,h=>by let i:=JR (ds:=ds) λx hx=>h x (aah _ hx);let(a,b):=h d aaf;change(((oy B (χ d)+((ds.map χ).map (oy B)).sum:Int)):Rat)=(cV d+aA cV ds) * B;rw[Rat.intCast_add,i,JP a b];grind
def sZ{c:Fr}(h:0 < c.2)(h0:0<=c.1):0<=val c:=by
 let e:val c * (c.2:Rat)=c.1:=by
  have:=aM (show c.2≠0 by omega);unfold val;generalize (c.1:Rat)=x at *
  generalize (c.2:Rat)=y at *
  grind
 let p:(0:Rat) < (c.2:Rat):=acI.mpr h;let q:(0:Rat)<=(c.1:Rat):=ab4.mpr h0;by_cases z:0<=val c
 .show z
 .have:=Rat.mul_pos (show 0 < - val c by grind) p;grind
def N8{ds:List bW}(o:Ib (ds.map χ)):aA cV ds=1/\∀d∈ds,0<=cV d:=by
 let(_,_,hB):=jQ (ds.map χ) 1 0 @_ (adK _) λc hc=>((o.ND.2 c hc).1,adK _);let hm:∀d∈ds,χ d∈ds.map χ:=λd hd=>aap.mpr (d,hd,rfl);let e:=JR (B:=bZ (ds.map χ)) (ds:=ds) λd hd=>((o.ND.2 _ (hm d hd)).1,hB _ (hm d hd));rw[o.sum]at e;let b0:=aM (show bZ (ds.map χ)≠0 by have:=o.b0;omega);show(?_,λd hd=>?_)
 .generalize ((bZ (ds.map χ):Int):Rat)=b at *
  grind
 .show sZ (o.ND.2 _ (hm d hd)).1 ?_;let p:=o.pos _ (hm d hd);unfold oy at p;let q0:0<=bZ (ds.map χ) / (χ d).2:=Int.ediv_nonneg (aav o.b0) (aav (o.ND.2 _ (hm d hd)).1);rcases adv (χ d).1 0 with z| z
  .have:=Int.mul_nonpos_of_nonpos_of_nonneg (aav z) q0;omega
  .show z
def He{p q:Fr}(hp:0 < p.2)(hq:0 < q.2):val (jw p q)=val p - val q:=by
 unfold jw;rw[lI (acs (abo hp hq))];let h1:=aM (show p.2≠0 by omega);let h2:=aM (show q.2≠0 by omega);rw[Rat.intCast_sub,abq,abq,abq];unfold val;generalize (p.1:Rat)=a at *
 generalize (p.2:Rat)=b at *
 generalize (q.1:Rat)=c at *
 generalize (q.2:Rat)=d at *
 grind
def D4{p q:Fr}(hp:0 < p.2)(hq:0 < q.2)(h:iS p E)(h':iS q E):iS (jw p q) E:=by let(N,e):=h;let(N',e'):=h';unfold jw;show qU (N:=N - N') (Int.ne_of_gt (Int.mul_pos hp hq)) (by grind)
def Hl{p q:Fr}{D:Int}(hp:0 < p.2)(hq:0 < q.2)(h:fk p C)(h':fk q D):fk (jw p q) (C+D):=by
 unfold jw;let a:=cD h.1 (aav hq);let b:=cD h'.1 (aav hp);let c:=cD h.2 (aav hq);let d:=cD h'.2 (aav hp);show pB (abo hp hq) ?_ ?_
 .let e:p.2 * q.2 * (C+D)=p.2 * C * q.2+q.2 * D * p.2:=by grind
  let e2: - (q.2 * D) * p.2= - (q.2 * D * p.2):=by grind
  omega
 .let e: - (p.2 * q.2 * (C+D))= - (p.2 * C) * q.2+ - (q.2 * D * p.2):=by grind
  omega
structure Nr(E C:Int)(p:Fr):Prop where
 red:Red p
 he:iS p E
 ab:fk p C
structure oH(n:Nat)(E C:Int)(v:Nat->Rat)(ns:List Fr):Prop where
 len:-ns=n
 nr:∀x,x < n->Nr E C (ns.getD x (0, 1))
 val:∀x,x < n->val (ns.getD x (0, 1))=v x
def uO(ε:Fr)(ns:List Fr)(d:bW):List Fr:=ns.set d.1.toNat (jw (ns.getD d.1.toNat (0, 1)) (aQ ε (χ d)))
def iQ(ε:Fr)(n i:Nat)(Χ:List bW):List Fr:=Χ.foldl (uO ε) ((List.replicate n ((0, 1):Fr)).set i (1, 1))
def abE(c:0<=C):Nr E C (0, 1):=((@_,@_),(0,by simp),(by change(0:Int)<=1 * C;omega,by change - (1 * C)<=(0:Int);omega))
def abV:Nr E 1 (1, 1):=((@_,@_),(E,by simp),(@_,@_))
def BS{ns:List Fr}{t:Nat}(h:t < -ns):(ns.set t a).getD x (0, 1)=if x=t then a else ns.getD x (0, 1):=by
 rw[aab,List.getElem?_set];by_cases e:x=t
 .subst e;rw[aa1 rfl,aa1 h,aa1 rfl];rfl
 .rw[aa2 (Ne.symm e),aa2 e,<-aab]
def LP(hi:i < n):oH n E 1 (λx=>if x=i then 1 else 0) ((List.replicate n ((0, 1):Fr)).set i (1, 1)):=by
 let g:∀x,((List.replicate n ((0, 1):Fr)).set i (1, 1)).getD x (0, 1)=if x=i then (1, 1) else (0, 1):=λx=>by
  rw[BS (by simpa using hi)]
  congr 1
  rw[aab,ac6];split <;> rfl
 show(by simp,λx _=>?_,λx _=>?_)
 .rw[g];split
  .show abV
  .show abE @_
 .rw[g];change Pg.val (if x=i then (1, 1) else (0, 1))=if x=i then 1 else 0
  unfold Pg.val;split
  .change((1:Int):Rat) / ((1:Int):Rat)=1;grind
  .change((0:Int):Rat) / ((1:Int):Rat)=0;grind
structure Uu(ε:Fr)(E:Int)(d:bW):Prop where
 s0:0 < ε.2
 su:iw ε
 c0:0 < (χ d).2
 cu:iw (χ d)
 he:iS (aQ ε (χ d)) E
def Uu.nr{d:bW}(h:Uu ε E d):Nr E 1 (aQ ε (χ d)):=by let p:=abo h.s0 h.c0;let u:=DP h.s0 h.c0 h.su h.cu;let r:Red (aQ ε (χ d)):=cj (acs p);let rp:=r.pos;let(u1,u2):=u;show(r,h.he,((),()))
set_option tactic.hygienic true in
def BK{d:bW}(h:oH n E C v ns)(c:0<=C)(hd:0<=d.1/\d.1 < n)(sc:Uu ε E d):oH n E (C+1) (λx=>v x - Pg.val ε * ((if d.1.toNat=x then 1 else 0) * cV d)) (uO ε ns d):=by
 let ht:d.1.toNat < -ns:=by rw[h.len];omega
 let k:=sc.nr;let g:=λx=>BS (x:=x) (a:=jw (ns.getD d.1.toNat (0, 1)) (aQ ε (χ d))) ht;show(by unfold uO;rw[List.length_set];show h.len,λx hx=>?_,λx hx=>?_)
 .unfold uO;rw[g];let a:=h.nr x hx;split
  .rename_i e;rw[<-e];let p:=abo a.red.pos k.red.pos;show(cj (acs p),D4 a.red.pos k.red.pos a.he k.he,Hl a.red.pos k.red.pos a.ab k.ab)
  .have:=aaS (show C<=C+1 by omega) (aav a.red.pos);show(a.red,a.he,(acG a.ab.1 this,by have:=a.ab.2;omega))
 .unfold uO;rw[g];let a:=h.nr x hx;let b:=h.val x hx;split
  .rename_i e;rw[<-e,He a.red.pos k.red.pos,b,mF sc.s0 sc.c0,if_pos rfl];grind
  .rename_i e;rw[b,if_neg (Ne.symm e)];grind
def xH{n:Nat}{E:Int}:∀{Χ:List bW} {ns:List Fr} {v:Nat->Rat} {C:Int},(∀d∈Χ,(0<=d.1/\d.1 < n)/\Uu ε E d)->0<=C->oH n E C v ns->oH n E (C+-Χ) (λx=>v x - Pg.val ε * aA (λd=>(if d.1.toNat=x then 1 else 0) * cV d) Χ) (Χ.foldl (uO ε) ns)
 | [],ns,v,C,_,_,h=>by
  show(h.len,λx hx=>?_,λx hx=>?_)
  .rw[List.length_nil,Int.natCast_zero,Int.add_zero];show h.nr x hx
  .change _=v x - Pg.val ε * 0;rw[show v x - Pg.val ε * 0=v x by grind];show h.val x hx
 | d::Χ,ns,v,C,hw,c,h=>by let(h1,h2):=hw d aaf;let i:=xH (Χ:=Χ) (λx hx=>hw x (aah _ hx)) () (BK h c h1 h2);rw[acE,aaQ,show C+((-Χ+1:Nat):Int)=C+1+-Χ by omega];show(i.len,i.nr,λx hx=>?_);rw[i.val x hx];change v x - Pg.val ε * ((if d.1.toNat=x then 1 else 0) * cV d) - Pg.val ε * aA (λd=>(if d.1.toNat=x then 1 else 0) * cV d) Χ=v x - Pg.val ε * ((if d.1.toNat=x then 1 else 0) * cV d+aA (λd=>(if d.1.toNat=x then 1 else 0) * cV d) Χ);grind
def vW(s:Rat)(i:Nat)(Χ:List bW)(x:Nat):Rat:=(if x=i then 1 else 0) - s * aA (λd=>(if d.1.toNat=x then 1 else 0) * cV d) Χ
def Oc{Χ:List bW}(hi:i < n)(hw:∀d∈Χ,(0<=d.1/\d.1 < n)/\Uu ε E d):oH n E (1+-Χ) (vW (Pg.val ε) i Χ) (iQ ε n i Χ):=xH hw @_ (LP hi)
def K8{n i:Nat}(hi:i < n)(y:Nat->Rat):∀{Χ:List bW},(∀d∈Χ,0<=d.1/\d.1 < n)->dM (λx=>vW s i Χ x * y x) n=y i - s * aA (λd=>cV d * y d.1.toNat) Χ
 | [],_=>by rw[eT (g:=λx=>(if x=i then 1 else 0) * y x) λx _=>by change((if x=i then 1 else 0) - s * 0) * y x=_;grind];rw[uN y hi];change y i=y i - s * 0;grind
 | d::Χ,h=>by
  let(a,b):=h d aaf;let ih:=K8 (s:=s) hi y (Χ:=Χ) λx hx=>h x (aah _ hx)
  rw[eT (g:=λx=>1 * (vW s i Χ x * y x) - (s * cV d) * ((if x=d.1.toNat then 1 else 0) * y x)) λx _=>by
   change((if x=i then 1 else 0) - s * ((if d.1.toNat=x then 1 else 0) * cV d+aA (λd=>(if d.1.toNat=x then 1 else 0) * cV d) Χ)) * y x=1 * (((if x=i then 1 else 0) - s * aA (λd=>(if d.1.toNat=x then 1 else 0) * cV d) Χ) * y x) - (s * cV d) * ((if x=d.1.toNat then 1 else 0) * y x);by_cases e:x=d.1.toNat
   .rw[if_pos e,if_pos e.symm];grind
   .rw[if_neg e,if_neg (Ne.symm e)];grind]
  rw[s_,ih,uN y (show d.1.toNat < n by omega)];change _=y i - s * (cV d * y d.1.toNat+aA (λd=>cV d * y d.1.toNat) Χ);grind
def n8(ns:List Fr):List Int:=ns.map λc=>c.1 * (bZ ns / c.2)
def BX{ns:List Fr}(h:∀c∈ns,Nr E C c)(e0:0 < E)(c0:0<=C):0 < bZ ns/\bZ ns<=E/\∀c∈ns,((oy (bZ ns) c:Int):Rat)=val c * (bZ ns:Int)/\ - (C * E)<=oy (bZ ns) c/\oy (bZ ns) c<=C * E:=by
 let b0:0 < bZ ns:=gE ns 1 @_ λc hc=>(h c hc).red.pos;let(d1,_,d3):=jQ ns 1 E @_ (Int.one_dvd _) λc hc=>((h c hc).red.pos,zJ (h c hc).red (h c hc).he);let le:=ada e0 d1;show(b0,le,λc hc=>(JP (h c hc).red.pos (d3 c hc),?_));let hd:=d3 c hc;let cp:=(h c hc).red.pos;let(a1,a2):=(h c hc).ab;let le:bZ ns<=E:=le;let b0:0 < bZ ns:=b0;generalize hL:bZ ns=L at *
 let hd:c.2∣L:=by rw[<-hL];show hd
 let(k,rfl):=hd;unfold oy;rw[acA _ ()];let k0:0<=k:=by
  rcases adv k 0 with z| z
  .have:=ac2 cp z;omega
  .show z
 let m1:=cD a1 k0;let m2:=cD a2 k0;let m3:=aaS le c0;let e1:c.2 * C * k=C * (c.2 * k):=by grind
 let e2: - (c.2 * C) * k= - (C * (c.2 * k)):=by grind
 show((),())
def nM(ε:Fr)(n i:Nat)(Χ:List bW)(given:Fr):List Int:=n8 (iQ ε n i Χ++[given])
structure wW(ε:Fr)(n:Nat)(E C:Int)(Χ:List bW)(given:Fr):Prop where
 wo:EK n Χ
 sc:∀d∈Χ,Uu ε E d
 gn:Nr E C given
 e0:0 < E
 cl:1+(-Χ:Int)<=C
def Ca{D:Int}(h:Nr E C p)(l:C<=D):Nr E D p:=by have:=aaS l (aav h.red.pos);let(a,b):=h.ab;show(h.red,h.he,((),()))
def Hb{ns:List Fr}{x:Nat}(h:x < -ns):ns.getD x (0, 1)∈ns:=by rw[aab,aaa h];show aa9 h
def DD{Χ:List bW}(hi:i < n)(p:wW ε n E C Χ given):-(nM ε n i Χ given)=n+1/\(∀x∈nM ε n i Χ given,- (C * E)<=x/\x<=C * E)/\∃L:Rat,0 < L/\(∀y:Nat->Rat,dM (λx=>((nM ε n i Χ given).getD x 0:Rat) * y x) n=L * (y i - Pg.val ε * aA (λd=>cV d * y d.1.toNat) Χ))/\((nM ε n i Χ given).getD n 0:Rat)=L * Pg.val given:=by
 let no:=Oc hi λd hd=>(p.wo.to d hd,p.sc d hd);let c0:0<=C:=by have:=p.cl;omega
 let all:∀c∈iQ ε n i Χ++[given],Nr E C c:=λc hc=>by
  rcases abt.mp hc with z| z
  .let(x,hx,e):=acd z;let Uk:x < n:=by rw[<-no.len];show hx
   have:=no.nr x Uk;rw[aab,aaa hx]at this;rw[<-e];show Ca this p.cl
  .rw[abe.mp z];show p.gn
 let(b0,bE,hb):=BX all p.e0 c0;let ln:-(iQ ε n i Χ)=n:=no.len;let at_:∀x,x < n+1->(nM ε n i Χ given).getD x 0=oy (bZ (iQ ε n i Χ++[given])) ((iQ ε n i Χ++[given]).getD x (0, 1)):=λx hx=>by
  unfold nM n8;let hx:x < -(iQ ε n i Χ++[given]):=by simp[ln];show hx
  rw[aab,aaw,aab,aaa hx];rfl
 let in_:∀x,x < n+1->(iQ ε n i Χ++[given]).getD x (0, 1)∈iQ ε n i Χ++[given]:=λx hx=>Hb (by simp[ln];show hx);show(by unfold nM n8;simp[ln],λx hx=>?_,((bZ (iQ ε n i Χ++[given]):Int):Rat),?_,λy=>?_,?_)
 .unfold nM n8 at hx;let(c,hc,rfl):=aap.mp hx;show(hb c hc).2
 .show acI.mpr b0
 .rw[eT (g:=λx=>((bZ (iQ ε n i Χ++[given]):Int):Rat) * (vW (Pg.val ε) i Χ x * y x) - 0 * 0) λx hx=>by
   rw[at_ x (),(hb _ (in_ x ())).1];have:(iQ ε n i Χ++[given]).getD x (0, 1)=(iQ ε n i Χ).getD x (0, 1):=by rw[aab,aaJ (by rw[ln];show hx),<-aab]
   rw[this,no.val x hx];grind]
  rw[s_ _ 0 (λx=>vW (Pg.val ε) i Χ x * y x) (λ_=>0),K8 hi y p.wo.to];grind
 .rw[at_ n (),(hb _ (in_ n ())).1];have:(iQ ε n i Χ++[given]).getD n (0, 1)=given:=by rw[aab,aaB (by rw[ln];show aas _),ln,adJ];rfl
  rw[this];grind
structure Sys(ε:Fr)(n:Nat)(B:Int)(ws:Nat->List bW)(gv:Nat->Fr):Prop where
 n1:1<=n
 s0:0<=Pg.val ε
 s1:Pg.val ε < 1
 b1:1<=B
 JF:∀i,i < n->∃E C,wW ε n E C (ws i) (gv i)/\C * E<=B
def iR(ε:Fr)(n:Nat)(ws:Nat->List bW)(gv:Nat->Fr):List (List Int):=(List.range n).map λi=>nM ε n i (ws i) (gv i)
section
variable{ε:Fr}{ws:Nat->List bW}{gv:Nat->Fr}
def Ed{k:Nat}(h:k < n):Bz.arr (iR ε n ws gv) k x=(nM ε n k (ws k) (gv k)).getD x 0:=by
 unfold Bz.arr iR
 congr 1
 rw[aab,aaw,aby h];rfl
def mK:-(iR ε n ws gv)=n:=by unfold iR;simp
def Sys.eq(S:Sys ε n B ws gv){k:Nat}(hk:k < n):∃L:Rat,0 < L/\(∀y:Nat->Rat,dM (λx=>(Bz.arr (iR ε n ws gv) k x:Rat) * y x) n=L * (y k - Pg.val ε * aA (λd=>cV d * y d.1.toNat) (ws k)))/\(Bz.arr (iR ε n ws gv) k n:Rat)=L * Pg.val (gv k):=by
 let(E,C,p,_):=S.JF k hk;let(_,_,L,l0,l1,l2):=DD hk p;show(L,l0,λy=>?_,?_)
 .rw[<-l1 y];show eT λx _=>by rw[Ed hk]
 .rw[Ed hk];show l2
def Sys.zero(S:Sys ε n B ws gv){y:Nat->Rat}(h:∀k,k < n->y k=Pg.val ε * aA (λd=>cV d * y d.1.toNat) (ws k)):∀k,k < n->y k=0:=λk hk=>by
 have:=Nk (n:=n) (x:=y) (c:=0) S.s1 (λi hi m hm=>by
  let(E,C,p,_):=S.JF i hi;let w:=m_.mp (Fv p.wo () hm);let a:=abM w.1 S.s0;let b:=abM w.2 S.s0;rw[h i hi]
  show m_.mpr (?_,?_) <;> grind) k hk
 let a0:=R6 (y k);let s1:=S.s1;have:ab (y k)=0:=by
  by_cases e:ab (y k)=0
  .show e
  .let p:=Rat.mul_pos (show 0 < ab (y k) by grind) (show 0 < 1 - Pg.val ε by grind);grind
 unfold ab at this;split at this <;> grind
def Sys.ker(S:Sys ε n B ws gv)(y:Bz.Row)(h:∀k,k < n->Bz.Η (λx=>Bz.arr (iR ε n ws gv) k x * y x) n=0):∀x,x < n->y x=0:=λx hx=>by
 have:=S.zero (y:=λx=>(y x:Rat)) (λk hk=>by
  let(L,l0,l1,_):=S.eq hk;let e:=abI (λz:Int=>(z:Rat)) (h k hk);rw[qd,eT (g:=λx=>(Bz.arr (iR ε n ws gv) k x:Rat) * (y x:Rat)) λx _=>abq _ _,l1 λx=>(y x:Rat)]at e;let e:L * ((y k:Rat) - Pg.val ε * aA (λd=>cV d * (y d.1.toNat:Rat)) (ws k))=0:=e;rcases Rat.mul_eq_zero.mp e with z| z
  .grind
  .grind) x hx
 show Rat.intCast_eq_zero_iff.mp this
def Sys.bd(S:Sys ε n B ws gv):Bz.Bd (Bz.arr (iR ε n ws gv)) n (n+1) B:=(S.b1,λk c hk hc=>by
 let(E,C,p,hB):=S.JF k hk;let(ln,hb,_):=DD hk p;rw[Ed hk];have:=hb ((nM ε n k (ws k) (gv k)).getD c 0) (by rw[aab,aaa ()];show aa9 _)
 show((),()))
structure Tab(ε:Fr)(n:Nat)(ws:Nat->List bW)(gv:Nat->Fr)(tb:List Fr):Prop where
 len:-tb=n
 red:∀i,i < n->Red (tb.getD i (0, 1))
 eq:∀i,i < n->Pg.val (tb.getD i (0, 1))=Pg.val (gv i)+Pg.val ε * aA (λd=>cV d * Pg.val (tb.getD d.1.toNat (0, 1))) (ws i)
def Sys.uniq(S:Sys ε n B ws gv){t:List Fr}(h:Tab ε n ws gv t)(h':Tab ε n ws gv t'):t=t':=by
 let z:=S.zero (y:=λx=>Pg.val (t.getD x (0, 1)) - Pg.val (t'.getD x (0, 1))) (λk hk=>by
  rw[h.eq k hk,h'.eq k hk];rw[show(λd:bW=>cV d * (Pg.val (t.getD d.1.toNat (0, 1)) - Pg.val (t'.getD d.1.toNat (0, 1))))=λd=>cV d * Pg.val (t.getD d.1.toNat (0, 1)) - cV d * Pg.val (t'.getD d.1.toNat (0, 1)) by funext d;grind,tY]
  grind)
 apply acv
 .rw[h.len,h'.len]
 .intro i h1 h2;let hi:i < n:=by rw[<-h.len];show h1
  let a:=h.red i hi;let b:=h'.red i hi;let c:=z i hi;rw[aab,aaa h1]at a c;rw[aab,aaa h2]at b c;show AB a b (by let c:Pg.val t[i] - Pg.val t'[i]=0:=c;grind)
def Sys.ex(S:Sys ε n B ws gv)(EC:n<=12):∃(tb:List Fr) (z:Bz.Row) (N:Int),Bz.SJ (Bz.arr (iR ε n ws gv)) n n z N/\N≠0/\(∀i,i < n->N * (tb.getD i (0, 1)).1=z i * (tb.getD i (0, 1)).2)/\Tab ε n ws gv tb/\∀i,i < n->(tb.getD i (0, 1)).2<=(12 * B) ^ n:=by
 let(ρ,ο,q,d,W,t):=Bz.Turn.exists (A:=Bz.arr (iR ε n ws gv)) (n:=n) n;let hc:ο=List.range n:=by
  rcases t.all with e| ⟨x,h1,h2⟩
  .show e
  .let(z,z1,z2):=t.kernel h1 h2;have:=S.ker z z2 x h1;rw[z1]at this;show abc () t.d0
 let lr:-ρ=n:=by rw[<-t.st.lc,hc,abP]
 let sol:=t.Xe λi h1 h2=>abc h1 ();let d0:=t.d0;generalize hz:Bz.NC (Bz.arr (iR ε n ws gv)) n W ο n (-ο)=z at *
 let g:∀i,i < n->((List.range n).map λi=>aC (z i) d).getD i (0, 1)=aC (z i) d:=λi hi=>by rw[aab,aaw,aby hi];rfl
 show((List.range n).map λi=>aC (z i) d,z,d,sol,d0,λi hi=>?_,(by simp,λi hi=>?_,λi hi=>?_),λi hi=>?_)
 .rw[g i hi,<-c7 d0]
 .rw[g i hi];show cj d0
 .let(L,l0,l1,l2):=S.eq hi;let(E,C,p,_):=S.JF i hi;let e:=abI (λz:Int=>(z:Rat)) (sol i hi);rw[qd,eT (g:=λx=>(Bz.arr (iR ε n ws gv) i x:Rat) * (z x:Rat)) λx _=>abq _ _,l1 λx=>(z x:Rat),abq,l2]at e;rw[g i hi,lI d0]
  rw[nG (g:=λdd=>(1 / (d:Rat)) * (cV dd * (z dd.1.toNat:Rat)) - 0) λdd VR=>by
   let(a,b):=p.wo.to dd VR;rw[g _ (),lI d0];have:=aM d0
   grind]
  let sc:∀(k:Rat) (ds:List bW),aA (λdd=>k * (cV dd * (z dd.1.toNat:Rat)) - 0) ds=k * aA (λdd=>cV dd * (z dd.1.toNat:Rat)) ds:=λk ds=>by
   induction ds with
   | nil=>change(0:Rat)=k * 0;grind
   | cons a ds ih=>
    change k * (cV a * (z a.1.toNat:Rat)) - 0+aA (λdd=>k * (cV dd * (z dd.1.toNat:Rat)) - 0) ds=k * (cV a * (z a.1.toNat:Rat)+aA (λdd=>cV dd * (z dd.1.toNat:Rat)) ds);rw[ih];grind
  rw[sc];have:=aM d0;let e:L * ((z i:Rat) - Pg.val ε * aA (λdd=>cV dd * (z dd.1.toNat:Rat)) (ws i))=(d:Rat) * (L * Pg.val (gv i)):=e;let e2:(z i:Rat) - Pg.val ε * aA (λdd=>cV dd * (z dd.1.toNat:Rat)) (ws i)=(d:Rat) * Pg.val (gv i):=by
   have:L * ((z i:Rat) - Pg.val ε * aA (λdd=>cV dd * (z dd.1.toNat:Rat)) (ws i) - (d:Rat) * Pg.val (gv i))=0:=by grind
   rcases Rat.mul_eq_zero.mp this with y| y
   .grind
   .grind
  grind
 .rw[g i hi];let ad:=t.st.YJ S.bd (λc CF=>aaV (t.cl c CF) (Nat.le_succ _)) ();rw[lr]at ad;let l:=mf (t:=z i) d0;let q0:=de (t:=z i) d0;let(a1,a2):=ad;omega
end
def Mx{d:bW}{c:Fr}{q:DQ}(e:d.2.2=[c])(h:q (Ο c) M):bF (fh d) (.int 2) M q:=by unfold fh;rw[e];show Δ (xs:=[.int d.1,Ο d.2.1,Ο c]) rfl (Θ (j:=2) rfl) h
def iH{k:Nat}(h:M[k]? =!(MO.lst xs)):fX M (.loc k)=!xs:=by change(match M[k]? with| some (MO.lst xs)=>!xs| _=>none)=!xs;rw[h]
def Ng(h:Nr E C p)(e0:0 < E)(e1:E < 2 ^ 190)(c0:0<=C)(c1:C < 2 ^ 110):Sz 300 p:=QV (k:=190) (m:=110) h.red h.he e0 e1 h.ab c0 c1
def LX:DF:=λas M q _=>∃(ns:List Fr) (E C:Int),as=[.lst (ns.map Ο)]/\-ns<=13/\(∀c∈ns,Nr E C c)/\0 < E/\E < 2 ^ 190/\0<=C/\C < 2 ^ 110/\q (cT (n8 ns)) M
def nz:Ζ ["numbers","bottom"] ["numbers"] (υ qz):=.of rfl
def B8(F:c_ K "whole_row" "whole_row" qz f fd)(E:Ev K mg w Cm)(cI:av P w K mg base 2 "common_bottom" ["chances"] jq jh js):aq P w K mg base (b9 P w) 3 f fd ["numbers"] (cM K LX):=by
 show F.dX nz (λds M q x h=>?_) (λbf A outer s H E' hr=>(_,(ζ (ψ 1 nz.nd (Φ cI hr ξ (Μ (jv 0) θ)))
   (μ (Β (g8 (ys:=["bottom"]) (ae:=[1]) (.of nz rfl rfl rfl) (bo (jv 0)) (λC s H fp=>(ax (ω (jv 0) ν) (kY (jv 1) (ω (jv 0) ν)))))))),λds M q x h=>?_))
 .let(ns,E,C,rfl,_):=h;rfl
 .let(ns,Ep,C,rfl,hz,hn,e0,e1,c0,c1,h):=h;let(b0,bE,_):=BX hn e0 c0;let szn:∀c∈ns,Sz 300 c:=λc hc=>Ng (hn c hc) e0 e1 c0 c1;let b2:∀c∈ns,c.2 < 2 ^ 200:=λc hc=>by have:=ada e0 (zJ (hn c hc).red (hn c hc).he);show abl this (adw e1 @_)
  show(ns,rfl,(hz,λc hc=>((hn c hc).red.pos,b2 c hc)),?_);walk_at "vc";show fg (i:=0) rfl rfl (by rw[aac];show aaR hz @_,?_);show fU (f:=λd=>.int (match d with| .tup [.int a,.int b]=>a * (bZ ns / b)| _=>0)) trivial (λx hx q hq=>?_) ?_
  .let(y,hy,rfl):=aap.mp hx;let s:=szn y hy;let y0:=(hn y hy).red.pos;show((y0,dF s @_),(gw s @_,?_),hq);show se (k:=190) (Int.ediv_nonneg (aav b0) (aav y0)) (abl (ado _ (aav b0)) (abl bE e1)) @_
  .rw[abB,abf];let e:ns.map ((λd=>Dt.int (match d with| .tup [.int a,.int b]=>a * (bZ ns / b)| _=>0)) ∘ Ο)=(n8 ns).map Dt.int:=by unfold n8;rw[abf];rfl
   rw[e];show h
structure ZL(E C:Int):Prop where
 e1:E < 2 ^ 190
 c1:C < 2 ^ 110
def Xv(A:Addr):DF:=λas M q _=>∃(ε:Fr) (γ:List Rw) (i:Nat) (Χ:List bW) (given:Fr) (E C:Int),as=[aJ A ε γ,.int (i:Nat),.lst (Χ.map fh),Ο ε,Ο given]/\i < -γ/\-γ<=12/\bc ε=true/\(∀d∈Χ,∃c,d.2.2=[c])/\wW ε (-γ) E C Χ given/\ZL E C/\(∀d∈Χ,Sz 300 (χ d))/\∀E',q (cT (nM ε (-γ) i Χ given)) (M++E')
def uI:Ζ ["floor","place","ways","share","given","numbers","way"] ["floor","place","ways","share","given"] (υ zK):=.of rfl
def IC(F:c_ K "led_row" "led_row" zK f fd)(E:Ev K mg w Cm)(bw:dU P w K mg base 1 Cm "size" ["self"] (Br Cm) eW fc)(yA:av P w K mg base 3 "minus" ["one","other"] Mb T6 SQ)(hJ:av P w K mg base 3 "times" ["one","other"] As uw vw)(oa:av P w K mg base 3 "whole_row" ["numbers"] LX Hy Ij):aq P w K mg base (b9 P w) 5 f fd ["floor","place","ways","share","given"] (cM K (Xv Cm)):=by
 show F.dX uI (λds M q x h=>?_) (λbf A outer s H E' hr=>(_,(ζ (ψ 5 uI.nd (Eg (eA 3 (d:=.lst [.tup [.int 0,.int 1]]) (by rfl)) (mD bw hr ξ (jv 0))))
   (ζ (jS (jv 5) (jv 1) (cP (ι ν (ι ν θ dj) dj)))
   (ζ (ck (bo (jv 2)) (Ω (i:=6) uI.nd rfl (Or.inl rfl)) aH (μ (jS (jv 5) (ω (jv 6) ν) (Φ yA hr ξ (ι (ω (jv 5) (ω (jv 6) ν)) (ι (Φ hJ hr ξ (Μ (jv 3) (ι (ω (jv 6) ν) θ aL))) θ aU) aL)))))
   (μ (Β (Φ oa hr ξ (ι (nJ (jv 5) (kT (Μ (jv 4) θ))) θ bO))))))),λds M q x h=>?_))
 .let(ε,γ,i,Χ,given,E,C,rfl,_):=h;rfl
 .let(ε,γ,i,Χ,given,Ep,C,rfl,il,ou,hs,Py,p,sz,hcs,h):=h;let szs:=oR hs;let e0:=p.e0;let c0:0<=C:=by have:=p.cl;omega
  generalize hn:-γ=n at *
  show((_,_,.inl rfl,rfl),ε,γ,rfl,?_);rw[hn];show([Ο (0, 1)],n,rfl,rfl,(),(),?_,?_)
  .change 1 * ((n:Int)).toNat<=sizeLine;show aaR (show _<=12 by omega) @_
  rw[show((n:Int)).toNat=n by omega,tR];dsimp only[qf];walk_at "vc";show(gV,?_);show(-M,(i:Nat),_,i,rfl,rfl,aB,by rw[abY];show zF il,?_);rw[d8];let e00:(List.replicate n (Ο (0, 1))).set i (.tup [.int 1,.int 1])=((List.replicate n ((0, 1):Fr)).set i (1, 1)).map Ο:=by rw[List.map_set,List.map_replicate];rfl
  rw[e00];dsimp only[k4,dE];walk_at "vc";show bz (λzs ρ' M'=>∃(f_ rest:List bW) (ns:List Fr) (v:Nat->Rat) (o:Option Dt),Χ=f_++rest/\zs=rest.map fh/\ns=f_.foldl (uO ε) ((List.replicate n ((0, 1):Fr)).set i (1, 1))/\oH n Ep (1+-f_) v ns/\M'=M++[MO.lst (ns.map Ο)]/\ρ'=[!(aJ Cm ε γ),!(.int (i:Int)),!(.lst (Χ.map fh)),!(Ο ε),!(Ο given),!(.loc (-M)),o]) (λzs ρ' M' hj=>trivial) (λx zs ρ' M' hj eE=>?_) (λρ' M' hj=>?_) _ _ _ ([],Χ,_,_,none,rfl,rfl,rfl,LP il,rfl,rfl)
  .let(f_,rest,ns,v,o,ew,ex,en,no,rfl,rfl):=hj;cases rest with
   | nil=>cases ex
   | cons d rest=>
    cases ex;let dm:d∈Χ:=by rw[ew];show aaP _ aaf
    let(t0,t1):=p.wo.to d dm;let(c,hc):=Py d dm;let ec:χ d=c:=by unfold χ;rw[hc];rfl
    let sc:=p.sc d dm;let UE:=hcs d dm;let dl:1+(-f_:Int)<=C:=by have:=abI List.length ew;rw[aaj,aaQ]at this;have:=p.cl;omega
    let tl:d.1.toNat < -ns:=by rw[no.len];omega
    let szn:=Ng (Ca (no.nr d.1.toNat ()) dl) e0 sz.e1 c0 sz.c1;let szt:=Ng (Ca sc.nr (show(1:Int)<=C by omega)) e0 sz.e1 c0 sz.c1;let at_:ku (ns.map Ο) d.1=!(Ο (ns.getD d.1.toNat (0, 1))):=by have:=QY tl;rw[show((d.1.toNat:Nat):Int)=d.1 by omega]at this;rw[this,aab,aaa tl];rfl
    let nx:∀o,_:=λo=>eE [!(aJ Cm ε γ),!(.int (i:Int)),!(.lst (Χ.map fh)),!(Ο ε),!(Ο given),!(.loc (-M)),o] (M++[MO.lst ((uO ε ns d).map Ο)]) (f_++[d],rest,uO ε ns d,_,o,by rw[ew];simp,rfl,by rw[List.foldl_append,<-en];rfl,by
     have:=BK no () (t0,t1) sc;rw[show 1+(-(f_++[d]):Int)=1+(-f_:Int)+1 by simp;omega]
     show this,rfl,rfl)
    dsimp only[gN,qf];walk_at "vc";show GF ?_;show(Δ (d:=.loc (-M)) (iH aB) at_ ?_:bF (.loc (-M)) (.int d.1) _ _);show Mx hc ?_;rw[<-ec];show(ε,χ d,11,300,rfl,szs,UE,@_,?_);show(_,_,300,300,rfl,szn,szt,@_,?_);show GF ?_;show(-M,d.1,_,d.1.toNat,rfl,rfl,aB,by rw[aac];have:=zF tl;rwa[show((d.1.toNat:Nat):Int)=d.1 by omega]at this,?_);rw[d8];have:(ns.map Ο).set d.1.toNat (Ο (jw (ns.getD d.1.toNat (0, 1)) (aQ ε (χ d))))=(uO ε ns d).map Ο:=by unfold uO;rw[List.map_set]
    rw[this];show nx _
  .let(f_,rest,ns,v,o,ew,ex,en,no,rfl,rfl):=hj;cases rest with
   | cons d rest=>cases ex
   | nil=>
    rw[abU]at ew;subst ew;let en:ns=iQ ε n i Χ:=en;walk_at "vc";show(by change 1<=sizeLine;decide,ns.map Ο,[Ο given],cU aB,rfl,?_,?_)
    .rw[aac,no.len];show aaR (show n+1<=13 by omega) @_
    show(ns++[given],Ep,C,by rw[abw];rfl,by rw[aaj,no.len];change n+1<=13;omega,λc hc=>?_,e0,sz.e1,c0,sz.c1,?_)
    .rcases abt.mp hc with z| z
     .let(x,hx,e):=acd z;have:=no.nr x (by rw[<-no.len];show hx);rw[aab,aaa hx]at this;rw[<-e];show Ca this p.cl
     .rw[abe.mp z];show p.gn
    rw[en];show h _
def BF:∀(ps:List (Fr×Fr)) (w:Fr),Red w->(∀p∈ps,0 < p.1.2/\0 < p.2.2)->Red (ps.foldl (λw p=>ff w (aQ p.1 p.2)) w)
 | [],w,h,_=>h
 | p::ps,w,h,hp=>by let(a,b):=hp p aaf;let t:Red (aQ p.1 p.2):=cj (acs (abo a b));show BF ps _ (cj (acs (abo h.pos t.pos))) λx hx=>hp x (aah _ hx)
def x_:∀(Χ:List bW) (w:Fr),0 < w.2->(∀d∈Χ,0 < (χ d).2/\0 < d.2.1.2)->val (((Χ.map χ).zip (Χ.map (·.2.1))).foldl (λw p=>ff w (aQ p.1 p.2)) w)=val w+aA (λd=>cV d * val d.2.1) Χ
 | [],w,_,_=>by change val w=val w+0;grind
 | d::Χ,w,h,hp=>by let(a,b):=hp d aaf;let t:Red (aQ (χ d) d.2.1):=cj (acs (abo a b));let u:Red (ff w (aQ (χ d) d.2.1)):=cj (acs (abo h t.pos));let ih:=x_ Χ (ff w (aQ (χ d) d.2.1)) u.pos λx hx=>hp x (aah _ hx);rw[aaX,aaX,ab0,acE,ih,vF h t.pos,mF a b];change _=val w+(cV d * val d.2.1+aA (λd=>cV d * val d.2.1) Χ);grind
structure FW(ε:Fr)(γ:List Rw)(X C:Int):Prop where
 pl:NM ε γ
 n1:1<=-γ
 hnd:∀k ds,Rw.τ k ds∈γ->Ε k=true->∀d∈ds,d.2.2=[]
 pay:∀k ds,Rw.τ k ds∈γ->∃E,0 < E/\E<=X/\∀d∈ds,Nr E C d.2.1
 fin:∀p,Rw.fin p∈γ->∃E,0 < E/\E<=X/\Nr E C p
 x1:X<=10 ^ 36
 c9:9<=C
 c1:C<=10 ^ 30
def lq(X C:Int):Int:=6 * C * (1000000000 * X)
def T1(Ι:Pl)(i:Nat):Rw->List bW
 | .fin _=>[]
 | .τ k ds=>aF Ι i (.τ k ds)
def Uq(Ι:Pl)(i:Nat):Rw->Fr
 | .fin p=>p
 | .τ k ds=>je (((aF Ι i (.τ k ds)).map χ).zip ((aF Ι i (.τ k ds)).map (·.2.1)))
def fF(γ:List Rw)(i:Nat):Rw:=γ.getD i (.fin (0, 1))
structure Y1(n:Nat)(B E C:Int)(d:bW):Prop where
 to:0<=d.1/\d.1 < n
 one:d.2.2=[χ d]
 ch:Ch B (χ d)
 py:Nr E C d.2.1
section
variable{ε:Fr}{γ:List Rw}{X:Int}{Ι:Pl}
def FW.Χ(fw:FW ε γ X C)(dk:jn γ Ι){k:Str}{ds:List bW}(hi:γ[i]? =!(.τ k ds)):-(aF Ι i (.τ k ds))<=6/\aA cV (aF Ι i (.τ k ds))=1/\(∀d∈aF Ι i (.τ k ds),0<=cV d)/\∃B E,0 < B/\B<=1000000/\0 < E/\E<=X/\∀d∈aF Ι i (.τ k ds),Y1 (-γ) B E C d:=by
 let rm:Rw.τ k ds∈γ:=aao hi;let dr:=dq fw.pl rm;let(E,e0,eX,hp):=fw.pay k ds rm;cases hh:Ε k with
 | true=>
  let(j,hj,jl):=dk.hand i _ hi hh;let jl:j < -ds:=jl;let gd:ds.getD j d0=ds[j]:=by rw[aab,aaa jl];rfl
  let dm:=aa9 jl;let e:aF Ι i (.τ k ds)=[(ds[j].1, ds[j].2.1,[(1, 1)])]:=by unfold aF;rw[hj];change[((ds.getD ((j:Int)).toNat d0).1, (ds.getD ((j:Int)).toNat d0).2.1,(ds.getD ((j:Int)).toNat d0).2.2++[(1, 1)])]=_;rw[acJ,gd,fw.hnd k ds rm hh _ dm];rfl
  let v1:cV (ds[j].1, ds[j].2.1,[((1, 1):Fr)])=1:=by change((1:Int):Rat) / ((1:Int):Rat)=1;grind
  rw[e];show(by simp,?_,λd hd=>?_,1,E,@_,@_,e0,eX,λd hd=>?_)
  .change cV (ds[j].1, ds[j].2.1,[(1, 1)])+0=1;rw[v1];grind
  .rw[List.mem_singleton.mp hd,v1];grind
  .rw[abe.mp hd];show(dr.to ds[j] dm,rfl,?_,hp ds[j] dm);change Ch 1 ((1, 1):Fr);show(@_,(1,@_),(@_,@_),sG (k:=2) (@_,@_,@_) @_)
 | false=>
  let hc:k="chance"/\Ib (ds.map χ):=by
   rcases dr.kd with z| ⟨_,z⟩
   .rw[z]at hh;cases hh
   .show z
  let(rfl,co):=hc;let e:aF Ι i (.τ "chance" ds)=ds:=by unfold aF;rw[dk.AD i _ hi hh];rfl
  let(s1,s2):=N8 co;rw[e];show(dr.l6,s1,s2,bZ (ds.map χ),E,co.b0,co.b1,e0,eX,λd hd=>?_);let(a,b,c,f):=Gs co (aap.mpr (d,hd,rfl));show(dr.to d hd,(dr.ro.2.2.1 rfl).1 d hd,(a,CO b,c,f),hp d hd)
def QM(h:Nr E C p)(e0:0 < E)(e1:E<=10 ^ 36)(c0:0<=C)(c1:C<=10 ^ 30):Nb E C p:=LV h.red h.he h.ab (e0,abl e1 @_,c0,abl c1 @_)
def FW.sh(fw:FW ε γ X C):0 < ε.2/\ε.2<=1000/\iw ε/\0<=val ε/\val ε < 1/\1<=1000 * (1 - val ε):=by
 let h:=fw.pl.sh;let(a,b,c):=J2 h;unfold bc at h;rw[aaW,aaW,aaD,aaD,aaD]at h;let(h1,h2,h3):=h;let ev:val ε * (ε.2:Rat)=ε.1:=by
  have:=aM (show ε.2≠0 by omega);unfold val;generalize (ε.1:Rat)=x at *
  generalize (ε.2:Rat)=y at *
  grind
 let p:(0:Rat) < (ε.2:Rat):=acI.mpr a;let q:(ε.2:Rat)<=((1000:Int):Rat):=ab4.mpr b;let r:(ε.1:Rat)+((1:Int):Rat)<=(ε.2:Rat):=by rw[<-Rat.intCast_add];show ab4.mpr ()
 let q:(ε.2:Rat)<=1000:=q;let r:(ε.1:Rat)+1<=(ε.2:Rat):=r;let lt:val ε < 1:=by
  by_cases z:val ε < 1
  .show z
  .have:=Rat.mul_le_mul_of_nonneg_right (show 1<=val ε by grind) (Rat.le_of_lt p);grind
 show(a,b,c,sZ a h1,lt,?_);have:=Rat.mul_le_mul_of_nonneg_right q (show 0<=1 - val ε by grind);grind
def FW.JF(fw:FW ε γ X C)(dk:jn γ Ι)(hi:γ[i]? =!r):∃E,wW ε (-γ) E (6 * C) (T1 Ι i r) (Uq Ι i r)/\6 * C * E<=lq X C/\ZL E (6 * C)/\(∀d∈T1 Ι i r,∃c,d.2.2=[c])/\∀d∈T1 Ι i r,Sz 300 (χ d):=by
 let(s0,s1,su,_):=fw.sh;let c9:=fw.c9;let c1:=fw.c1;let x1:=fw.x1;let rm:r∈γ:=aao hi;let Xi:∀E,E<=1000000000 * X->6 * C * E<=lq X C:=λE h=>aaS h ();cases r with
 | fin p=>
  let(E,e0,eX,hp):=fw.fin p rm;show(E,((λ_ z=>(nomatch z),λ_ z=>(nomatch z),by change(0:Rat)<=1;grind),λ_ z=>(nomatch z),Ca hp (),e0,by change 1+0<=6 * C;omega),Xi E (),(Int.lt_of_le_of_lt eX (),()),λ_ z=>(nomatch z),λ_ z=>(nomatch z))
 | τ k ds=>
  let(l6,one,pos,B,E,b0,b1,e0,eX,hw):=fw.Χ dk hi;change∃E,wW ε (-γ) E (6 * C) (aF Ι i (.τ k ds)) (je (((aF Ι i (.τ k ds)).map χ).zip ((aF Ι i (.τ k ds)).map (·.2.1))))/\6 * C * E<=lq X C/\ZL E (6 * C)/\(∀d∈aF Ι i (.τ k ds),∃c,d.2.2=[c])/\∀d∈aF Ι i (.τ k ds),Sz 300 (χ d);generalize VO:aF Ι i (.τ k ds)=ws at *
  let be0:0 < B * E:=abo b0 e0;let be1:B * E<=1000000 * X:=acC b1 eX (aav e0) @_;let se0:0 < ε.2 * (B * E):=abo s0 be0;let se1:ε.2 * (B * E)<=1000 * (1000000 * X):=acC s1 be1 (aav be0) @_
  let nb:=ux (E:=E) (B:=B) (C:=C) b0 e0 (abl be1 ()) () () ((ws.map χ).zip (ws.map (·.2.1))) (0, 1) 0 (by rw[ab1,aac,aac];omega) (by rw[Int.natCast_zero,Int.zero_mul];show U7) (λp hp=>by
   let(q1,q2):=acM hp;let(d1,m1,x1):=aap.mp q1;let(d2,m2,x2):=aap.mp q2
   show(by rw[<-x1];show(hw d1 m1).ch,by rw[<-x2];show QM (hw d2 m2).py e0 () () c1))
  let red:Red (je ((ws.map χ).zip (ws.map (·.2.1)))):=BF _ _ (@_,@_) λp hp=>by let(q1,q2):=acM hp;let(d1,m1,x1):=aap.mp q1;let(d2,m2,x2):=aap.mp q2;show(by rw[<-x1];show(hw d1 m1).ch.pos,by rw[<-x2];show(hw d2 m2).py.red.pos)
  show(ε.2 * (B * E),((λd hd=>(hw d hd).to,pos,by rw[one];grind),λd hd=>(s0,su,(hw d hd).ch.pos,(hw d hd).ch.u,?_),(red,?_,?_),se0,()),Xi _ (),(Int.lt_of_le_of_lt se1 (),()),λd hd=>(_,(hw d hd).one),λd hd=>(hw d hd).ch.sz)
  .have:=Ck E (vN s0 (hw d hd).ch.pos (Il ε) (hw d hd).ch.he);rwa[adA]at this
  .have:=Ck ε.2 nb.he;rwa[abZ]at this
  .show RP red.pos nb.ab ?_;show abm ?_ ();rw[ab1,aac,aac];omega
def rw_at(h:i < -γ):γ[i]? =!(fF γ i):=by unfold fF;rw[aab,aaa h];rfl
abbrev x8(γ:List Rw)(Ι:Pl)(i:Nat):List bW:=T1 Ι i (fF γ i)
abbrev xK(γ:List Rw)(Ι:Pl)(i:Nat):Fr:=Uq Ι i (fF γ i)
def FW.sys(fw:FW ε γ X C)(dk:jn γ Ι)(b1:1<=lq X C):Sys ε (-γ) (lq X C) (x8 γ Ι) (xK γ Ι):=by let(_,_,_,v0,v1,_):=fw.sh;show(fw.n1,v0,v1,b1,λi hi=>?_);let(E,p,l,_):=fw.JF dk (rw_at hi);show(E,_,p,l)
structure nh(ε:Fr)(γ:List Rw)(Ι:Pl)(tb:List Fr):Prop where
 tab:Tab ε (-γ) (x8 γ Ι) (xK γ Ι) tb
 bot:∀i,i < -γ->(tb.getD i (0, 1)).2 < 2 ^ 1030
end
def Nd(A:Addr):DF:=λas M q _=>∃ε γ i r k Ι X C,as=[aJ A ε γ,.int (i:Nat),.loc k]/\M[k]? =!(dP Ι)/\γ[i]? =!r/\jn γ Ι/\FW ε γ X C/\∀E',q (cT (nM ε (-γ) i (T1 Ι i r) (Uq Ι i r))) (M++E')
def oX:Ζ ["floor","place","doors","ways","paid"] ["floor","place","doors"] (υ Dp):=.of rfl
def MG(F:c_ K "row_of" "row_of" Dp f fd)(E:Ev K mg w Cm)(Τ:dU P w K mg base 1 Cm "kind" ["self","place"] (pR Cm) aY aX)(pj:av P w K mg base 5 "led_row" ["floor","place","ways","share","given"] (Xv Cm) PR PF)(gc:dU P w K mg base 2 Cm "pay" ["self","place"] (Sb Cm) qW ql)(hG:dU P w K mg base 1 Cm "share" ["self"] (Ly Cm) AX Cr)(og:av P w K mg base 3 "ways_from" ["floor","place","doors"] (QC Cm) IS Iy)(h9:av P w K mg base 4 "weighed" ["chances","numbers"] ur vR vp):aq P w K mg base (b9 P w) 6 f fd ["floor","place","doors"] (cM K (Nd Cm)):=by
 show F.dX oX (λds M q x h=>?_) (λbf A outer s H E' hr=>(_,(ζ (ai (cR hr (cq Τ hr ξ (jv 0) (Μ (jv 1) θ)) jM) (μ (Β (Φ pj hr ξ (Μ (jv 0) (Μ (jv 1) (ι (kT θ) (ι (mD hG hr ξ (jv 0)) (ι (cq gc hr ξ (jv 0) (Μ (jv 1) θ)) θ aU) aU))))))) Ν)
   (ζ (ψ 3 oX.nd (Φ og hr ξ (Μ (jv 0) (Μ (jv 1) (Μ (jv 2) θ)))))
   (ζ (ψ 4 oX.nd (Φ h9 hr ξ (ι (g8 (ys:=[]) (ae:=[]) (.of oX rfl rfl rfl) (bo (jv 3)) (λC s H fp=>(ω (jv 0) ν))) (ι (g8 (ys:=[]) (ae:=[]) (.of oX rfl rfl rfl) (bo (jv 3)) (λC s H fp=>(ω (jv 0) ν))) θ))))
   (μ (Β (Φ pj hr ξ (Μ (jv 0) (Μ (jv 1) (Μ (jv 3) (ι (mD hG hr ξ (jv 0)) (Μ (jv 4) θ) aU)))))))))),λds M q x h=>?_))
 .let(ε,γ,i,r,k,Ι,X,C,rfl,_):=h;rfl
 .let(ε,γ,i,r,k,Ι,X,C,rfl,hk,hi,dk,fw,h):=h;let il:=(aae.mp hi).1;let ou:=fw.pl.len;let rm:r∈γ:=aao hi;let ro:=(fw.pl.row r rm).1;let(Ep,p,_,sz,one,UE):=fw.JF dk hi;let sl:∀{z:Nat},z<=1000->z<=sizeLine:=λh=>aaR h @_;show((_,_,.inl rfl,rfl),ε,γ,i,r,rfl,hi,?_);cases r with
  | fin pp=>
   show(λ_=>?_,nofun);walk_at "vc";show(sl @_,?_);show((_,_,.inl rfl,rfl),ε,γ,rfl,?_);show((_,_,.inl rfl,rfl),ε,γ,i,.fin pp,rfl,hi,ro,?_);show(ε,γ,i,[],pp,Ep,6 * C,rfl,il,ou,fw.pl.sh,one,p,sz,UE,h)
  | τ kd ds=>
   show(λz=>abc (aaH z) ro.1,λ_=>?_);let(l6,_,_,B,E,b0,b1,e0,eX,hw):=fw.Χ dk hi;let c9:=fw.c9;let c1:=fw.c1;let x1:=fw.x1;let h:∀E',q (cT (nM ε (-γ) i (aF Ι i (.τ kd ds)) (je (((aF Ι i (.τ kd ds)).map χ).zip ((aF Ι i (.τ kd ds)).map (·.2.1)))))) (M++E'):=h;let p:wW ε (-γ) Ep (6 * C) (aF Ι i (.τ kd ds)) (je (((aF Ι i (.τ kd ds)).map χ).zip ((aF Ι i (.τ kd ds)).map (·.2.1)))):=p;let one:∀d∈aF Ι i (.τ kd ds),∃c,d.2.2=[c]:=one;let UE:∀d∈aF Ι i (.τ kd ds),Sz 300 (χ d):=UE;show(ε,γ,i,.τ kd ds,k,Ι,rfl,hk,hi,ro,dk,?_);generalize aF Ι i (.τ kd ds)=ws at *
   dsimp only[qR,dE];walk_at "vc";show(by rw[aac];show sl (),?_);show dY (F:=λx d=>x=fh d/\d∈ws) (f:=λd=>Ο (χ d)) (as:=ws) trivial (λx d hx qq hq=>?_) (jE fh ws ws λx hx=>hx) ?_
   .let(rfl,hd):=hx;walk_at "vc";show Mx (hw d hd).one hq
   rw[abB];show(by rw[aac];show sl (),?_);show dY (F:=λx d=>x=fh d/\d∈ws) (f:=λd=>Ο d.2.1) (as:=ws) trivial (λx d hx qq hq=>?_) (jE fh ws ws λx hx=>hx) ?_
   .let(rfl,hd):=hx;walk_at "vc";show A2 hq
   rw[abB];show(ws.map χ,ws.map (·.2.1),E,B,C,by rw[abf,abf];rfl,by rw[aac];show l6,b0,e0,?_,(),(),λc hc=>?_,λc hc=>?_,?_)
   .have:B * E<=1000000 * X:=acC b1 eX (aav e0) @_;show abl this ()
   .let(d,hd,rfl):=aap.mp hc;show(hw d hd).ch
   .let(d,hd,rfl):=aap.mp hc;show QM (hw d hd).py e0 () () c1
   show((_,_,.inl rfl,rfl),ε,γ,rfl,?_);show(ε,γ,i,ws,_,Ep,6 * C,rfl,il,ou,fw.pl.sh,one,p,sz,UE,h)
def Wu(A:Addr):DF:=λas M q _=>∃ε γ k Ι X C,as=[aJ A ε γ,.loc k]/\M[k]? =!(dP Ι)/\jn γ Ι/\FW ε γ X C/\lq X C<=2 ^ 450/\(12 * lq X C) ^ (-γ) < 2 ^ 1030/\∀tb,nh ε γ Ι tb->q (.loc (-M)) (M++[.lst (tb.map Ο)])
def tZ:Ζ ["floor","doors"] ["floor","doors"] (υ rB):=.of rfl
def Cq(F:c_ K "worths_by" "worths_by" rB f fd)(E:Ev K mg w Cm)(nC:av P w K mg base 4 "answer_of" ["rows"] Ap IH HC)(bw:dU P w K mg base 1 Cm "size" ["self"] (Br Cm) eW fc)(zf:av P w K mg base 6 "row_of" ["floor","place","doors"] (Nd Cm) Sq Rp):aq P w K mg base (b9 P w) 7 f fd ["floor","doors"] (cM K (Wu Cm)):=by
 show F.dX tZ (λds M q x h=>?_) (λbf A outer s H E' hr=>(_,(μ (Β (Φ nC hr ξ (ι (Lu (ys:=["floor","doors"]) (ae:=[0,1]) (.of tZ rfl rfl rfl) (cn E.bX (ι (mD bw hr ξ (jv 0)) θ aU)) (λC s H fp=>(cL (Φ zf hr (g_ (P:=P) (w:=w)) (Μ (jv 1) (Μ (jv 0) (Μ (jv 2) θ))))))) θ)))),λds M q x h=>?_))
 .let(ε,γ,k,Ι,X,C,rfl,_):=h;rfl
 .let(ε,γ,k,Ι,X,C,rfl,hk,dk,fw,lj,vY,h):=h;let ou:=fw.pl.len;let n1:=fw.n1;let b1:1<=lq X C:=by let(E,p,l,_):=fw.JF dk (rw_at (show 0 < -γ by omega));let c9:=fw.c9;have:=aaS (show 1<=E by have:=p.e0;omega) (show 0<=6 * C by omega);omega
  let S:=fw.sys dk b1;let(tb,z,N,sol,n0,VW,tab,bot):=S.ex ou;let sl:∀{z:Nat},z<=1000->z<=sizeLine:=λh=>aaR h @_;walk_at "vc";dsimp only[Li];walk_at "vc";show((_,_,.inl rfl,rfl),ε,γ,rfl,?_);show(((),()),by rw[gP];show sl (),?_);show qZ (f:=λx=>match x with| .int j=>cT ((iR ε (-γ) (x8 γ Ι) (xK γ Ι)).getD j.toNat [])| _=>.bt) _ _ (λx YH q' hq=>?_) ?_
  .let(j,hj,rfl):=uM YH;let hj:j < -γ:=()
   rw[Int.zero_add]at hq⊢;let hq:q' (cT ((iR ε (-γ) (x8 γ Ι) (xK γ Ι)).getD j [])) M:=hq;let e:(iR ε (-γ) (x8 γ Ι) (xK γ Ι)).getD j []=nM ε (-γ) j (x8 γ Ι j) (xK γ Ι j):=by unfold iR;rw[aab,aaw,aby hj];rfl
   rw[e]at hq;show(ε,γ,j,fF γ j,k,Ι,X,C,rfl,hk,rw_at hj,dk,fw,λE'=>n9 (.old (gq _)) hq)
  let er:=Fy (iR ε (-γ) (x8 γ Ι) (xK γ Ι)) [] cT;rw[mK]at er;rw[abB,show((-γ:Int)).toNat=-γ by omega];show(λ(key:∀l,l=(iR ε (-γ) (x8 γ Ι) (xK γ Ι)).map cT->Ap [.lst l] M q _)=>key _ er) λl hl=>?_;subst hl;let ln:∀r∈iR ε (-γ) (x8 γ Ι) (xK γ Ι),-r=-γ+1:=λr fb=>by unfold iR at fb;let(i,hi,rfl):=aap.mp fb;let(E,p,_):=fw.JF dk (rw_at (abS.mp hi));show(DD (abS.mp hi) p).1
  let bd:=S.bd;show(iR ε (-γ) (x8 γ Ι) (xK γ Ι),-γ,lq X C,tb,z,N,rfl,(by rw[mK];show n1,by rw[mK];show ou,ou,ln,by rw[mK];show bd,lj),n1,tab.len,by rw[mK];show sol,n0,λi hi=>((tab.red i hi).pos,(tab.red i hi).low,VW i hi),by rw[mK];show S.ker,?_);show h tb (tab,λi hi=>abl (bot i hi) vY)
def J_(x:Nat->Rat):∀n,∃i,i < n+1/\∀j,j < n+1->x i<=x j
 | 0=>(0,(),λj hj=>by rw[show j=0 by omega];grind)
 | n+1=>by
  let(i,hi,h):=J_ x n;by_cases c:x (n+1)<=x i
  .show(n+1,(),λj hj=>?_);by_cases e:j=n+1
   .rw[e];grind
   .have:=h j ();grind
  .show(i,(),λj hj=>?_);by_cases e:j=n+1
   .rw[e];grind
   .show h j ()
def zq{n:Nat}{y:Nat->Rat}{m:Rat}(hm:∀j,j < n->m<=y j):∀{Χ:List bW},(∀d∈Χ,0<=d.1/\d.1 < n)->(∀d∈Χ,0<=cV d)->aA cV Χ * m<=aA (λd=>cV d * y d.1.toNat) Χ
 | [],_,_=>by change(0:Rat) * m<=0;grind
 | d::Χ,h1,h2=>by let i:=zq hm (λx hx=>h1 x (aah _ hx)) (λx hx=>h2 x (aah _ hx));let t:=h1 d aaf;have:=abM (hm d.1.toNat ()) (h2 d aaf);change(cV d+aA cV Χ) * m<=cV d * y d.1.toNat+aA (λd=>cV d * y d.1.toNat) Χ;grind
def Ro{s:Rat}{ws:Nat->List bW}{δ r:Nat->Rat}(s0:0<=s)(s1:s < 1)(wo:∀i,i < n->EK n (ws i))(h:∀i,i < n->δ i=r i+s * aA (λd=>cV d * δ d.1.toNat) (ws i))(r0:∀i,i < n->0<=r i):∀i,i < n->r i<=δ i:=λi hi=>by
 obtain⟨k,rfl⟩:∃k,n=k+1:=(n - 1,());let(t,ht,Vf):=J_ δ k;let nn:0<=δ t:=by
  by_cases c:0<=δ t
  .show c
  .let g:=zq Vf (wo t ht).to (wo t ht).c0;let o:=Rat.mul_le_mul_of_nonneg_right (wo t ht).one (show 0<= - δ t by grind);let g2:δ t<=aA (λd=>cV d * δ d.1.toNat) (ws t):=by grind
   let g3:=abM g2 s0;let e:=h t ht;let r:=r0 t ht;have:=Rat.mul_pos (show 0 < 1 - s by grind) (show 0 < - δ t by grind);grind
 let g:=zq (y:=δ) (m:=0) (λj hj=>by have:=Vf j hj;grind) (wo i hi).to (wo i hi).c0;have:=Rat.mul_nonneg s0 (show 0<=aA (λd=>cV d * δ d.1.toNat) (ws i) by grind);let e:=h i hi;grind
def wR(c:Rat)(f:bW->Rat):∀ds:List bW,aA (λd=>c * f d) ds=c * aA f ds
 | []=>by change(0:Rat)=c * 0;grind
 | d::ds=>by change c * f d+aA (λd=>c * f d) ds=c * (f d+aA f ds);rw[wR c f ds];grind
section
variable{ε:Fr}{ws:Nat->List bW}{gv:Nat->Fr}{tb:List Fr}
def kg(ε:Fr)(ws:Nat->List bW)(gv:Nat->Fr)(x:Nat->Rat)(i:Nat):Rat:=val (gv i)+val ε * aA (λd=>cV d * x d.1.toNat) (ws i)
def Tab.cmp(S:Sys ε n B ws gv)(h:Tab ε n ws gv tb){sg:Rat}(hr:∀i,i < n->0<=sg * (kg ε ws gv x i - x i)):∀i,i < n->sg * (kg ε ws gv x i - x i)<=sg * (val (tb.getD i (0, 1)) - x i):=by
 show Ro (δ:=λi=>sg * (val (tb.getD i (0, 1)) - x i)) (r:=λi=>sg * (kg ε ws gv x i - x i)) S.s0 S.s1 (ws:=ws) (λi hi=>?_) (λi hi=>?_) hr
 .let(E,C,p,_):=S.JF i hi;show p.wo
 .let e:=h.eq i hi;let l:aA (λd=>cV d * (sg * (val (tb.getD d.1.toNat (0, 1)) - x d.1.toNat))) (ws i)=sg * (aA (λd=>cV d * val (tb.getD d.1.toNat (0, 1))) (ws i) - aA (λd=>cV d * x d.1.toNat) (ws i)):=by rw[<-tY,<-wR];show nG λd _=>by grind
  change sg * (val (tb.getD i (0, 1)) - x i)=sg * (kg ε ws gv x i - x i)+val ε * aA (λd=>cV d * (sg * (val (tb.getD d.1.toNat (0, 1)) - x d.1.toNat))) (ws i);rw[l,e];unfold kg;grind
end
def aa:List (Int×Nat)->Pl->Prop
 | [],[]=>True
 | (k, c)::r,(k', v)::p=>k=k'/\0<=v/\v < c/\aa r p
 | _,_=>False
noncomputable def lB:List (Int×Nat)->List Pl
 | []=>[[]]
 | (k, c)::r=>(List.range c).flatMap λj:Nat=>(lB r).map λp=>(k, (j:Int))::p
def oP:∀{kc:List (Int×Nat)} {p:Pl},aa kc p->p∈lB kc
 | [],[],_=>abe.mpr rfl
 | (k, c)::r,(k', v)::p,h=>by let(rfl,v0,v1,h):=h;show List.mem_flatMap.mpr (v.toNat,abS.mpr (),aap.mpr (p,oP h,?_));rw[Int.toNat_of_nonneg v0]
 | [],_::_,h=>h.elim
 | _::_,[],h=>h.elim
def bU:∀{kc:List (Int×Nat)} {p:Pl},aa kc p->p.map (·.1)=kc.map (·.1)
 | [],[],_=>rfl
 | (k, c)::r,(k', v)::p,h=>by let(rfl,_,_,h):=h;rw[aaX,aaX,bU h]
 | [],_::_,h=>h.elim
 | _::_,[],h=>h.elim
set_option tactic.hygienic true in
def sX:∀{kc:List (Int×Nat)} {p:Pl} {i v:Int},aa kc p->Λ p i=!v->∃c,(i, c)∈kc/\0<=v/\v < (c:Int)
 | [],[],_,_,_,h=>by cases h
 | (k, c)::r,(k', v')::p,i,v,h,g=>by
  let(rfl,v0,v1,h):=h;unfold Λ at g;split at g
  .rename_i e;let e:k=i:=e;cases g;show(c,by rw[<-e];show aaf,v0,v1)
  .let(c',m,a):=sX h g;show(c',aah _ m,a)
 | [],_::_,_,_,h,_=>h.elim
 | _::_,[],_,_,h,_=>h.elim
def AK:∀{kc:List (Int×Nat)} {p:Pl} {i v:Int},aa kc p->(∀c,(i, c)∈kc->0<=v/\v < (c:Int))->aa kc (p.map λq=>if q.1=i then (q.1, v) else q)
 | [],[],_,_,_,_=>trivial
 | (k, c)::r,(k', v')::p,i,v,h,g=>by
  let(rfl,v0,v1,h):=h;let ih:=AK h λc hc=>g c (aah _ hc);change aa ((k, c)::r) ((if k=i then (k, v) else (k, v'))::p.map λq=>if q.1=i then (q.1, v) else q);by_cases e:k=i
  .rw[aa1 e];have:=g c (by rw[<-e];show aaf);show(rfl,this.1,this.2,ih)
  .rw[aa2 e];show(rfl,v0,v1,ih)
 | [],_::_,_,_,h,_=>h.elim
 | _::_,[],_,_,h,_=>h.elim
set_option tactic.hygienic true in
def pU{i:Int}:∀{p:Pl},i∈p.map (·.1)->(Λ p i).isSome=true
 | q::p,h=>by
  unfold Λ;split
  .rfl
  .rcases aba.mp h with e| e
   .rename_i ne;show abc e.symm ne
   .show pU e
def JY{i v:Int}(h:aa kc p)(hk:i∈kc.map (·.1))(g:∀c,(i, c)∈kc->0<=v/\v < (c:Int)):aa kc (cK p i v):=by unfold cK;rw[aa1 (pU (by rw[bU h];show hk))];show AK h g
def zV{α:Type}{P Q:α->Bool}:∀{l:List α},(∀a∈l,P a=true->Q a=true)->∀{b:α},b∈l->Q b=true->P b=false->l.countP P < l.countP Q
 | a::l,h,b,hb,hq,hp=>by
  let le:l.countP P<=l.countP Q:=List.countP_mono_left λx hx=>h x (aah _ hx);rw[List.countP_cons,List.countP_cons];rcases aba.mp hb with e| e
  .subst e;rw[hq,hp];change l.countP P+0 < l.countP Q+1;omega
  .have:=zV (λx hx=>h x (aah _ hx)) e hq hp;let ha:=h a aaf;cases hP:P a with
   | false=>rw[aa2 @_];split <;> omega
   | true=>rw[ha hP,aa1 rfl];omega
noncomputable def ZE(ε:Fr)(γ:List Rw)(Ι:Pl)(i:Nat):Rat:=open Classical in if h:∃tb,nh ε γ Ι tb then val (h.choose.getD i (0, 1)) else 0
noncomputable def D'(ε:Fr)(γ:List Rw)(sg:Rat)(Ι:Pl):Rat:=dM (λi=>sg * ZE ε γ Ι i) (-γ)
def yL(fw:FW ε γ X C)(dk:jn γ Ι)(b1:1<=lq X C)(h:nh ε γ Ι tb)(i:Nat):ZE ε γ Ι i=val (tb.getD i (0, 1)):=by let ex:∃tb,nh ε γ Ι tb:=(tb,h);unfold ZE;rw[dif_pos ex,(fw.sys dk b1).uniq ex.choose_spec.tab h.tab]
def z5{f g:Nat->Rat}:∀{n:Nat},(∀i,i < n->f i<=g i)->∀{k:Nat},k < n->f k < g k->dM f n < dM g n
 | n+1,h,k,hk,hl=>by
  let le:∀{m:Nat},(∀i,i < m->f i<=g i)->dM f m<=dM g m:=λ{m}=>by
   induction m with
   | zero=>intro _;change(0:Rat)<=0;grind
   | succ m ih=>
    intro h;have:=ih λi hi=>h i (ac5 hi);have:=h m (acu _);change dM f m+f m<=dM g m+g m;grind
  change dM f n+f n < dM g n+g n;by_cases e:k=n
  .subst e;have:=le λi hi=>h i (ac5 hi);grind
  .have:=z5 (λi hi=>h i (ac5 hi)) (show k < n by omega) hl;have:=h n (acu _);grind
noncomputable def above(ε:Fr)(γ:List Rw)(sg:Rat)(mk:Pl->Pl)(kc:List (Int×Nat))(p:Pl):Nat:=open Classical in (lB kc).countP λq=>decide (D' ε γ sg (mk p) < D' ε γ sg (mk q))
def Lr{mk:Pl->Pl}{q:Pl}(hq:aa kc q)(lt:D' ε γ sg (mk p) < D' ε γ sg (mk q)):above ε γ sg mk kc q < above ε γ sg mk kc p:=by unfold above;show zV (λa _ ha=>?_) (oP hq) (decide_eq_true lt) (decide_eq_false (by grind));have:=aaH ha;show decide_eq_true (by grind)
def nu(ns:List Fr):Fr:=ns.foldl (λf n=>if dz f n then n else f) (ns.headD (0, 1))
def oJ(ns:List Fr):Fr:=ns.foldl (λf n=>if dz n f then n else f) (ns.headD (0, 1))
def EG:DF:=λas M q _=>∃p r k l,as=[Ο p,Ο r]/\Sz k p/\Sz l r/\k+l+1<=8000/\q (.bl (dz p r)) M
def PK:Ζ ["one","other"] ["one","other"] (υ Eu):=.of rfl
def J9(F:c_ K "under" "under" Eu f fd)(E:Ev K mg w Cm):aq P w K mg base (b9 P w) 1 f fd ["one","other"] (cM K EG):=by
 show F.dX PK (λds M q x h=>?_) (λbf A outer s H E' hr=>(_,(μ (Β (JO (ax (ω (jv 0) ν) (ω (jv 1) ν)) (ax (ω (jv 1) ν) (ω (jv 0) ν))))),λds M q x h=>?_))
 .let(p,r,k,l,rfl,_):=h;rfl
 .let(p,r,k,l,rfl,hp,fb,hk,h):=h;show((gw hp (),dF fb ()),(gw fb (),dF hp ()),h)
def zH(f:List Fr->Fr):DF:=λas M q _=>∃ns:List Fr,as=[.lst (ns.map Ο)]/\ns≠[]/\(∀n∈ns,Sz 1300 n)/\q (Ο (f ns)) M
def kR:Ζ ["numbers","found","number"] ["numbers"] (υ rq):=.of rfl
def CL(F:c_ K "greatest" "greatest" rq f fd)(E:Ev K mg w Cm)(mB:av P w K mg base 1 "under" ["one","other"] EG DH EB):aq P w K mg base (b9 P w) 2 f fd ["numbers"] (cM K (zH nu)):=by
 show F.dX kR (λds M q x h=>?_) (λbf A outer s H E' hr=>(_,(ζ (ψ 1 kR.nd (ω (jv 0) ν))
   (ζ (ck (bo (jv 0)) (Ω (i:=2) kR.nd rfl (Or.inl rfl)) aH (μ (ai (aK (Φ mB hr ξ (Μ (jv 1) (Μ (jv 2) θ)))) (μ (ψ 1 kR.nd (jv 2))) Ν)))
   (μ (Β (jv 1))))),λds M q x h=>?_))
 .let(ns,rfl,_):=h;rfl
 .let(ns,rfl,h0,hn,h):=h;let(n0,ns',rfl):=acw h0;walk_at "vc";show Δ (d:=.lst ((n0::ns').map Ο)) rfl aw ?_;show fg (i:=0) (d:=.lst ((n0::ns').map Ο)) rfl rfl ?_;show bz (λxs ρ M'=>M'=M/\∃(rest:List Fr) (f:Fr) (a:Option Dt),xs=rest.map Ο/\(∀p∈rest,Sz 1300 p)/\Sz 1300 f/\rest.foldl (λf n=>if dz f n then n else f) f=nu (n0::ns')/\ρ=[!(.lst ((n0::ns').map Ο)),!(Ο f),a]) (λxs ρ M' hj=>trivial) (λx xs ρ M' hj eE=>?_) (λρ M' hj=>?_) _ _ _ (rfl,n0::ns',n0,none,rfl,hn,hn n0 aaf,rfl,rfl)
  .let(rfl,rest,f,a,ex,vZ,hw,hf,rfl):=hj;cases rest with
   | nil=>cases ex
   | cons p rest=>
    cases ex;let hp:=vZ p aaf;rw[acE]at hf;show(f,p,1300,1300,rfl,hw,hp,@_,λz=>?_,λz=>?_)
    .rw[z,aa1 rfl]at hf;show eE _ _ (rfl,rest,p,_,rfl,λp hp=>vZ p (aah _ hp),hp,hf,rfl)
    .rw[z,aa2 @_]at hf;show eE _ _ (rfl,rest,f,_,rfl,λp hp=>vZ p (aah _ hp),hw,hf,rfl)
  .let(rfl,rest,f,a,ex,vZ,hw,hf,rfl):=hj;cases rest with
   | nil=>rw[<-hf]at h;show h
   | cons p rest=>cases ex
def sP:Ζ ["numbers","found","number"] ["numbers"] (υ DV):=.of rfl
def KN(F:c_ K "least" "least" DV f fd)(E:Ev K mg w Cm)(mB:av P w K mg base 1 "under" ["one","other"] EG DH EB):aq P w K mg base (b9 P w) 2 f fd ["numbers"] (cM K (zH oJ)):=by
 show F.dX sP (λds M q x h=>?_) (λbf A outer s H E' hr=>(_,(ζ (ψ 1 sP.nd (ω (jv 0) ν))
   (ζ (ck (bo (jv 0)) (Ω (i:=2) sP.nd rfl (Or.inl rfl)) aH (μ (ai (aK (Φ mB hr ξ (Μ (jv 2) (Μ (jv 1) θ)))) (μ (ψ 1 sP.nd (jv 2))) Ν)))
   (μ (Β (jv 1))))),λds M q x h=>?_))
 .let(ns,rfl,_):=h;rfl
 .let(ns,rfl,h0,hn,h):=h;let(n0,ns',rfl):=acw h0;walk_at "vc";show Δ (d:=.lst ((n0::ns').map Ο)) rfl aw ?_;show fg (i:=0) (d:=.lst ((n0::ns').map Ο)) rfl rfl ?_;show bz (λxs ρ M'=>M'=M/\∃(rest:List Fr) (f:Fr) (a:Option Dt),xs=rest.map Ο/\(∀p∈rest,Sz 1300 p)/\Sz 1300 f/\rest.foldl (λf n=>if dz n f then n else f) f=oJ (n0::ns')/\ρ=[!(.lst ((n0::ns').map Ο)),!(Ο f),a]) (λxs ρ M' hj=>trivial) (λx xs ρ M' hj eE=>?_) (λρ M' hj=>?_) _ _ _ (rfl,n0::ns',n0,none,rfl,hn,hn n0 aaf,rfl,rfl)
  .let(rfl,rest,f,a,ex,vZ,hw,hf,rfl):=hj;cases rest with
   | nil=>cases ex
   | cons p rest=>
    cases ex;let hp:=vZ p aaf;rw[acE]at hf;show(p,f,1300,1300,rfl,hp,hw,@_,λz=>?_,λz=>?_)
    .rw[z,aa1 rfl]at hf;show eE _ _ (rfl,rest,p,_,rfl,λp hp=>vZ p (aah _ hp),hp,hf,rfl)
    .rw[z,aa2 @_]at hf;show eE _ _ (rfl,rest,f,_,rfl,λp hp=>vZ p (aah _ hp),hw,hf,rfl)
  .let(rfl,rest,f,a,ex,vZ,hw,hf,rfl):=hj;cases rest with
   | nil=>rw[<-hf]at h;show h
   | cons p rest=>cases ex
structure Nh(ε:Fr)(γ:List Rw)(tb:List Fr):Prop where
 sh:bc ε=true
 len:-γ<=12
 row:∀r∈γ,g6 r/\gB r (-γ)=true
 tl:-tb=-γ
 ts:∀t∈tb,Sz 1150 t
def gZ(ε:Fr)(tb:List Fr):Rw->Fr
 | .fin p=>p
 | .τ k ds=>if k="one" then nu (ds.map (af ε tb)) else oJ (ds.map (af ε tb))
noncomputable def dD(ε:Fr)(tb:List Fr):Rw->List Nat
 | .fin _=>[]
 | .τ k ds=>if Ε k then (List.range (-ds)).filter λj=>decide (af ε tb (ds.getD j d0)=gZ ε tb (.τ k ds)) else []
def B4{k:Str}{ds:List bW}(f:Nh ε γ tb)(h:Rw.τ k ds∈γ):ao ds (-γ)=true/\(Ε k=true\/k="chance"):=by
 let h2:=(f.row _ h).2;let h2:(if Ε k then ao ds (-γ) else if k="chance" then ao ds (-γ)&&ar (ds.map χ) else false)=true:=h2;by_cases hk:Ε k=true
 .rw[aa1 hk]at h2;show(h2,.inl hk)
 .rw[aa2 hk]at h2;by_cases hc:k="chance"
  .rw[aa1 hc,aaW]at h2;show(h2.1,.inr hc)
  .rw[aa2 hc]at h2;cases h2
def Fu{k:Str}{ds:List bW}{d:bW}(f:Nh ε γ tb)(h:Rw.τ k ds∈γ)(hd:d∈ds):0<=d.1/\d.1 < -γ/\Sz 101 d.2.1:=by let h2:=(B4 f h).1;unfold ao at h2;rw[aaW,aaW]at h2;let h3:=acy.mp h2.2 d hd;unfold aR at h3;rw[aaW,aaW,aaD,aaD]at h3;show(h3.1,h3.2.1,Fg h3.2.2 ((f.row _ h).1.2.2.2 d hd).2)
def KG{k:Str}{ds:List bW}(f:Nh ε γ tb)(h:Rw.τ k ds∈γ):1<=-ds/\-ds<=6:=by let h2:=(B4 f h).1;unfold ao at h2;rw[aaW,aaW,aaD,aaD]at h2;show h2.1
def Gw(f:Nh ε γ tb)(h0:0<=t)(h1:t < -γ):ku (tb.map Ο) t=!(Ο (vV tb t))/\Sz 1150 (vV tb t):=by
 let hl:t.toNat < -tb:=by rw[f.tl];omega
 let e:vV tb t=tb[t.toNat]:=by unfold vV;rw[List.getD_eq_getElem?_getD,List.getElem?_eq_getElem hl];rfl
 show(?_,by rw[e];show f.ts _ (aa9 hl));let e2:(tb.map Ο)[t.toNat]? =!(Ο (vV tb t)):=by rw[aaw,aaa hl,e];rfl
 have:=Θ e2;rwa[show((t.toNat:Nat):Int)=t by omega]at this
def K3{k:Str}{ds:List bW}{d:bW}(f:Nh ε γ tb)(h:Rw.τ k ds∈γ)(hd:d∈ds):Sz 1300 (af ε tb d):=by let(a,b,c):=Fu f h hd;show sG (Ou c (BH (oR f.sh) (Gw f a b).2)) @_
def Vl(p q:Fr):pD [.int p.1,.int p.2] [.int q.1,.int q.2]=decide (p=q):=by
 let(a,b):=p;let(c,d):=q;change((a==c)&&((b==d)&&true))=_;rw[Bool.and_true];by_cases h1:a=c
 .by_cases h2:b=d
  .subst h1 h2;simp
  .have:¬((a, b)=(c, d)):=λz=>h2 (Prod.mk.inj z).2;rw[decide_eq_false this];simp[h2]
 .have:¬((a, b)=(c, d)):=λz=>h1 (Prod.mk.inj z).1;rw[decide_eq_false this];simp[h1]
def WG{p r:Fr}{k:Bool->Ms->Prop}(h:k (decide (p=r)) M):Fe (Ο p) (Ο r) M (λd M1=>match d with| .bl b=>k b M1| _=>False):=by change k (pD [.int p.1,.int p.2] [.int r.1,.int r.2]) M;rw[Vl];show h
def rL(p:Fr->Bool):∀(xs:List Fr) (n:Nat),((jL n (xs.map Ο)).filter (λx=>match x with| .tup [_,.tup [.int a,.int b]]=>p (a, b)| _=>false)).map (λx=>match x with| .tup [i,_]=>i| _=>.bt)=((List.range (-xs)).filter λj=>p (xs.getD j (0, 1))).map λj:Nat=>Dt.int ((n+j:Nat):Int)
 | [],n=>rfl
 | x::xs,n=>by
  let ih:=rL p xs (n+1);rw[aaQ,acH,aaX];change(List.filter _ (.tup [.int n,Ο x]::jL (n+1) (xs.map Ο))).map _=_;let e1:((List.map Nat.succ (List.range (-xs))).filter λj=>p ((x::xs).getD j (0, 1)))=((List.range (-xs)).filter λj=>p (xs.getD j (0, 1))).map Nat.succ:=by rw[List.filter_map];rfl
  by_cases hp:p x=true
  .let h1:(match Dt.tup [.int n,Ο x] with| .tup [_,.tup [.int a,.int b]]=>p (a, b)| _=>false)=true:=hp;rw[acR (by show h1),acR (by show hp),aaX,aaX,ih,e1,abf]
   congr 1
   apply ab3;intro j _;change Dt.int _=Dt.int _
   congr 2;omega
  .let h1:¬(match Dt.tup [.int n,Ο x] with| .tup [_,.tup [.int a,.int b]]=>p (a, b)| _=>false)=true:=hp;rw[acS (by show h1),acS (by show hp),ih,e1,abf];apply ab3;intro j _;change Dt.int _=Dt.int _
   congr 2;omega
def J7(C:Addr):DF:=λas M q _=>∃ε γ tb td i j k ds d,as=[aJ C ε γ,.int (i:Nat),.int (j:Nat),td]/\γ[i]? =!(.τ k ds)/\ds[j]? =!d/\Nh ε γ tb/\fX M td=!(tb.map Ο)/\q (Ο (af ε tb d)) M
def pP:Ζ ["self","place","door","table","taken"] ["self","place","door","table"] (υ l9):=.of rfl
def wk(F:c_ K "shown" "Floor.shown" l9 f fd)(E:Ev K mg w Cm)(rz:av P w K mg base 3 "plus" ["one","other"] Mu Lq Lj)(hJ:av P w K mg base 3 "times" ["one","other"] As uw vw):aq P w K mg base (b9 P w) 4 f fd ["self","place","door","table"] (cM K (J7 Cm)):=by
 show F.dX pP (λds M q x h=>?_) (λbf A outer s H E' hr=>(_,(ζ (ψ 4 pP.nd (ω (ω (ω (vy E.eI E.cW (jv 0)) (jv 1)) ν) (jv 2)))
   (μ (Β (Φ rz hr ξ (ι (ω (jv 4) ν) (ι (Φ hJ hr ξ (ι (vy E.eI E.gy (jv 0)) (ι (ω (jv 3) (ω (jv 4) ν)) θ aL))) θ aU) aL))))),λds M q x h=>?_))
 .let(ε,γ,tb,td,i,j,k,ds,d,rfl,_):=h;rfl
 .let(ε,γ,tb,td,i,j,k,ds,d,rfl,hi,hj,f,ht,h):=h;let hm:Rw.τ k ds∈γ:=aao hi;let hd:d∈ds:=aao hj;let(a,b,c):=Fu f hm hd;let(t1,t2):=Gw f a b;let hdj:(ds.map fh)[j]? =!(fh d):=by rw[aaw,hj];rfl
  show(_,_,_,.inl rfl,rfl,?_);walk_at "vc";show Δ (xs:=γ.map ay) rfl (Θ (pk hi)) (AV (Δ (d:=.lst (ds.map fh)) rfl (Θ hdj) ?_));show A2 (_,_,_,.inl rfl,rfl,GF (Δ (d:=td) ht t1 (ε,vV tb d.1,11,1150,rfl,oR f.sh,t2,@_,d.2.1,_,101,1161,rfl,c,BH (oR f.sh) t2,@_,h)))
def qv(C:Addr):DF:=λas M q _=>∃ε γ tb td i k ds,as=[aJ C ε γ,.int (i:Nat),td]/\γ[i]? =!(.τ k ds)/\Nh ε γ tb/\fX M td=!(tb.map Ο)/\q (.lst (ds.map λd=>Ο (af ε tb d))) M
def k9:Ζ ["self","place","table"] ["self","place","table"] (υ ie):=.of rfl
def qQ(F:c_ K "all_shown" "Floor.all_shown" ie f fd)(E:Ev K mg w Cm)(aW:dU P w K mg base 2 Cm "doors" ["self","place"] (vL Cm) dI dN)(kQ:dU P w K mg base 4 Cm "shown" ["self","place","door","table"] (J7 Cm) B7 Bq):aq P w K mg base (b9 P w) 5 f fd ["self","place","table"] (cM K (qv Cm)):=by
 show F.dX k9 (λds M q x h=>?_) (λbf A outer s H E' hr=>(_,(μ (Β (Lu (ys:=["place","table","self"]) (ae:=[1,2,0]) (.of k9 rfl rfl rfl) (cn E.bX (ι (bQ E.bu (ι (cL (cq aW hr ξ (jv 0) (Μ (jv 1) θ))) θ aU)) θ aU)) (λC s H fp=>(cq kQ hr (g_ (P:=P) (w:=w)) (jv 3) (Μ (jv 1) (Μ (jv 0) (Μ (jv 2) θ)))))))),λds M q x h=>?_))
 .let(ε,γ,tb,td,i,k,ds,rfl,_):=h;rfl
 .let(ε,γ,tb,td,i,k,ds,rfl,hi,f,ht,h):=h;let hm:Rw.τ k ds∈γ:=aao hi;let ro:=(f.row _ hm).1;let l6:=KG f hm;show((_,_,.inl rfl,rfl),ε,γ,i,.τ k ds,rfl,hi,ro,c8 (ds:=ds.map fh) (i4 ds) ?_);walk_at "vc";show ag (d:=.lst (ds.map fh)) (xs:=ds.map fh) rfl ?_;rw[aac];show(((),()),by rw[gP];show aaR (show _<=6 by omega) @_,?_);show qZ (f:=λx=>match x with| .int j=>Ο (af ε tb (ds.getD j.toNat d0))| _=>.bt) _ _ (λx YH q' hq=>?_) ?_
  .let(j,hj,rfl):=uM YH;let hj:j < -ds:=()
   let e:ds.getD (0+(j:Int)).toNat d0=ds[j]:=by rw[show(0+(j:Int)).toNat=j by omega,aab,aaa hj];rfl
   let hq:q' (Ο (af ε tb (ds.getD (0+(j:Int)).toNat d0))) M:=hq;rw[e]at hq;show((_,_,.inl rfl,rfl),ε,γ,tb,td,i,j,k,ds,ds[j],by rw[Int.zero_add],hi,aaa hj,f,ht,hq)
  .rw[abB,show((-ds:Int)).toNat=-ds by omega];show(λ(key:∀l,l=ds.map (λd=>Ο (af ε tb d))->q (.lst l) M)=>key _ (Fy ds d0 (λd=>Ο (af ε tb d)))) λl hl=>by rw[hl];show h
def Q5(C:Addr):DF:=λas M q _=>∃ε γ tb td i r,as=[aJ C ε γ,.int (i:Nat),td]/\γ[i]? =!r/\Ε (kindOf r)=true/\Nh ε γ tb/\fX M td=!(tb.map Ο)/\q (Ο (gZ ε tb r)) M
def lE:Ζ ["self","place","table","kind"] ["self","place","table"] (υ n_):=.of rfl
def Aj(F:c_ K "look" "Floor.look" n_ f fd)(E:Ev K mg w Cm)(Τ:dU P w K mg base 1 Cm "kind" ["self","place"] (pR Cm) aY aX)(gc:dU P w K mg base 2 Cm "pay" ["self","place"] (Sb Cm) qW ql)(h9:av P w K mg base 4 "weighed" ["chances","numbers"] ur vR vp)(bx:dU P w K mg base 5 Cm "all_shown" ["self","place","table"] (qv Cm) ig iA)(aW:dU P w K mg base 2 Cm "doors" ["self","place"] (vL Cm) dI dN)(oG:av P w K mg base 2 "greatest" ["numbers"] (zH nu) Jn Hh)(Ax:av P w K mg base 2 "least" ["numbers"] (zH oJ) Tc So):aq P w K mg base (b9 P w) 6 f fd ["self","place","table"] (cM K (Q5 Cm)):=by
 show F.dX lE (λds M q x h=>?_) (λbf A outer s H E' hr=>(_,(ζ (ψ 3 lE.nd (cq Τ hr ξ (jv 0) (Μ (jv 1) θ)))
   (ζ (ai (cR hr (jv 3) jM) (μ (Β (cq gc hr ξ (jv 0) (Μ (jv 1) θ)))) Ν)
   (ζ (ai (cR hr (jv 3) jM) (μ (Β (Φ h9 hr ξ (ι (g8 (ys:=[]) (ae:=[]) (.of lE rfl rfl rfl) (bo (cL (cq aW hr ξ (jv 0) (Μ (jv 1) θ)))) (λC s H fp=>(ω (jv 0) ν))) (ι (cq bx hr ξ (jv 0) (Μ (jv 1) (Μ (jv 2) θ))) θ aU))))) Ν)
   (ζ (ai (cR hr (jv 3) jM) (μ (Β (Φ oG hr ξ (ι (cq bx hr ξ (jv 0) (Μ (jv 1) (Μ (jv 2) θ))) θ aU)))) Ν)
   (μ (Β (Φ Ax hr ξ (ι (cq bx hr ξ (jv 0) (Μ (jv 1) (Μ (jv 2) θ))) θ aU)))))))),λds M q x h=>?_))
 .let(ε,γ,tb,td,i,r,rfl,_):=h;rfl
 .let(ε,γ,tb,td,i,r,rfl,hi,hand,f,ht,h):=h;let hm:r∈γ:=aao hi;let ro:=(f.row _ hm).1;show((_,_,.inl rfl,rfl),ε,γ,i,r,rfl,hi,?_);cases r with
  | fin p=>show(λ_=>((_,_,.inl rfl,rfl),ε,γ,i,.fin p,rfl,hi,ro,h),nofun)
  | τ k ds=>
   let l6:=KG f hm;let eS:ds.map (λd=>Ο (af ε tb d))=(ds.map (af ε tb)).map Ο:=by rw[abf];rfl
   let hS:∀n∈ds.map (af ε tb),Sz 1300 n:=λn hn=>by let(d,hd,rfl):=aap.mp hn;show K3 f hm hd
   let hN:ds.map (af ε tb)≠[]:=λz=>by have:=abI List.length z;rw[aac]at this;simp at this;rw[this]at l6;show abc l6.1 @_
   show(λz=>abc (aaH z) ro.1,λ_=>(λz=>?_,λz=>?_))
   .let z:k="chance":=aaH z;rw[z]at hand;show abc hand (by change¬Ε (Str.ofString "chance")=true;decide)
   .let z:k≠"chance":=abO z;show(λz1=>?_,λz1=>?_)
    .let z1:k="one":=aaH z1;let e1:gZ ε tb (.τ k ds)=nu (ds.map (af ε tb)):=aa1 z1;rw[e1]at h;show((_,_,.inl rfl,rfl),ε,γ,tb,td,i,k,ds,rfl,hi,f,ht,?_);rw[eS];show(_,rfl,hN,hS,h)
    .let z1:k≠"one":=abO z1;let e1:gZ ε tb (.τ k ds)=oJ (ds.map (af ε tb)):=aa2 z1;rw[e1]at h;show((_,_,.inl rfl,rfl),ε,γ,tb,td,i,k,ds,rfl,hi,f,ht,?_);rw[eS];show(_,rfl,hN,hS,h)
def Qq(C:Addr):DF:=λas M q _=>∃ε γ tb td i r,as=[aJ C ε γ,.int (i:Nat),td]/\γ[i]? =!r/\Nh ε γ tb/\fX M td=!(tb.map Ο)/\q (.lst ((dD ε tb r).map λj:Nat=>Dt.int j)) M
def lL:Ζ ["self","place","table","look"] ["self","place","table"] (υ nv):=.of rfl
def yh(F:c_ K "best" "Floor.best" nv f fd)(E:Ev K mg w Cm)(Τ:dU P w K mg base 1 Cm "kind" ["self","place"] (pR Cm) aY aX)(lP:dU P w K mg base 6 Cm "look" ["self","place","table"] (Q5 Cm) EN Di)(bx:dU P w K mg base 5 Cm "all_shown" ["self","place","table"] (qv Cm) ig iA):aq P w K mg base (b9 P w) 7 f fd ["self","place","table"] (cM K (Qq Cm)):=by
 show F.dX lL (λds M q x h=>?_) (λbf A outer s H E' hr=>(_,(ζ (ai (xB (cq Τ hr ξ (jv 0) (Μ (jv 1) θ)) (Kl E.y6)) (μ (Β (kT θ))) Ν)
   (ζ (ψ 3 lL.nd (cq lP hr ξ (jv 0) (Μ (jv 1) (Μ (jv 2) θ))))
   (μ (Β (Kk (ys:=["look"]) (ae:=[3]) (.of lL rfl rfl rfl) (Ag E.fq (ι (cq bx hr ξ (jv 0) (Μ (jv 1) (Μ (jv 2) θ))) θ aU)) (λC s H fp=>(cR hr (jv 1) (jv 2))) (λC s H fp=>(jv 0))))))),λds M q x h=>?_))
 .let(ε,γ,tb,td,i,r,rfl,_):=h;rfl
 .let(ε,γ,tb,td,i,r,rfl,hi,f,ht,h):=h;let hm:r∈γ:=aao hi;let ro:=(f.row _ hm).1;show((_,_,.inl rfl,rfl),ε,γ,i,r,rfl,hi,.str (kindOf r),[.str "one",.str "other"],[.str "one",.str "other"],rfl,rfl,rfl,?_);rw[tV];cases r with
  | fin p=>show(λ_=>(@_,h),λz=>(nomatch (show(! Ε "end")=false from z)))
  | τ k ds=>
   let l6:=KG f hm;show(λz=>?_,λz=>?_)
   .let z:Ε k=false:=by have:(! Ε k)=true:=z;simpa using this
    let e1:dD ε tb (.τ k ds)=[]:=aa2 (by rw[z];decide);rw[e1]at h;show(@_,h)
   .let z:Ε k=true:=by have:(! Ε k)=false:=z;simpa using this
    let e1:dD ε tb (.τ k ds)=(List.range (-ds)).filter λj=>decide (af ε tb (ds.getD j d0)=gZ ε tb (.τ k ds)):=aa1 z;rw[e1]at h;show((_,_,.inl rfl,rfl),ε,γ,tb,td,i,.τ k ds,rfl,hi,z,f,ht,?_);show((_,_,.inl rfl,rfl),ε,γ,tb,td,i,k,ds,rfl,hi,f,ht,?_);generalize gZ ε tb (.τ k ds)=lk at *
    let eS:ds.map (λd=>Ο (af ε tb d))=(ds.map (af ε tb)).map Ο:=by rw[abf];rfl
    rw[eS];show(_,_,_,rfl,rfl,by rw[kO,aac,aac];show aaR l6.2 @_,?_);show fJ trivial (λx=>match x with| .tup [_,.tup [.int a,.int b]]=>decide ((a, b)=lk)| _=>false) (λx=>match x with| .tup [i,_]=>i| _=>.bt) _ _ (λx hx q' p' h1 h2=>?_) ?_
    .let(j,hj,ej):=acd hx;let(y,hy,rfl):=qM (n:=0) (i:=j) (aae.mpr (hj,ej));rw[aaw]at hy;let(s0,hs0,rfl):=acW.mp hy;let h1:decide (s0=lk)=true->q' (.int ((0+j:Nat):Int)) M:=h1;let h2:decide (s0=lk)=false->p' M:=h2;clear hx hj ej hy;let key:Fe (Ο s0) (Ο lk) M (λd M1=>match d with| .bl b=>(match b with| true=>q' (.int ((0+j:Nat):Int)) M1| false=>p' M1)| _=>False):=by
      show WG (k:=λb M1=>match b with| true=>q' (.int ((0+j:Nat):Int)) M1| false=>p' M1) ?_;cases hb:decide (s0=lk) with
      | true=>show h1 hb
      | false=>show h2 hb
     show key
    .rw[abB,rL (λs0=>decide (s0=lk)) (ds.map (af ε tb)) 0,aac];let e3:∀j∈List.range (-ds),decide ((ds.map (af ε tb)).getD j (0, 1)=lk)=decide (af ε tb (ds.getD j d0)=lk):=λj hj=>by let hj:=abS.mp hj;rw[aab,aaw,aab,aaa hj];rfl
     rw[List.filter_congr e3];let e4:∀l:List Nat,(l.map λj:Nat=>Dt.int ((0+j:Nat):Int))=l.map λj:Nat=>Dt.int j:=λl=>ab3 λj _=>by rw[Nat.zero_add]
     rw[e4];show h
end
end Pg
namespace L2
open PySem
def AY{g:Dt->En->(En->Prop)->Prop}{k:Nat}(J:List Key->En->Ms->Prop)(aN:∀xs ρ M,J xs ρ M->M[k]? =!(.raw u))
  (step:∀x xs ρ M,J (x::xs) ρ M->(∀ρ M,J xs ρ M->wF g tb Dn k u m xs ρ M)->g (oO x) ρ λρ'=>tb {Dn with nx:=wF g tb Dn k u m xs,ct:=wF g tb Dn k u m xs,bk:=λρ M=>M[k]? =!(.raw u)/\Dn.nx ρ (M.set k m)} ρ' M)
  (fin:∀ρ M,J [] ρ M->Dn.nx ρ (M.set k m)):∀(xs:List Key) (ρ:En) (M:Ms),J xs ρ M->wF g tb Dn k u m xs ρ M
 | [],ρ,M,h=>(aN _ _ _ h,fin _ _ h)
 | x::xs,ρ,M,h=>(aN _ _ _ h,step x xs ρ M h λρ' M' h'=>AY J aN step fin xs ρ' M' h')
end L2
namespace Pg
open PySem L2 Fr0 Tx
variable{M:Ms}{xs L:List Dt}{ds:List bW}{mg:Str->Option Value}{f cX eV tm:Addr}{fd cY e6 tO:FuncData}{ε:Fr}{γ:List Rw}{tb Ar:List Fr}{v X C a b:Int}{Ι bK p pa:Pl}{i j n kr kt kp:Nat}{r:Rw}{d:bW}{hand rival:Str}{its:Array Value}{cG:Bool}{Dn:eG}{ρ:En}{x:DX}{t:DS}{to:DE}
def jA(ε:Fr)(γ:List Rw)(tb:List Fr)(i:Int):List Nat:=match γ[i.toNat]? with
 | some r=>dD ε tb r
 | none=>[]
noncomputable def CU(l:List Nat)(v:Int):Bool:=T4 (.int v) (l.map λj:Nat=>V.int j)
def sj(ε:Fr)(γ:List Rw)(tb:List Fr)(p:Int×Int):Pl:=if CU (jA ε γ tb p.1) p.2 then [] else [(p.1, ((jA ε γ tb p.1).headD 0:Nat))]
def Γ(ε:Fr)(γ:List Rw)(tb:List Fr)(pl:Pl):Pl:=pl.flatMap (sj ε γ tb)
def wX:∀l:List Nat,iu (l.map λj:Nat=>Dt.int j)=!(l.map λj:Nat=>V.int j)
 | []=>rfl
 | j::l=>by let ih:=wX l;rw[aaX,aaX];unfold iu;rw[ih];rfl
set_option tactic.hygienic true in
def vX{k:Nat}(h:M[k]? =!m):M.set k m=M:=by
 apply adF;intro i;rw[List.getElem?_set];split
 .rename_i e;subst e;rw[aa1 (aae.mp h).1,h]
 .rfl
def sM(pl:Pl):vP pl=(pl.map (·.2)).map Dt.int:=by unfold vP;rw[List.map_map];rfl
def gM{ε:Fr}{γ:List Rw}{tb:List Fr}{i:Int}:∀{pl:Pl},i∈(Γ ε γ tb pl).map (·.1)->i∈pl.map (·.1)
 | p::r,h=>by
  unfold Γ at h;rw[List.flatMap_cons,abw]at h;rcases abt.mp h with z| z
  .unfold sj at z;split at z
   .cases z
   .rw[aaX];show aba.mpr (.inl (abe.mp z))
  .show aah _ (gM z)
def j5{ε:Fr}{γ:List Rw}{tb:List Fr}:∀pl:Pl,-(Γ ε γ tb pl)<=-pl
 | []=>aas _
 | p::r=>by
  let ih:=j5 (ε:=ε) (γ:=γ) (tb:=tb) r;unfold Γ at ih⊢;rw[List.flatMap_cons,aaj,aaQ];have:-(sj ε γ tb p)<=1:=by
   unfold sj;split
   .show ac0 _
   .show aas _
  omega
def oZ{i:Int}:∀{pl:Pl},i∉pl.map (·.1)->Λ pl i=none
 | [],_=>rfl
 | p::r,h=>by unfold Λ;rw[aa2 λz=>h (by rw[<-z];show aaf)];show oZ λz=>h (aah _ z)
def N3{E:Ms}(h:fX M td=!xs):fX (M++E) td=!xs:=by
 cases td with
 | loc j=>
  let h:(match M[j]? with| some (.lst xs)=>!xs| _=>none)=!xs:=h;change(match (M++E)[j]? with| some (.lst xs)=>!xs| _=>none)=!xs;cases e:M[j]? with
  | none=>rw[e]at h;cases h
  | some m=>rw[aT e];rw[e]at h;show h
 | _=>show h
def P2{k:Nat}{ds:List Dt}(h:fX M td=!xs)(hk:M[k]? =!(.cZ ks ds)):fX (M.set k m) td=!xs:=by
 cases td with
 | loc j=>
  let h:(match M[j]? with| some (.lst xs)=>!xs| _=>none)=!xs:=h;change(match (M.set k m)[j]? with| some (.lst xs)=>!xs| _=>none)=!xs;rw[abL (λz=>by rw[<-z,hk]at h;cases h)];show h
 | _=>show h
section
variable{P:Program}{w:World}{K:fI}{base:Heap}{Cm:Addr}
def zm(A:Addr):DF:=λas M q _=>∃(ε:Fr) (γ:List Rw) (tb:List Fr) (td:Dt) (k:Nat) (pl:Pl),as=[aJ A ε γ,.loc k,td]/\M[k]? =!(dP pl)/\Nh ε γ tb/\fX M td=!(tb.map Ο)/\sI pl/\-pl<=12/\(∀p∈pl,0<=p.1/\∃r,γ[p.1.toNat]? =!r/\Ε (kindOf r)=true/\dD ε tb r≠[])/\q (.loc (-M)) (M++[dP (Γ ε γ tb pl)])
def gx:Ζ ["floor","plan","table","better","place","best"] ["floor","plan","table"] (υ j7):=.of rfl
def tU(F:c_ K "better_doors" "better_doors" j7 f fd)(E:Ev K mg w Cm)(lO:dU P w K mg base 7 Cm "best" ["self","place","table"] (Qq Cm) Dy EM):aq P w K mg base (b9 P w) 8 f fd ["floor","plan","table"] (cM K (zm Cm)):=by
 show F.dX gx (λds M q x h=>?_) (λbf A outer s H E' hr=>(_,(ζ (ψ 3 gx.nd zU)
   (ζ (Oa (jv 1) (Ω (i:=4) gx.nd rfl (Or.inl rfl)) aH (ζ (ψ 5 gx.nd (cq lO hr ξ (jv 0) (Μ (jv 4) (Μ (jv 2) θ))))
   (μ (ai (xB (NV (jv 1) (jv 4)) (jv 5)) (μ (iU hr (jv 3) (jv 4) (ω (jv 5) ν))) Ν))))
   (μ (Β (jv 3))))),λds M q x h=>?_))
 .let(ε,γ,tb,td,k,pl,rfl,_):=h;rfl
 .let(ε,γ,tb,td,k,pl,rfl,hk,f,ht,nd,ou,hp,h):=h;let kl:k < -M:=(aae.mp hk).1;walk_at "vc";show(k,kP pl,pl.map (·.2),rfl,by rw[<-sM];show aT hk,λep=>?_);change wF _ _ _ k (JB P w (kP pl) (pl.map (·.2)) ep) _ _ _ ((M++[MO.cZ [] []]).set k (.raw (JB P w (kP pl) (pl.map (·.2)) ep)));let SU:∀p∈pl,aV (kP pl) ((pl.map (·.2)).map Dt.int) (Sum.inl p.1)=!(.int p.2):=λp hm=>by
   rw[<-sM,m8];have:∀{l:Pl},sI l->p∈l->Λ l p.1=!p.2:=λ{l}=>by
    induction l with
    | nil=>intro _ z;cases z
    | cons a l ih=>
     intro nl hm;unfold sI at nl;rw[aaX,acD]at nl;unfold Λ;rcases aba.mp hm with e| e
     .rw[aa1 (by rw[e]),e]
     .rw[aa2 λz=>nl.1 (by rw[z];show aap.mpr (p,e,rfl))];show ih nl.2 e
   rw[this nd hm];rfl
  generalize hu:JB P w (kP pl) (pl.map (·.2)) ep=u;let aau:(M++[MO.cZ [] []]).set k (.raw u)=M.set k (.raw u)++[dP []]:=by rw[ac3 _ _ kl];rfl
  let hb:∀Ι,((M.set k (.raw u)++[dP Ι]).set k (.cZ (kP pl) (vP pl)))=M++[dP Ι]:=λΙ=>by
   rw[ac3 _ _ (by rw[acj];show kl),List.set_set]
   congr 1
   show vX hk
  rw[aau];show AY (λxs ρ' M'=>∃(f_ rest:Pl) (o4 o5:Option Dt),pl=f_++rest/\xs=kP rest/\M'=M.set k (.raw u)++[dP (Γ ε γ tb f_)]/\ρ'=[!(aJ Cm ε γ),!(.loc k),!td,!(.loc (-M)),o4,o5]) (λxs ρ' M' hj=>?_) (λx xs ρ' M' hj eE=>?_) (λρ' M' hj=>?_) _ _ _ ([],pl,none,none,rfl,rfl,rfl,rfl)
  .let(f_,rest,o4,o5,e,rfl,rfl,rfl):=hj;show aT (by rw[abH kl])
  .let(f_,rest,o4,o5,e,ex,rfl,rfl):=hj;cases rest with
   | nil=>cases ex
   | cons p rest=>
    cases ex;let pm:p∈pl:=by rw[e];simp
    let(p0,r,Yr,vZ,hr3):=hp p pm;let(p1,v):=p;obtain⟨i,rfl⟩:∃i:Nat,p1=(i:Int):=(p1.toNat,by have:0<=p1:=p0;omega);let Yr:γ[i]? =!r:=Yr;let hbA:jA ε γ tb (i:Int)=dD ε tb r:=by unfold jA;rw[acJ,Yr]
    let NH:(M.set k (.raw u)++[dP (Γ ε γ tb f_)])[k]? =!(.raw u):=aT (by rw[abH kl]);let WL:(M.set k (.raw u)++[dP (Γ ε γ tb f_)])[-M]? =!(dP (Γ ε γ tb f_)):=by have:=aB (M:=M.set k (.raw u)) (o:=dP (Γ ε γ tb f_));rwa[acj]at this
    let bsn:Γ ε γ tb (f_++[((i:Int), v)])=Γ ε γ tb f_++sj ε γ tb ((i:Int), v):=by unfold Γ;rw[List.flatMap_append];simp
    let Xj:∀Ι o5,Ι=Γ ε γ tb (f_++[((i:Int), v)])->_:=λΙ o5 ea=>eE [!(aJ Cm ε γ),!(.loc k),!td,!(.loc (-M)),!(.int (i:Int)),o5] (M.set k (.raw u)++[dP Ι]) (f_++[((i:Int), v)],rest,_,o5,by rw[e,ab6];rfl,rfl,by rw[ea],rfl);let hg:=SU _ pm;rw[<-hu]at NH WL Xj⊢;walk_at "vc";show((_,_,.inl rfl,rfl),ε,γ,tb,td,i,r,rfl,Yr,f,N3 (P2 ht hk),?_);generalize dD ε tb r=bl at *
    show(k,kP pl,(pl.map λx:Int×Int=>x.2),ep,Sum.inl (i:Int),v,rfl,NH,rfl,hg,?_);show(.int v,_,_,rfl,rfl,wX bl,λz=>?_,λz=>?_)
    .let z:(! CU bl v)=true:=z;let z:¬CU bl v=true:=by simpa using z
     let(j,bl',rfl):=acw hr3;dsimp only[nR];walk_at "vc";show(Δ (d:=.lst ((j::bl').map λj:Nat=>Dt.int j)) rfl aw ?_:bF (.lst ((j::bl').map λj:Nat=>Dt.int j)) (.int 0) _ _);let ll:=j5 (ε:=ε) (γ:=γ) (tb:=tb) f_;let dl:-f_<=12:=by have:=abI List.length e;rw[aaj]at this;omega
     show(-M,_,_,Sum.inl (i:Int),rfl,WL,rfl,by unfold kP;rw[List.length_map];omega,?_);rw[rD (v:=(j:Int)),vA];let gn:Λ (Γ ε γ tb f_) (i:Int)=none:=oZ λy=>by let y:=gM y;rw[e]at nd;unfold sI at nd;rw[abw,adE]at nd;show nd.2.2 _ y _ aaf rfl
     let e1:cK (Γ ε γ tb f_) (i:Int) (j:Int)=Γ ε γ tb (f_++[((i:Int), v)]):=by rw[bsn];unfold cK sj;rw[gn,hbA,aa2 z,aa2 @_];rfl
     rw[e1,List.set_append_right (h:=by rw[acj];show aas _),acj,adJ];show Xj _ _ rfl
    .let z:(! CU bl v)=false:=z;let z:CU bl v=true:=by simpa using z
     show Xj _ _ (by rw[bsn];unfold sj;rw[hbA,if_pos z,List.append_nil])
  .let(f_,rest,o4,o5,e,ex,rfl,rfl):=hj;have:rest=[]:=by cases rest with| nil=>rfl| cons p r=>cases ex
   subst this;rw[abU]at e;rw[sM]at hb;rw[hb,<-e];show h
def bR(γ:List Rw)(i:Nat):Str:=match γ[i]? with
 | some r=>kindOf r
 | none=>""
def jG(γ:List Rw)(hand:Str):List Nat:=(List.range (-γ)).filter λi=>decide (bR γ i=hand)
noncomputable def Ez(γ:List Rw)(hand:Str):Pl:=(jG γ hand).map λi:Nat=>((i:Int), 0)
def E7(p:Nat->Bool)(n:Nat):((dW 0 n).filter λx=>match x with| .int j=>p j.toNat| _=>false)=((List.range n).filter p).map λi:Nat=>Dt.int i:=by
 unfold dW;rw[List.filter_map];let e:((λx:Dt=>match x with| .int j=>p j.toNat| _=>false) ∘ λi:Nat=>Dt.int (0+(i:Int)))=p:=funext λi=>by change p (0+(i:Int)).toNat=p i;rw[show(0+(i:Int)).toNat=i by omega]
 rw[e];show ab3 λi _=>by change Dt.int (0+(i:Int))=Dt.int i;rw[Int.zero_add]
def Gy(A:Addr):DF:=λas M q _=>∃(ε:Fr) (γ:List Rw) (hand:Str),as=[aJ A ε γ,.str hand]/\-γ<=12/\q (.lst ((jG γ hand).map λi:Nat=>Dt.int i)) M
def vg:Ζ ["floor","hand"] ["floor","hand"] (υ qT):=.of rfl
def Bt(F:c_ K "places_of" "places_of" qT f fd)(E:Ev K mg w Cm)(bw:dU P w K mg base 1 Cm "size" ["self"] (Br Cm) eW fc)(Τ:dU P w K mg base 1 Cm "kind" ["self","place"] (pR Cm) aY aX):aq P w K mg base (b9 P w) 2 f fd ["floor","hand"] (cM K (Gy Cm)):=by
 show F.dX vg (λds M q x h=>?_) (λbf A outer s H E' hr=>(_,(μ (Β (Be (ys:=["hand","floor"]) (ae:=[1,0]) (.of vg rfl rfl rfl) (Qj (cn E.bX (ι (mD bw hr ξ (jv 0)) θ aU))) (λC s H fp=>(cR hr (cq Τ hr (g_ (P:=P) (w:=w)) (jv 2) (Μ (jv 0) θ)) (jv 1))) (λC s H fp=>(jv 0))))),λds M q x h=>?_))
 .let(ε,γ,hand,rfl,_):=h;rfl
 .let(ε,γ,hand,rfl,ou,h):=h;let sl:∀{z:Nat},z<=1000->z<=sizeLine:=λh=>aaR h @_;walk_at "vc";dsimp only[zk,kOf];walk_at "vc";show((_,_,.inl rfl,rfl),ε,γ,rfl,?_);show((),by rw[gP];show sl (),?_);rw[show((-γ:Int)).toNat=-γ by omega];show fJ trivial (λx=>match x with| .int j=>decide (bR γ j.toNat=hand)| _=>false) (λx=>x) _ _ (λx hx q' p' h1 h2=>?_) ?_
  .let(j,hj,rfl):=uM hx;rw[Int.zero_add]at h1 h2⊢;let hr:γ[j]? =!γ[j]:=aaa hj;let Uc:bR γ j=kindOf γ[j]:=by unfold bR;rw[hr]
   let h1:decide (bR γ j=hand)=true->q' (.int (j:Int)) M:=h1;let h2:decide (bR γ j=hand)=false->p' M:=h2;rw[Uc]at h1 h2;show((_,_,.inl rfl,rfl),ε,γ,j,γ[j],rfl,hr,?_);change(match decide (kindOf γ[j]=hand) with| true=>q' (.int (j:Int)) M| false=>p' M);cases hb:decide (kindOf γ[j]=hand) with
   | true=>show h1 hb
   | false=>show h2 hb
  .rw[abB,List.map_id'];show(λ(key:∀l,l=(jG γ hand).map (λi:Nat=>Dt.int i)->q (.lst l) M)=>key _ (E7 (λi=>decide (bR γ i=hand)) (-γ))) λl hl=>by rw[hl];show h
def zw(A:Addr):DF:=λas M q _=>∃(ε:Fr) (γ:List Rw) (hand:Str),as=[aJ A ε γ,.str hand]/\-γ<=12/\q (.loc (-M)) (M++[dP (Ez γ hand)])
def lW:Ζ ["floor","hand","plan","place"] ["floor","hand"] (υ oI):=.of rfl
def zj(F:c_ K "first_plan" "first_plan" oI f fd)(E:Ev K mg w Cm)(nB:av P w K mg base 2 "places_of" ["floor","hand"] (Gy Cm) Jr HG):aq P w K mg base (b9 P w) 3 f fd ["floor","hand"] (cM K (zw Cm)):=by
 show F.dX lW (λds M q x h=>?_) (λbf A outer s H E' hr=>(_,(ζ (ψ 2 lW.nd zU)
   (ζ (ck (bo (Φ nB hr ξ (Μ (jv 0) (Μ (jv 1) θ)))) (Ω (i:=3) lW.nd rfl (Or.inl rfl)) aH (μ (iU hr (jv 2) (jv 3) ν)))
   (μ (Β (jv 2))))),λds M q x h=>?_))
 .let(ε,γ,hand,rfl,_):=h;rfl
 .let(ε,γ,hand,rfl,ou,h):=h;let aiV:-(jG γ hand)<=12:=by have:=adh (λi=>decide (bR γ i=hand)) (List.range (-γ));rw[abP]at this;unfold jG;omega
  let pnd:(jG γ hand).Nodup:=List.nodup_range.filter _;walk_at "vc";dsimp only[k4,dE];walk_at "vc";show(ε,γ,hand,rfl,ou,?_);show bz (λxs ρ' M'=>∃(f_ rest:List Nat) (o3:Option Dt),jG γ hand=f_++rest/\xs=rest.map (λi:Nat=>Dt.int i)/\M'=M++[dP (f_.map λi:Nat=>((i:Int), 0))]/\ρ'=[!(aJ Cm ε γ),!(.str hand),!(.loc (-M)),o3]) (λxs ρ' M' hj=>trivial) (λx xs ρ' M' hj eE=>?_) (λρ' M' hj=>?_) _ _ _ ([],jG γ hand,none,rfl,rfl,rfl,rfl)
  .let(f_,rest,o3,e,ex,rfl,rfl):=hj;cases rest with
   | nil=>cases ex
   | cons i rest=>
    cases ex;let dl:-f_<=12:=by have:=abI List.length e;rw[aaj]at this;omega
    dsimp only[nR];walk_at "vc";show(-M,_,_,Sum.inl (i:Int),rfl,aB,rfl,by unfold kP;rw[List.length_map,List.length_map];omega,?_);rw[rD (v:=0),vA,d8];let gn:Λ (f_.map λi:Nat=>((i:Int), 0)) (i:Int)=none:=oZ λy=>by
     rw[abf]at y;let(j,hj,ej):=aap.mp y;let ej:(j:Int)=(i:Int):=ej;have:j=i:=()
     subst this;rw[e,adE]at pnd;show pnd.2.2 _ hj _ aaf rfl
    show eE _ _ (f_++[i],rest,_,by rw[e,ab6];rfl,rfl,?_,rfl);unfold cK;rw[gn,aa2 @_,abw];rfl
  .let(f_,rest,o3,e,ex,rfl,rfl):=hj;have:rest=[]:=by cases rest with| nil=>rfl| cons p r=>cases ex
   subst this;rw[abU]at e;rw[<-e];show h
def br:Pl->Pl->Pl
 | p,[]=>p
 | p,e::r=>br (cK p e.1 e.2) r
def Gp:∀{r p:Pl},rY (kP p) (kP r)=kP (br p r)
 | [],p=>rfl
 | e::r,p=>by change rY (g7 (kP p) (Sum.inl e.1)) (kP r)=kP (br (cK p e.1 e.2) r);rw[rD (v:=e.2)];show Gp
def G6:∀{r p:Pl},uR (kP p) (vP p) (kP r) (vP r)=vP (br p r)
 | [],p=>rfl
 | e::r,p=>by change uR (g7 (kP p) (Sum.inl e.1)) (fG (kP p) (Sum.inl e.1) (vP p) (.int e.2)) (kP r) (vP r)=vP (br (cK p e.1 e.2) r);rw[rD (v:=e.2),vA];show G6
def eO{i:Int}:∀{r p:Pl},sI r->Λ (br p r) i=match Λ r i with| some v=>!v| none=>Λ p i
 | [],p,_=>rfl
 | e::r,p,nd=>by
  unfold sI at nd;rw[aaX,acD]at nd;let ih:=eO (i:=i) (r:=r) (p:=cK p e.1 e.2) nd.2;change Λ (br (cK p e.1 e.2) r) i=match (if e.1=i then !e.2 else Λ r i) with| some v=>!v| none=>Λ p i
  rw[ih,pO];by_cases h:e.1=i
  .let hn:Λ r i=none:=by
    cases hg:Λ r i with
    | none=>rfl
    | some v=>show abc (aap.mpr (_,Ha hg,h.symm)) nd.1
   rw[hn,aa1 h,aa1 h.symm]
  .rw[aa2 h,aa2 (Ne.symm h)]
def VM(A:Addr):DF:=λas M q _=>∃(ε:Fr) (γ:List Rw) (kh ka:Nat) (ph pa:Pl) (X C:Int),as=[aJ A ε γ,.loc kh,.loc ka]/\M[kh]? =!(dP ph)/\M[ka]? =!(dP pa)/\-ph+-pa<=1000/\jn γ (br ph pa)/\FW ε γ X C/\lq X C<=2 ^ 450/\(12 * lq X C) ^ (-γ) < 2 ^ 1030/\∀tb,nh ε γ (br ph pa) tb->q (.loc (-M+1)) (M++[dP (br ph pa),.lst (tb.map Ο)])
def k8:Ζ ["floor","held","answer","doors"] ["floor","held","answer"] (υ iI):=.of rfl
def q_(F:c_ K "worths_against" "worths_against" iI f fd)(E:Ev K mg w Cm)(oE:av P w K mg base 7 "worths_by" ["floor","doors"] (Wu Cm) Hx Hk):aq P w K mg base (b9 P w) 8 f fd ["floor","held","answer"] (cM K (VM Cm)):=by
 show F.dX k8 (λds M q x h=>?_) (λbf A outer s H E' hr=>(_,(ζ (ψ 3 k8.nd (zD E.lU (Μ (jv 1) θ)))
   (ζ (eQ (Dm (jv 3) (jv 2)))
   (μ (Β (Φ oE hr ξ (Μ (jv 0) (Μ (jv 3) θ))))))),λds M q x h=>?_))
 .let(ε,γ,kh,ka,ph,pa,X,C,rfl,_):=h;rfl
 .let(ε,γ,kh,ka,ph,pa,X,C,rfl,hh,ha,lz,dk,fw,lj,vY,h):=h;walk_at "vc";show(kh,_,_,rfl,hh,?_);dsimp only[FJ];walk_at "vc";let kl:ka < -M:=(aae.mp ha).1;show((-M,_,_,rfl,aB),-M,ka,_,_,_,_,rfl,rfl,(),aB,aT ha,by unfold kP;rw[List.length_map,List.length_map];show lz,?_);rw[Gp,G6,d8];show(ε,γ,_,_,X,C,rfl,aB,dk,fw,lj,vY,λtb wt=>?_);have:=h tb wt;simpa [List.append_assoc] using this
def Lg{a b:Fr}(ha:0 < a.2)(hb:0 < b.2):a.1 * b.2<=b.1 * a.2↔val a<=val b:=by
 let e1:val a * (a.2:Rat)=a.1:=by
  have:=aM (show a.2≠0 by omega);unfold val;generalize (a.1:Rat)=x at *
  generalize (a.2:Rat)=y at *
  grind
 let e2:val b * (b.2:Rat)=b.1:=by
  have:=aM (show b.2≠0 by omega);unfold val;generalize (b.1:Rat)=x at *
  generalize (b.2:Rat)=y at *
  grind
 let p1:(0:Rat) < (a.2:Rat):=acI.mpr ha;let p2:(0:Rat) < (b.2:Rat):=acI.mpr hb;let pp:=Rat.mul_pos p1 p2;rw[<-ab4,abq,abq,<-e1,<-e2];generalize (a.2:Rat)=y at *
 generalize (b.2:Rat)=z at *
 generalize val a=u at *
 generalize val b=v at *
 constructor
 .intro h;by_cases c:u<=v
  .show c
  .have:=Rat.mul_pos (show 0 < u - v by grind) pp;grind
 .intro h;have:=acP h (Rat.le_of_lt pp);grind
def my{f n:Fr}(h1:0 < f.2)(h2:0 < n.2):dz f n=true↔val f < val n:=by
 unfold dz;rw[aaD];have:=Lg h2 h1;constructor
 .intro h;by_cases c:val n<=val f
  .have:=this.mpr c;omega
  .grind
 .intro h;by_cases c:n.1 * f.2<=f.1 * n.2
  .have:=this.mp c;grind
  .omega
def oF:∀(ns:List Fr) (f:Fr),0 < f.2->(∀n∈ns,0 < n.2)->(ns.foldl (λf n=>if dz f n then n else f) f∈f::ns)/\val f<=val (ns.foldl (λf n=>if dz f n then n else f) f)/\∀n∈ns,val n<=val (ns.foldl (λf n=>if dz f n then n else f) f)
 | [],f,_,_=>(List.mem_cons_self,by change val f<=val f;grind,λ_ z=>nomatch z)
 | a::ns,f,h,hn=>by
  let ha:=hn a aaf;let u:=my h ha;rw[acE];by_cases c:dz f a=true
  .rw[aa1 c];let(m,l,al):=oF ns a ha λn z=>hn n (aah _ z);have:=u.mp c;show(List.mem_cons_of_mem _ m,by grind,λn z=>?_);rcases aba.mp z with e| e
   .rw[e];show l
   .show al n e
  .rw[aa2 c];let(m,l,al):=oF ns f h λn z=>hn n (aah _ z);let c2:¬val f < val a:=λz=>c (u.mpr z);show(?_,l,λn z=>?_)
   .rcases aba.mp m with e| e
    .rw[e];show aaf
    .show aah _ (aah _ e)
   .rcases aba.mp z with e| e
    .rw[e];grind
    .show al n e
def ny:∀(ns:List Fr) (f:Fr),0 < f.2->(∀n∈ns,0 < n.2)->(ns.foldl (λf n=>if dz n f then n else f) f∈f::ns)/\val (ns.foldl (λf n=>if dz n f then n else f) f)<=val f/\∀n∈ns,val (ns.foldl (λf n=>if dz n f then n else f) f)<=val n
 | [],f,_,_=>(List.mem_cons_self,by change val f<=val f;grind,λ_ z=>nomatch z)
 | a::ns,f,h,hn=>by
  let ha:=hn a aaf;let u:=my ha h;rw[acE];by_cases c:dz a f=true
  .rw[aa1 c];let(m,l,al):=ny ns a ha λn z=>hn n (aah _ z);have:=u.mp c;show(List.mem_cons_of_mem _ m,by grind,λn z=>?_);rcases aba.mp z with e| e
   .rw[e];show l
   .show al n e
  .rw[aa2 c];let(m,l,al):=ny ns f h λn z=>hn n (aah _ z);let c2:¬val a < val f:=λz=>c (u.mpr z);show(?_,l,λn z=>?_)
   .rcases aba.mp m with e| e
    .rw[e];show aaf
    .show aah _ (aah _ e)
   .rcases aba.mp z with e| e
    .rw[e];grind
    .show al n e
def ij(k:Str):Rat:=if k="one" then 1 else - 1
section
variable{k:Str}
def qC(h0:ds≠[])(hp:∀d∈ds,0 < (af ε tb d).2):gZ ε tb (.τ k ds)∈ds.map (af ε tb)/\∀d∈ds,ij k * val (af ε tb d)<=ij k * val (gZ ε tb (.τ k ds)):=by
 let(d1,pT,rfl):=acw h0;let hn:∀n∈(d1::pT).map (af ε tb),0 < n.2:=λn hn=>by let(d,hd,rfl):=aap.mp hn;show hp d hd
 let h1:=hp d1 aaf;unfold ij;by_cases e:k="one"
 .let e1:gZ ε tb (.τ k (d1::pT))=nu ((d1::pT).map (af ε tb)):=aa1 e;let(m,l,al):=oF ((d1::pT).map (af ε tb)) (af ε tb d1) h1 hn;let e2:nu ((d1::pT).map (af ε tb))=((d1::pT).map (af ε tb)).foldl (λf n=>if dz f n then n else f) (af ε tb d1):=rfl;rw[e1,e2,aa1 e];show(?_,λd hd=>?_)
  .rcases aba.mp m with y| y
   .rw[y];show aaf
   .show y
  .have:=al _ (aap.mpr (d,hd,rfl));grind
 .let e1:gZ ε tb (.τ k (d1::pT))=oJ ((d1::pT).map (af ε tb)):=aa2 e;let(m,l,al):=ny ((d1::pT).map (af ε tb)) (af ε tb d1) h1 hn;let e2:oJ ((d1::pT).map (af ε tb))=((d1::pT).map (af ε tb)).foldl (λf n=>if dz n f then n else f) (af ε tb d1):=rfl;rw[e1,e2,aa2 e];show(?_,λd hd=>?_)
  .rcases aba.mp m with y| y
   .rw[y];show aaf
   .show y
  .have:=al _ (aap.mpr (d,hd,rfl));grind
end
def zh:CU l v=true↔∃j∈l,(j:Int)=v:=by
 unfold CU T4;rw[List.any_eq_true];constructor
 .rintro⟨u,hu,e⟩;let(j,hj,rfl):=aap.mp hu;show(j,hj,?_);unfold rM at e;simpa using e
 .rintro⟨j,hj,e⟩;show(.int j,aap.mpr (j,hj,rfl),?_);unfold rM;simpa using e
section
variable{k:Str}
def i5(hi:γ[i]? =!r):fF γ i=r:=by unfold fF;rw[aab,hi];rfl
def jJ(hh:Ε k=true):j∈dD ε tb (.τ k ds)↔j < -ds/\af ε tb (ds.getD j d0)=gZ ε tb (.τ k ds):=by let e:dD ε tb (.τ k ds)=(List.range (-ds)).filter λj=>decide (af ε tb (ds.getD j d0)=gZ ε tb (.τ k ds)):=aa1 hh;rw[e,adx,abS,aaD]
def O3(hh:Ε k=true)(h0:ds≠[])(hp:∀d∈ds,0 < (af ε tb d).2):dD ε tb (.τ k ds)≠[]:=by let(m,_):=qC (k:=k) h0 hp;let(d,hd,e):=aap.mp m;let(j,jl,ej):=acd hd;have:j∈dD ε tb (.τ k ds):=(jJ hh).mpr (jl,by rw[aab,aaa jl];change af ε tb ds[j]=_;rw[ej,e]);show List.ne_nil_of_mem this
def g9(fw:FW ε γ X C)(hm:Rw.τ k ds∈γ)(hd:d∈ds)(hp:∀t,t < -γ->0 < (tb.getD t (0, 1)).2):val (af ε tb d)=val d.2.1+val ε * val (tb.getD d.1.toNat (0, 1))/\Red (af ε tb d):=by let s0:=fw.sh.1;let dr:=dq fw.pl hm;let(t0,t1):=dr.to d hd;let tp:0 < (tb.getD d.1.toNat (0, 1)).2:=hp _ ();let p0:=(dr.py d hd).2;let t:Red (aQ ε (tb.getD d.1.toNat (0, 1))):=cj (acs (abo s0 tp));show(?_,cj (acs (abo p0 t.pos)));change val (ff d.2.1 (aQ ε (tb.getD d.1.toNat (0, 1))))=_;rw[vF p0 t.pos,mF s0 tp]
def jU(fw:FW ε γ X C)(hi:γ[i]? =!(.τ k ds))(hh:Ε k=true)(gj:Λ Ι i=!(j:Int))(jl:j < -ds)(hp:∀t,t < -γ->0 < (tb.getD t (0, 1)).2):kg ε (x8 γ Ι) (xK γ Ι) (λx=>val (tb.getD x (0, 1))) i=val (af ε tb (ds.getD j d0)):=by
 let rm:Rw.τ k ds∈γ:=aao hi;let gd:ds.getD j d0=ds[j]:=by rw[aab,aaa jl];rfl
 let dm:=aa9 jl;let e:aF Ι i (.τ k ds)=[(ds[j].1, ds[j].2.1,[(1, 1)])]:=by unfold aF;rw[gj];change[((ds.getD ((j:Int)).toNat d0).1, (ds.getD ((j:Int)).toNat d0).2.1,(ds.getD ((j:Int)).toNat d0).2.2++[(1, 1)])]=_;rw[acJ,gd,fw.hnd k ds rm hh _ dm];rfl
 let v1:val ((1, 1):Fr)=1:=by change((1:Int):Rat) / ((1:Int):Rat)=1;grind
 let v0:val ((0, 1):Fr)=0:=by change((0:Int):Rat) / ((1:Int):Rat)=0;grind
 let p0:=((dq fw.pl rm).py ds[j] dm).2;let eg:val (Uq Ι i (.τ k ds))=val ds[j].2.1:=by change val (je (((aF Ι i (.τ k ds)).map χ).zip ((aF Ι i (.τ k ds)).map (·.2.1))))=_;rw[e];change val (ff (0, 1) (aQ (1, 1) ds[j].2.1))=_;let t:Red (aQ ((1, 1):Fr) ds[j].2.1):=cj (acs (abo @_ p0));rw[vF @_ t.pos,mF @_ p0,v0,v1];grind
 unfold kg x8 xK;rw[i5 hi,eg,gd,(g9 fw rm dm hp).1];change _+val ε * aA (λd=>cV d * val (tb.getD d.1.toNat (0, 1))) (aF Ι i (.τ k ds))=_;rw[e];change _+val ε * (cV (ds[j].1, ds[j].2.1,[((1, 1):Fr)]) * val (tb.getD ds[j].1.toNat (0, 1))+0)=_;have:cV (ds[j].1, ds[j].2.1,[((1, 1):Fr)])=1:=v1;rw[this];grind
def Kg{x:Nat->Rat}(h:Λ Ι i=Λ bK i):kg ε (x8 γ Ι) (xK γ Ι) x i=kg ε (x8 γ bK) (xK γ bK) x i:=by
 let e:∀r,aF Ι i r=aF bK i r:=λr=>by unfold aF;rw[h]
 let e1:T1 Ι i (fF γ i)=T1 bK i (fF γ i):=by
  cases fF γ i with
  | fin p=>rfl
  | τ k ds=>show e _
 let e2:Uq Ι i (fF γ i)=Uq bK i (fF γ i):=by
  cases fF γ i with
  | fin p=>rfl
  | τ k ds=>
   change je (((aF Ι i (.τ k ds)).map χ).zip ((aF Ι i (.τ k ds)).map (·.2.1)))=je (((aF bK i (.τ k ds)).map χ).zip ((aF bK i (.τ k ds)).map (·.2.1)));rw[e]
 unfold kg x8 xK;rw[e1,e2]
def nh.kg(h:nh ε γ Ι tb)(il:i < -γ):kg ε (x8 γ Ι) (xK γ Ι) (λx=>val (tb.getD x (0, 1))) i=val (tb.getD i (0, 1)):=(h.tab.eq i il).symm
end
structure fP(hand rival:Str):Prop where
 h1:Ε hand=true
 h2:Ε rival=true
 ne:hand≠rival
 two:∀z:Str,Ε z=true->z=hand\/z=rival
 sg:ij rival= - ij hand
def gJ(h:hand="one"/\rival="other"\/hand="other"/\rival="one"):fP hand rival:=by
 show(?_,?_,?_,λz hz=>?_,?_)
 .rcases h with ⟨rfl,rfl⟩| ⟨rfl,rfl⟩ <;> decide
 .rcases h with ⟨rfl,rfl⟩| ⟨rfl,rfl⟩ <;> decide
 .rcases h with ⟨rfl,rfl⟩| ⟨rfl,rfl⟩ <;> decide
 .unfold Ε at hz;rw[Bool.or_eq_true,acU,acU]at hz;rcases h with ⟨rfl,rfl⟩| ⟨rfl,rfl⟩
  .show hz
  .show hz.symm
 .unfold ij;rcases h with ⟨rfl,rfl⟩| ⟨rfl,rfl⟩
  .rw[aa2 @_,aa1 rfl]
  .rw[if_pos rfl,if_neg @_];grind
def Km{k:Str}(h:Ε k=true):∃r,fP k r/\fP r k:=by
 unfold Ε at h;rw[Bool.or_eq_true,acU,acU]at h;rcases h with h| h
 .show("other",gJ (.inl (h,rfl)),gJ (.inr (rfl,h)))
 .show("one",gJ (.inr (h,rfl)),gJ (.inl (rfl,h)))
section
def Gm(ε:Fr)(γ:List Rw)(tb:List Fr)(rival:Str)(Ι bK:Pl)(i:Nat):Prop:=∃ds j j',γ[i]? =!(.τ rival ds)/\Λ Ι i=!((j:Nat):Int)/\Λ bK i=!((j':Nat):Int)/\j < -ds/\j∉dD ε tb (.τ rival ds)/\j'∈dD ε tb (.τ rival ds)
def tG(fw:FW ε γ X C){k:Str}(hm:Rw.τ k ds∈γ)(hp:∀t,t < -γ->0 < (tb.getD t (0, 1)).2):Red (gZ ε tb (.τ k ds))/\∀d∈ds,ij k * val (af ε tb d)<=ij k * val (gZ ε tb (.τ k ds)):=by let l1:=(dq fw.pl hm).l1;let(m,al):=qC (ε:=ε) (tb:=tb) (k:=k) (ds:=ds) (λz=>by rw[z]at l1;show abc l1 @_) λd hd=>(g9 fw hm hd hp).2.pos;show(?_,al);let(d,hd,e):=aap.mp m;rw[<-e];show(g9 fw hm hd hp).2
def Eh{k:Str}{a b:Rat}(h:ij k * a=ij k * b):a=b:=by unfold ij at h;split at h <;> grind
def Mix(ε:Fr)(γ:List Rw)(tb:List Fr)(hand rival:Str)(Ι bK:Pl)(i:Nat):Prop:=Λ bK i=Λ Ι i\/Gm ε γ tb hand Ι bK i\/∃ds j j',γ[i]? =!(.τ rival ds)/\Λ Ι i=!((j:Nat):Int)/\Λ bK i=!((j':Nat):Int)/\j' < -ds/\j∈dD ε tb (.τ rival ds)
def zE(fw:FW ε γ X C)(hs:fP hand rival)(Uj:jn γ bK)(b1:1<=lq X C)(h:nh ε γ Ι tb)(h':nh ε γ bK Ar)(hd:∀i,i < -γ->Mix ε γ tb hand rival Ι bK i):(∀i,i < -γ->ij hand * val (tb.getD i (0, 1))<=ij hand * val (Ar.getD i (0, 1)))/\∀i,i < -γ->Gm ε γ tb hand Ι bK i->ij hand * val (tb.getD i (0, 1)) < ij hand * val (Ar.getD i (0, 1)):=by
 let hp:∀t,t < -γ->0 < (tb.getD t (0, 1)).2:=λt ht=>(h.tab.red t ht).pos;let chg:∀i,i < -γ->Gm ε γ tb hand Ι bK i->0 < ij hand * (kg ε (x8 γ bK) (xK γ bK) (λx=>val (tb.getD x (0, 1))) i - val (tb.getD i (0, 1))):=λi il (ds,j,j',hi,g,g',jl,nb,b)=>by
  let rm:Rw.τ hand ds∈γ:=aao hi;let(RH,e'):=(jJ hs.h1).mp b;let(lr,al):=tG (tb:=tb) fw rm hp;let gd:ds.getD j d0=ds[j]:=by rw[aab,aaa jl];rfl
  let dm:=aa9 jl;rw[jU fw hi hs.h1 g' RH hp,<-h.kg il,jU fw hi hs.h1 g jl hp,e',gd];let le:=al _ dm;let ne:val (af ε tb ds[j])≠val (gZ ε tb (.τ hand ds)):=λz=>nb ((jJ hs.h1).mpr (jl,by rw[gd];show AB (g9 fw rm dm hp).2 lr z));let ne2:ij hand * val (af ε tb ds[j])≠ij hand * val (gZ ε tb (.τ hand ds)):=λz=>ne (Eh z);grind
 let r0:∀i,i < -γ->0<=ij hand * (kg ε (x8 γ bK) (xK γ bK) (λx=>val (tb.getD x (0, 1))) i - val (tb.getD i (0, 1))):=λi il=>by
  rcases hd i il with e| e| ⟨ds,j,j',hi,g,g',RH,b⟩
  .rw[Kg e,h.kg il];grind
  .show Rat.le_of_lt (chg i il e)
  .let rm:Rw.τ rival ds∈γ:=aao hi;let(jl,e):=(jJ hs.h2).mp b;let(lr,al):=tG (tb:=tb) fw rm hp;let gd':ds.getD j' d0=ds[j']:=by rw[aab,aaa RH];rfl
   let le:=al _ (aa9 RH);rw[jU fw hi hs.h2 g' RH hp,<-h.kg il,jU fw hi hs.h2 g jl hp,e,gd'];rw[hs.sg]at le;grind
 let key:=Tab.cmp (fw.sys Uj b1) h'.tab (x:=λx=>val (tb.getD x (0, 1))) (sg:=ij hand) r0;show(λi il=>?_,λi il e=>?_)
 .have:=key i il;have:=r0 i il;grind
 .have:=key i il;have:=chg i il e;grind
def IJ(fw:FW ε γ X C)(hh:Ε rival=true)(dk:jn γ Ι)(Uj:jn γ bK)(b1:1<=lq X C)(h:nh ε γ Ι tb)(h':nh ε γ bK Ar)(hd:∀i,i < -γ->Λ bK i=Λ Ι i\/Gm ε γ tb rival Ι bK i):(∀i,i < -γ->ij rival * val (tb.getD i (0, 1))<=ij rival * val (Ar.getD i (0, 1)))/\∀i,i < -γ->Gm ε γ tb rival Ι bK i->ij rival * val (tb.getD i (0, 1)) < ij rival * val (Ar.getD i (0, 1)):=by let(r,hs,_):=Km hh;show zE fw hs Uj b1 h h' λi il=>(hd i il).elim .inl λc=>.inr (.inl c)
def DZ(fw:FW ε γ X C)(hh:Ε rival=true)(dk:jn γ Ι)(Uj:jn γ bK)(b1:1<=lq X C)(h:nh ε γ Ι tb)(h':nh ε γ bK Ar)(hd:∀i,i < -γ->Λ bK i=Λ Ι i\/Gm ε γ tb rival Ι bK i)(il:i < -γ)(hc:Gm ε γ tb rival Ι bK i):D' ε γ (ij rival) Ι < D' ε γ (ij rival) bK:=by
 let(a,b):=IJ fw hh dk Uj b1 h h' hd;unfold D';show z5 (λj hj=>?_) il ?_
 .rw[yL fw dk b1 h,yL fw Uj b1 h'];show a j hj
 .rw[yL fw dk b1 h,yL fw Uj b1 h'];show b i il hc
end
def PL{p:Fr}(h:0 < p.2)(a:fk p C):ab (val p)<=(C:Rat):=by
 let e:val p * (p.2:Rat)=p.1:=by
  have:=aM (show p.2≠0 by omega);unfold val;generalize (p.1:Rat)=x at *
  generalize (p.2:Rat)=y at *
  grind
 let p0:(0:Rat) < (p.2:Rat):=acI.mpr h;let a1:(p.1:Rat)<=(p.2:Rat) * (C:Rat):=by rw[<-abq];show ab4.mpr a.1
 let a2: - ((p.2:Rat) * (C:Rat))<=(p.1:Rat):=by rw[<-abq,<-Rat.intCast_neg];show ab4.mpr a.2
 show m_.mpr (?_,?_)
 .by_cases z: - (C:Rat)<=val p
  .show z
  .have:=Rat.mul_pos (show 0 < - (C:Rat) - val p by grind) p0;grind
 .by_cases z:val p<=(C:Rat)
  .show z
  .have:=Rat.mul_pos (show 0 < val p - (C:Rat) by grind) p0;grind
def OV{p:Fr}(h:0 < p.2)(a:ab (val p)<=(C:Rat)):fk p C:=by
 let e:val p * (p.2:Rat)=p.1:=by
  have:=aM (show p.2≠0 by omega);unfold val;generalize (p.1:Rat)=x at *
  generalize (p.2:Rat)=y at *
  grind
 let p0:(0:Rat)<=(p.2:Rat):=ab4.mpr (aav h);let(a1,a2):=m_.mp a;let b1:=acP a1 p0;let b2:=acP a2 p0;constructor
 .apply ab4.mp;rw[Rat.intCast_mul];grind
 .apply ab4.mp;rw[Rat.intCast_neg,Rat.intCast_mul];grind
def Sys.abs{c:Rat}(S:Sys ε n B ws gv)(h:Tab ε n ws gv tb)(s3:1<=1000 * (1 - val ε))(hg:∀i,i < n->ab (val (gv i))<=c):∀i,i < n->ab (val (tb.getD i (0, 1)))<=1000 * c:=λi hi=>by
 let s0:=S.s0;let s1:=S.s1
 have:=Nk (n:=n) (x:=λx=>val (tb.getD x (0, 1))) (c:=c) s1 (λi hi m hm=>by
  let(E,C,p,_):=S.JF i hi;let w:=m_.mp (Fv p.wo () hm);let a:=abM w.1 s0;let b:=abM w.2 s0;let g:=m_.mp (hg i hi);rw[h.eq i hi]
  show m_.mpr (?_,?_) <;> grind) i hi
 let a0:=R6 (val (tb.getD i (0, 1)));have:=abM s3 a0;grind
structure BP(tb:List Fr)(n:Nat):Prop where
 len:-tb=n
 red:∀t∈tb,Red t
 sz:∀t∈tb,t.2 < 2 ^ 1030/\t.1.natAbs < 2 ^ 1150
def nh.ok(fw:FW ε γ X C)(dk:jn γ Ι)(b1:1<=lq X C)(h:nh ε γ Ι tb):BP tb (-γ):=by
 let S:=fw.sys dk b1;let(_,_,_,_,_,s3):=fw.sh;let c1:=fw.c1;let ln:=h.tab.len;let g:∀t∈tb,∃i,i < -γ/\tb.getD i (0, 1)=t:=λt ht=>by let(i,hi,e):=acd ht;show(i,(),by rw[aab,aaa hi,e];rfl)
 let ab:=S.abs h.tab s3 (c:=((6 * C:Int):Rat)) λi hi=>by let(E,p,_):=fw.JF dk (rw_at hi);show PL p.gn.red.pos p.gn.ab
 show(ln,λt ht=>?_,λt ht=>?_)
 .let(i,hi,e):=g t ht;rw[<-e];show h.tab.red i hi
 .let(i,hi,e):=g t ht;let r:=h.tab.red i hi;let b:=h.bot i hi;let a:=ab i hi;rw[e]at r b a;let r0:=r.pos;let a:Pg.ab (val t)<=((1000 * (6 * C):Int):Rat):=by rw[abq];show a
  let(v1,v2):=OV r0 a;show(b,?_);let m:t.2 * (1000 * (6 * C))<=2 ^ 1030 * (1000 * (6 * 10 ^ 30)):=acC (aav b) () (by have:=fw.c9;omega) @_;have:(t.1.natAbs:Int) < ((2 ^ 1150:Nat):Int):=abl (show _<=(2:Int) ^ 1030 * (1000 * (6 * 10 ^ 30)) by omega) @_;show acT.mp this
def jB(hand:Str)(pl:Pl):Str->Option Pl:=λz=>if z=hand then !pl else none
abbrev aO(γ:List Rw)(hand:Str)(pl:Pl):Pl:=ft γ (jB hand pl) (-γ)
noncomputable def eF(γ:List Rw)(rival:Str):List (Int×Nat):=(jG γ rival).map λi:Nat=>((i:Int), -(Ξ (fF γ i)))
def Hc{γ:List Rw}:∀{l:List Nat},(∀i∈l,1<=-(Ξ (fF γ i)))->aa (l.map λi:Nat=>((i:Int), -(Ξ (fF γ i)))) (l.map λi:Nat=>((i:Int), (0:Int)))
 | [],_=>trivial
 | i::l,h=>(rfl,Int.le_refl _,by have:=h i aaf;omega,Hc λj hj=>h j (aah _ hj))
section
variable{pl:Pl}
def jD:i∈jG γ rival↔i < -γ/\bR γ i=rival:=by unfold jG;rw[adx,abS,aaD]
def Cj(fw:FW ε γ X C)(hh:Ε rival=true)(h:i∈jG γ rival):∃ds,γ[i]? =!(.τ rival ds)/\Ξ (fF γ i)=ds/\1<=-ds:=by
 let(il,e):=jD.mp h;let hi:γ[i]? =!γ[i]:=aaa il;unfold bR at e;rw[hi]at e;let e:kindOf γ[i]=rival:=e;cases hr:γ[i] with
 | fin p=>
  rw[hr]at e;rw[<-e]at hh;show abc hh (by change¬Ε (Str.ofString "end")=true;decide)
 | τ k ds=>
  rw[hr]at e hi;let e:k=rival:=e;subst e;show(ds,hi,by rw[i5 hi];rfl,(dq fw.pl (aao hi)).l1)
def EA(fw:FW ε γ X C)(hh:Ε rival=true):aa (eF γ rival) (Ez γ rival):=Hc λi hi=>by let(ds,_,e,l):=Cj fw hh hi;rw[e];show l
def gA:(eF γ rival).map (·.1)=(jG γ rival).map λi:Nat=>(i:Int):=by unfold eF;rw[List.map_map];rfl
def bq(h:aa (eF γ rival) p):sI p:=by unfold sI;rw[bU h,gA];let nd:(jG γ rival).Nodup:=List.nodup_range.filter _;show List.Pairwise.map _ (λa b JG z=>JG (by let z:(a:Int)=(b:Int):=z;omega)) nd
def bC(fw:FW ε γ X C)(hh:Ε rival=true)(h:aa (eF γ rival) p):(∀ds,γ[i]? =!(.τ rival ds)->∃j:Nat,Λ p i=!(j:Int)/\j < -ds)/\(∀r,γ[i]? =!r->kindOf r≠rival->Λ p i=none):=by
 show(λds hi=>?_,λr hi hk=>?_)
 .let il:=(aae.mp hi).1;let m:i∈jG γ rival:=jD.mpr (il,by unfold bR;rw[hi];rfl);let s:=pU (i:=(i:Int)) (p:=p) (by rw[bU h,gA];show aap.mpr (i,m,rfl));let(v,hv):=acz.mp s;let(c,hc,v0,v1):=sX h hv;unfold eF at hc;let(i',_,e):=aap.mp hc;let e1:(i':Int)=(i:Int):=abI Prod.fst e;let e2:-(Ξ (fF γ i'))=c:=abI Prod.snd e;have:i'=i:=()
  subst this;rw[i5 hi]at e2;let e2:-ds=c:=e2;show(v.toNat,by rw[hv,Int.toNat_of_nonneg v0],())
 .show oZ λz=>?_;rw[bU h,gA]at z;let(i',m,e):=aap.mp z;have:i'=i:=by let e:(i':Int)=(i:Int):=e;omega
  subst this;have:=(jD.mp m).2;unfold bR at this;rw[hi]at this;show hk this
def Tq(fw:FW ε γ X C)(h1:Ε hand=true)(h2:Ε rival=true)(lu:hand≠rival)(two:∀k:Str,Ε k=true->k=hand\/k=rival)(gd:∀i,i < -γ->fK γ (jB hand pl) i=true)(h:aa (eF γ rival) p):jn γ (br (aO γ hand pl) p):=by
 let SU:∀(i:Nat) (r:Rw),γ[i]? =!r->kindOf r≠hand->Λ (aO γ hand pl) i=none:=λi r hi hk=>by let il:=(aae.mp hi).1;rw[mI,aa1 il,hi];change Option.map _ (jB hand pl (kindOf r))=none;unfold jB;rw[aa2 hk];rfl
 show(λi r hi hk=>?_,λi r hi hk=>?_)
 .rw[eO (bq h)];rcases two _ hk with e| e
  .let il:=(aae.mp hi).1;rw[(bC (i:=i) fw h2 h).2 r hi (λz=>lu (e.symm.trans z))];dsimp only;let g:=gd i il;unfold fK at g;rw[hi]at g;let g:kX (jB hand pl) i r=true:=g;let ep:jB hand pl (kindOf r)=!pl:=by unfold jB;rw[if_pos e]
   unfold kX at g;rw[ep]at g;let g:eU pl i (-(Ξ r))=true:=g;rw[mI,aa1 il,hi];change∃j:Nat,Option.map (λpl=>(Λ pl i).getD 0) (jB hand pl (kindOf r))=!(j:Int)/\_;rw[ep];unfold eU at g;cases hv:Λ pl i with
   | none=>rw[hv]at g;cases g
   | some v=>
    rw[hv]at g;let g:(decide (0<=v)&&decide (v < (-(Ξ r):Int)))=true:=g;rw[aaW,aaD,aaD]at g;show(v.toNat,?_,());change (!((Λ pl i).getD 0))=_;rw[hv,Int.toNat_of_nonneg g.1];rfl
  .cases r with
   | fin q=>show abc hk (by change¬Ε (Str.ofString "end")=true;decide)
   | τ k ds=>
    let e:k=rival:=e;subst e;let(j,gj,jl):=(bC (i:=i) fw h2 h).1 ds hi;rw[gj];show(j,rfl,jl)
 .rw[eO (bq h),(bC (i:=i) fw h2 h).2 r hi (λz=>by rw[z,h2]at hk;cases hk)];show SU i r hi λz=>by rw[z,h1]at hk;cases hk
end
section
variable{pl:Pl}
def uj:∀pl:Pl,((Γ ε γ tb pl).map (·.1)).Sublist (pl.map (·.1))
 | []=>List.Sublist.refl _
 | a::r=>by
  let ih:=uj r;let e:Γ ε γ tb (a::r)=sj ε γ tb a++Γ ε γ tb r:=by unfold Γ;rw[List.flatMap_cons]
  rw[e,abw,aaX];unfold sj;split
  .show List.Sublist.cons _ ih
  .show List.Sublist.cons₂ _ ih
def qX(h:sI pl):sI (Γ ε γ tb pl):=(uj pl).nodup h
def iD{i:Int}:∀{pl:Pl},sI pl->Λ (Γ ε γ tb pl) i=(match Λ pl i with
 | some v=>if CU (jA ε γ tb i) v then none else !(((jA ε γ tb i).headD 0:Nat):Int)
 | none=>none)
 | [],_=>rfl
 | a::r,nd=>by
  unfold sI at nd;rw[aaX,acD]at nd;let ih:=iD (i:=i) (pl:=r) nd.2;let e:Γ ε γ tb (a::r)=sj ε γ tb a++Γ ε γ tb r:=by unfold Γ;rw[List.flatMap_cons]
  rw[e];by_cases ei:a.1=i
  .let e2:Λ (a::r) i=!a.2:=by unfold Λ;rw[if_pos ei]
   let hn:Λ (Γ ε γ tb r) i=none:=oZ λz=>nd.1 (by rw[ei];show gM z);rw[e2];dsimp only;unfold sj;rw[ei];by_cases c:CU (jA ε γ tb i) a.2=true
   .rw[aa1 c,aa1 c,abB,hn]
   .rw[aa2 c,aa2 c];change Λ ((i, (((jA ε γ tb i).headD 0:Nat):Int))::Γ ε γ tb r) i=_;unfold Λ;rw[aa1 rfl]
  .let e2:Λ (a::r) i=Λ r i:=by rw[Λ,aa2 ei]
   rw[e2,<-ih];unfold sj;split
   .rfl
   .change Λ ((a.1, _)::Γ ε γ tb r) i=_;rw[Λ,aa2 ei]
def Cb:∀(q s:Pl),aa kc s->(∀e∈q,e.1∈kc.map (·.1)/\∀c,(e.1, c)∈kc->0<=e.2/\e.2 < (c:Int))->aa kc (br s q)
 | [],s,h,_=>h
 | e::q,s,h,hq=>by let(a,b):=hq e aaf;show Cb q (cK s e.1 e.2) (JY h a b) λx hx=>hq x (aah _ hx)
def jI(fw:FW ε γ X C)(hh:Ε rival=true)(h:aa (eF γ rival) p)(hp:∀t,t < -γ->0 < (tb.getD t (0, 1)).2)(hm:i∈jG γ rival):∃ds j,γ[i]? =!(.τ rival ds)/\Ξ (fF γ i)=ds/\Λ p i=!((j:Nat):Int)/\j < -ds/\jA ε γ tb i=dD ε tb (.τ rival ds)/\dD ε tb (.τ rival ds)≠[]/\(dD ε tb (.τ rival ds)).headD 0∈dD ε tb (.τ rival ds):=by let(ds,hi,ed,l1):=Cj fw hh hm;let(j,gj,jl):=(bC (i:=i) fw hh h).1 ds hi;let rm:Rw.τ rival ds∈γ:=aao hi;let ne:dD ε tb (.τ rival ds)≠[]:=O3 hh (λz=>by rw[z]at l1;show abc l1 @_) λd hd=>(g9 fw rm hd hp).2.pos;show(ds,j,hi,ed,gj,jl,by unfold jA;rw[Int.toNat_natCast,hi],ne,?_);let(b,bs,e):=acw ne;rw[e];show aaf
def gQ(fw:FW ε γ X C)(hh:Ε rival=true)(h:aa (eF γ rival) p)(hp:∀t,t < -γ->0 < (tb.getD t (0, 1)).2):aa (eF γ rival) (br p (Γ ε γ tb p)):=by
 show Cb _ _ h λe he=>?_;let ke:e.1∈p.map (·.1):=gM (aap.mpr (e,he,rfl));let kk:=ke;rw[bU h]at kk;rw[bU h,gA]at ke;let(i,hm,ei):=aap.mp ke;let(ds,j,hi,ed,gj,jl,eb,ne,hd):=jI fw hh h hp hm;show(kk,λc hc=>?_);let c1:c=-ds:=by
  unfold eF at hc;let(i',_,e'):=aap.mp hc;let e1:(i':Int)=e.1:=abI Prod.fst e';let e2:-(Ξ (fF γ i'))=c:=abI Prod.snd e';have:i'=i:=by let ei:(i:Int)=e.1:=ei;omega
  subst this;rw[<-e2,ed]
 let gb:=iD (ε:=ε) (γ:=γ) (tb:=tb) (i:=e.1) (bq h);let nb:=qX (ε:=ε) (γ:=γ) (tb:=tb) (bq h);let ge:Λ (Γ ε γ tb p) e.1=!e.2:=by
  have:∀{l:Pl},sI l->e∈l->Λ l e.1=!e.2:=λ{l}=>by
   induction l with
   | nil=>intro _ z;cases z
   | cons a l ih=>
    intro nl hm;unfold sI at nl;rw[aaX,acD]at nl;unfold Λ;rcases aba.mp hm with y| y
    .rw[aa1 (by rw[y]),y]
    .rw[aa2 λz=>nl.1 (by rw[z];show aap.mpr (e,y,rfl))];show ih nl.2 y
  show this nb he
 let ei:e.1=(i:Int):=ei.symm;rw[ge,ei,gj,eb]at gb;dsimp only at gb;split at gb
 .cases gb
 .let gb:=aaI gb;have:=((jJ hh).mp hd).1;omega
def xi(fw:FW ε γ X C)(hh:Ε rival=true)(h:aa (eF γ rival) p)(hp:∀t,t < -γ->0 < (tb.getD t (0, 1)).2)(hb:Pl):∀i,i < -γ->Λ (br hb (br p (Γ ε γ tb p))) i=Λ (br hb p) i\/Gm ε γ tb rival (br hb p) (br hb (br p (Γ ε γ tb p))) i:=λi il=>by
 let h':=gQ (tb:=tb) fw hh h hp;let gb:=iD (ε:=ε) (γ:=γ) (tb:=tb) (i:=(i:Int)) (bq h);let g1:=eO (i:=(i:Int)) (p:=p) (qX (ε:=ε) (γ:=γ) (tb:=tb) (bq h));let g2:=eO (i:=(i:Int)) (p:=hb) (bq h');let g3:=eO (i:=(i:Int)) (p:=hb) (bq h);by_cases hm:i∈jG γ rival
 .let(ds,j,hi,ed,gj,jl,eb,ne,hd):=jI fw hh h hp hm;rw[gj,eb]at gb;dsimp only at gb;by_cases c:CU (dD ε tb (.τ rival ds)) (j:Int)=true
  .rw[aa1 c]at gb;rw[gb]at g1;left;rw[g2,g3,g1]
  .rw[aa2 c]at gb;rw[gb]at g1;right;show(ds,j,_,hi,by rw[g3,gj],by rw[g2,g1],jl,λz=>c (zh.mpr (j,z,rfl)),hd)
 .let hi:γ[i]? =!γ[i]:=aaa il;let gn:=(bC (i:=i) fw hh h).2 γ[i] hi λz=>hm (jD.mpr (il,by unfold bR;rw[hi];show z));rw[gn]at gb;let gb:Λ (Γ ε γ tb p) i=none:=gb;rw[gb]at g1;left;rw[g2,g3,g1]
def rE(fw:FW ε γ X C)(hh:Ε rival=true)(h:aa (eF γ rival) p)(hp:∀t,t < -γ->0 < (tb.getD t (0, 1)).2)(hb:Pl)(ne:Γ ε γ tb p≠[]):∃i,i < -γ/\Gm ε γ tb rival (br hb p) (br hb (br p (Γ ε γ tb p))) i:=by
 let(e,r,er):=acw ne;let he:e∈Γ ε γ tb p:=by rw[er];show aaf
 let ke:e.1∈p.map (·.1):=gM (aap.mpr (e,he,rfl));rw[bU h,gA]at ke;let(i,hm,ei):=aap.mp ke;let ei:(i:Int)=e.1:=ei;let il:=(jD.mp hm).1;show(i,il,?_);let h':=gQ (tb:=tb) fw hh h hp;let(ds,j,hi,ed,gj,jl,eb,ne',hd):=jI fw hh h hp hm;let gb:=iD (ε:=ε) (γ:=γ) (tb:=tb) (i:=(i:Int)) (bq h);let s:(Λ (Γ ε γ tb p) (i:Int)).isSome=true:=pU (aap.mpr (e,he,ei.symm));rw[gj,eb]at gb;dsimp only at gb;by_cases c:CU (dD ε tb (.τ rival ds)) (j:Int)=true
 .rw[aa1 c]at gb;rw[gb]at s;cases s
 .rw[aa2 c]at gb;let g1:=eO (i:=(i:Int)) (p:=p) (qX (ε:=ε) (γ:=γ) (tb:=tb) (bq h));rw[gb]at g1;show(ds,j,_,hi,by rw[eO (bq h),gj],by rw[eO (bq h'),g1],jl,λz=>c (zh.mpr (j,z,rfl)),hd)
set_option tactic.hygienic true
def uL(fw:FW ε γ X C)(hh:Ε rival=true)(h:aa (eF γ rival) p)(hp:∀t,t < -γ->0 < (tb.getD t (0, 1)).2)(e:Γ ε γ tb p=[])(hi:γ[i]? =!(.τ rival ds))(gj:Λ p i=!(j:Int)):j∈dD ε tb (.τ rival ds):=by
 let il:=(aae.mp hi).1;let hm:i∈jG γ rival:=jD.mpr (il,by unfold bR;rw[hi];rfl);let(pT,j',v7,_,gj',_,eb,_,_):=jI (tb:=tb) fw hh h hp hm;rw[hi]at v7;cases v7;let gb:=iD (ε:=ε) (γ:=γ) (tb:=tb) (i:=(i:Int)) (bq h);rw[e,gj,eb]at gb;dsimp only at gb;split at gb
 .rename_i c;let(b,hb,y):=zh.mp c;have:b=j:=()
  rw[<-this];show hb
 .cases gb
end
def nh.flg(fw:FW ε γ X C)(dk:jn γ Ι)(b1:1<=lq X C)(h:nh ε γ Ι tb):Nh ε γ tb:=by
 let ok:=h.ok fw dk b1;show(fw.pl.sh,fw.pl.len,fw.pl.row,ok.len,λt ht=>((ok.sz t ht).2,(ok.red t ht).pos,?_));have:(t.2.natAbs:Int) < ((2 ^ 1150:Nat):Int):=by rw[ach (aav (ok.red t ht).pos)];show adw (ok.sz t ht).1 @_
 show acT.mp this
set_option tactic.hygienic true in
def FL{k:Nat}(h:M[k]? =!(dP pl)):UB (M++[.cZ [Sum.inr hand] [.loc k]]) (-M) (jB hand pl):=by
 show(_,_,aB,λz=>(?_,λq e=>?_))
 .unfold jB;change(decide ((Sum.inr hand:Key)=Sum.inr z)|| false)=_;rw[Bool.or_false];by_cases y:z=hand
  .rw[aa1 y,aaT (by rw[y])];rfl
  .rw[aa2 y,aa4 λx=>y (Sum.inr.inj x).symm];rfl
 .unfold jB at e;split at e
  .rename_i y;cases e;subst y;show(k,?_,aT h);change((List.zip [Sum.inr z] [Dt.loc k]).find? _).map _=_;simp[List.zip]
  .cases e
def BI(A:Addr):DF:=λas M q _=>∃(ε:Fr) (γ:List Rw) (hand rival:Str) (k:Nat) (pl:Pl) (X C:Int),as=[aJ A ε γ,.str hand,.loc k]/\M[k]? =!(dP pl)/\(hand="one"/\rival="other"\/hand="other"/\rival="one")/\FW ε γ X C/\lq X C<=2 ^ 450/\(12 * lq X C) ^ (-γ) < 2 ^ 1030/\1<=lq X C/\(∀i,i < -γ->fK γ (jB hand pl) i=true)/\∀(p:Pl) (tb:List Fr) (E':Ms) (kt:Nat),aa (eF γ rival) p->nh ε γ (br (aO γ hand pl) p) tb->Γ ε γ tb p=[]->-M+3<=kt->(M++[.cZ [Sum.inr hand] [.loc k],dP (aO γ hand pl),dP p]++E')[kt]? =!(.lst (tb.map Ο))->q (.tup [.loc (-M+2),.loc kt]) (M++[.cZ [Sum.inr hand] [.loc k],dP (aO γ hand pl),dP p]++E')
def fW:Ζ ["floor","hand","plan","held","answer","table","better"] ["floor","hand","plan"] (υ uS):=.of rfl
def D0(F:c_ K "against" "against" uS f fd)(E:Ev K mg w Cm)(hW:av P w K mg base 4 "doors_of" ["floor","plans"] (uA Cm) tD vI)(fm:av P w K mg base 3 "first_plan" ["floor","hand"] (zw Cm) oC nO)(eR:av P w K mg base 8 "worths_against" ["floor","held","answer"] (VM Cm) vz uW)(cw:av P w K mg base 8 "better_doors" ["floor","plan","table"] (zm Cm) j6 kf):aq P w K mg base (b9 P w) 9 f fd ["floor","hand","plan"] (cM K (BI Cm)):=by
 show F.dX fW (λds M q x h=>?_) (λbf A outer s H E' hr=>(_,(ζ (ψ 3 fW.nd (Φ hW hr ξ (Μ (jv 0) (ι (CA (jv 1) (jv 2)) θ))))
   (ζ (ψ 4 fW.nd (Φ fm hr ξ (Μ (jv 0) (ι (WM E.mV (jv 1)) θ aL))))
   (ζ (ψ 5 fW.nd (Φ eR hr ξ (Μ (jv 0) (Μ (jv 3) (Μ (jv 4) θ)))))
   (ζ (ψ 6 fW.nd (Φ cw hr ξ (Μ (jv 0) (Μ (jv 4) (Μ (jv 5) θ)))))
   (ζ (pV (Fl (EY E.bu (Μ (jv 6) θ)) ν) (ζ (eQ (Dm (jv 4) (jv 6)))
   (ζ (ψ 5 fW.nd (Φ eR hr ξ (Μ (jv 0) (Μ (jv 3) (Μ (jv 4) θ)))))
   (μ (ψ 6 fW.nd (Φ cw hr ξ (Μ (jv 0) (Μ (jv 4) (Μ (jv 5) θ)))))))))
   (μ (Β (cP (Μ (jv 4) (Μ (jv 5) θ)))))))))),λds M q x h=>?_))
 .let(ε,γ,hand,rival,k,pl,X,C,rfl,_):=h;rfl
 .let(ε,γ,hand,rival,k,pl,X,C,rfl,hk,fb,fw,lj,vY,b1,gd,h):=h;let ou:=fw.pl.len;let lk:List.lookup hand [(Str.ofString "one", Str.ofString "other"),(Str.ofString "other", Str.ofString "one"),(Str.ofString "chance", Str.ofString "chance")]=!rival:=by rcases fb with ⟨rfl,rfl⟩| ⟨rfl,rfl⟩ <;> decide
  let h1:Ε hand=true:=by rcases fb with ⟨rfl,rfl⟩| ⟨rfl,rfl⟩ <;> decide
  let h2:Ε rival=true:=by rcases fb with ⟨rfl,rfl⟩| ⟨rfl,rfl⟩ <;> decide
  let lu:hand≠rival:=by rcases fb with ⟨rfl,rfl⟩| ⟨rfl,rfl⟩ <;> decide
  let two:∀z:Str,Ε z=true->z=hand\/z=rival:=λz hz=>by
   unfold Ε at hz;rw[Bool.or_eq_true,acU,acU]at hz;rcases fb with ⟨rfl,rfl⟩| ⟨rfl,rfl⟩
   .show hz
   .show hz.symm
  let Ub:∀{p},aa (eF γ rival) p->jn γ (br (aO γ hand pl) p):=λhp=>Tq fw h1 h2 lu two gd hp;let Hi:∀{p},aa (eF γ rival) p->-p<=12:=λ{p} hp=>by have:=abI List.length (bU hp);rw[aac,gA,aac]at this;let l:=adh (λi=>decide (bR γ i=rival)) (List.range (-γ));rw[abP]at l;let l:-(jG γ rival)<=-γ:=l;omega
  let hlen:-(aO γ hand pl)<=12:=aaR (zS γ _ _) ou;walk_at "vc";dsimp only[EH,WU];walk_at "vc";show(Sum.inr hand,rfl,?_);show(ε,γ,-M,jB hand pl,rfl,FL hk,fw.pl,gd,?_);show(hand,rival,rfl,lk,?_);show(ε,γ,rival,rfl,ou,?_);obtain⟨C1,hd0⟩:∃d:MO,d=MO.cZ [Sum.inr hand] [Dt.loc k]:=(_,rfl);rw[<-hd0]at h⊢;dsimp only[aO]at h Ub hlen;generalize ac9:ft γ (jB hand pl) (-γ)=held at *
  let B3:∀p:Pl,M++[C1]++[dP held]++[dP p]=M++[C1,dP held,dP p]:=λp=>by simp
  let kh1:-(M++[C1])=-M+1:=by simp
  let ka1:-(M++[C1]++[dP held])=-M+2:=by simp
  rw[kh1,ka1,B3];let atH:∀(p:Pl) (E:Ms),(M++[C1,dP held,dP p]++E)[-M+1]? =!(dP held):=λp E=>aT (by rw[aaB (),show -M+1 - -M=1 by omega];rfl);let Ux:∀(p:Pl) (E:Ms),(M++[C1,dP held,dP p]++E)[-M+2]? =!(dP p):=λp E=>aT (by rw[aaB (),show -M+2 - -M=2 by omega];rfl);let f0:=EA fw h2;generalize Ez γ rival=p0 at *
  let gp:∀{p:Pl} {tb:List Fr},nh ε γ (br held p) tb->∀t,t < -γ->0 < (tb.getD t (0, 1)).2:=λwt t ht=>(wt.tab.red t ht).pos;let bok:∀{p:Pl} {tb:List Fr},aa (eF γ rival) p->nh ε γ (br held p) tb->∀e∈p,0<=e.1/\∃r,γ[e.1.toNat]? =!r/\Ε (kindOf r)=true/\dD ε tb r≠[]:=λ{p tb} hp wt e he=>by let ke:e.1∈p.map (·.1):=aap.mpr (e,he,rfl);rw[bU hp,gA]at ke;let(i,hm,ei):=aap.mp ke;let ei:(i:Int)=e.1:=ei;let(ds,j,hi,_,_,_,_,ne,_):=jI fw h2 hp (gp wt) hm;show((),.τ rival ds,by rw[<-ei,acJ];show hi,h2,ne)
  let kTb:∀{p:Pl} {E:Ms},-(M++[C1,dP held,dP p]++E)+1=-M+4+-E:=by intro p E;rw[aaj,aaj];change -M+3+-E+1=_;omega
  let atT:∀(p:Pl) (E:Ms) (m:MO) (tb:List Fr),(M++[C1,dP held,dP p]++(E++[m,.lst (tb.map Ο)]))[-M+4+-E]? =!(.lst (tb.map Ο)):=λp E m tb=>by rw[aaB (by rw[aaj];change -M+3<=_;omega),aaB (by rw[aaj];change -E<=-M+4+-E - (-M+3);omega)];rw[aaj];change[m,MO.lst (tb.map Ο)][-M+4+-E - (-M+3) - -E]? =_;rw[show -M+4+-E - (-M+3) - -E=1 by omega];rfl
  let e0:M++[C1,dP held,dP p0]=M++[C1,dP held,dP p0]++[]:=(abU _).symm;rw[e0];show(ε,γ,-M+1,-M+2,held,p0,X,C,rfl,atH p0 [],Ux p0 [],by have:=Hi f0;omega,Ub f0,fw,lj,vY,λUz Z3=>?_);rw[kTb,ab6 (M++[C1,dP held,dP p0])];show(ε,γ,Uz,.loc _,-M+2,p0,rfl,Ux p0 _,Z3.flg fw (Ub f0) b1,iH (atT p0 [] _ Uz),bq f0,Hi f0,bok f0 Z3,?_);let acm:∀(p p':Pl) (E:Ms),(M++[C1,dP held,dP p]++E).set (-M+2) (dP p')=M++[C1,dP held,dP p']++E:=λp p' E=>by rw[ab6,ab6,List.set_append_right (h:=by omega),show -M+2 - -M=2 by omega];rfl
  let l3:∀(p:Pl) (E:Ms),-M+3<=-(M++[C1,dP held,dP p]++E):=λp E=>by rw[aaj,aaj];change -M+3<=-M+3+-E;omega
  let Zw:∀{p:Pl} {tb:List Fr},aa (eF γ rival) p->-(Γ ε γ tb p)<=12:=λhp=>aaR (j5 _) (Hi hp);show⟨λm ρ' M'=>∃(p:Pl) (tb:List Fr) (E1:Ms) (kb kt:Nat),aa (eF γ rival) p/\nh ε γ (br held p) tb/\above ε γ (ij rival) (br held) (eF γ rival) p=m/\M'=M++[C1,dP held,dP p]++E1/\M'[kb]? =!(dP (Γ ε γ tb p))/\-M+3<=kb/\-M+3<=kt/\M'[kt]? =!(.lst (tb.map Ο))/\ρ'=[!(aJ Cm ε γ),!(.str hand),!(.loc k),!(.loc (-M+1)),!(.loc (-M+2)),!(.loc kt),!(.loc kb)],(_,p0,Uz,[]++[dP (br held p0),.lst (Uz.map Ο)]++[dP (Γ ε γ Uz p0)],_,_,f0,Z3,rfl,by simp only[List.append_assoc],aB,l3 p0 _,by change -M+3<=-M+4+0;omega,aT (atT p0 [] _ Uz),rfl),λm ρ' M' hw=>?_⟩;let(p,tb,E1,kb,kt,fp,wt,hm,rfl,XI,kb3,kt3,hkt,rfl):=hw;walk_at "vc";show(kb,_,_,rfl,XI,?_);let kl:-(kP (Γ ε γ tb p))=-(Γ ε γ tb p):=by unfold kP;rw[List.length_map]
  rw[kl];show(λz=>(_,λρ2 M2 hn=>hn,?_),λz=>?_)
  .let z:(0:Int) < (-(Γ ε γ tb p):Int):=aaH z;let ne:Γ ε γ tb p≠[]:=λy=>by rw[y]at z;show abc z @_
   let wH:=gQ (tb:=tb) fw h2 fp (gp wt);let hd:=xi fw h2 fp (gp wt) held;let(i,il,hc):=rE fw h2 fp (gp wt) held ne;dsimp only[B',FJ];walk_at "vc";show((-M+2,_,_,rfl,Ux p E1),-M+2,kb,_,_,_,_,rfl,rfl,(),Ux p E1,XI,by rw[kl];have:=Hi fp;have:=Zw (tb:=tb) fp;unfold kP;rw[List.length_map];omega,?_);rw[Gp,G6,acm];generalize br p (Γ ε γ tb p)=p' at *
   show(ε,γ,-M+1,-M+2,held,p',X,C,rfl,atH p' E1,Ux p' E1,by have:=Hi wH;omega,Ub wH,fw,lj,vY,λAr YF=>?_);rw[kTb,ab6 (M++[C1,dP held,dP p'])];show(ε,γ,Ar,.loc _,-M+2,p',rfl,Ux p' _,YF.flg fw (Ub wH) b1,iH (atT p' E1 _ Ar),bq wH,Hi wH,bok wH YF,?_);show(_,?_,p',Ar,E1++[dP (br held p'),.lst (Ar.map Ο)]++[dP (Γ ε γ Ar p')],_,_,wH,YF,rfl,by simp only[List.append_assoc],aB,l3 p' _,(),aT (atT p' E1 _ Ar),rfl);rw[<-hm];show Lr wH (DZ fw h2 (Ub fp) (Ub wH) b1 wt YF hd il hc)
  .let z:¬(0:Int) < (-(Γ ε γ tb p):Int):=abO z;let e:Γ ε γ tb p=[]:=List.length_eq_zero_iff.mp ();show(gV,h p tb E1 kt fp wt e kt3 hkt)
section
variable{p' PY:Pl}
def mz(fw:FW ε γ X C)(hs:fP hand rival)(fp:aa (eF γ hand) p)(fa:aa (eF γ rival) pa)(hi:γ[i]? =!r):(kindOf r=hand->Λ (br (aO γ hand p) pa) i=Λ p i)/\(kindOf r=rival->Λ (br (aO γ hand p) pa) i=Λ pa i)/\(Ε (kindOf r)=false->Λ (br (aO γ hand p) pa) i=none):=by
 let il:=(aae.mp hi).1;let g:=eO (i:=(i:Int)) (p:=aO γ hand p) (bq fa);let hh:Λ (aO γ hand p) i=((jB hand p (kindOf r)).map λpl=>(Λ pl i).getD 0):=by rw[mI,aa1 il,hi];rfl
 show(λe=>?_,λe=>?_,λe=>?_)
 .rw[g,(bC (i:=i) fw hs.h2 fa).2 r hi λz=>hs.ne (e.symm.trans z)];change Λ (aO γ hand p) i=_;rw[hh];cases r with
  | fin q=>show abc (show Ε (Str.ofString "end")=true by rw[<-hs.h1,<-e];rfl) @_
  | τ k ds=>
   let e:k=hand:=e;subst e;let(j,gj,_):=(bC (i:=i) fw hs.h1 fp).1 ds hi;have:jB k p (kindOf (.τ k ds))=!p:=aa1 rfl;rw[this];change (!((Λ p i).getD 0))=Λ p i;rw[gj];rfl
 .cases r with
  | fin q=>show abc (show Ε (Str.ofString "end")=true by rw[<-hs.h2,<-e];rfl) @_
  | τ k ds=>
   let e:k=rival:=e;subst e;let(j,gj,_):=(bC (i:=i) fw hs.h2 fa).1 ds hi;rw[g,gj]
 .rw[g,(bC (i:=i) fw hs.h2 fa).2 r hi (λz=>by rw[z,hs.h2]at e;cases e)];change Λ (aO γ hand p) i=_;rw[hh];have:jB hand p (kindOf r)=none:=aa2 λz=>by rw[z,hs.h1]at e;cases e
  rw[this];rfl
def Dc(ε:Fr)(γ:List Rw)(hand rival:Str)(p pa:Pl)(tb:List Fr):Prop:=aa (eF γ rival) pa/\nh ε γ (br (aO γ hand p) pa) tb/\Γ ε γ tb pa=[]
def GV{q:Pl}(nd:sI q)(i:Int):Λ (br [] q) i=Λ q i:=by rw[eO nd];cases Λ q i <;> rfl
def vb(fw:FW ε γ X C)(hs:fP hand rival)(fp:aa (eF γ hand) p)(b:Dc ε γ hand rival p pa tb)(fa':aa (eF γ rival) PY)(wH:aa (eF γ hand) p')(hb:∀i,i < -γ->Λ p' i=Λ p i\/Gm ε γ tb hand p p' i):∀i,i < -γ->Mix ε γ tb hand rival (br (aO γ hand p) pa) (br (aO γ hand p') PY) i:=λi il=>by
 let(fa,wt,be):=b;let hp:∀t,t < -γ->0 < (tb.getD t (0, 1)).2:=λt ht=>(wt.tab.red t ht).pos;let hi:γ[i]? =!γ[i]:=aaa il;generalize γ[i]=r at *
 let(a1,a2,a3):=mz (i:=i) fw hs fp fa hi;let(c1,c2,c3):=mz (i:=i) fw hs wH fa' hi;cases hk:Ε (kindOf r) with
 | false=>left;rw[a3 hk,c3 hk]
 | true=>
  rcases hs.two _ hk with e| e
  .rcases hb i il with z| ⟨ds,j,j',v7,g,g',jl,nb,b⟩
   .left;rw[a1 e,c1 e,z]
   .right;left;show(ds,j,j',v7,by rw[a1 e];show g,by rw[c1 e];show g',jl,nb,b)
  .right;right;cases r with
   | fin q=>show abc hk (by change¬Ε (Str.ofString "end")=true;decide)
   | τ k ds=>
    let e':k=rival:=e;subst e';let(j,gj,jl):=(bC (i:=i) fw hs.h2 fa).1 ds hi;let(j',gj',RH):=(bC (i:=i) fw hs.h2 fa').1 ds hi;show(ds,j,j',hi,by rw[a2 rfl,gj],by rw[c2 rfl,gj'],RH,uL fw hs.h2 fa hp be hi gj)
def kz(fw:FW ε γ X C)(hs:fP hand rival)(fp:aa (eF γ hand) p)(fa:aa (eF γ rival) pa):jn γ (br (aO γ hand p) pa):=by
 show(λi r hi hk=>?_,λi r hi hk=>(mz fw hs fp fa hi).2.2 hk);let(a1,a2,_):=mz (i:=i) fw hs fp fa hi;cases r with
 | fin q=>show abc hk (by change¬Ε (Str.ofString "end")=true;decide)
 | τ k ds=>
  rcases hs.two _ hk with e| e
  .let e':k=hand:=e;subst e';rw[a1 rfl];show(bC (i:=i) fw hs.h1 fp).1 ds hi
  .let e':k=rival:=e;subst e';rw[a2 rfl];show(bC (i:=i) fw hs.h2 fa).1 ds hi
noncomputable def Q8(ε:Fr)(γ:List Rw)(hand rival:Str)(p:Pl)(i:Nat):Rat:=open Classical in if h:∃tb,∃pa,Dc ε γ hand rival p pa tb then val (h.choose.getD i (0, 1)) else 0
def xy(fw:FW ε γ X C)(hs:fP hand rival)(b1:1<=lq X C)(fp:aa (eF γ hand) p)(b:Dc ε γ hand rival p pa tb)(il:i < -γ):Q8 ε γ hand rival p i=val (tb.getD i (0, 1)):=by
 let ex:∃tb,∃pa,Dc ε γ hand rival p pa tb:=(tb,pa,b);unfold Q8;rw[dif_pos ex];let(PY,b'):=ex.choose_spec;generalize ex.choose=Ar at *
 let u:=(zE fw hs (kz fw hs fp b'.1) b1 b.2.1 b'.2.1 (vb fw hs fp b b'.1 fp λ_ _=>.inl rfl)).1 i il;let v:=(zE fw hs (kz fw hs fp b.1) b1 b'.2.1 b.2.1 (vb fw hs fp b' b.1 fp λ_ _=>.inl rfl)).1 i il;show Eh (k:=hand) (Rat.le_antisymm v u)
noncomputable def kD(ε:Fr)(γ:List Rw)(hand rival:Str)(p:Pl):Nat:=open Classical in (lB (eF γ hand)).countP λq=>decide (dM (λi=>ij hand * Q8 ε γ hand rival p i) (-γ) < dM (λi=>ij hand * Q8 ε γ hand rival q i) (-γ))
def NQ(fw:FW ε γ X C)(hs:fP hand rival)(b1:1<=lq X C)(fp:aa (eF γ hand) p)(b:Dc ε γ hand rival p pa tb)(ne:Γ ε γ tb p≠[])(b':Dc ε γ hand rival (br p (Γ ε γ tb p)) PY Ar):kD ε γ hand rival (br p (Γ ε γ tb p)) < kD ε γ hand rival p:=by
 let hp:∀t,t < -γ->0 < (tb.getD t (0, 1)).2:=λt ht=>(b.2.1.tab.red t ht).pos;let wH:=gQ (tb:=tb) fw hs.h1 fp hp;let n1:=GV (bq fp);let n2:=GV (bq wH);let cut:∀i,Gm ε γ tb hand (br [] p) (br [] (br p (Γ ε γ tb p))) i->Gm ε γ tb hand p (br p (Γ ε γ tb p)) i:=λi (ds,j,j',hi,g,g',r)=>(ds,j,j',hi,by rw[<-n1];show g,by rw[<-n2];show g',r);let hb:∀i,i < -γ->Λ (br p (Γ ε γ tb p)) i=Λ p i\/Gm ε γ tb hand p (br p (Γ ε γ tb p)) i:=λi il=>by
  rcases xi fw hs.h1 fp hp [] i il with e| e
  .left;rw[<-n1,<-n2];show e
  .show .inr (cut i e)
 let(i,il,hc):=rE fw hs.h1 fp hp [] ne;let mm:=vb fw hs fp b b'.1 wH hb;let(u,v):=zE fw hs (kz fw hs wH b'.1) b1 b.2.1 b'.2.1 mm;let CF:Gm ε γ tb hand (br (aO γ hand p) pa) (br (aO γ hand (br p (Γ ε γ tb p))) PY) i:=by let(ds,j,j',hi,g,g',r):=cut i hc;show(ds,j,j',hi,by rw[(mz fw hs fp b.1 hi).1 rfl];show g,by rw[(mz fw hs wH b'.1 hi).1 rfl];show g',r)
 let lt:dM (λi=>ij hand * Q8 ε γ hand rival p i) (-γ) < dM (λi=>ij hand * Q8 ε γ hand rival (br p (Γ ε γ tb p)) i) (-γ):=by
  show z5 (λj hj=>?_) il ?_
  .rw[xy fw hs b1 fp b hj,xy fw hs b1 wH b' hj];show u j hj
  .rw[xy fw hs b1 fp b il,xy fw hs b1 wH b' il];show v i il CF
 unfold kD;show zV (λa _ ha=>?_) (oP wH) (decide_eq_true lt) (decide_eq_false (by grind));have:=aaH ha;show decide_eq_true (by grind)
end
section
def xY(fw:FW ε γ X C)(hh:Ε hand=true)(fp:aa (eF γ hand) p):∀i,i < -γ->fK γ (jB hand p) i=true:=λi il=>by
 let hi:γ[i]? =!γ[i]:=aaa il;generalize γ[i]=r at *
 unfold fK;rw[hi];change kX (jB hand p) i r=true;unfold kX jB;by_cases e:kindOf r=hand
 .rw[aa1 e];cases r with
  | fin q=>show abc (show Ε (Str.ofString "end")=true by rw[<-hh,<-e];rfl) @_
  | τ k ds=>
   let e:k=hand:=e;subst e;let(j,gj,jl):=(bC (i:=i) fw hh fp).1 ds hi;change eU p i (-ds)=true;unfold eU;rw[gj];change(decide (0<=(j:Int))&&decide ((j:Int) < (-ds:Int)))=true;rw[aaT (show 0<=(j:Int) by omega),aaT (show(j:Int) < (-ds:Int) by omega)];rfl
 .rw[aa2 e]
def MU:kD ε γ hand rival p<=-(lB (eF γ hand)):=List.countP_le_length
def oY(fp:aa (eF γ hand) p):-p<=-γ:=by have:=abI List.length (bU fp);rw[aac,gA,aac]at this;let l:=adh (λi=>decide (bR γ i=hand)) (List.range (-γ));rw[abP]at l;let l:-(jG γ hand)<=-γ:=l;omega
def ON(fw:FW ε γ X C)(hh:Ε hand=true)(fp:aa (eF γ hand) p)(hp:∀t,t < -γ->0 < (tb.getD t (0, 1)).2):∀e∈p,0<=e.1/\∃r,γ[e.1.toNat]? =!r/\Ε (kindOf r)=true/\dD ε tb r≠[]:=λe he=>by let ke:e.1∈p.map (·.1):=aap.mpr (e,he,rfl);rw[bU fp,gA]at ke;let(i,hm,ei):=aap.mp ke;let ei:(i:Int)=e.1:=ei;let(ds,j,hi,_,_,_,_,ne,_):=jI fw hh fp hp hm;show((),.τ hand ds,by rw[<-ei,acJ];show hi,hh,ne)
def xC{v:Nat->Int}:∀{l:List Nat},(∀i∈l,0<=v i/\v i < (-(Ξ (fF γ i)):Int))->aa (l.map λi:Nat=>((i:Int), -(Ξ (fF γ i)))) (l.map λi:Nat=>((i:Int), v i))
 | [],_=>trivial
 | i::l,h=>(rfl,(h i aaf).1,(h i aaf).2,xC λj hj=>h j (aah _ hj))
def xD:∀n,n<=-γ->ft γ (jB hand p) n=((List.range n).filter λi=>decide (bR γ i=hand)).map λi:Nat=>((i:Int), (Λ p i).getD 0)
 | 0,_=>rfl
 | n+1,h=>by
  let ih:=xD n ();let hi:γ[n]? =!γ[n]:=aaa ();let gn:Λ (ft γ (jB hand p) n) n=none:=by rw[mI,aa2 (aci _)]
  rw[adg,List.filter_append,abw,<-ih];generalize γ[n]=r at *
  let ek:bR γ n=kindOf r:=by unfold bR;rw[hi]
  let e1:ft γ (jB hand p) (n+1)=match jB hand p (kindOf r) with| some pl=>cK (ft γ (jB hand p) n) n ((Λ pl n).getD 0)| none=>ft γ (jB hand p) n:=by change(match (γ[n]?).bind λr=>jB hand p (kindOf r) with| some pl=>_| none=>_)=_;rw[hi];rfl
  rw[e1];unfold jB;by_cases e:kindOf r=hand
  .rw[aa1 e,acR (by rw[ek];show aaT e)];change cK (ft γ (jB hand p) n) n _=_;unfold cK;rw[gn];rfl
  .rw[aa2 e,acS (by rw[ek];exactλz=>e (aaH z))];change ft γ (jB hand p) n=ft γ (jB hand p) n++[];rw[abU]
def IM(fw:FW ε γ X C)(hh:Ε hand=true)(gd:∀i,i < -γ->fK γ (jB hand p) i=true):aa (eF γ hand) (aO γ hand p):=by
 unfold aO;rw[xD (-γ) (aas _)];show xC λi hi=>?_;let(h1,h2):=adx.mp hi;let il:=abS.mp h1;let hr:=rw_at il;let h2:bR γ i=hand:=aaH h2;let g:=gd i il;generalize fF γ i=r at *
 unfold bR at h2;rw[hr]at h2;let h2:kindOf r=hand:=h2;unfold fK at g;rw[hr]at g;let g:kX (jB hand p) i r=true:=g;unfold kX jB at g;rw[aa1 h2]at g;let g:eU p i (-(Ξ r))=true:=g;unfold eU at g;cases e:Λ p i with
 | none=>rw[e]at g;cases g
 | some v=>
  rw[e]at g;let g:(decide (0<=v)&&decide (v < (-(Ξ r):Int)))=true:=g;rw[aaW,aaD,aaD]at g;show g
def Rd(ε:Fr)(γ:List Rw)(hand rival:Str)(m:Nat)(p:Pl):Prop:=m=-(lB (eF γ hand))+1\/∃pp ppa X5,aa (eF γ hand) pp/\Dc ε γ hand rival pp ppa X5/\Γ ε γ X5 pp≠[]/\p=br pp (Γ ε γ X5 pp)/\m=kD ε γ hand rival pp
def Rd.lt(h:Rd ε γ hand rival m p)(fw:FW ε γ X C)(hs:fP hand rival)(b1:1<=lq X C)(fp:aa (eF γ hand) p)(b:Dc ε γ hand rival p pa tb):kD ε γ hand rival p < m:=by
 rcases h with e| ⟨pp,ppa,X5,f,b0,ne,e,em⟩
 .rw[e];show Nat.lt_succ_of_le MU
 .subst e;rw[em];show NQ fw hs b1 f b0 ne b
end
def BD(A:Addr):DF:=λas M q _=>∃(ε:Fr) (γ:List Rw) (hand:Str) (st:Dt),as=[aJ A ε γ,.str hand,st]/\NM ε γ/\∃(k:Nat) (p:Pl),st= .loc k/\M[k]? =!(dP p)/\(∀i,i < -γ->fK γ (jB hand p) i=true)/\q (.loc (-M+1)) (M++[.cZ [Sum.inr hand] [.loc k]]++[dP (aO γ hand p)])
def IQ:Ζ ["floor","hand","start"] ["floor","hand","start"] (υ uU):=.of rfl
def E5(F:c_ K "started" "started" uU f fd)(E:Ev K mg w Cm)(fm:av P w K mg base 3 "first_plan" ["floor","hand"] (zw Cm) oC nO)(hW:av P w K mg base 4 "doors_of" ["floor","plans"] (uA Cm) tD vI):aq P w K mg base (b9 P w) 5 f fd ["floor","hand","start"] (cM K (BD Cm)):=by
 show F.dX IQ (λds M q x h=>?_) (λbf A outer s H E' hr=>(_,(ζ (ai (Sm (jv 2) Mo) (μ (Β (Φ fm hr ξ (Μ (jv 0) (Μ (jv 1) θ))))) Ν)
   (μ (Β (Φ hW hr ξ (Μ (jv 0) (ι (CA (jv 1) (jv 2)) θ)))))),λds M q x h=>?_))
 .let(ε,γ,hand,st,rfl,_):=h;rfl
 .let(ε,γ,hand,st,rfl,pl,h):=h;let(k,p,rfl,hk,gd,h):=h;show(rfl,nofun,λ_=>?_);walk_at "vc";dsimp only[EH];walk_at "vc";show(Sum.inr hand,rfl,?_);show(ε,γ,-M,jB hand p,rfl,FL hk,pl,gd,?_);rw[aaj];show h
def Xt(M M1:Ms):Prop:=∀(k:Nat) (o:MO),M[k]? =!o->M1[k]? =!o
section
variable{M1 M2:Ms}
def Xt.refl:Xt M M:=λ_ _ h=>h
def Xt.trans(a:Xt M M1)(b:Xt M1 M2):Xt M M2:=λk o h=>b k o (a k o h)
def Xt.app{E:Ms}:Xt M (M++E):=λ_ _ h=>aT h
def Xt.set(a:Xt M M1)(h:M[j]? =none):Xt M (M1.set j o):=λk u e=>by rw[abL (λq=>by rw[q,e]at h;cases h)];show a k u e
end
abbrev tP:=Pl×Pl×List Fr
abbrev gT(x:(Nat×Nat)×tP):Dt:=.tup [.loc x.1.1,.loc x.1.2]
def NB(M:Ms)(lo kr:Nat)(rs:List tP):Prop:=∃ls:List ((Nat×Nat)×tP),M[kr]? =!(.lst (ls.map gT))/\(∀x∈ls,lo<=x.1.1/\lo<=x.1.2/\M[x.1.1]? =!(dP x.2.1)/\M[x.1.2]? =!(.lst (x.2.2.2.map Ο)))/\ls.map (·.2)=rs/\(ls.map λx=>x.1.1).Nodup
def Tu(M:Ms)(lo kr ka kt:Nat)(rs:List tP):Prop:=∃ls:List ((Nat×Nat)×tP),M[kr]? =!(.lst (ls.map gT))/\(∀x∈ls,lo<=x.1.1/\lo<=x.1.2/\M[x.1.1]? =!(dP x.2.1)/\M[x.1.2]? =!(.lst (x.2.2.2.map Ο))/\x.1.1≠ka/\x.1.2≠kt)/\ls.map (·.2)=rs/\(ls.map λx=>x.1.1).Nodup
def Tu.at{lo:Nat}(h:Tu M lo kr ka kt rs):NB M lo kr rs:=by let(ls,a,b,c,d):=h;show(ls,a,λx hx=>((b x hx).1,(b x hx).2.1,(b x hx).2.2.1,(b x hx).2.2.2.1),c,d)
def Tu.mono{M1:Ms}{lo:Nat}(h:Tu M lo kr ka kt rs)(e:Xt M M1):Tu M1 lo kr ka kt rs:=by let(ls,a,b,c,d):=h;show(ls,e _ _ a,λx hx=>((b x hx).1,(b x hx).2.1,e _ _ (b x hx).2.2.1,e _ _ (b x hx).2.2.2.1,(b x hx).2.2.2.2),c,d)
abbrev fo(kp ka kt kr:Nat):Dt:=.tup [.loc kp,.loc ka,.loc kt,.loc kr]
section
variable{ka:Nat}{q:DQ}
def fo0(h:q (.loc kp) M):bF (fo kp ka kt kr) (.int 0) M q:=Δ (xs:=[.loc kp,.loc ka,.loc kt,.loc kr]) rfl aw h
def fo1(h:q (.loc ka) M):bF (fo kp ka kt kr) (.int 1) M q:=Δ (xs:=[.loc kp,.loc ka,.loc kt,.loc kr]) rfl (Θ (j:=1) rfl) h
def Ye(h:q (.loc kt) M):bF (fo kp ka kt kr) (.int 2) M q:=Δ (xs:=[.loc kp,.loc ka,.loc kt,.loc kr]) rfl (Θ (j:=2) rfl) h
def TM(h:q (.loc kr) M):bF (fo kp ka kt kr) (.int 3) M q:=Δ (xs:=[.loc kp,.loc ka,.loc kt,.loc kr]) rfl (Θ (j:=3) rfl) h
end
section
variable{M1:Ms}{lo:Nat}{rs:List tP}{p0:Pl}
def NB.mono(h:NB M lo kr rs)(e:Xt M M1):NB M1 lo kr rs:=by let(ls,a,b,c,d):=h;show(ls,e _ _ a,λx hx=>((b x hx).1,(b x hx).2.1,e _ _ (b x hx).2.2.1,e _ _ (b x hx).2.2.2),c,d)
def NB.keep(h:NB M lo kr rs){k:Nat}(hk:k < lo)(hr:k≠kr):NB (M.set k o) lo kr rs:=by let(ls,a,b,c,d):=h;show(ls,by rw[abL hr];show a,λx hx=>?_,c,d);let(b1,b2,b3,b4):=b x hx;show(b1,b2,by rw[abL ()];show b3,by rw[abL ()];show b4)
def NB.push{ka:Nat}(h:NB M0 lo kr rs)(e0:Xt M0 M)(hx:M[kr]? =!(.lst xs))(hk:kr < lo)(hl:lo<=-M)(AE:-M0<=ka/\ka < -M)(hkt:-M0<=kt/\kt < -M):Tu ((M++[dP p]++[MO.lst (tb.map Ο)]).set kr (MO.lst (xs++[Dt.tup [.loc (-M),.loc (-(M++[dP p]))]]))) lo kr ka kt (rs++[(p, pa,tb)]):=by
 let(ls,a0,b0,c,d):=h;let a:=e0 _ _ a0;let b:∀x∈ls,lo<=x.1.1/\lo<=x.1.2/\M[x.1.1]? =!(dP x.2.1)/\M[x.1.2]? =!(.lst (x.2.2.2.map Ο))/\x.1.1≠ka/\x.1.2≠kt:=λx hx=>by let(b1,b2,b3,b4):=b0 x hx;let l1:=(aae.mp b3).1;let l2:=(aae.mp b4).1;show(b1,b2,e0 _ _ b3,e0 _ _ b4,(),())
 rw[a]at hx;cases hx;let l1:-(M++[dP p])=-M+1:=by rw[aaj];rfl
 show(ls++[((-M, -M+1), (p, pa,tb))],?_,λx hx=>?_,by rw[abw,c];rfl,?_)
 .rw[abH (by rw[aaj,l1];omega),abw,l1];rfl
 .rw[l1];let ne:∀{k:Nat} {o:MO},lo<=k->(M++[dP p]++[MO.lst (tb.map Ο)])[k]? =!o->((M++[dP p]++[MO.lst (tb.map Ο)]).set kr (.lst (ls.map gT++[.tup [.loc (-M),.loc (-M+1)]])))[k]? =!o:=λ{k o} rO e=>by rw[abL ()];show e
  rcases abt.mp hx with hx| hx
  .let(b1,b2,b3,b4,b5):=b x hx;show(b1,b2,ne b1 (aT (aT b3)),ne b2 (aT (aT b4)),b5)
  .rw[abe.mp hx];show(hl,by change lo<=-M+1;omega,ne hl (aT aB),ne (k:=-M+1) () (by rw[<-l1];show aB),by change -M≠ka;omega,by change -M+1≠kt;omega)
 .rw[abw];show List.nodup_append.mpr (d,List.nodup_cons.mpr (by simp,List.nodup_nil),λx hx y hy e=>?_);let(z,hz,rfl):=aap.mp hx;let ey:y=-M:=abe.mp hy;have:=(aae.mp (b z hz).2.2.1).1;omega
structure Nt(ε:Fr)(γ:List Rw)(hand rival:Str)(p0:Pl)(rs:List tP):Prop where
 first:∀r,rs[0]? =!r->r.1=p0
 fit:∀r∈rs,aa (eF γ hand) r.1/\Dc ε γ hand rival r.1 r.2.1 r.2.2
 next:∀(i:Nat) (r r':tP),rs[i]? =!r->rs[i+1]? =!r'->Γ ε γ r.2.2 r.1≠[]/\r'.1=br r.1 (Γ ε γ r.2.2 r.1)
def Nx(ε:Fr)(γ:List Rw)(p0:Pl)(rs:List tP)(p:Pl):Prop:=(rs=[]/\p=p0)\/∃(tF:List tP) (r:tP),rs=tF++[r]/\Γ ε γ r.2.2 r.1≠[]/\p=br r.1 (Γ ε γ r.2.2 r.1)
def Nt.push(h:Nt ε γ hand rival p0 rs)(n:Nx ε γ p0 rs p)(fp:aa (eF γ hand) p)(b:Dc ε γ hand rival p pa tb):Nt ε γ hand rival p0 (rs++[(p, pa,tb)]):=by
 show(λr hr=>?_,λr hr=>?_,λi r r' h1 h2=>?_)
 .rcases n with ⟨rfl,rfl⟩| ⟨tF,r',rfl,_,_⟩
  .cases hr;rfl
  .show h.first r ?_;rw[aaJ (by rw[aaj];show Nat.succ_pos _)]at hr;show hr
 .rcases abt.mp hr with hr| hr
  .show h.fit r hr
  .rw[abe.mp hr];show(fp,b)
 .by_cases e:i+1 < -rs
  .rw[aaJ ()]at h1;rw[aaJ e]at h2;show h.next i r r' h1 h2
  .let l2:=(aae.mp h2).1;rw[aaj]at l2;let l2:i+1 < -rs+1:=l2;let e1:i+1=-rs:=()
   rw[e1,aaB (aas _),adJ]at h2;cases h2;rcases n with ⟨rfl,rfl⟩| ⟨tF,r0,rfl,ne,ep⟩
   .cases e1
   .rw[aaj]at e1;let e1:i+1=-tF+1:=e1;let ei:i=-tF:=()
    subst ei;rw[ab6,aaB (aas _),adJ]at h1;cases h1;show(ne,ep)
def uB(fp:aa (eF γ hand) p):kD ε γ hand rival p+1<=-(lB (eF γ hand)):=by unfold kD;have:=zV (l:=lB (eF γ hand)) (P:=λq=>open Classical in decide (dM (λi=>ij hand * Q8 ε γ hand rival p i) (-γ) < dM (λi=>ij hand * Q8 ε γ hand rival q i) (-γ))) (Q:=λ_=>true) (λ_ _ _=>rfl) (oP fp) rfl (aa4 Rat.lt_irrefl);rw[List.countP_true]at this;show this
end
inductive CS(ε:Fr)(γ:List Rw)(hand rival:Str)(p0:Pl)(M M1:Ms):Dt->Prop
 | mk (kp ka kt kr lo:Nat) (rs tF:List tP) (p pa:Pl) (tb:List Fr) (xt:Xt M M1) (lows:-M<=kp/\-M<=ka/\-M<=kt/\-M<=kr/\kp < lo/\kr < lo/\kp≠ka/\kt≠kr) (hp:M1[kp]? =!(dP p)) (ha:M1[ka]? =!(dP pa)) (ht:M1[kt]? =!(.lst (tb.map Ο))) (ra:Tu M1 lo kr ka kt rs) (rd:Nt ε γ hand rival p0 rs) (er:rs=tF++[(p, pa,tb)]) (be:Γ ε γ tb p=[]) (Nu:-rs<=-(lB (eF γ hand))):CS ε γ hand rival p0 M M1 (fo kp ka kt kr)
def CS.xt{M1:Ms}{d:Dt}(h:CS ε γ hand rival p0 M M1 d):Xt M M1:=by cases h;assumption
def Am(A:Addr):DF:=λas M q _=>∃(ε:Fr) (γ:List Rw) (hand rival:Str) (X C:Int) (k:Nat) (p0:Pl),as=[aJ A ε γ,.str hand,.loc k]/\M[k]? =!(dP p0)/\(∀i,i < -γ->fK γ (jB hand p0) i=true)/\(hand="one"/\rival="other"\/hand="other"/\rival="one")/\FW ε γ X C/\lq X C<=2 ^ 450/\(12 * lq X C) ^ (-γ) < 2 ^ 1030/\1<=lq X C/\-(lB (eF γ hand))<=1000/\∀(M1:Ms) (d:Dt),CS ε γ hand rival (aO γ hand p0) M M1 d->q d M1
def lV:Ζ ["floor","hand","start","plan","rounds","found","better"] ["floor","hand","start"] (υ yD):=.of rfl
def Iz(F:HU K "mended" yD U its f fd)(E:Ev K mg w Cm)(qE:av P w K mg base 5 "started" ["floor","hand","start"] (BD Cm) KH LZ)(qy:av P w K mg base 9 "against" ["floor","hand","plan"] (BI Cm) Nf Ln)(cw:av P w K mg base 8 "better_doors" ["floor","plan","table"] (zm Cm) j6 kf):aq P w K mg base (b9 P w) 10 f fd ["floor","hand","start"] (cM K (Am Cm)):=by
 show F.dX lV (λds M q x h=>?_) (λbf A outer s H E' hr=>(_,(ζ (fB (ψ 3 lV.nd (Φ qE hr ξ (Μ (jv 0) (Μ (jv 1) (Μ (jv 2) θ))))))
   (ζ (ψ 4 lV.nd (lM θ))
   (μ (pV (aK vc) (ζ (ψ 5 lV.nd (Φ qy hr ξ (Μ (jv 0) (Μ (jv 1) (Μ (jv 3) θ)))))
   (ζ (eQ (fL (jv 4) (ι (cP (ι (zD E.lU (Μ (jv 3) θ)) (ι (qH E.gR (ι (ω (jv 5) ν) θ aL)) θ aU) aU)) θ uh)))
   (ζ (ψ 6 lV.nd (Φ cw hr ξ (Μ (jv 0) (Μ (jv 3) (ι (ω (jv 5) ν) θ aL)))))
   (ζ (ai (cR hr (EY E.bu (Μ (jv 6) θ)) ν) (μ (Β (cP (Μ (jv 3) (ι (ω (jv 5) ν) (ι (ω (jv 5) ν) (Μ (jv 4) θ) aL) aL))))) Ν)
   (μ (eQ (Dm (jv 3) (jv 6)))))))))))),λds M q x h=>?_))
 .let(ε,γ,hand,rival,X,C,k,p0,rfl,_):=h;rfl
 .let(ε,γ,hand,rival,X,C,k,q0,rfl,hk,gd,fb,fw,lj,vY,b1,hN,h):=h;let hs:=gJ fb;let ou:=fw.pl.len;let sl:∀{z:Nat},z<=1000->z < sizeLine:=λh=>abz h @_;show⟨λρ M'=>∃kp:Nat,Xt M M'/\M[kp]? =none/\M'[kp]? =!(dP (aO γ hand q0))/\aa (eF γ hand) (aO γ hand q0)/\ρ=[!(aJ Cm ε γ),!(.str hand),!(.loc k),!(.loc kp),none,none,none],?_,?_⟩
  .show(ε,γ,hand,_,rfl,fw.pl,k,q0,rfl,hk,gd,-M+1,Xt.app.trans Xt.app,acN (Nat.le_succ _),?_,IM fw hs.h1 gd,rfl);rw[show -M+1=-(M++[MO.cZ [Sum.inr hand] [.loc k]]) by rw[aaj];rfl];show aB
  rintro ρ0 M' ⟨kp,x0,kn,Xz,f0,rfl⟩;walk_at "vc";dsimp only[Qy];walk_at "vc";show(@_,?_);let kpl:kp < -M':=(aae.mp Xz).1;let kpM:-M<=kp:=by
   rcases adI kp (-M) with q| q
   .rw[aaa q]at kn;cases kn
   .show q
  let krn:M[-M']? =none:=by
   cases e:M[-M']? with
   | none=>rfl
   | some o=>
    have:=x0 _ _ e;rw[acN (aas _)]at this;cases this
  show⟨λm ρ' M2=>∃(p:Pl) (rs:List tP) (o5 o6:Option Dt),aa (eF γ hand) p/\Rd ε γ hand rival m p/\((rs=[]/\m=-(lB (eF γ hand))+1)\/-rs+m<=-(lB (eF γ hand)))/\Xt M M2/\M2[kp]? =!(dP p)/\NB M2 (-M'+1) (-M') rs/\Nt ε γ hand rival (aO γ hand q0) rs/\Nx ε γ (aO γ hand q0) rs p/\ρ'=[!(aJ Cm ε γ),!(.str hand),!(.loc k),!(.loc kp),!(.loc (-M')),o5,o6],(_,aO γ hand q0,[],none,none,f0,.inl rfl,.inl (rfl,rfl),x0.trans Xt.app,aT Xz,([],aB,λ_ h=>(nomatch h),rfl,List.nodup_nil),(λ_ h=>(nomatch h),λ_ h=>(nomatch h),λ_ _ _ h=>(nomatch h)),.inl (rfl,rfl),rfl),λm ρ' M2 hw=>?_⟩;let(p,rs,o5,o6,fp,hm,hx,x2,UK,ra,rd,nx,rfl):=hw;walk_at "vc";show(λ_=>(_,λρ2 M2 hn=>hn,?_),nofun);show(ε,γ,hand,rival,kp,p,X,C,rfl,UK,fb,fw,lj,vY,b1,xY fw hs.h1 fp,λpa tb E2 kt fa wt be hkt UL=>?_);let YL:Dc ε γ hand rival p pa tb:=(fa,wt,be);let lt:=hm.lt fw hs b1 fp YL;let rd':=rd.push nx fp YL;let krM:-M<=-M':=by
   rcases adI (-M') (-M) with q| q
   .rw[aaa q]at krn;cases krn
   .show q
  let kr2:-M' < -M2:=by let(_,a,_):=ra;show(aae.mp a).1
  let AE:(M2++[MO.cZ [Sum.inr hand] [Dt.loc kp],dP (aO γ hand p),dP pa]++E2)[-M2+2]? =!(dP pa):=aT (by rw[aaB (),Nat.add_sub_cancel_left];rfl);let x3:Xt M2 (M2++[MO.cZ [Sum.inr hand] [Dt.loc kp],dP (aO γ hand p),dP pa]++E2):=Xt.app.trans Xt.app;let l3:-M2<=-(M2++[MO.cZ [Sum.inr hand] [Dt.loc kp],dP (aO γ hand p),dP pa]++E2):=by rw[aaj,aaj];omega
  let kak:-M2+2≠-M'/\-M2+2≠kp:=()
  let ktk:kt≠-M'/\kt≠kp:=()
  let abC:-M<=kp/\-M<=-M2+2/\-M<=kt/\-M<=-M'/\kp < -M'+1/\-M' < -M'+1/\kp≠-M2+2/\kt≠-M':=()
  let kab:-M2<=-M2+2/\-M2<=kt:=()
  generalize M2++[MO.cZ [Sum.inr hand] [Dt.loc kp],dP (aO γ hand p),dP pa]++E2=M3 at *
  generalize -M2+2=ka at *
  let ra3:=ra.mono x3;let hp3:=x3 _ _ UK;let x3':=x2.trans x3;let(ls,aj,_,al,_):=id ra3;let rl:-rs<=1000:=by
   rcases hx with ⟨rfl,_⟩| hx
   .show ac0 _
   .omega
  let nl:-(ls.map gT)=-rs:=by rw[aac,<-al,aac]
  dsimp only[Oy];walk_at "vc";show((_,_,rfl,aj),kp,_,_,rfl,hp3,?_);let r1:∀(M':Ms) (q:DQ),q (.loc kt) M'->bF (.tup [.loc ka,.loc kt]) (.int 1) M' q:=λM' q hq=>Δ (d:=.tup [.loc ka,.loc kt]) rfl (Θ (j:=1) rfl) hq;let r0:∀(M':Ms) (q:DQ),q (.loc ka) M'->bF (.tup [.loc ka,.loc kt]) (.int 0) M' q:=λM' q hq=>Δ (d:=.tup [.loc ka,.loc kt]) rfl aw hq;show r1 _ _ ?_;dsimp only[pw,fX];rw[aT UL];show(@_,-M',_,_,rfl,rfl,aT (aT aj),sl (by rw[nl];show rl),?_);let ra4:=ra.push (ka:=ka) (kt:=kt) (p:=p) (pa:=pa) (tb:=tb) x3 aj (acu _) () (kab.1,(aae.mp AE).1) (kab.2,(aae.mp UL).1);let st4:∀{k:Nat} {o:MO},k≠-M'->M3[k]? =!o->((M3++[dP p]++[MO.lst (tb.map Ο)]).set (-M') (.lst (ls.map gT++[.tup [.loc (-M3),.loc (-(M3++[dP p]))]])))[k]? =!o:=λ{k o} hk e=>by rw[abL (Ne.symm hk)];show aT (aT e)
  let x4:Xt M ((M3++[dP p]++[MO.lst (tb.map Ο)]).set (-M') (.lst (ls.map gT++[.tup [.loc (-M3),.loc (-(M3++[dP p]))]]))):=((x3'.trans Xt.app).trans Xt.app).set krn;let JC:=st4 () hp3;let Us:=st4 kak.1 AE;let Tg:=st4 ktk.1 UL;let e4:(M3++[MO.cZ (kP p) (vP p)]++[MO.lst (tb.map Ο)])=M3++[dP p]++[MO.lst (tb.map Ο)]:=rfl;let e5:-(M3++[MO.cZ (kP p) (vP p)])=-(M3++[dP p]):=rfl;rw[e4,e5];generalize (M3++[dP p]++[MO.lst (tb.map Ο)]).set (-M') (.lst (ls.map gT++[.tup [.loc (-M3),.loc (-(M3++[dP p]))]]))=M4 at *
  let hp:∀t,t < -γ->0 < (tb.getD t (0, 1)).2:=λt ht=>(wt.tab.red t ht).pos;let wH:=gQ (tb:=tb) fw hs.h1 fp hp;let pl:=oY fp;show r1 _ _ ?_;show(ε,γ,tb,.loc kt,kp,p,rfl,JC,wt.flg fw (kz fw hs fp fa) b1,iH Tg,bq fp,(),ON fw hs.h1 fp hp,?_);let bl:-(Γ ε γ tb p)<=12:=aaR (j5 _) ();show(_,_,_,rfl,aB,?_);let kl:-(kP (Γ ε γ tb p))=-(Γ ε γ tb p):=by unfold kP;rw[List.length_map]
  rw[kl];let Nu:-rs+1<=-(lB (eF γ hand)):=by
   have:=uB (ε:=ε) (rival:=rival) fp;rcases hx with ⟨rfl,_⟩| hx
   .change 0+1<=_;omega
   .omega
  show(λz=>?_,λz=>?_)
  .let z:(-(Γ ε γ tb p):Int)=0:=aaH z;let e:Γ ε γ tb p=[]:=List.length_eq_zero_iff.mp ();show r0 _ _ (r1 _ _ (@_,?_));show h _ _ (kp,ka,kt,_,_,_,rs,p,pa,tb,x4.trans Xt.app,abC,aT JC,aT Us,aT Tg,ra4.mono Xt.app,rd',rfl,e,by rw[aaj];show Nu)
  .let z:¬(-(Γ ε γ tb p):Int)=0:=abO z;let ne:Γ ε γ tb p≠[]:=λy=>z (by rw[y];rfl);dsimp only[FJ];walk_at "vc";show((_,_,_,rfl,aT JC),kp,_,_,_,_,_,rfl,rfl,Nat.ne_of_lt (List.getElem?_eq_some_iff.mp JC).1,aT JC,aB,by rw[kl];unfold kP;rw[List.length_map];omega,?_);rw[Gp,G6];let aad:-(rs++[(p, pa,tb)])+kD ε γ hand rival p<=-(lB (eF γ hand)):=by
    have:=uB (ε:=ε) (rival:=rival) fp;rw[aaj];rcases hx with ⟨rfl,_⟩| hx
    .change 0+1+_<=_;omega
    .change -rs+1+_<=_;omega
   let lt4:=(aae.mp JC).1;show(_,lt,_,_,_,_,wH,.inr (p,pa,tb,fp,YL,ne,rfl,rfl),.inr aad,(x4.trans Xt.app).set kn,?_,(ra4.mono Xt.app).at.keep () (),rd',.inr (rs,_,rfl,ne,rfl),rfl);rw[abH (by rw[aaj];omega)]
section
variable{p1 p2 q1 q2 qr:Pl}
def RC:fP "one" "other":=gJ (.inl (rfl,rfl))
def sg1:ij "one"=1:=aa1 rfl
def sg2:ij "other"= - 1:=aa2 @_
end
def VN(h1: - (10 ^ 30)<=a)(h2:a<=10 ^ 30)(h3:b<=1000000):bH (a, b)=true:=by
 unfold bH;have:(if a < 0 then - a else a)<=10 ^ 30:=by split <;> omega
 change(decide ((if a < 0 then - a else a)<=10 ^ 30)&&decide (b<=1000000))=true;rw[aaT this,aaT h3];rfl
def Ft{t:Int}(h1: - (10 ^ 30)<=t)(h2:t<=10 ^ 30)(h0:0 < b)(h3:b<=1000000):bH (aC t b)=true:=by
 let l1:=sW (t:=t) (show b≠0 by omega);let l2:=mf (t:=t) (show b≠0 by omega);generalize aC t b=f at *
 let(x,y):=f;let l1:x.natAbs<=t.natAbs:=l1;let l2:y.natAbs<=b.natAbs:=l2;show VN () () ()
def ES{t:Int}(t0:0<=t)(t1:t < b)(hb1:b<=1000):bc (aC t b)=true:=by
 let Nq:0 < b:=()
 let l2:=mf (t:=t) (show b≠0 by omega);let q0:=de (t:=t) (show b≠0 by omega);let hc:=c7 (t:=t) (show b≠0 by omega);generalize aC t b=f at *
 let(x,y):=f;let l2:y.natAbs<=b.natAbs:=l2;let q0:0 < y:=q0;let hc:t * y=b * x:=hc;let x0:0<=x:=by
  rcases adv x 0 with z| z
  .have:=ac2 Nq z;have:=ab9 t0 (aav q0);omega
  .show z
 let x1:x < y:=by
  rcases adv x y with z| z
  .show z
  .let h3:b * y<=b * x:=aaS z (aav Nq);let h4:t * y < b * y:=Int.mul_lt_mul_of_pos_right t1 q0;omega
 unfold bc;change(decide (0<=x)&&(decide (x < y)&&decide (y<=1000)))=true;rw[aaT x0,aaT x1,aaT (show y<=1000 by omega)];rfl
def Yc(ns:List Int)(k:Int):Int:=ns.getD k.toNat 0
def Rt{ns:List Int}{k:Int}(h0:0<=k)(h2:k < -ns):ku (ns.map Dt.int) k=!(.int (Yc ns k)):=by
 let e:(ns.map Dt.int)[k.toNat]? =!(.int (Yc ns k)):=by rw[aaw,aaa (show k.toNat < -ns by omega)];unfold Yc;rw[aab,aaa (show k.toNat < -ns by omega)];rfl
 have:=Θ e;rwa[show((k.toNat:Nat):Int)=k by omega]at this
def Nm(n:Int):Prop:=0<=n/\n < 10 ^ 300
def W2:CG 10 60:=(@_,@_,@_)
def p30:CG 10 30:=(@_,@_,@_)
def p18:CG 10 18:=(@_,@_,@_)
def p12:CG 10 12:=(@_,@_,@_)
def p6:CG 10 6:=(@_,@_,@_)
def rj{n:Int}(h:Nm n):fe n:=se (k:=1000) h.1 (adw h.2 @_) @_
def Ky(h0:0 < b)(h1:b<=10 ^ 300):Nm (a % b):=(abW _ (),Int.lt_of_lt_of_le (abN _ h0) h1)
def DY{n:Int}(h:Nm n)(h0:0 < b):Nm (n / b):=(Int.ediv_nonneg h.1 (aav h0),abl (ado _ h.1) h.2)
def OZ(m c:Int):Int:=(m * 48271+c % 10 ^ (12:Int).toNat) % 2147483647
noncomputable def atV(ns:List Int)(k:Int):Int:=if k < -ns then Yc ns k % (10 ^ (60:Int).toNat * 10 ^ (60:Int).toNat * 10 ^ (60:Int).toNat * 10 ^ (60:Int).toNat * 10 ^ (60:Int).toNat) else ((ns.take 6).foldl OZ (5+3 * (-ns:Int))+1) * (k * k+69621) % 2147483629
def X8:DF:=λas M q _=>∃(ns:List Int) (k:Int),as=[.jC ns,.int k]/\-ns<=63/\0<=k/\k<=200/\∀n,Nm n/\n=atV ns k->q (.int n) M
def sS:Ζ ["_law_script","_law_k","_law_mixed","_law_cell"] ["_law_script","_law_k"] (υ Du):=.of rfl
def M7(F:c_ K "_law_at" "_law_at" Du f fd)(E:Ev K mg w Cm):aq P w K mg base (b9 P w) 1 f fd ["_law_script","_law_k"] (cM K X8):=by
 show F.dX sS (λds M q x h=>?_) (λbf A outer s H E' hr=>(_,(ζ (ai (tq (jv 1) (bQ E.bu (Μ (jv 0) θ))) (μ (Β (bI (ω (jv 0) (jv 1)) (ax (ax (ax (ax (jY ν ν) (jY ν ν)) (jY ν ν)) (jY ν ν)) (jY ν ν))))) Ν)
   (ζ (ψ 2 sS.nd (bY ν (ax ν (bQ E.bu (Μ (jv 0) θ)))))
   (ζ (ck (bo (cL (Ay (jv 0) ν))) (Ω (i:=3) sS.nd rfl (Or.inl rfl)) aH (μ (ψ 2 sS.nd (bI (bY (ax (jv 2) ν) (bI (jv 3) (jY ν ν))) ν))))
   (μ (Β (bI (ax (bY (jv 2) ν) (bY (ax (jv 1) (jv 1)) ν)) ν)))))),λds M q x h=>?_))
 .let(ns,k,rfl,_):=h;rfl
 .let(ns,k,rfl,nl,hk,k2,h):=h;let bk:fe k:=bg (k:=40) ();let bl:fe (-ns:Int):=bg (k:=40) ();let b6:fe ((10:Int) ^ (60:Int).toNat):=bg (k:=210) @_;walk_at "vc";show(ag (d:=.jC ns) (xs:=ns.map .int) rfl ?_:e9 [.jC ns] M _);rw[aac];show(λh1=>?_,λh1=>?_)
  .let UA:k < -ns:=aaH h1;show(Δ (d:=.jC ns) rfl (Rt hk UA) ?_:bF (.jC ns) (.int k) M _);show(W2,W2,(b6,b6),W2,(bg (k:=410) @_,b6),W2,(bg (k:=610) @_,b6),W2,(bg (k:=810) @_,b6),@_,h _ (Ky @_ @_,(aa1 UA).symm))
  .let UA:¬k < -ns:=abO h1;show(ag (d:=.jC ns) (xs:=ns.map .int) rfl ?_:e9 [.jC ns] M _);rw[aac];show((bg (k:=40) @_,bl),?_);dsimp only[k4,dE,Nl,Lb];walk_at "vc";show(ns.map .int,6,rfl,rfl,?_);rw[<-adC];show c8 (gq _) ?_;show bz (λzs ρ' M'=>M'=M/\∃(rest:List Int) (m:Int) (o:Option Dt),zs=rest.map Dt.int/\0<=m/\m < 2147483647/\rest.foldl OZ m=(ns.take 6).foldl OZ (5+3 * (-ns:Int))/\ρ'=[!(.jC ns),!(.int k),!(.int m),o]) (λzs ρ' M' hj=>trivial) (λx zs ρ' M' hj eE=>?_) (λρ' M' hj=>?_) _ _ _ (rfl,_,_,none,rfl,(),(),rfl,rfl)
   .let(rfl,rest,m,o,ex,m0,m1,ev,rfl):=hj;cases rest with
    | nil=>cases ex
    | cons c rest=>
     cases ex;show((bg (k:=40) (),bg (k:=40) @_),p12,@_,@_,eE _ _ (rfl,rest,_,_,rfl,abW _ @_,abN _ @_,ev,rfl))
   .let(rfl,rest,m,o,ex,m0,m1,ev,rfl):=hj;let kk:0<=k * k/\k * k<=200 * 200:=(ab9 hk hk,acC k2 k2 hk @_);show((bk,bk),(bg (k:=40) (),bg (k:=40) ()),@_,h _ (Ky @_ @_,?_));have:rest=[]:=by
     cases rest with
     | nil=>rfl
     | cons c r=>cases ex
    subst this;let ev:m=(ns.take 6).foldl OZ (5+3 * (-ns:Int)):=ev;unfold atV;rw[aa2 UA,<-ev]
def Xs(x:Int):Prop:=0<=x/\x < 2 ^ 110
def zT:DF:=λas M q _=>∃(n:Int) (aZ:Nat),as=[.int n,.int (aZ:Nat)]/\fe n/\aZ<=60/\∀xs:List Int,-xs=aZ->(∀x∈xs,Xs x)->q (.loc (-M)) (M++[.lst (xs.map Dt.int)])
def gO:Ζ ["_law_number","_law_many","_law_some","_law_seed","_law_k"] ["_law_number","_law_many"] (υ oi):=.of rfl
def yY(F:c_ K "_law_stream" "_law_stream" oi f fd)(E:Ev K mg w Cm):aq P w K mg base (b9 P w) 1 f fd ["_law_number","_law_many"] (cM K zT):=by
 show F.dX gO (λds M q x h=>?_) (λbf A outer s H E' hr=>(_,(ζ (ψ 2 gO.nd (lM θ))
   (ζ (ψ 3 gO.nd (bY (bI (ax (jv 0) ν) ν) ν))
   (ζ (gS (cn E.bX (Μ (jv 1) θ)) (Ω (i:=4) gO.nd rfl (Or.inl rfl)) aH (ζ (ψ 3 gO.nd (bI (bY (bY (ax (jv 3) ν) (ax (jv 4) (jv 4))) ν) ν))
   (μ (eQ (fL (jv 2) (Μ (jv 3) θ))))))
   (μ (Β (jv 2)))))),λds M q x h=>?_))
 .let(n,aZ,rfl,_):=h;rfl
 .let(n,aZ,rfl,bn,m60,h):=h;show(@_,(bn,bg (k:=20) @_),@_,?_);let s0:=abW (n * 69621) (show(2147483629:Int)≠0 by decide);let s1:=abN (n * 69621) (show(0:Int) < 2147483629 by decide);dsimp only[sD];generalize n * 69621 % 2147483629=sd at *
  show(((),()),?_);rw[show((aZ:Int)).toNat=aZ by omega];show cJ (λzs ρ' M'=>∃(i c:Nat) (xs:List Int) (sd:Int) (o:Option Dt),zs=dW (i:Int) c/\i+c=aZ/\-xs=i/\(∀x∈xs,Xs x)/\0<=sd/\sd<=2147483647/\M'=M++[.lst (xs.map Dt.int)]/\ρ'=[!(.int n),!(.int (aZ:Int)),!(.loc (-M)),!(.int sd),o]) (λx zs ρ' M' hj eE=>?_) (λρ' M' hj=>?_) _ _ _ (0,aZ,[],sd+1,none,rfl,(),rfl,λ_ z=>(nomatch z),(),(),rfl,rfl)
  .let(i,c,xs,sd,o,ex,ic,xl,hx,d0,d1,rfl,rfl):=hj;let(c',rfl,rfl,rfl):=b8 ex;let i60:(i:Int) < 60:=()
   let ii:0<=(i:Int) * i/\(i:Int) * i<=60 * 60:=(ab9 () (),acC () () () @_);show((bg (k:=40) (),bg (k:=20) @_),(bg (k:=20) (),bg (k:=20) ()),@_,?_);let t0:=abW (sd * 48271+(i:Int) * i+7) (show(2147483647:Int)≠0 by decide);let t1:=abN (sd * 48271+(i:Int) * i+7) (show(0:Int) < 2147483647 by decide);show((_,_,rfl,aB),-M,_,_,rfl,rfl,aB,?_,?_)
   .rw[aac,xl];show abz (show i<=60 by omega) @_
   rw[d8];show eE _ _ (i+1,c',xs++[(sd * 48271+(i:Int) * i+7) % 2147483647],_,_,by rw[Int.natCast_add];rfl,(),by simp[xl],λy hy=>?_,t0,Int.le_of_lt t1,by simp,rfl);rcases abt.mp hy with z| z
   .show hx y z
   .rw[abe.mp z];show(t0,adw t1 @_)
  .let(i,c,xs,sd,o,ex,ic,xl,hx,d0,d1,rfl,rfl):=hj;let c0:c=0:=by have:=abI List.length ex;rw[gP]at this;show this.symm
   show h xs () hx
def Kw:DF:=λas M q _=>∃t b:Int,as=[.int t,.int b]/\0 < b/\fe b/\q (Ο (aC t b)) M
def lD:Ζ ["_law_top","_law_bottom","_law_one","_law_two"] ["_law_top","_law_bottom"] (υ oz):=.of rfl
def Al(F:c_ K "_law_lowest" "_law_lowest" oz f fd)(E:Ev K mg w Cm):aq P w K mg base (b9 P w) 1 f fd ["_law_top","_law_bottom"] (cM K Kw):=by
 show F.dX lD (λds M q x h=>?_) (λbf A outer s H E' hr=>(_,(ζ (J4 (i:=2) (j:=3) lD.nd rfl rfl (ι (Gx E.tW (Μ (jv 0) θ)) (Μ (jv 1) θ) aU))
   (ζ (pV (j3 hr (jv 3) ν) (μ (J4 (i:=2) (j:=3) lD.nd rfl rfl (Μ (jv 3) (ι (bI (jv 2) (jv 3)) θ bO)))))
   (μ (Β (cP (ι (kY (jv 0) (jv 2)) (ι (kY (jv 1) (jv 2)) θ bO) bO)))))),λds M q x h=>?_))
 .let(t,b,rfl,_):=h;rfl
 .let(t,b,rfl,h0,h1,h):=h;let ga:g (if t < 0 then - t else t) b=g t b:=by have:=Q_ t b;rwa[aa2 (show¬b < 0 by omega)]at this
  show⟨λm ρ M'=>M'=M/\∃(x y:Int),ρ=[!(.int t),!(.int b),!(.int x),!(.int y)]/\0<=x/\0<=y/\g x y=g t b/\m=y.toNat,(_,rfl,_,_,rfl,by split <;> omega,(),ga,rfl),?_⟩;rintro m ρ M' ⟨rfl,x,y,rfl,hx,hy,e,rfl⟩;show(λhb=>?_,λhb=>?_)
  .let OS:y≠0:=by simpa using hb
   show(_,λρ' M2 h2=>h2,?_);show((),(x % y).toNat,?_,rfl,y,x % y,rfl,hy,abW _ OS,?_,rfl)
   .have:=abN x (show 0 < y by omega);have:=abW x OS;omega
   .rw[<-acX x hy,MI ()];show e
  .let OS:y=0:=by simpa using hb
   subst OS;rw[LW hx]at e;subst e;let hg:0 < g t b:=CK ();let hle:g t b<=b:=ada h0 (Int.gcd_dvd_right ..);let hb:fe (g t b):=abz (show(g t b).natAbs<=b.natAbs by omega) h1;let e:aC t b=(t / g t b, b / g t b):=by rw[O1 h0,adj _ (aav hg),adj _ (aav hg)]
   rw[e]at h;show((hg,hb),(hg,hb),gV,h)
def KR:DF:=λas M q _=>∃n:Int,as=[.int n]/\∀b,q (.bl b) M
def wC:Ζ ["_law_number"] ["_law_number"] (υ j9):=.of rfl
def vk(F:c_ K "_law_by_digits" "_law_by_digits" j9 f fd)(E:Ev K mg w Cm):aq P w K mg base (b9 P w) 1 f fd ["_law_number"] (cM K KR):=by
 show F.dX wC (λds M q x h=>?_) (λbf A outer s H E' hr=>(_,(μ (Β (ZQ (jv 0) (jY ν ν)))),λds M q x h=>?_))
 .let(n,rfl,_):=h;rfl
 .let(n,rfl,h):=h;show(p18,h _)
def C3(ss:List Int):Dt:=.lst (ss.map Dt.int)
structure Mj(ss:List Int):Prop where
 len:-ss=5
 pos:∀s∈ss,0 < s/\s<=2 * 10 ^ 30+1
def Wx(h:Mj ss){j:Int}:∃s,ku (ss.map Dt.int) (j % 5)=!(.int s)/\0 < s/\s<=2 * 10 ^ 30+1:=by
 let j0:=abW j (show(5:Int)≠0 by decide);let j1:=abN j (show(0:Int) < 5 by decide);let hl:(j % 5).toNat < -ss:=by rw[h.len];omega
 have:=gW hl;rw[show(((j % 5).toNat:Nat):Int)=j % 5 by omega]at this;show(_,this,h.pos _ (aa9 hl))
def Gi:DF:=λas M q _=>∃(n k:Int) (aZ:Nat) (ss:List Int),as=[.int n,.int k,.int (aZ:Nat),C3 ss]/\Nm n/\0<=k/\k<=12/\aZ<=30/\Mj ss/\∀xs:List Int,-xs=aZ->(∀x∈xs,Xs x)->q (.loc (-M)) (M++[.lst (xs.map Dt.int)])
def gI:Ζ ["_law_number","_law_k","_law_many","_law_sizes","_law_some","_law_rest","_law_j"] ["_law_number","_law_k","_law_many","_law_sizes"] (υ nA):=.of rfl
def yE(F:c_ K "_law_things" "_law_things" nA f fd)(E:Ev K mg w Cm)(aE:av P w K mg base 1 "_law_by_digits" ["_law_number"] KR cX cY)(fi:av P w K mg base 1 "_law_stream" ["_law_number","_law_many"] zT nI nZ):aq P w K mg base (b9 P w) 2 f fd ["_law_number","_law_k","_law_many","_law_sizes"] (cM K Gi):=by
 show F.dX gI (λds M q x h=>?_) (λbf A outer s H E' hr=>(_,(ζ (ai (bM (aK (Φ aE hr ξ (Μ (jv 0) θ)))) (μ (Β (Φ fi hr ξ (ι (bY (ax (jv 0) ν) (jv 1)) (Μ (jv 2) θ) bO)))) Ν)
   (ζ (ψ 4 gI.nd (lM θ))
   (ζ (ψ 5 gI.nd (kY (jv 0) ν))
   (ζ (gS (cn E.bX (Μ (jv 2) θ)) (Ω (i:=6) gI.nd rfl (Or.inl rfl)) aH (ζ (eQ (fL (jv 4) (ι (bI (jv 5) (ω (jv 3) (bI (jv 6) ν))) θ bO)))
   (μ (ψ 5 gI.nd (kY (jv 5) (ω (jv 3) (bI (jv 6) ν)))))))
   (μ (Β (jv 4))))))),λds M q x h=>?_))
 .let(n,k,aZ,ss,rfl,_):=h;rfl
 .let(n,k,aZ,ss,rfl,hn,k0,k1,m30,so,h):=h;show(n,rfl,λb=>(λ_=>?_,λ_=>?_))
  .show((rj hn,bg (k:=10) @_),?_);show(n * 12+k,aZ,rfl,?_,(),h);let(n0,n1):=hn;show se (k:=1100) () ?_ @_;show Int.lt_of_lt_of_le (show n * 12+k < 10 ^ 300 * 12+13 by omega) @_
  .show(@_,(@_,bg (k:=10) @_),((),()),?_);rw[show((aZ:Int)).toNat=aZ by omega];show cJ (λzs ρ' M'=>∃(i c:Nat) (xs:List Int) (r:Int) (o:Option Dt),zs=dW (i:Int) c/\i+c=aZ/\-xs=i/\(∀x∈xs,Xs x)/\Nm r/\M'=M++[.lst (xs.map Dt.int)]/\ρ'=[!(.int n),!(.int k),!(.int (aZ:Int)),!(C3 ss),!(.loc (-M)),!(.int r),o]) (λx zs ρ' M' hj eE=>?_) (λρ' M' hj=>?_) _ _ _ (0,aZ,[],_,none,rfl,(),rfl,λ_ z=>(nomatch z),DY hn @_,rfl,rfl)
   .let(i,c,xs,r,o,ex,ic,xl,hx,fb,rfl,rfl):=hj;let(c',rfl,rfl,rfl):=b8 ex;let(sz,es,s0,s1):=Wx so (j:=(i:Int));let rd:∀(M':Ms) (q:DQ),q (.int sz) M'->bF (C3 ss) (.int ((i:Int) % 5)) M' q:=λM' q hq=>Δ (d:=C3 ss) rfl es hq;walk_at "vc";show((_,_,rfl,aB),?_);show(@_,rd _ _ (s0,?_));show(-M,_,_,rfl,rfl,aB,?_,?_)
    .rw[aac,xl];show abz (show i<=60 by omega) @_
    rw[d8];show(@_,rd _ _ ((s0,se (k:=110) (aav s0) (abl s1 @_) @_),?_));show eE _ _ (i+1,c',xs++[r % sz],_,_,by rw[Int.natCast_add];rfl,(),by simp[xl],λy hy=>?_,DY fb s0,by simp,rfl);rcases abt.mp hy with z| z
    .show hx y z
    .rw[abe.mp z];show(abW _ (),adw (abN _ s0) (abl s1 @_))
   .let(i,c,xs,r,o,ex,ic,xl,hx,fb,rfl,rfl):=hj;let c0:c=0:=by have:=abI List.length ex;rw[gP]at this;show this.symm
    show h xs () hx
def Bi:DF:=λas M q _=>∃n low:Int,as=[.int n,.int low]/\Nm n/\1<=low/\low<=1000/\∀p,bc p=true->q (Ο p) M
def j8:Ζ ["_law_number","_law_low","_law_bottom","_law_top"] ["_law_number","_law_low"] (υ lT):=.of rfl
def wd(F:c_ K "_law_share_of" "_law_share_of" lT f fd)(E:Ev K mg w Cm)(aE:av P w K mg base 1 "_law_by_digits" ["_law_number"] KR cX cY)(a_:av P w K mg base 1 "_law_lowest" ["_law_top","_law_bottom"] Kw eV e6):aq P w K mg base (b9 P w) 2 f fd ["_law_number","_law_low"] (cM K Bi):=by
 show F.dX j8 (λds M q x h=>?_) (λbf A outer s H E' hr=>(_,(ζ (ψ 2 j8.nd (bY ν (bI (jv 0) (jv 1))))
   (ζ (fB (ψ 3 j8.nd (xQ (aK (Φ aE hr ξ (Μ (jv 0) θ))) (kY (jv 0) (jv 1)) (bI (ax (jv 0) ν) ν))))
   (μ (Β (Φ a_ hr ξ (ι (bI (jv 3) (jv 2)) (Μ (jv 2) θ) bO)))))),λds M q x h=>?_))
 .let(n,low,rfl,_):=h;rfl
 .let(n,low,rfl,hn,l1,l2,h):=h;let b0:=abW n (show low≠0 by omega);let b1:=abN n (show 0 < low by omega);show((),?_);dsimp only[sD];generalize n % low=r at *
  let fin:∀t:Int,bc (aC (t % (1+r)) (1+r))=true:=λt=>ES (abW _ ()) (abN _ ()) ();show⟨λρ M'=>M'=M/\∃t:Int,ρ=[!(.int n),!(.int low),!(.int (1+r)),!(.int t)],?_,?_⟩
  .show(n,rfl,λb=>(λ_=>?_,λ_=>?_))
   .show(((),bg (k:=12) ()),rfl,_,rfl)
   .show((rj hn,bg (k:=20) @_),@_,rfl,_,rfl)
  .rintro ρ M' ⟨rfl,t,rfl⟩;show((),_,_,rfl,(),bg (k:=12) (),h _ (fin t))
structure xX(kd:Str)(size:Int)(cs:List Fr)(ds:List bW):Prop where
 fit:∀d∈ds,aR d.1 d.2.1 size=true/\0 < d.2.1.2
 XZ:kd="chance"->(∀d∈ds,d.2.2=[χ d])/\ds.map χ=cs.take (-ds)
 Zb:kd≠"chance"->∀d∈ds,d.2.2=[]
def xX.more(h:xX kd size cs ds)(h1:aR d.1 d.2.1 size=true)(h2:0 < d.2.1.2)(hl:-ds < -cs)(h3:kd="chance"->d.2.2=[cs[-ds]])(h4:kd≠"chance"->d.2.2=[]):xX kd size cs (ds++[d]):=by
 show(λe he=>?_,λhc=>(λe he=>?_,?_),λhc e he=>?_)
 .rcases abt.mp he with he| he
  .show h.fit e he
  .have:e=d:=by simpa using he
   subst this;show(h1,h2)
 .rcases abt.mp he with he| he
  .show(h.XZ hc).1 e he
  .have:e=d:=by simpa using he
   subst this;unfold χ;rw[h3 hc];rfl
 .rw[abw,(h.XZ hc).2,aaj];change cs.take (-ds)++[χ d]=cs.take (-ds+1);rw[List.take_succ,aaa hl];unfold χ;rw[h3 hc];rfl
 .rcases abt.mp he with he| he
  .show h.Zb hc e he
  .have:e=d:=by simpa using he
   subst this;show h4 hc
def xX.good(h:xX kd size cs ds)(hk:Ε kd=true\/kd="chance")(h1:1<=-ds)(h6:-ds<=6)(hl:-ds=-cs)(hc:ar cs=true)(ho:Tf cs):sR size (.τ kd ds):=by
 by_cases CV:kd="chance"
 .subst CV;let e:ds.map χ=cs:=by rw[(h.XZ rfl).2,hl,List.take_length]
  show Hs h1 h6 (λd hd=>(h.fit d hd).1) (h.XZ rfl).1 (by rw[e];show hc) (by rw[e];show ho) λd hd=>(h.fit d hd).2
 .show NZ (hk.resolve_right CV) h1 h6 (λd hd=>(h.fit d hd).1) λd hd=>(h.Zb CV d hd,(h.fit d hd).2)
def RwG(size:Int)(r:Rw):Prop:=sR size r/\∀k ds,r= .τ k ds->Ε k=true->∀d∈ds,d.2.2=[]
def P5{k:Str}(h:Ε k=true):k≠"chance":=λz=>by subst z;show abc h @_
structure zI(cG:Bool)(p:Fr):Prop where
 red:Red p
 fit:bH p=true
 near:cG=false->p.2∣12/\fk p 9
def N2{t:Int}(h1: - (10 ^ 30)<=t)(h2:t<=10 ^ 30)(h0:0 < b)(h3:b<=1000000):zI true (aC t b):=(cj (),Ft h1 h2 h0 h3,nofun)
def Kh{x y:Int}:zI false (aC (x % 19 - 9) (1+y % 4)):=by
 let b0:0 < 1+y % 4:=()
 show(cj (),Ft () () b0 (),λ_=>(?_,pB b0 () ()));show Int.dvd_trans (Bw b0) ?_;have:y % 4=0\/y % 4=1\/y % 4=2\/y % 4=3:=()
 rcases this with e| e| e| e <;> rw[e] <;> decide
def Xs.big{x:Int}(h:Xs x):fe x:=se h.1 h.2 @_
def Kb{k:Nat}(a0:0<=a)(a1:a < 2 ^ j)(b0:0<=b)(b1:b < 2 ^ k):0<=a * b/\a * b < 2 ^ (j+k):=by show(ab9 a0 b0,?_);rw[Int.pow_add];show abl (abm (aav a1) b0) (Int.mul_lt_mul_of_pos_left b1 (Int.pow_pos @_))
def Mi:DF:=λas M q _=>∃(xs:List Int) (cG:Bool),as=[.lst (xs.map Dt.int),.bl cG]/\3<=-xs/\(∀x∈xs,Xs x)/\∀p,zI cG p->q (Ο p) M
def Cy:Ζ ["_law_xs","_law_far","_law_top"] ["_law_xs","_law_far"] (υ yp):=.of rfl
def Hq(F:c_ K "_law_pay" "_law_pay" yp f fd)(E:Ev K mg w Cm)(a_:av P w K mg base 1 "_law_lowest" ["_law_top","_law_bottom"] Kw eV e6):aq P w K mg base (b9 P w) 2 f fd ["_law_xs","_law_far"] (cM K Mi):=by
 show F.dX Cy (λds M q x h=>?_) (λbf A outer s H E' hr=>(_,(ζ (ai (aK (jv 1)) (ζ (fB (ψ 2 Cy.nd (xQ (Fl (ω (jv 0) ν) ν) (ax (ax (ax (ω (jv 0) ν) (ω (jv 0) ν)) (ω (jv 0) ν)) (ω (jv 0) ν)) (ω (jv 0) ν))))
   (μ (Β (Φ a_ hr ξ (ι (xS (bI (jv 2) (bY (ax ν (jY ν ν)) ν)) (jY ν ν)) (ι (bY ν (bI (ω (jv 0) ν) (jY ν ν))) θ bO) bO))))) Ν)
   (μ (Β (Φ a_ hr ξ (ι (xS (bI (ω (jv 0) ν) ν) ν) (ι (bY ν (bI (ω (jv 0) ν) ν)) θ bO) bO))))),λds M q x h=>?_))
 .let(xs,cG,rfl,_):=h;rfl
 .let(xs,cG,rfl,l3,hx,h):=h;let rd:∀(j:Nat) (hj:j < 3) (M':Ms) (q:DQ),q (.int (xs[j]'())) M'->bF (.lst (xs.map Dt.int)) (.int (j:Int)) M' q:=λj hj M' q hq=>Δ (d:=.lst (xs.map Dt.int)) rfl (gW ()) hq;let x0:=hx _ (aa9 (show 0 < -xs by omega));let x1:=hx _ (aa9 (show 1 < -xs by omega));let x2:=hx _ (aa9 (show 2 < -xs by omega));walk_at "vc";show(λz=>?_,λz=>?_)
  .subst z;show⟨λρ M'=>M'=M/\∃t:Int,ρ=[!(.lst (xs.map Dt.int)),!(.bl true),!(.int t)],?_,?_⟩
   .walk_at "vc";show rd 2 @_ _ _ (λ_=>?_,λ_=>?_)
    .let(p0,p1):=Kb x0.1 x0.2 x1.1 x1.2;let(q0,q1):=Kb p0 p1 x2.1 x2.2;show rd 0 @_ _ _ ?_;show rd 1 @_ _ _ ?_;show((x0.big,x1.big),?_);walk_at "vc";show rd 2 @_ _ _ ?_;show((se p0 p1 @_,x2.big),?_);walk_at "vc";show rd 0 @_ _ _ ?_;show((se q0 q1 @_,x0.big),rfl,_,rfl)
    .show rd 0 @_ _ _ ?_;show(rfl,_,rfl)
   .rintro ρ M' ⟨rfl,t,rfl⟩;let b30:fe ((10:Int) ^ (30:Int).toNat):=bg (k:=110) @_;let m0:(0:Int) < 2 * 10 ^ (30:Int).toNat+1:=@_
    let Yg:=abW t (show(2 * 10 ^ (30:Int).toNat+1:Int)≠0 by decide);let hm1:=abN t m0;let VL:0 < 1+xs[1] % 10 ^ (6:Int).toNat/\1+xs[1] % 10 ^ (6:Int).toNat<=1000000:=by change 0 < 1+xs[1] % 1000000/\1+xs[1] % 1000000<=1000000;omega
    let hb7:fe (1+xs[1] % 10 ^ (6:Int).toNat):=se (k:=20) (aav VL.1) (abl VL.2 @_) @_;walk_at "vc";show(p30,(bg (k:=4) @_,b30),m0,p30,?_);dsimp only[C5];show rd 1 @_ _ _ ?_;show(p6,(by change(0:Int) < 1000000;decide),_,_,rfl,VL.1,hb7,h _ (N2 ?_ ?_ VL.1 VL.2))
    .change - (10 ^ 30)<=t % (2 * 10 ^ (30:Int).toNat+1) - 10 ^ 30;omega
    .let e:(10:Int) ^ (30:Int).toNat=10 ^ 30:=rfl;rw[e]at hm1;change t % (2 * 10 ^ 30+1) - 10 ^ 30<=10 ^ 30;omega
  .subst z;show rd 0 @_ _ _ ?_;show(@_,?_);dsimp only[C5];show(rd 1 @_ _ _ ?_:bF (.lst (xs.map Dt.int)) (.int 1) _ _);show(@_,_,_,rfl,(),bg (k:=10) (),h _ Kh)
def Xh(cG:Bool)(size:Int)(r:Rw):Prop:=RwG size r/\(∀p,r= .fin p->zI cG p)/\∀k ds,r= .τ k ds->∀d∈ds,zI cG d.2.1
def Q2(c:Nat):sliceRange ((4:Nat):Int) ((5 * c:Nat):Int) ((5:Nat):Int)=(List.range c).map λk=>5 * k+4:=by
 unfold sliceRange;let hc:(if ((4:Nat):Int) < ((5 * c:Nat):Int) then (((5 * c:Nat):Int) - ((4:Nat):Int)+((5:Nat):Int) - 1) / ((5:Nat):Int) else 0)=c:=by split <;> omega
 simp only[show((5:Nat):Int) > 0 by decide,if_true,hc,Int.toNat_natCast];apply ab3;intro k _;omega
def U2{c:Nat}{ds:List Dt}{xs:List Int}(e:ds=xs.map Dt.int)(h:-xs=5 * c):jZ (sliceRange ((4:Nat):Int) (-ds:Int) ((5:Nat):Int)) ds=((List.range c).map λk=>xs.getD (5 * k+4) 0).map Dt.int:=by
 subst e;rw[aac,h,Q2];unfold jZ;rw[List.filterMap_map,abf];have:∀l:List Nat,(∀k∈l,k < c)->l.filterMap ((λi=>(xs.map Dt.int)[i]?) ∘ λk=>5 * k+4)=l.map (Dt.int ∘ λk=>xs.getD (5 * k+4) 0):=λl=>by
  induction l with
  | nil=>intro _;rfl
  | cons k l ih=>
   intro hk;let kc:=hk k aaf;let e:((λi=>(xs.map Dt.int)[i]?) ∘ λk=>5 * k+4) k=!(Dt.int (xs.getD (5 * k+4) 0)):=by change(xs.map Dt.int)[5 * k+4]? =_;rw[aaw,aab,aaa ()];rfl
   rw[adp,e,aaX,<-ih λz hz=>hk z (aah _ hz)];rfl
 show this _ λk hk=>abS.mp hk
def Fz:DF:=λas M q _=>∃(kd:Str) (xs:List Int) (aZ:Int) (cG:Bool) (c:Nat),as=[.str kd,.lst (xs.map Dt.int),.int aZ,.bl cG]/\-xs=5 * c/\1<=c/\c<=6/\(∀x∈xs,Xs x)/\1<=aZ/\aZ<=12/\(Ε kd=true\/kd="chance")/\∀ds,-ds=c->Xh cG aZ (.τ kd ds)->q (.loc (-M)) (M++[.lst (ds.map fh)])
def eZ:Ζ ["_law_kind","_law_xs","_law_many","_law_far","_law_doors_here","_law_parts","_law_k","_law_door"] ["_law_kind","_law_xs","_law_many","_law_far"] (υ qg):=.of rfl
def BY(F:c_ K "_law_doors" "_law_doors" qg f fd)(E:Ev K mg w Cm)(jR:av P w K mg base 2 "_law_pay" ["_law_xs","_law_far"] Mi Ah yO)(a_:av P w K mg base 1 "_law_lowest" ["_law_top","_law_bottom"] Kw eV e6):aq P w K mg base (b9 P w) 4 f fd ["_law_kind","_law_xs","_law_many","_law_far"] (cM K Fz):=by
 show F.dX eZ (λds M q x h=>?_) (λbf A outer s H E' hr=>(_,(ζ (ψ 4 eZ.nd (lM θ))
   (ζ (iW (i:=5) eZ.nd rfl (Or.inl rfl) (ys:=["_law_far"]) (ae:=[3]) (.of eZ rfl rfl rfl) (bo (cL (T3 (a:=4) (b:=5) (jv 1) ν ν))) (λC s H fp=>(bY ν (bI (jv 0) (ω (eA 3 (d:=.lst [.int 4,.int 150000]) (by rfl)) (Qs E.xc (Μ (jv 1) θ)))))))
   (ζ (gS (cn E.bX (ι (bQ E.bu (Μ (jv 5) θ)) θ aU)) (Ω (i:=6) eZ.nd rfl (Or.inl rfl)) aH (ζ (ψ 7 eZ.nd (cP (ι (bI (ω (jv 1) (bY (ax ν (jv 6)) ν)) (jv 2)) (ι (Φ jR hr ξ (ι (cL (x5 (jv 1) (ax ν (jv 6)) (bY (ax ν (jv 6)) ν))) (Μ (jv 3) θ) aL)) θ aU) bO)))
   (ζ (fB (ai (cR hr (jv 0) jM) (μ (ψ 7 eZ.nd (bY (jv 7) (cP (ι (Φ a_ hr ξ (ι (ω (jv 5) (jv 6)) (ι (QA E.BR (Μ (jv 5) θ)) θ aU) aL)) θ aU))))) Ν))
   (μ (eQ (fL (jv 4) (Μ (jv 7) θ)))))))
   (μ (Β (jv 4)))))),λds M q x h=>?_))
 .let(kd,xs,aZ,cG,c,rfl,_):=h;rfl
 .let(kd,xs,aZ,cG,c,rfl,xl,c1,c6,hx,s1,s12,Uc,h):=h;let sl:∀{z:Nat},z<=1000->z<=sizeLine:=λh=>aaR h @_;show(@_,?_);generalize hM0:M++[MO.lst []]=M0;dsimp only[qR,dE,Nl,QO];walk_at "vc";show(rfl,_,rfl,rfl,by rw[aac];omega,?_,?_)
  .rw[aac,xl,Q2,aac,abP];omega
  rw[U2 rfl xl];show c8 (gq _) ?_;obtain⟨most,em,m0,m1⟩:∃most:Int,(∀(M':Ms) (q:DQ),q (.int most) M'->bF (.lst [.int 4,.int 150000]) (.int (if cG=true then 1 else 0)) M' q)/\0 < most/\most<=150000:=by
   cases cG with
   | true=>show(150000,λM' q hq=>Δ (d:=.lst [.int 4,.int 150000]) rfl (Θ (j:=1) rfl) hq,@_,@_)
   | false=>show(4,λM' q hq=>Δ (d:=.lst [.int 4,.int 150000]) rfl aw hq,@_,@_)
  show(by rw[aac,aac,abP];show sl (),?_);show dY (F:=λx n=>x=Dt.int n) (f:=λn=>.int (1+n % most)) (as:=(List.range c).map λk=>xs.getD (5 * k+4) 0) trivial (λx n Uk qq hq=>?_) ?_ ?_
  .subst Uk;walk_at "vc";change A5 [.bl cG] M0 λd2 M2=>bF (.lst [.int 4,.int 150000]) d2 M2 λd2 M2=>Oe (.int n) d2 M2 λd2 M2=>sD (.int 1) d2 M2 qq;dsimp only[A5];show em _ _ ?_;show(m0,hq)
  .have:∀l:List Int,Paired (λx n=>x=Dt.int n) (l.map Dt.int) l:=λl=>by
    induction l with
    | nil=>show .nil
    | cons a l ih=>show .cons rfl ih
   show this _
  rw[abB,abf];generalize VO:((List.range c).map λk=>1+xs.getD (5 * k+4) 0 % most)=ws;let ew:(List.range c).map ((λn=>Dt.int (1+n % most)) ∘ λk=>xs.getD (5 * k+4) 0)=ws.map Dt.int:=by rw[<-VO,abf];rfl
  rw[ew];let wl:-ws=c:=by rw[<-VO,aac,abP]
  let w0:∀w∈ws,0 < w/\w<=most:=λw hw=>by rw[<-VO]at hw;let(y,_,rfl):=aap.mp hw;let e0:=abW (xs.getD (5 * y+4) 0) (show most≠0 by omega);let e1:=abN (xs.getD (5 * y+4) 0) m0;omega
  let hS:ws.sum<=1000000:=by have:=LL λw Z0=>(w0 w Z0).2;rw[wl]at this;have:(c:Int) * most<=6 * 150000:=acC () m1 () @_;omega
  let lu:ws≠[]:=λz=>by rw[z]at wl;simp at wl;omega
  let Y8:=Gr (λw hw=>(w0 w hw).1) lu;let(cc1,cc2):=Er (S:=ws.sum) rfl (λw Z0=>(w0 w Z0).1) lu hS ();let cl:-(ws.map λw=>aC w ws.sum)=c:=by rw[aac,wl]
  let bS:fe ws.sum:=bg (k:=21) ();clear VO;show(ag (d:=.lst (ws.map .int)) (xs:=ws.map .int) rfl ?_:e9 [.lst (ws.map .int)] _ _);rw[aac,wl];show(((),()),?_);rw[show((c:Int)).toNat=c by omega];subst hM0;show cJ (λzs ρ M'=>∃(n k:Nat) (ds:List bW) (o1 o2:Option Dt),zs=dW k n/\k+n=c/\-ds=k/\xX kd aZ (ws.map λw=>aC w ws.sum) ds/\(∀d∈ds,zI cG d.2.1)/\M'=M++[MO.lst (ds.map fh)]/\ρ=[!(.str kd),!(.lst (xs.map Dt.int)),!(.int aZ),!(.bl cG),!(.loc (-M)),!(.lst (ws.map .int)),o1,o2]) (λx zs ρ M' hj eE=>?_) (λρ M' hj=>?_) _ _ _ (c,0,[],none,none,by simp,by simp,rfl,(λ_ z=>(nomatch z),λ_=>(λ_ z=>(nomatch z),rfl),λ_ _ z=>(nomatch z)),λ_ z=>(nomatch z),rfl,rfl)
  .let(n,k,ds,o1,o2,ex,Y9,hl,hd,hp,rfl,rfl):=hj;let(m,rfl,rfl,rfl):=b8 ex;let k6:(k:Int) < 6:=()
   let kx:5 * k+3 < -xs:=()
   let kw:k < -ws:=()
   let UC:(M++[MO.lst (ds.map fh)])[-M]? =!(.lst (ds.map fh)):=by simp
   let setM:∀y:bW,(M++[MO.lst (ds.map fh)]).set (-M) (.lst (ds.map fh++[fh y]))=M++[.lst ((ds++[y]).map fh)]:=λy=>by simp
   let lt:-(ds.map fh) < sizeLine:=by rw[aac,hl];show abz (show k<=12 by omega) @_
   let e5:5 * (k:Int)+3=((5 * k+3:Nat):Int):=()
   let e50:5 * (k:Int)=((5 * k:Nat):Int):=()
   let b5:fe (5:Int):=bg (k:=10) @_;let bk:fe (k:Int):=bg (k:=10) ();walk_at "vc";show((b5,bk),?_);dsimp only[sD];rw[e5];show(Δ (d:=.lst (xs.map .int)) rfl (gW kx) ?_:bF (.lst (xs.map .int)) (.int ((5 * k+3:Nat):Int)) _ _);show((),(b5,bk),5 * k,by rw[e50],(b5,bk),xs.map Dt.int,5 * k+3,rfl,by rw[<-e5],?_);rw[<-adD,<-adC];show c8 (gq _) ?_;show((xs.drop (5 * k)).take (5 * k+3 - 5 * k),cG,rfl,by rw[adn,acQ];omega,λy hy=>hx y (List.mem_of_mem_drop (List.mem_of_mem_take hy)),λp pp=>(gV,?_));let Xz:=pp.red.pos;let Ob:aR (xs[5 * k+3] % aZ) p aZ=true:=Ox (abW _ ()) (abN _ ()) pp.fit;show⟨λρ M2=>M2=M++[MO.lst (ds.map fh)]/\∃d:bW,(aR d.1 d.2.1 aZ=true/\0 < d.2.1.2/\(kd="chance"->d.2.2=[aC ws[k] ws.sum])/\(kd≠"chance"->d.2.2=[])/\zI cG d.2.1)/\ρ=[!(.str kd),!(.lst (xs.map Dt.int)),!(.int aZ),!(.bl cG),!(.loc (-M)),!(.lst (ws.map .int)),!(.int (k:Int)),!(fh d)],(λhc=>?_,λhc=>?_),?_⟩
   .let hc:kd="chance":=aaH hc;walk_at "vc";show(Δ (d:=.lst (ws.map .int)) rfl (gW kw) ?_:bF (.lst (ws.map .int)) (.int (k:Int)) _ _);show(ws,rfl,(_,_,rfl),_,_,rfl,Y8,bS,(by change 1<=sizeLine;decide),(by simp,by change 3<=sizeLine;decide),rfl,(xs[5 * k+3] % aZ, p,[aC ws[k] ws.sum]),(Ob,Xz,λ_=>rfl,λz=>absurd hc z,pp),rfl)
   .let hc:kd≠"chance":=abO hc;show(rfl,(xs[5 * k+3] % aZ, p,[]),(Ob,Xz,λz=>abc z hc,λ_=>rfl,pp),rfl)
   .rintro ρ2 M2 ⟨rfl,d,⟨d1,d2,d3,d4,d5⟩,rfl⟩;show((-M,_,rfl,UC),-M,_,_,rfl,rfl,UC,lt,?_);rw[setM d];show eE _ _ (m,k+1,ds++[d],_,_,by simp,(),by simp[hl],hd.more d1 d2 (by rw[cl];omega) (λz=>?_) d4,λy hy=>?_,rfl,rfl)
    .rw[d3 z];simp[hl]
    .rcases abt.mp hy with z| z
     .show hp y z
     .rw[abe.mp z];show d5
  .let(n,k,ds,o1,o2,ex,Y9,hl,hd,hp,rfl,rfl):=hj;let hn:n=0:=by have:=abI List.length ex;unfold dW at this;simpa using this.symm
   show h ds () ((hd.good Uc () () (by rw[cl];omega) cc1 cc2,λk' pT e hk d Pj=>by cases e;show hd.Zb (P5 hk) d Pj),λp e=>(nomatch e),λk' pT e d Pj=>by cases e;show hp d Pj)
def S9{n:Int}:∃kd:Str,ku [Dt.str "one",Dt.str "other",Dt.str "chance",Dt.str "end",Dt.str "one",Dt.str "other",Dt.str "chance",Dt.str "chance"] (n % 8)=!(.str kd)/\(Ε kd=true\/kd="chance"\/kd="end"):=by
 have:n % 8=0\/n % 8=1\/n % 8=2\/n % 8=3\/n % 8=4\/n % 8=5\/n % 8=6\/n % 8=7:=()
 rcases this with e| e| e| e| e| e| e| e <;> rw[e]
 .show(_,aw,.inl @_)
 .show(_,Θ (j:=1) rfl,.inl @_)
 .show(_,Θ (j:=2) rfl,.inr (.inl rfl))
 .show(_,Θ (j:=3) rfl,.inr (.inr rfl))
 .show(_,Θ (j:=4) rfl,.inl @_)
 .show(_,Θ (j:=5) rfl,.inl @_)
 .show(_,Θ (j:=6) rfl,.inr (.inl rfl))
 .show(_,Θ (j:=7) rfl,.inr (.inl rfl))
def VB{n:Int}:∃m:Int,ku [Dt.int 4,Dt.int 4,Dt.int 4,Dt.int 4,Dt.int 4,Dt.int 4,Dt.int 6,Dt.int 12] (n % 8)=!(.int m)/\1<=m/\m<=12/\(n % 8=5->m=4):=by
 have:n % 8=0\/n % 8=1\/n % 8=2\/n % 8=3\/n % 8=4\/n % 8=5\/n % 8=6\/n % 8=7:=()
 rcases this with e| e| e| e| e| e| e| e <;> rw[e]
 .show(_,aw,@_,@_,@_)
 .show(_,Θ (j:=1) rfl,@_,@_,@_)
 .show(_,Θ (j:=2) rfl,@_,@_,@_)
 .show(_,Θ (j:=3) rfl,@_,@_,@_)
 .show(_,Θ (j:=4) rfl,@_,@_,@_)
 .show(_,Θ (j:=5) rfl,@_,@_,@_)
 .show(_,Θ (j:=6) rfl,@_,@_,@_)
 .show(_,Θ (j:=7) rfl,@_,@_,@_)
def aaO{n:Int}:∃m:Int,ku [Dt.int 10,Dt.int 10,Dt.int 10,Dt.int 10,Dt.int 1,Dt.int 1000,Dt.int 10,Dt.int 10] (n % 8)=!(.int m)/\1<=m/\m<=1000:=by
 have:n % 8=0\/n % 8=1\/n % 8=2\/n % 8=3\/n % 8=4\/n % 8=5\/n % 8=6\/n % 8=7:=()
 rcases this with e| e| e| e| e| e| e| e <;> rw[e]
 .show(_,aw,@_,@_)
 .show(_,Θ (j:=1) rfl,@_,@_)
 .show(_,Θ (j:=2) rfl,@_,@_)
 .show(_,Θ (j:=3) rfl,@_,@_)
 .show(_,Θ (j:=4) rfl,@_,@_)
 .show(_,Θ (j:=5) rfl,@_,@_)
 .show(_,Θ (j:=6) rfl,@_,@_)
 .show(_,Θ (j:=7) rfl,@_,@_)
def cH(k:Str)(n:Nat):Nat:=if Ε k=true then n else 1
def iT:List Rw->Nat
 | []=>1
 | r::rs=>cH (kindOf r) (-(Ξ r)) * iT rs
def rC:∀(rs:List Rw) (r:Rw),iT (rs++[r])=iT rs * cH (kindOf r) (-(Ξ r))
 | [],r=>by change cH _ _ * 1=1 * _;omega
 | a::rs,r=>by change cH _ _ * iT (rs++[r])=cH _ _ * iT rs * _;rw[rC rs r,Nat.mul_assoc]
def O9{c r rm:Int}(ha:0<=a)(h:c * r<=rm)(l:a * rm<=30):a * c * r<=30:=by rw[adA];show acG (aaS h ha) l
structure LF(ε:Fr)(γ:List Rw)(cG:Bool):Prop where
 sh:bc ε=true
 n1:1<=-γ
 EC:-γ<=12
 n4:cG=true->-γ<=4
 row:∀r∈γ,Xh cG (-γ) r
 pr:iT γ<=30
def DB(cG:Bool)(aZ:Int):List Int:=if cG=true then [2 * 10 ^ (30:Int).toNat+1,10 ^ (6:Int).toNat,1,aZ,150000] else [19,4,1,aZ,4]
def Vw{aZ:Int}(h1:1<=aZ)(h2:aZ<=12):Mj (DB cG aZ):=by
 let m30:aZ<=2 * 10 ^ 30+1:=acG h2 @_;cases cG with
 | true=>
  show(rfl,λs hs=>?_);let hs:s∈[2 * 10 ^ (30:Int).toNat+1,10 ^ (6:Int).toNat,1,aZ,150000]:=hs;simp only[List.mem_cons,List.not_mem_nil,or_false]at hs;rcases hs with e| e| e| e| e
  .rw[e];decide
  .rw[e];decide
  .rw[e];decide
  .rw[e];show((),m30)
  .rw[e];decide
 | false=>
  show(rfl,λs hs=>?_);let hs:s∈[19,4,1,aZ,4]:=hs;simp only[List.mem_cons,List.not_mem_nil,or_false]at hs;rcases hs with e| e| e| e| e
  .rw[e];decide
  .rw[e];decide
  .rw[e];decide
  .rw[e];show((),m30)
  .rw[e];decide
def WS{n:Int}:∃r:Int,ku [Dt.int 30,Dt.int 30,Dt.int 30,Dt.int 30,Dt.int 30,Dt.int 12,Dt.int 24,Dt.int 12] (n % 8)=!(.int r)/\1<=r/\r<=30:=by
 have:n % 8=0\/n % 8=1\/n % 8=2\/n % 8=3\/n % 8=4\/n % 8=5\/n % 8=6\/n % 8=7:=()
 rcases this with e| e| e| e| e| e| e| e <;> rw[e]
 .show(_,aw,@_,@_)
 .show(_,Θ (j:=1) rfl,@_,@_)
 .show(_,Θ (j:=2) rfl,@_,@_)
 .show(_,Θ (j:=3) rfl,@_,@_)
 .show(_,Θ (j:=4) rfl,@_,@_)
 .show(_,Θ (j:=5) rfl,@_,@_)
 .show(_,Θ (j:=6) rfl,@_,@_)
 .show(_,Θ (j:=7) rfl,@_,@_)
def Gz:DF:=λas M q _=>∃ns:List Int,as=[.jC ns]/\-ns<=63/\∀ε γ cG,LF ε γ cG->q (.tup [Ο ε,.loc (-M)]) (M++[.lst (γ.map ay)])
def aP:Ζ ["_law_script","_law_begun","_law_how","_law_places","_law_many","_law_share","_law_sizes","_law_rows","_law_room","_law_k","_law_number","_law_kind","_law_count","_law_xs"] ["_law_script"] (υ q5):=.of rfl
def Ba(F:c_ K "_law_floor" "_law_floor" q5 f fd)(E:Ev K mg w Cm)(cE:av P w K mg base 1 "_law_at" ["_law_script","_law_k"] X8 tm tO)(aE:av P w K mg base 1 "_law_by_digits" ["_law_number"] KR cX cY)(ky:av P w K mg base 2 "_law_share_of" ["_law_number","_law_low"] Bi Bm AI)(jR:av P w K mg base 2 "_law_pay" ["_law_xs","_law_far"] Mi Ah yO)(i7:av P w K mg base 2 "_law_things" ["_law_number","_law_k","_law_many","_law_sizes"] Gi EE Ei)(nV:av P w K mg base 4 "_law_doors" ["_law_kind","_law_xs","_law_many","_law_far"] Fz Ii I0):aq P w K mg base (b9 P w) 5 f fd ["_law_script"] (cM K Gz):=by
 show F.dX aP (λds M q x h=>?_) (λbf A outer s H E' hr=>(_,(ζ (ψ 1 aP.nd (Φ cE hr ξ (Μ (jv 0) (ι ν θ dj))))
   (ζ (ψ 2 aP.nd (bI (jv 1) ν))
   (ζ (fB (ψ 3 aP.nd (xQ (aK (Φ aE hr ξ (Μ (jv 1) θ))) (kY (jv 1) ν) (bI (ax (jv 1) ν) ν))))
   (ζ (ψ 4 aP.nd (bY ν (bI (jv 3) (ω (eA 3 (d:=.lst [.int 4,.int 4,.int 4,.int 4,.int 4,.int 4,.int 6,.int 12]) (by rfl)) (jv 2)))))
   (ζ (ψ 5 aP.nd (Φ ky hr ξ (ι (Φ cE hr ξ (Μ (jv 0) (ι ν θ dj))) (ι (ω (eA 3 (d:=.lst [.int 10,.int 10,.int 10,.int 10,.int 1,.int 1000,.int 10,.int 10]) (by rfl)) (jv 2)) θ aL) aU)))
   (ζ (ψ 6 aP.nd (ω (kT (ι (kT (ι ν (ι ν (ι ν (Μ (jv 4) (ι ν θ dj)) dj) dj) dj)) (ι (kT (ι (bY (ax ν (jY ν ν)) ν) (ι (jY ν ν) (ι ν (Μ (jv 4) (ι ν θ dj)) dj) bO) bO)) θ))) (Qs E.xc (ι (OT hr (jv 2) ν) θ FA))))
   (ζ (ψ 7 aP.nd (lM θ))
   (ζ (ψ 8 aP.nd (ω (eA 3 (d:=.lst [.int 30,.int 30,.int 30,.int 30,.int 30,.int 12,.int 24,.int 12]) (by rfl)) (jv 2)))
   (ζ (gS (cn E.bX (Μ (jv 4) θ)) (Ω (i:=9) aP.nd rfl (Or.inl rfl)) aH (ζ (ψ 10 aP.nd (Φ cE hr ξ (Μ (jv 0) (ι (bY ν (jv 9)) θ bO))))
   (ζ (ψ 11 aP.nd (ω (eA 3 (d:=.lst [.str "one",.str "other",.str "chance",.str "end",.str "one",.str "other",.str "chance",.str "chance"]) (by rfl)) (bI (jv 10) ν)))
   (ζ (fB (ψ 12 aP.nd (bY ν (bI (xQ (aK (Φ aE hr ξ (Μ (jv 10) θ))) (kY (jv 10) ν) (bI (ax (jv 10) ν) ν)) ν))))
   (ζ (fB (ai (JW.jt (dJ (cR hr (jv 11) jM) (eD (cR hr (jv 11) jM)))) (ζ (ψ 12 aP.nd (XE E.G9 (Μ (jv 12) (Μ (jv 8) θ))))
   (μ (ψ 8 aP.nd (kY (jv 8) (jv 12))))) Ν))
   (μ (ai (cR hr (jv 11) jM) (μ (eQ (fL (jv 7) (ι (cP (Μ (jv 11) (ι (Φ jR hr ξ (ι (cL (Φ i7 hr ξ (Μ (jv 10) (Μ (jv 9) (ι ν (Μ (jv 6) θ) dj))))) (ι (OT hr (jv 2) ν) θ FA) aU)) θ aU))) θ uh)))) (ζ (ψ 13 aP.nd (cL (Φ i7 hr ξ (Μ (jv 10) (Μ (jv 9) (ι (ax ν (jv 12)) (Μ (jv 6) θ) bO))))))
   (μ (eQ (fL (jv 7) (ι (cP (Μ (jv 11) (ι (cL (Φ nV hr ξ (Μ (jv 11) (Μ (jv 13) (Μ (jv 4) (ι (OT hr (jv 2) ν) θ FA)))))) θ aU))) θ uh))))))))))))
   (μ (Β (cP (Μ (jv 5) (Μ (jv 7) θ)))))))))))))),λds M q x h=>?_))
 .let(ns,rfl,_):=h;rfl
 .let(ns,rfl,nl,h):=h;show(ns,0,rfl,nl,@_,@_,fun b0 (Nq,_)=>(@_,?_));show⟨λρ M'=>M'=M/\∃t:Int,ρ=[!(.jC ns),!(.int b0),!(.int (b0 % 8)),!(.int t),none,none,none,none,none,none,none,none,none,none],?_,?_⟩
  .show(b0,rfl,λb=>(λ_=>?_,λ_=>?_))
   .show((@_,bg (k:=10) @_),rfl,_,rfl)
   .show((rj Nq,bg (k:=20) @_),@_,rfl,_,rfl)
  rintro ρ M' ⟨rfl,t,rfl⟩;let(mx,emx,mx1,ahs,mx5):=VB (n:=b0);let(low,aaN,aaU,abx):=aaO (n:=b0);let t0:=abW t (show mx≠0 by omega);let t1:=abN t (show 0 < mx by omega);walk_at "vc";show(Δ rfl emx ?_:bF (.lst [Dt.int 4,Dt.int 4,Dt.int 4,Dt.int 4,Dt.int 4,Dt.int 4,Dt.int 6,Dt.int 12]) (.int (b0 % 8)) _ _);show((),?_);dsimp only[sD];obtain⟨sz,hz,z1,z12,z4⟩:∃sz:Nat,1+t % mx=(sz:Int)/\1<=sz/\sz<=12/\(b0 % 8=5->sz<=4):=((1+t % mx).toNat,(),(),(),λz=>by have:=mx5 z;omega);rw[hz];show(ns,1,rfl,nl,@_,@_,λb1 xz=>?_);let(hb1,_):=xz;show(Δ rfl aaN ?_:bF (.lst [Dt.int 10,Dt.int 10,Dt.int 10,Dt.int 10,Dt.int 1,Dt.int 1000,Dt.int 10,Dt.int 10]) (.int (b0 % 8)) _ _);show(b1,low,rfl,hb1,aaU,abx,λε hs=>?_);obtain⟨cG,P1⟩:∃cG,cG=decide (b0 % 8=5):=(_,rfl);let b30:fe ((10:Int) ^ (30:Int).toNat):=bg (k:=110) @_;let sl:∀{z:Nat},z<=1000->z<=sizeLine:=λh=>aaR h @_;show(sl @_,p30,(bg (k:=4) @_,b30),p6,sl @_,sl @_,?_);let rd:∀(M':Ms) (q:DQ),q (C3 (DB cG sz)) M'->Fe (.int (b0 % 8)) (.int 5) M' λd M1=>A5 [d] M1 λd2 M2=>bF (.lst [.lst [.int 19,.int 4,.int 1,.int (sz:Int),.int 4],.lst [.int (2 * 10 ^ (30:Int).toNat+1),.int (10 ^ (6:Int).toNat),.int 1,.int (sz:Int),.int 150000]]) d2 M2 q:=λM' q hq=>by
   change A5 [.bl (decide (b0 % 8=5))] M' λd2 M2=>bF (.lst [C3 (DB false sz),C3 (DB true sz)]) d2 M2 q;rw[<-P1];dsimp only[A5];cases cG with
   | true=>show Δ (d:=.lst [C3 (DB false sz),C3 (DB true sz)]) rfl (Θ (j:=1) rfl) hq
   | false=>show Δ (d:=.lst [C3 (DB false sz),C3 (DB true sz)]) rfl aw hq
  show rd _ _ ?_;let n4:cG=true->sz<=4:=λz=>z4 (aaH (by rw[<-P1];show z));let(rm0,erm,rm1,rm2):=WS (n:=b0);show(@_,?_);show(Δ rfl erm ?_:bF (.lst [Dt.int 30,Dt.int 30,Dt.int 30,Dt.int 30,Dt.int 30,Dt.int 12,Dt.int 24,Dt.int 12]) (.int (b0 % 8)) _ _);show(((),()),?_);rw[show((sz:Int)).toNat=sz by omega];show cJ (λzs ρ M2=>∃(n k:Nat) (rs:List Rw) (rm:Int) (o1 o2 o3 o4 o5:Option Dt),(1<=rm/\rm<=30/\(iT rs:Int) * rm<=30)/\zs=dW k n/\k+n=sz/\-rs=k/\(∀r∈rs,Xh cG sz r)/\M2=M'++[MO.lst (rs.map ay)]/\ρ=[!(.jC ns),!(.int b0),!(.int (b0 % 8)),!(.int t),!(.int (sz:Int)),!(Ο ε),!(C3 (DB cG sz)),!(.loc (-M')),!(.int rm),o1,o2,o3,o4,o5]) (λx zs ρ M2 hj eE=>?_) (λρ M2 hj=>?_) _ _ _ (sz,0,[],rm0,none,none,none,none,none,(rm1,rm2,by change(1:Int) * rm0<=30;omega),by simp,by simp,rfl,λ_ z=>(nomatch z),rfl,rfl)
  .let(n,k,rs,rm,o1,o2,o3,o4,o5,(rl,rh,rp),ex,Y9,hl,hd,rfl,rfl):=hj;let(m,rfl,rfl,rfl):=b8 ex;let k12:(k:Int) < 12:=()
   let UC:(M'++[MO.lst (rs.map ay)])[-M']? =!(.lst (rs.map ay)):=by simp
   let setM:∀y:Rw,(M'++[MO.lst (rs.map ay)]).set (-M') (.lst (rs.map ay++[ay y]))=M'++[.lst ((rs++[y]).map ay)]:=λy=>by simp
   let lt:-(rs.map ay) < sizeLine:=by rw[aac,hl];show abz (show k<=12 by omega) @_
   let first:∃k' xs',Dt.loc (-M')= .loc k'/\(M'++[MO.lst (rs.map ay)])[k']? =!(.lst xs'):=(_,_,rfl,UC)
   let more:∀y,Xh cG sz y->∀r∈rs++[y],Xh cG sz r:=λy hy r hr=>by
    rcases abt.mp hr with hr| hr
    .show hd r hr
    .rw[abe.mp hr];show hy
   let so:=Vw (cG:=cG) (aZ:=(sz:Int)) () ();show(ns,2+(k:Int),rfl,nl,(),(),fun f (hf,_)=>(@_,?_));let(kd,ek,Uc):=S9 (n:=f);show Δ rfl ek ?_;show⟨λρ M2=>M2=M'++[MO.lst (rs.map ay)]/\∃c:Nat,(1<=c/\c<=6)/\ρ=[!(.jC ns),!(.int b0),!(.int (b0 % 8)),!(.int t),!(.int (sz:Int)),!(Ο ε),!(C3 (DB cG sz)),!(.loc (-M')),!(.int rm),!(.int (k:Int)),!(.int f),!(.str kd),!(.int (c:Int)),o5],?_,?_⟩
   .let cut:∀t:Int,∃c:Nat,(1<=c/\c<=6)/\1+t % 6=(c:Int):=λt=>((1+t % 6).toNat,(),());let Wl:∀(t:Int) (ρ:List (Option Dt)),(∃c:Nat,(1<=c/\c<=6)/\ρ++[!(.int (1+t % 6)),o5]=ρ++[!(.int (c:Int)),o5]):=λt ρ=>by let(c,h1,h2):=cut t;show(c,h1,by rw[h2])
    show(f,rfl,λb=>(λ_=>?_,λ_=>?_))
    .show((@_,bg (k:=10) @_),@_,rfl,Wl (f / 8) [!(.jC ns),!(.int b0),!(.int (b0 % 8)),!(.int t),!(.int (sz:Int)),!(Ο ε),!(C3 (DB cG sz)),!(.loc (-M')),!(.int rm),!(.int (k:Int)),!(.int f),!(.str kd)])
    .show((rj hf,bg (k:=20) @_),@_,@_,rfl,Wl (f * 48271 % 65537) [!(.jC ns),!(.int b0),!(.int (b0 % 8)),!(.int t),!(.int (sz:Int)),!(Ο ε),!(C3 (DB cG sz)),!(.loc (-M')),!(.int rm),!(.int (k:Int)),!(.int f),!(.str kd)])
   rintro ρ2 M2 ⟨rfl,c0,⟨c01,c06⟩,rfl⟩;show⟨λρ M2=>M2=M'++[MO.lst (rs.map ay)]/\∃(c:Nat) (rm:Int),(1<=c/\c<=6)/\(1<=rm/\rm<=30/\(iT rs:Int) * (cH kd c:Int) * rm<=30)/\ρ=[!(.jC ns),!(.int b0),!(.int (b0 % 8)),!(.int t),!(.int (sz:Int)),!(Ο ε),!(C3 (DB cG sz)),!(.loc (-M')),!(.int rm),!(.int (k:Int)),!(.int f),!(.str kd),!(.int (c:Int)),o5],?_,?_⟩
   .let yes:∃(c:Nat) (r':Int),(1<=c/\c<=6)/\(1<=r'/\r'<=30)/\(if rm < (c0:Int) then rm else (c0:Int))=(c:Int)/\rm / (if rm < (c0:Int) then rm else (c0:Int))=r'/\(c:Int) * r'<=rm:=by
     by_cases y:rm < (c0:Int)
     .rw[aa1 y];show(rm.toNat,1,(),@_,(),Int.ediv_self (),())
     .rw[aa2 y];let a1:1<=rm / (c0:Int):=(Int.le_ediv_iff_mul_le ()).mpr ();let a2:rm / (c0:Int)<=rm:=ado _ ();show(c0,_,(),(a1,()),rfl,rfl,Int.mul_ediv_self_le ())
    let(c',r',CF,fb,ec,er,hcr):=yes;let Bl:Ε kd=true->1<=r'/\r'<=30/\(iT rs:Int) * (cH kd c':Int) * r'<=30:=λy=>(fb.1,fb.2,by unfold cH;rw[if_pos y];show O9 (Int.natCast_nonneg _) hcr rp);rw[ec]at er;walk_at "vc";show(λz=>(λ_=>?_,nofun),λz=>(λz'=>?_,λz'=>?_))
    .let z:kd="one":=aaH z;dsimp only[MY];rw[ec];show(((),bg (k:=4) ()),rfl,c',r',CF,Bl (by rw[z];decide),?_);rw[<-er]
    .let z':kd="other":=aaH z';dsimp only[MY];rw[ec];show(((),bg (k:=4) ()),rfl,c',r',CF,Bl (by rw[z'];decide),?_);rw[<-er]
    .let z:kd≠"one":=abO z;let z':kd≠"other":=abO z';show(rfl,c0,rm,(c01,c06),(rl,rh,?_),rfl);have:Ε kd=false:=by unfold Ε;rw[beq_eq_false_iff_ne.mpr z,beq_eq_false_iff_ne.mpr z'];rfl
     unfold cH;rw[aa2 (by rw[this];decide)];change(iT rs:Int) * 1 * rm<=30;rw[Int.mul_one];show rp
   rintro ρ2 M2 ⟨rfl,c,rm,⟨c1,c6⟩,⟨rl,rh,rp⟩,rfl⟩;show(λz=>?_,λz=>?_)
   .let z:kd="end":=aaH z;show(first,f,(k:Int),3,DB cG sz,rfl,hf,(),(),@_,so,λxs xl hx=>c8 (gq _) ?_);show(xs,decide (b0 % 8=5),rfl,(),hx,λp pp=>(gV,-M',_,_,rfl,rfl,UC,lt,?_));rw[<-P1]at pp;let e:Dt.tup [.str kd,Ο p]=ay (.fin p):=by rw[z];rfl
    rw[e,setM (.fin p)];show eE _ _ (m,k+1,rs++[Rw.fin p],_,_,_,_,_,_,(rl,rh,by rw[rC];rw[z]at rp;rw[Int.natCast_mul];show rp),by simp,(),by simp[hl],more (.fin p) (((pp.red.pos,pp.fit),λ_ _ e=>nomatch e),λ_ e=>by cases e;show pp,λ_ _ e=>nomatch e),rfl,rfl)
   .let z:kd≠"end":=abO z;let Uc:Ε kd=true\/kd="chance":=by
     rcases Uc with hk| hk| hk
     .show .inl hk
     .show .inr hk
     .show abc hk z
    show((bg (k:=10) @_,bg (k:=10) ()),f,(k:Int),5 * c,DB cG sz,by rw[Int.natCast_mul];rfl,hf,(),(),(),so,λxs xl hx=>c8 (gq _) ?_);show(first,kd,xs,sz,decide (b0 % 8=5),c,rfl,xl,c1,c6,hx,(),(),Uc,λds dl hds=>c8 (i4 ds) ?_);rw[<-P1]at hds;show(gV,-M',_,_,rfl,rfl,UC,lt,?_);show eE _ _ (m,k+1,rs++[Rw.τ kd ds],_,_,_,_,_,_,(rl,rh,by rw[rC,Int.natCast_mul];rw[<-dl]at rp;show rp),by simp,(),by simp[hl],more (.τ kd ds) hds,setM (.τ kd ds),rfl)
  .let(n,k,rs,rm,o1,o2,o3,o4,o5,(rl,rh,rp),ex,Y9,hl,hd,rfl,rfl):=hj;let hn:n=0:=by have:=abI List.length ex;unfold dW at this;simpa using this.symm
   let e:-rs=sz:=()
   show(gV,h ε rs cG (hs,(),(),λz=>by have:=n4 z;omega,by rw[e];show hd,by have:=aaS rl (Int.natCast_nonneg (iT rs));omega))
def Ks:DF:=λas M q _=>∃γ:List Rw,as=[.lst (γ.map ay)]/\-γ<=12/\(∀r∈γ,g6 r)/\q (.lst (γ.map ay)) M
def xP:Ζ ["_law_rows"] ["_law_rows"] (υ tT):=.of rfl
def Fb(F:c_ K "_law_copy" "_law_copy" tT f fd)(E:Ev K mg w Cm):aq P w K mg base (b9 P w) 1 f fd ["_law_rows"] (cM K Ks):=by
 show F.dX xP (λds M q x h=>?_) (λbf A outer s H E' hr=>(_,(μ (Β (Gh (ys:=[]) (ae:=[]) (.of xP rfl rfl rfl) (bo (jv 0)) (λC s H fp=>(cP (Μ (jv 0) (ι (xQ (cR hr (jv 0) jM) (jv 1) (cL (qH E.gR (Μ (jv 1) θ)))) θ))))))),λds M q x h=>?_))
 .let(γ,rfl,_):=h;rfl
 .let(γ,rfl,ou,ro,h):=h;walk_at "vc";dsimp only[nU,dE];walk_at "vc";show(by rw[aac];show aaR (show _<=12 by omega) @_,?_);show qO trivial (λx=>x) _ _ (λx hx qq hq=>?_) ?_
  .let(r,fb,rfl):=aap.mp hx;let rr:=ro r fb;cases r with
   | fin p=>
    show(λ_=>?_,nofun);show(gV,hq)
   | τ k ds=>
    show(λz=>abc (aaH z) rr.1,λ_=>?_);show O5 (i4 ds) ?_;show(gV,hq)
  .rw[abB,List.map_id'];show h
def xF(cG:Bool):Int:=if cG=true then 10 ^ 36 else 12
def cF(cG:Bool):Int:=if cG=true then 10 ^ 30 else 9
def qJ{m:Nat}(hb:1<=b)(hmn:m<=n):b ^ m<=b ^ n:=by let(c,rfl):=Nat.exists_eq_add_of_le hmn;rw[Int.pow_add];let p:0 < b ^ c:=Int.pow_pos ();let q:0<=b ^ m:=ac1 ();have:=aaS (show 1<=b ^ c by omega) q;omega
def uH{p:Fr}(h:bH p=true)(p0:0 < p.2):fk p (10 ^ 30)/\p.2<=1000000:=by
 unfold bH at h;rw[aaW,aaD,aaD]at h;let h1:=h.1;have:10 ^ 30<=p.2 * 10 ^ 30:=by have:=abm (show 1<=p.2 by omega) (show(0:Int)<=10 ^ 30 by decide);omega
 unfold fk;split at h1 <;> show(((),()),h.2)
def zI.nr{p:Fr}{E:Int}(h:zI cG p)(he:p.2∣E):Nr E (cF cG) p:=by
 show(h.red,CO he,?_);cases cG with
 | true=>show(uH h.fit h.red.pos).1
 | false=>show(h.near rfl).2
def LF.fw(lf:LF ε γ cG):FW ε γ (xF cG) (cF cG):=by
 show((lf.sh,lf.EC,λr hr=>(lf.row r hr).1.1),lf.n1,λk ds hm hk=>(lf.row _ hm).1.2 k ds rfl hk,λk ds hm=>?_,λp hm=>?_,?_,?_,?_)
 .let pp:=(lf.row _ hm).2.2 k ds rfl;cases cG with
  | true=>
   let l6:-ds<=6:=(dq (ε:=ε) (γ:=γ) (lf.sh,lf.EC,λr hr=>(lf.row r hr).1.1) hm).l6;let all:∀a∈ds.map (·.2.1.2),0 < a/\a<=1000000:=λa ha=>by let(d,hd,rfl):=aap.mp ha;show((pp d hd).red.pos,(uH (pp d hd).fit (pp d hd).red.pos).2)
   show(rN (ds.map (·.2.1.2)),um λa ha=>(all a ha).1,?_,λd hd=>(pp d hd).nr (B9 (aap.mpr (d,hd,rfl))));have:=Ge all;rw[aac]at this;show acG this ?_;show acG (qJ @_ l6) @_
  | false=>show(12,@_,@_,λd hd=>(pp d hd).nr ((pp d hd).near rfl).1)
 .let pp:=(lf.row _ hm).2.1 p rfl;cases cG with
  | true=>show(p.2,pp.red.pos,acG (uH pp.fit pp.red.pos).2 @_,pp.nr (Int.dvd_refl _))
  | false=>show(12,@_,@_,pp.nr (pp.near rfl).1)
 .cases cG <;> decide
 .cases cG <;> decide
 .cases cG <;> decide
def LF.sz(lf:LF ε γ cG):lq (xF cG) (cF cG)<=2 ^ 450/\(12 * lq (xF cG) (cF cG)) ^ (-γ) < 2 ^ 1030:=by
 cases cG with
 | true=>show(@_,abl (qJ @_ (lf.n4 rfl)) @_)
 | false=>show(@_,abl (qJ @_ lf.EC) @_)
def Qn(γ:List Rw)(hand:Str)(n:Nat):List (Int×Nat):=((List.range n).filter λi=>decide (bR γ i=hand)).map λi:Nat=>((i:Int), -(Ξ (fF γ i)))
def OP(h:bR γ n=hand):Qn γ hand (n+1)=Qn γ hand n++[((n:Int), -(Ξ (fF γ n)))]:=by unfold Qn;rw[adg,List.filter_append,acR (by rw[h];show aaT rfl),abw];rfl
def TR(h:bR γ n≠hand):Qn γ hand (n+1)=Qn γ hand n:=by unfold Qn;rw[adg,List.filter_append,acS (by rw[aa4 h];decide)];rw[List.filter_nil,abU]
def wN{k v:Int}{c:Nat}:∀{kc:List (Int×Nat)} {p:Pl},aa kc p->0<=v->v < (c:Int)->aa (kc++[(k, c)]) (p++[(k, v)])
 | [],[],_,h0,h1=>(rfl,h0,h1,trivial)
 | (_, _)::_,(_, _)::_,(e,a,b,h),h0,h1=>(e,a,b,wN h h0 h1)
 | [],_::_,h,_,_=>h.elim
 | _::_,[],h,_,_=>h.elim
def OF(f:aa (Qn γ hand n) p):cK p n v=p++[((n:Int), v)]:=by unfold cK;rw[aa2];intro q;let(u,e):=acz.mp q;let(c,hc,_):=sX f e;let(i,hi,e):=aap.mp hc;let e:(i:Int)=(n:Int):=abI (·.1) e;have:=abS.mp (adx.mp hi).1;omega
structure Le(γ:List Rw)(hand:Str)(p:Pl):Prop where
 nd:sI p
 len:-p<=12
 has:∀(i:Nat) (r:Rw),γ[i]? =!r->kindOf r=hand->∃j:Nat,Λ p i=!(j:Int)/\j < -(Ξ r)
 only:∀(i v:Int),Λ p i=!v->∃(j:Nat) (r:Rw),i=(j:Int)/\γ[j]? =!r/\kindOf r=hand
 fit:aa (eF γ hand) p
structure nq(γ:List Rw)(hand:Str)(n:Nat)(p:Pl):Prop where
 nd:sI p
 len:-p<=n
 has:∀(i:Nat) (r:Rw),i < n->γ[i]? =!r->kindOf r=hand->∃j:Nat,Λ p i=!(j:Int)/\j < -(Ξ r)
 only:∀(i v:Int),Λ p i=!v->∃(j:Nat) (r:Rw),i=(j:Int)/\γ[j]? =!r/\kindOf r=hand
 fit:aa (Qn γ hand n) p
def yK{i:Int}(h:-p<=n):-(cK p i v)<=n+1:=by
 unfold cK;split
 .rw[aac];omega
 .rw[aaj];show Nat.succ_le_succ h
set_option tactic.hygienic true in
def nq.put(h:nq γ hand n p)(hi:γ[n]? =!r)(hk:kindOf r=hand)(hj:j < -(Ξ r)):nq γ hand (n+1) (cK p n (j:Int)):=by
 show(Na h.nd,yK h.len,λi r' il v7 rO=>?_,λi v hg=>?_,?_)
 .rw[pO];by_cases e:i=n
  .subst e;rw[hi]at v7;cases v7;show(j,by rw[aa1 rfl],hj)
  .rw[aa2 ()];show h.has i r' () v7 rO
 .rw[pO]at hg;split at hg
  .rename_i e;show(n,r,e,hi,hk)
  .show h.only i v hg
 .rw[OP (by unfold bR;rw[hi];show hk),OF h.fit];show wN h.fit () (by rw[i5 hi];omega)
def nq.skip(h:nq γ hand n p)(hi:γ[n]? =!r)(hk:kindOf r≠hand):nq γ hand (n+1) p:=by
 show(h.nd,Nat.le_succ_of_le h.len,λi r' il v7 rO=>?_,h.only,by rw[TR (by unfold bR;rw[hi];show hk)];show h.fit);by_cases e:i=n
 .subst e;rw[hi]at v7;cases v7;show abc rO hk
 .show h.has i r' () v7 rO
def iX{q:DQ}(h:q (.str (kindOf r)) M):bF (ay r) (.int 0) M q:=by let(e,er):=D3 (r:=r);rw[er];show Δ (xs:=[.str (kindOf r),e]) rfl aw h
def tJ(hi:γ[i]? =!r){q:DQ}(h:q (ay r) M):bF (.lst (γ.map ay)) (.int (i:Int)) M q:=Δ (xs:=γ.map ay) rfl (Θ (pk hi)) h
def E9:DF:=λas M q _=>∃(ns:List Int) (γ:List Rw) (hand:Str) (at':Int),as=[.jC ns,.lst (γ.map ay),.str hand,.int at']/\-ns<=63/\0<=at'/\at'<=100/\-γ<=12/\Ε hand=true/\(∀k ds,Rw.τ k ds∈γ->1<=-ds/\-ds<=6)/\∀p,Le γ hand p->q (.loc (-M)) (M++[dP p])
def fj:Ζ ["_law_script","_law_rows","_law_hand","_law_at_here","_law_plan_here","_law_number","_law_digits","_law_xs","_law_k","_law_count"] ["_law_script","_law_rows","_law_hand","_law_at_here"] (υ vm):=.of rfl
def Eo(F:c_ K "_law_plan" "_law_plan" vm f fd)(E:Ev K mg w Cm)(cE:av P w K mg base 1 "_law_at" ["_law_script","_law_k"] X8 tm tO)(aE:av P w K mg base 1 "_law_by_digits" ["_law_number"] KR cX cY)(fi:av P w K mg base 1 "_law_stream" ["_law_number","_law_many"] zT nI nZ):aq P w K mg base (b9 P w) 2 f fd ["_law_script","_law_rows","_law_hand","_law_at_here"] (cM K E9):=by
 show F.dX fj (λds M q x h=>?_) (λbf A outer s H E' hr=>(_,(ζ (ψ 4 fj.nd zU)
   (ζ (ψ 5 fj.nd (Φ cE hr ξ (Μ (jv 0) (Μ (jv 3) θ))))
   (ζ (ψ 6 fj.nd (Φ aE hr ξ (Μ (jv 5) θ)))
   (ζ (ψ 7 fj.nd (cL (Φ fi hr ξ (Μ (jv 5) (ι (bQ E.bu (Μ (jv 1) θ)) θ aU)))))
   (ζ (gS (cn E.bX (ι (bQ E.bu (Μ (jv 1) θ)) θ aU)) (Ω (i:=8) fj.nd rfl (Or.inl rfl)) aH (μ (ai (cR hr (ω (ω (jv 1) (jv 8)) ν) (jv 2)) (ζ (ψ 9 fj.nd (bQ E.bu (ι (ω (ω (jv 1) (jv 8)) ν) θ aL)))
   (ζ (fB (iU hr (jv 4) (jv 8) (bI (xQ (aK (jv 6)) (jv 5) (ω (jv 7) (jv 8))) (jv 9))))
   (μ (ψ 5 fj.nd (kY (jv 5) (jv 9)))))) Ν)))
   (μ (Β (jv 4)))))))),λds M q x h=>?_))
 .let(ns,γ,hand,at',rfl,_):=h;rfl
 .let(ns,γ,hand,at',rfl,nl,a0,a1,ou,hh,hdr,h):=h;show(ns,at',rfl,nl,a0,(),fun n0 (Yw,_)=>(n0,rfl,λdg=>?_));walk_at "vc";show(ag (d:=.lst (γ.map ay)) (xs:=γ.map ay) rfl ?_:e9 [.lst (γ.map ay)] _ _);rw[aac];show(n0,-γ,rfl,rj Yw,(),λxs xl hx=>c8 (gq _) ?_);show(ag (d:=.lst (γ.map ay)) (xs:=γ.map ay) rfl ?_:e9 [.lst (γ.map ay)] _ _);rw[aac];show((),?_);rw[show((-γ:Int)).toNat=-γ by omega];show cJ (λzs ρ' M'=>∃(i m:Nat) (p:Pl) (n:Int) (o8 o9:Option Dt),zs=dW (i:Int) m/\i+m=-γ/\nq γ hand i p/\Nm n/\M'=M++[dP p]/\ρ'=[!(.jC ns),!(.lst (γ.map ay)),!(.str hand),!(.int at'),!(.loc (-M)),!(.int n),!(.bl dg),!(.lst (xs.map Dt.int)),o8,o9]) (λx zs ρ' M' hj eE=>?_) (λρ' M' hj=>?_) _ _ _ (0,-γ,[],n0,none,none,rfl,(),(List.nodup_nil,aas _,λi r il=>abc il (acO _),λi v hg=>(nomatch hg),trivial),Yw,rfl,rfl)
  .let(i,m,p,n,o8,o9,ex,im,pt,hn,rfl,rfl):=hj;let(m',rfl,rfl,rfl):=b8 ex;let il:i < -γ:=()
   let hi:γ[i]? =!γ[i]:=aaa il;generalize hr0:γ[i]=r at *
   let rm:r∈γ:=aao hi;walk_at "vc";show tJ hi (iX ?_);show(λz=>?_,λz=>?_)
   .let z:kindOf r=hand:=aaH z;cases r with
    | fin p=>show abc (z▸hh) (by change¬Ε (Str.ofString "end")=true;decide)
    | τ k ds=>
     let(d1,d6):=hdr k ds rm;show tJ hi (AV ?_);show(ag (d:=.lst (ds.map fh)) (xs:=ds.map fh) rfl ?_:e9 [.lst (ds.map fh)] _ _);rw[aac];let d0:(0:Int) < -ds:=()
     let put:∀v:Int,∃j:Nat,v % (-ds:Int)=(j:Int)/\j < -ds:=λv=>by let v0:=abW v (show(-ds:Int)≠0 by omega);let v1:=abN v d0;show((v % (-ds:Int)).toNat,(),())
     let fin:∀v:Int,∃k ks pT key,Dt.loc (-M)= .loc k/\(M++[dP p])[k]? =!(.cZ ks pT)/\yV (.int (i:Int))=!key/\-ks < 1000/\(∃j:Nat,j < -ds/\(M++[dP p]).set k (.cZ (g7 ks key) (fG ks key pT (.int (v % (-ds:Int)))))=M++[dP (cK p i (j:Int))]):=λv=>by let(j,e,jl):=put v;show(-M,_,_,Sum.inl (i:Int),rfl,aB,rfl,by unfold kP;rw[List.length_map];have:=pt.len;omega,j,jl,?_);rw[e,rD (v:=(j:Int)),vA,d8]
     show⟨λρ M2=>∃j:Nat,j < -ds/\M2=M++[dP (cK p i (j:Int))]/\ρ=[!(.jC ns),!(.lst (γ.map ay)),!(.str hand),!(.int at'),!(.loc (-M)),!(.int n),!(.bl dg),!(.lst (xs.map Dt.int)),!(.int (i:Int)),!(.int (-ds:Int))],(λ_=>?_,λ_=>?_),?_⟩
     .show(d0,?_);let(k',ks,pT,key,f1,f2,f3,f4,j,jl,f5):=fin n;show(k',ks,pT,key,f1,f2,f3,f4,j,jl,f5,rfl)
     .let kx:i < -xs:=()
      walk_at "vc";show(Δ (d:=.lst (xs.map Dt.int)) rfl (gW kx) ?_:bF (.lst (xs.map Dt.int)) (.int (i:Int)) _ _);show(d0,?_);let(k',ks,pT,key,f1,f2,f3,f4,j,jl,f5):=fin xs[i];show(k',ks,pT,key,f1,f2,f3,f4,j,jl,f5,rfl)
     .rintro ρ2 M2 ⟨j,jl,rfl,rfl⟩;show((d0,bg (k:=10) ()),?_);show eE _ _ (i+1,m',_,_,_,_,by rw[acF];rfl,(),pt.put hi z jl,DY hn d0,rfl,rfl)
   .let z:kindOf r≠hand:=abO z;show eE _ _ (i+1,m',p,n,_,_,by rw[acF];rfl,(),pt.skip hi z,hn,rfl,rfl)
  .let(i,m,p,n,o8,o9,ex,im,pt,hn,rfl,rfl):=hj;let m0:m=0:=by have:=abI List.length ex;rw[gP]at this;show this.symm
   let e:i=-γ:=()
   subst e;show h p (pt.nd,aaR pt.len ou,λi r hi hk=>pt.has i r (aae.mp hi).1 hi hk,pt.only,pt.fit)
structure qw(p p':Pl)(n:Nat):Prop where
 nd:sI p'
 len:-p'<=n
 same:∀(i v:Int),Λ p i=!v->Λ p' i=!v
def qw.put{i:Int}(h:qw p p' n)(hi:Λ p i=none):qw p (cK p' i v) (n+1):=(Na h.nd,yK h.len,λj x hj=>by
 rw[pO,aa2 λz=>by rw[z,hi]at hj;cases hj]
 show h.same j x hj)
def OR(i:Int):rM (V.int i) (V.int i)=true:=by unfold rM;simp
def CT{l:List Nat}{f:Nat->Bool}(h:∀j,f j=true):l.all f=true:=acy.mpr λj _=>h j
def OG(i:Int):zM M n (.int i) (.int i) true:=by have:=zM.flat (M:=M) (n:=n) (d:=.int i) (e:=.int i) rfl rfl;rwa[OR]at this
def PB{ds:List Dt}(h:∀d∈ds,zM M n d d true):zM M (n+1) (.tup ds) (.tup ds) true:=by
 have:=zM.tup (M:=M) (n:=n) (ds:=ds) (es:=ds) (f:=λ_=>true) λj d e h1 h2=>by rw[h1]at h2;cases h2;show h d (aao h1)
 rwa[CT λ_=>rfl,beq_self_eq_true]at this
def Ol{d:Dt}{ds:List Dt}(h1:lK M d=!ds)(h2:lK M e=!ds)(h:∀d∈ds,zM M n d d true):zM M (n+1) d e true:=by
 have:=zM.lst (M:=M) (n:=n) (d:=d) (e:=e) (f:=λ_=>true) h1 h2 rfl λj d e h1 h2=>by rw[h1]at h2;cases h2;show h d (aao h1)
 rwa[CT λ_=>rfl]at this
def Si(p:Fr):zM M (n+1) (Ο p) (Ο p) true:=PB λd hd=>by let hd:d∈[Dt.int p.1,Dt.int p.2]:=hd;simp only[List.mem_cons,List.not_mem_nil,or_false]at hd;rcases hd with rfl| rfl <;> show OG _
def yo{d:Dt}(h1:lK M d=!(tb.map Ο))(h2:lK M e=!(tb.map Ο)):zM M (n+2) d e true:=Ol h1 h2 λd hd=>by let(p,_,rfl):=aap.mp hd;show Si p
def Qc{p:Fr}{k:Bool->Ms->Prop}(h:k false M):N9 (Ο p) (Ο p) M (λd M1=>match d with| .bl b=>k b M1| _=>False):=by change k (! pD [.int p.1,.int p.2] [.int p.1,.int p.2]) M;rw[Vl,aaT rfl];show h
def pQ{k:Nat}(h:M[k]? =!(MO.lst xs)):rZ M (.loc k)=!(xs, λM'=>M'[k]? =!(MO.lst xs)):=by change(match M[k]? with| some (MO.lst xs)=>!(xs, λM':Ms=>M'[k]? =!(MO.lst xs))| _=>none)=_;rw[h]
def zN:DF:=λas M q _=>∃i:Int,as=[.int i]/\q (.bl true) M
def C8:Ζ ["_law_number"] ["_law_number"] (υ rA):=.of rfl
def AL(F:c_ K "_law_whole" "_law_whole" rA f fd)(E:Ev K mg w Cm):aq P w K mg base (b9 P w) 1 f fd ["_law_number"] (cM K zN):=by
 show F.dX C8 (λds M q x h=>?_) (λbf A outer s H E' hr=>(_,(μ (Β (fV (oM K E.bj (Μ (jv 0) (Μ (Bp E.xc xg) θ))) (jr (RJ (oM K E.bj (Μ (jv 0) (Μ (Bp E.Ac DJ) θ)))))))),λds M q x h=>?_))
 .let(i,rfl,_):=h;rfl
 .let(i,rfl,h):=h;show(_,_,_,_,true,rfl,rfl,rfl,ot,λ_=>?_,nofun);show(_,_,_,_,false,rfl,rfl,rfl,E.ib,h)
structure UW(M:Ms)(d:Dt)(tb:List Fr)(ok:Ms->Prop):Prop where
 kind:Gd M d=!(.type "list")
 seq:fX M d=!(tb.map Ο)
 it:rZ M d=!(tb.map Ο, ok)
 ok:ok M
def Cf(h:M[kt]? =!(.lst (tb.map Ο))):UW M (.loc kt) tb (λM'=>M'[kt]? =!(MO.lst (tb.map Ο))):=(wQ (cU h),iH h,pQ h,h)
def J':DF:=λas M q _=>∃(d:Dt) (tb:List Fr) (n:Nat) (ok:Ms->Prop),as=[d,.int (n:Nat)]/\UW M d tb ok/\BP tb n/\q (.bl true) M
def tK:Ζ ["_law_table_here","_law_many","_law_one"] ["_law_table_here","_law_many"] (υ pZ):=.of rfl
def Bb(F:c_ K "_law_table" "_law_table" pZ f fd)(E:Ev K mg w Cm)(dZ:av P w K mg base 1 "_law_whole" ["_law_number"] zN qm qx)(a_:av P w K mg base 1 "_law_lowest" ["_law_top","_law_bottom"] Kw eV e6):aq P w K mg base (b9 P w) 2 f fd ["_law_table_here","_law_many"] (cM K J'):=by
 show F.dX tK (λds M q x h=>?_) (λbf A outer s H E' hr=>(_,(ζ (ai (JW.jt (dJ (bM (aK (oM K E.bj (Μ (jv 0) (Μ (Bp E.gR kM) θ))))) (eD (j3 hr (bQ E.bu (Μ (jv 0) θ)) (jv 1))))) (μ (Β vc)) Ν)
   (ζ (ck (bo (jv 0)) (Ω (i:=2) tK.nd rfl (Or.inl rfl)) aH (ζ (ai (JW.jt (dJ (bM (aK (oM K E.bj (Μ (jv 2) (Μ (Bp E.mG mn) θ))))) (dJ (j3 hr (bQ E.bu (Μ (jv 2) θ)) ν) (dJ (bM (aK (Φ dZ hr ξ (ι (ω (jv 2) ν) θ aL)))) (eD (bM (aK (Φ dZ hr ξ (ι (ω (jv 2) ν) θ aL))))))))) (μ (Β vc)) Ν)
   (μ (ai (JW.jt (dJ (tq (ω (jv 2) ν) ν) (eD (j3 hr (Φ a_ hr ξ (ι (ω (jv 2) ν) (ι (ω (jv 2) ν) θ aL) aL)) (jv 2))))) (μ (Β vc)) Ν))))
   (μ (Β vc)))),λds M q x h=>?_))
 .let(d,tb,n,ok,rfl,_):=h;rfl
 .let(d,tb,n,ok,rfl,hk,tk,h):=h;let KP:=hk.kind;walk_at "vc";show(_,_,_,_,true,rfl,KP,rfl,ot,nofun,λ_=>?_);show(ag (d:=d) hk.seq ?_:e9 [d] _ _);rw[aac,tk.len];show(λz=>?_,λ_=>?_)
  .let z:(! decide ((n:Int)=(n:Int)))=true:=z;rw[aaT rfl]at z;show nomatch z
  dsimp only[k4,dE];walk_at "vc";rw[show(List.map some [d,Dt.int (n:Int)]++[none])[0]? =!(!d) from rfl];dsimp only;rw[hk.it];show bz (λzs ρ' M'=>M=M'/\∃(rest:List Fr) (o2:Option Dt),zs=rest.map Ο/\(∀p∈rest,p∈tb)/\ρ'=[!d,!(.int (n:Int)),o2]) (λzs ρ' M' hj=>by let(rfl,_):=hj;show hk.ok) (λx zs ρ' M' hj eE=>?_) (λρ' M' hj=>?_) _ _ _ (rfl,tb,none,rfl,λ_ h=>h,rfl)
  .let(rfl,rest,o2,ex,fb,rfl):=hj;cases rest with
   | nil=>cases ex
   | cons p rest=>
    cases ex;let pm:=fb p aaf;let rp:=tk.red p pm;let(s1,s2):=tk.sz p pm;walk_at "vc";show(_,_,_,_,true,rfl,rfl,rfl,ot,nofun,λ_=>?_);show(ag (d:=Ο p) (xs:=[.int p.1,.int p.2]) rfl ?_:e9 [Ο p] _ _);show(nofun,λ_=>?_);show(kU ?_:bF (Ο p) (.int 0) _ _);show(p.1,rfl,nofun,λ_=>?_);show(ix ?_:bF (Ο p) (.int 1) _ _);show(p.2,rfl,nofun,λ_=>?_);show(ix ?_:bF (Ο p) (.int 1) _ _);show(λz=>?_,λ_=>?_)
    .let z:p.2 < 1:=aaH z;have:=rp.pos;omega
    show(kU ?_:bF (Ο p) (.int 0) _ _);show(ix ?_:bF (Ο p) (.int 1) _ _);show(p.1,p.2,rfl,rp.pos,se (k:=1030) (aav rp.pos) s1 @_,?_);rw[xN rp.pos rp.low];show Qc ?_;show(nofun,λ_=>eE _ _ (rfl,rest,_,rfl,λy hy=>fb y (aah _ hy),rfl))
  .let(rfl,rest,o2,ex,fb,rfl):=hj;show h
def wO:List Nat->Nat
 | []=>1
 | a::l=>a * wO l
def FZ{G:Nat->Nat}{g:Nat->Int×Nat}{Q:Nat->Bool}:∀{l:List Nat},(∀i∈l,1<=G i/\(Q i=true->(g i).2<=G i))->-(lB ((l.filter Q).map g))<=wO (l.map G)
 | [],_=>aas _
 | i::l,h=>by
  let ih:=FZ (l:=l) λj hj=>h j (aah _ hj);let(h1,h2):=h i aaf;change _<=G i * wO (l.map G);cases hQ:Q i with
  | false=>
   rw[acS (by rw[hQ];decide)];show aaR ih (by have:=Nat.mul_le_mul_right (wO (l.map G)) h1;omega)
  | true=>
   rw[acR hQ,aaX];let e:∀(ms:List Nat) (k:Int) (r:List Pl),-(ms.flatMap λj:Nat=>r.map λp=>(k, (j:Int))::p)=-ms * -r:=λms k r=>by
    induction ms with
    | nil=>rw[List.length_nil,Nat.zero_mul];rfl
    | cons a ms ih=>rw[List.flatMap_cons,aaj,aac,ih,aaQ,Nat.succ_mul,Nat.add_comm]
   change((List.range (g i).2).flatMap λj:Nat=>(lB ((l.filter Q).map g)).map λp=>((g i).1, (j:Int))::p).length<=_;rw[e,abP];show Nat.mul_le_mul (h2 hQ) ih
def Gf:∀γ:List Rw,wO (γ.map λr=>cH (kindOf r) (-(Ξ r)))=iT γ
 | []=>rfl
 | r::rs=>by change _ * wO (rs.map _)=_ * iT rs;rw[Gf rs]
section
variable{p1 p2 q1 q2:Pl}
def MD(fw:FW ε γ X C)(hh:Ε hand=true):-(lB (eF γ hand))<=iT γ:=by
 let e:(List.range (-γ)).map (λi=>cH (kindOf (fF γ i)) (-(Ξ (fF γ i))))=γ.map λr=>cH (kindOf r) (-(Ξ r)):=by
  show adF λi=>?_;rw[aaw,aaw];by_cases il:i < -γ
  .rw[aby il,aaa il];change (!(cH (kindOf (fF γ i)) (-(Ξ (fF γ i)))))=!(cH (kindOf γ[i]) (-(Ξ γ[i])));rw[i5 (aaa il)]
  .rw[acN (by rw[abP];omega),acN ()];rfl
 rw[<-Gf,<-e];show FZ λi hi=>?_;let il:=abS.mp hi;let hi:γ[i]? =!γ[i]:=aaa il;rw[i5 hi];generalize γ[i]=r at *
 let one:1<=cH (kindOf r) (-(Ξ r)):=by
  unfold cH;cases r with
  | fin q=>show aas _
  | τ k ds=>
   split
   .show(dq fw.pl (aao hi)).l1
   .show aas _
 show(one,λz=>?_);let z:bR γ i=hand:=aaH z;unfold bR at z;rw[hi]at z;let z:kindOf r=hand:=z;change(Ξ r).length<=cH (kindOf r) (-(Ξ r));unfold cH;rw[z,aa1 hh];show aas _
end
def k7(ε:Fr)(tb:List Fr)(d:bW):Fr:=(d.2.1.1 * ε.2 * (tb.getD d.1.toNat (0, 1)).2+ε.1 * (tb.getD d.1.toNat (0, 1)).1 * d.2.1.2, d.2.1.2 * ε.2 * (tb.getD d.1.toNat (0, 1)).2)
def Fc(h1:0 < ε.2)(h2:0 < d.2.1.2)(h3:0 < (tb.getD d.1.toNat (0, 1)).2):val (k7 ε tb d)=val d.2.1+val ε * val (tb.getD d.1.toNat (0, 1))/\0 < (k7 ε tb d).2:=by
 show(?_,abo (abo h2 h1) h3);let a:=aM (show ε.2≠0 by omega);let b:=aM (show d.2.1.2≠0 by omega);let c:=aM (show(tb.getD d.1.toNat (0, 1)).2≠0 by omega);unfold k7 val;simp only[Rat.intCast_add,Rat.intCast_mul];generalize (d.2.1.1:Rat)=x1 at *
 generalize (d.2.1.2:Rat)=x2 at *
 generalize (ε.1:Rat)=y1 at *
 generalize (ε.2:Rat)=y2 at *
 generalize ((tb.getD d.1.toNat (0, 1)).1:Rat)=z1 at *
 generalize ((tb.getD d.1.toNat (0, 1)).2:Rat)=z2 at *
 grind
def cc{k:Nat}(h1:a.natAbs < 2 ^ j)(h2:b.natAbs < 2 ^ k):(a * b).natAbs < 2 ^ (j+k):=by rw[acb];show cC h1 h2
def FG(h1:a.natAbs < 2 ^ j)(h2:b.natAbs < 2 ^ j):(a+b).natAbs < 2 ^ (j+1):=by have:=Int.natAbs_add_le a b;rw[Nat.pow_succ];omega
def iJ{k:Nat}(h:a.natAbs < 2 ^ j)(l:j<=k):a.natAbs < 2 ^ k:=aaV h (ac4 @_ l)
structure ZW(ε:Fr)(n:Nat)(d:bW):Prop where
 to:0<=d.1/\d.1 < n
 p1:d.2.1.1.natAbs < 2 ^ 101
 p2:0 < d.2.1.2/\d.2.1.2.natAbs < 2 ^ 20
 s1:ε.1.natAbs < 2 ^ 10
 s2:0 < ε.2/\ε.2.natAbs < 2 ^ 10
def AR(tk:BP tb n){t:Int}(h:0<=t/\t < n):Red (tb.getD t.toNat (0, 1))/\(tb.getD t.toNat (0, 1)).2.natAbs < 2 ^ 1030/\(tb.getD t.toNat (0, 1)).1.natAbs < 2 ^ 1150/\ku (tb.map Ο) t=!(Ο (tb.getD t.toNat (0, 1))):=by
 let hl:t.toNat < -tb:=by rw[tk.len];omega
 let m:=Hb hl;let(s1,s2):=tk.sz _ m;let r:=tk.red _ m;show(r,?_,s2,?_)
 .have:((tb.getD t.toNat (0, 1)).2.natAbs:Int) < ((2 ^ 1030:Nat):Int):=by rw[ach (aav r.pos),Int.natCast_pow];show s1
  show acT.mp this
 .have:=QY hl;rw[show((t.toNat:Nat):Int)=t by omega]at this;rw[this,aab,aaa hl];rfl
def FR(tk:BP tb n)(dl:ZW ε n d):(k7 ε tb d).1.natAbs < 2 ^ 1181/\(k7 ε tb d).2.natAbs < 2 ^ 1060:=by let(r,b2,b1,_):=AR tk dl.to;let a:=cc (cc dl.p1 dl.s2.2) b2;let b:=cc (cc dl.s1 b1) dl.p2.2;let c:=cc (cc dl.p2.2 dl.s2.2) b2;show(FG (j:=1180) (iJ a @_) (iJ b @_),iJ c @_)
def Uo(Ι s c:Fr):Fr:=(Ι.1 * (s.2 * c.2)+s.1 * c.1 * Ι.2, Ι.2 * (s.2 * c.2))
theorem R7{Ι s c:Fr}(h1:0 < Ι.2)(h2:0 < s.2)(h3:0 < c.2):val (Uo Ι s c)=val Ι+val c * val s/\0 < (Uo Ι s c).2:=by
 show(?_,abo h1 (abo h2 h3));let a:=aM (show Ι.2≠0 by omega);let b:=aM (show s.2≠0 by omega);let d:=aM (show c.2≠0 by omega);unfold Uo val;simp only[Rat.intCast_add,Rat.intCast_mul];generalize (Ι.1:Rat)=x1 at *
 generalize (Ι.2:Rat)=x2 at *
 generalize (s.1:Rat)=y1 at *
 generalize (s.2:Rat)=y2 at *
 generalize (c.1:Rat)=z1 at *
 generalize (c.2:Rat)=z2 at *
 grind
structure Fp(k:Nat)(v:Rat)(Ι:Fr):Prop where
 pos:0 < Ι.2
 val:val Ι=v
 t:Ι.1.natAbs < 2 ^ (1202+1081 * k)
 b:Ι.2.natAbs < 2 ^ (1080 * k+1)
def Fp.step{k:Nat}{v:Rat}{Ι s c:Fr}(h:Fp k v Ι)(s0:0 < s.2)(c0:0 < c.2)(s1:s.1.natAbs < 2 ^ 1181)(s2:s.2.natAbs < 2 ^ 1060)(c1:c.1.natAbs < 2 ^ 20)(c2:c.2.natAbs < 2 ^ 20):Fp (k+1) (v+Pg.val c * Pg.val s) (Uo Ι s c):=by
 let(e,p):=R7 h.pos s0 c0;show(p,by rw[e,h.val],?_,?_)
 .let a:=cc h.t (cc s2 c2);let b:=cc (cc s1 c1) h.b;show iJ (FG (j:=1202+1081 * k+1080) (iJ a ()) (iJ b ())) ()
 .show iJ (cc h.b (cc s2 c2)) ()
def Ci(f:bW->Rat):∀(l r:List bW),aA f (l++r)=aA f l+aA f r
 | [],r=>by change aA f r=0+aA f r;grind
 | d::l,r=>by change f d+aA f (l++r)=f d+aA f l+aA f r;rw[Ci f l r];grind
def WY:DF:=λas M q _=>∃(ε:Fr) (d:bW) (tb:List Fr) (n kt:Nat),as=[Ο ε,fh d,.loc kt]/\M[kt]? =!(.lst (tb.map Ο))/\BP tb n/\ZW ε n d/\q (Ο (k7 ε tb d)) M
def oK:Ζ ["_law_share","_law_door","_law_table_here","_law_number","_law_top"] ["_law_share","_law_door","_law_table_here"] (υ qA):=.of rfl
def AN(F:c_ K "_law_shown" "_law_shown" qA f fd)(E:Ev K mg w Cm):aq P w K mg base (b9 P w) 1 f fd ["_law_share","_law_door","_law_table_here"] (cM K WY):=by
 show F.dX oK (λds M q x h=>?_) (λbf A outer s H E' hr=>(_,(ζ (ψ 3 oK.nd (ω (jv 2) (ω (jv 1) ν)))
   (ζ (ψ 4 oK.nd (bY (ax (ax (ω (ω (jv 1) ν) ν) (ω (jv 0) ν)) (ω (jv 3) ν)) (ax (ax (ω (jv 0) ν) (ω (jv 3) ν)) (ω (ω (jv 1) ν) ν))))
   (μ (Β (cP (Μ (jv 4) (ι (ax (ax (ω (ω (jv 1) ν) ν) (ω (jv 0) ν)) (ω (jv 3) ν)) θ bO))))))),λds M q x h=>?_))
 .let(ε,d,tb,n,kt,rfl,_):=h;rfl
 .let(ε,d,tb,n,kt,rfl,hk,tk,dl,h):=h;let(r,b2,b1,at_):=AR tk dl.to;let h:q (Ο (d.2.1.1 * ε.2 * (tb.getD d.1.toNat (0, 1)).2+ε.1 * (tb.getD d.1.toNat (0, 1)).1 * d.2.1.2, d.2.1.2 * ε.2 * (tb.getD d.1.toNat (0, 1)).2)) M:=h;generalize tb.getD d.1.toNat (0, 1)=t at *
  walk_at "vc";show GF ?_;show(Δ (d:=.loc kt) (iH hk) at_ ?_:bF (.loc kt) (.int d.1) _ _);show A2 (kU ?_);show(ix ?_:bF (Ο ε) (.int 1) _ _);show((bg dl.p1,bg dl.s2.2),?_);show(ix ?_:bF (Ο t) (.int 1) _ _);show((bg (cc dl.p1 dl.s2.2),bg b2),?_);show(kU ?_:bF (Ο ε) (.int 0) _ _);show(kU ?_:bF (Ο t) (.int 0) _ _);show((bg dl.s1,bg b1),?_);show A2 (ix ?_);show((bg (cc dl.s1 b1),bg dl.p2.2),?_);dsimp only[sD];show A2 (ix ?_);show(ix ?_:bF (Ο ε) (.int 1) _ _);show((bg dl.p2.2,bg dl.s2.2),?_);show(ix ?_:bF (Ο t) (.int 1) _ _);show((bg (cc dl.p2.2 dl.s2.2),bg b2),gV,h)
structure RwL(ε:Fr)(n:Nat)(r:Rw)(dd:Dt):Prop where
 ds:∀k ds,r= .τ k ds->-ds<=6/\k≠"end"/\(∀d∈ds,ZW ε n d)/\(k="chance"->∀d∈ds,d.2.2=[χ d]/\0 < (χ d).2/\(χ d).1.natAbs < 2 ^ 20/\(χ d).2.natAbs < 2 ^ 20)/\(k≠"chance"->Ε k=true/\0 < -ds/\(dd= .bt\/∃j:Nat,dd= .int (j:Int)/\j < -ds))
def Q9:DF:=λas M q _=>∃(ε:Fr) (r:Rw) (tb:List Fr) (n kt:Nat) (dd:Dt),as=[Ο ε,ay r,.loc kt,dd]/\M[kt]? =!(.lst (tb.map Ο))/\BP tb n/\RwL ε n r dd/\0 < ε.2/\(∀p,r= .fin p->q (Ο p) M)/\(∀ds,r= .τ "chance" ds->∀f,0 < f.2->fe f.1->fe f.2->val f=aA (λd=>cV d * (val d.2.1+val ε * val (tb.getD d.1.toNat (0, 1)))) ds->q (Ο f) M)/\
 (∀k ds (j:Nat) d,r= .τ k ds->k≠"chance"->dd= .int (j:Int)->ds[j]? =!d->q (Ο (k7 ε tb d)) M)/\
 (∀k ds,r= .τ k ds->Ε k=true->dd= .bt->∀f,0 < f.2->fe f.1->fe f.2->(∃d∈ds,val f=val d.2.1+val ε * val (tb.getD d.1.toNat (0, 1)))->(∀d∈ds,ij k * (val d.2.1+val ε * val (tb.getD d.1.toNat (0, 1)))<=ij k * val f)->q (Ο f) M)
def Mf:DF:=λas M q _=>∃(u v:Fr),as=[Ο u,Ο v]/\(fe u.1/\fe u.2/\fe v.1/\fe v.2)/\q (.bl (dz u v)) M
def ID:Ζ ["_law_one","_law_two"] ["_law_one","_law_two"] (υ uK):=.of rfl
def Eb(F:c_ K "_law_less" "_law_less" uK f fd)(E:Ev K mg w Cm):aq P w K mg base (b9 P w) 1 f fd ["_law_one","_law_two"] (cM K Mf):=by
 show F.dX ID (λds M q x h=>?_) (λbf A outer s H E' hr=>(_,(μ (Β (JO (ax (ω (jv 0) ν) (ω (jv 1) ν)) (ax (ω (jv 1) ν) (ω (jv 0) ν))))),λds M q x h=>?_))
 .let(u,v,rfl,_):=h;rfl
 .let(u,v,rfl,(a1,a2,b1,b2),h):=h;walk_at "vc";show(kU ?_:bF (Ο u) (.int 0) _ _);show(ix ?_:bF (Ο v) (.int 1) _ _);show((a1,b2),?_);show(kU ?_:bF (Ο v) (.int 0) _ _);show(ix ?_:bF (Ο u) (.int 1) _ _);show((b1,a2),h)
def dt:Ζ ["_law_share","_law_row","_law_table_here","_law_door","_law_some","_law_top","_law_bottom","_law_k","_law_part","_law_best","_law_number"] ["_law_share","_law_row","_law_table_here","_law_door"] (υ yW):=.of rfl
def Jk(F:c_ K "_law_due" "_law_due" yW f fd) (E:Ev K mg w Cm)   (ni:av P w K mg base 1 "_law_shown" ["_law_share","_law_door","_law_table_here"] WY HL HA)   (mH:av P w K mg base 1 "_law_less" ["_law_one","_law_two"] Mf Mn LU):aq P w K mg base (b9 P w) 2 f fd ["_law_share","_law_row","_law_table_here","_law_door"] (cM K Q9):=by
 show F.dX dt (λds M q x h=>?_) (λbf A outer s H E' hr=>(_,(ζ (ai (cR hr (ω (jv 1) ν) jM) (μ (Β (ω (jv 1) ν))) Ν)
   (ζ (iW (i:=4) dt.nd rfl (Or.inl rfl) (ys:=["_law_share","_law_table_here"]) (ae:=[0,2]) (.of dt rfl rfl rfl) (bo (ω (jv 1) ν)) (λC s H fp=>(Φ ni hr (g_ (P:=P) (w:=w)) (Μ (jv 1) (Μ (jv 0) (Μ (jv 2) θ))))))
   (ζ (ai (cR hr (ω (jv 1) ν) jM) (ζ (ψ 5 dt.nd ν)
   (ζ (ψ 6 dt.nd ν)
   (ζ (gS (cn E.bX (ι (bQ E.bu (Μ (jv 4) θ)) θ aU)) (Ω (i:=7) dt.nd rfl (Or.inl rfl)) aH (ζ (ψ 8 dt.nd (cP (ι (ax (ω (ω (jv 4) (jv 7)) ν) (ω (ω (ω (ω (jv 1) ν) (jv 7)) ν) ν)) (ι (ax (ω (ω (jv 4) (jv 7)) ν) (ω (ω (ω (ω (jv 1) ν) (jv 7)) ν) ν)) θ bO) bO)))
   (ζ (ψ 5 dt.nd (bY (ax (jv 5) (ω (jv 8) ν)) (ax (ω (jv 8) ν) (jv 6))))
   (μ (ψ 6 dt.nd (ax (jv 6) (ω (jv 8) ν)))))))
   (μ (Β (cP (Μ (jv 5) (Μ (jv 6) θ)))))))) Ν)
   (ζ (ai (NK (jv 3) Mo) (μ (Β (ω (jv 4) (jv 3)))) Ν)
   (ζ (ψ 9 dt.nd (ω (jv 4) ν))
   (ζ (ck (bo (jv 4)) (Ω (i:=10) dt.nd rfl (Or.inl rfl)) aH (μ (ai (JW.jt (dJ (JW.jt (D8 (cR hr (ω (jv 1) ν) jM) (z7 (aK (Φ mH hr ξ (Μ (jv 9) (Μ (jv 10) θ))))))) (eD (JW.jt (D8 (cR hr (ω (jv 1) ν) jM) (z7 (aK (Φ mH hr ξ (Μ (jv 10) (Μ (jv 9) θ)))))))))) (μ (ψ 9 dt.nd (jv 10))) Ν)))
   (μ (Β (jv 9))))))))),λds M q x h=>?_))
 .let(ε,r,tb,n,kt,dd,rfl,_):=h;rfl
 .let(ε,r,tb,n,kt,dd,rfl,hk,tk,rl,s0,hf,hc,hn,hh):=h;let sl:∀{z:Nat},z<=1000->z<=sizeLine:=λh=>aaR h @_;walk_at "vc";show iX ?_;cases r with
  | fin p=>
   show(λ_=>?_,nofun);show AV (hf p rfl)
  | τ k ds=>
   let(l6,ke,dl,dc,dh):=rl.ds k ds rfl;show(λz=>abc (aaH z) ke,λ_=>?_);show AW (i:=1) (j:=1) rfl (Θ (j:=1) rfl) rfl ?_;show(by rw[aac];show sl (),?_);show dY (F:=λx d=>x=fh d/\d∈ds) (f:=λd=>Ο (k7 ε tb d)) (as:=ds) trivial (λx d hx qq hq=>?_) (jE fh ds ds λx hx=>hx) ?_
   .let(rfl,hd):=hx;show(ε,d,tb,n,kt,rfl,hk,tk,dl d hd,hq)
   rw[abB];generalize Zv:ds.map (λd=>Ο (k7 ε tb d))=ss;let sat:∀{j:Nat} {d:bW},ds[j]? =!d->ku ss (j:Int)=!(Ο (k7 ε tb d)):=λ{j d} h=>Θ (by rw[<-Zv,aaw,h];rfl);let ssl:-ss=-ds:=by rw[<-Zv,aac]
   show iX (r:=.τ k ds) ?_;show(λz=>?_,λz=>?_)
   .let z:k="chance":=aaH z;subst z;let dc:=dc rfl;show(ag (d:=.lst ss) (xs:=ss) rfl ?_:e9 [.lst ss] _ _);rw[ssl];show((),?_);rw[show((-ds:Int)).toNat=-ds by omega];show cJ (λzs ρ' M'=>M'=M/\∃(i m:Nat) (Ι:Fr) (o7 o8:Option Dt),zs=dW (i:Int) m/\i+m=-ds/\Fp i (aA (λd=>cV d * (val d.2.1+val ε * val (tb.getD d.1.toNat (0, 1)))) (ds.take i)) Ι/\ρ'=[!(Ο ε),!(ay (.τ "chance" ds)),!(.loc kt),!dd,!(.lst ss),!(.int Ι.1),!(.int Ι.2),o7,o8,none,none]) (λx zs ρ' M' hj eE=>?_) (λρ' M' hj=>?_) _ _ _ (rfl,0,-ds,(0, 1),none,none,rfl,(),(@_,by change((0:Int):Rat) / ((1:Int):Rat)=0;grind,by change(0:Int).natAbs < _;show Nat.pow_pos @_,by change(1:Int).natAbs < _;decide),rfl)
    .let(rfl,i,m,Ι,o7,o8,ex,im,ak,rfl):=hj;let(m',rfl,rfl,rfl):=b8 ex;let il:i < -ds:=()
     let i6:i < 6:=()
     let hi:ds[i]? =!ds[i]:=aaa il;let hd:=aa9 il;let tk1:ds.take (i+1)=ds.take i++[ds[i]]:=by rw[List.take_succ,hi];rfl
     let(c1,c2,c3,c4):=dc _ hd;let(t1,t2):=FR tk (dl _ hd);let(v1,v2):=Fc (ε:=ε) s0 (dl _ hd).p2.1 (AR tk (dl _ hd).to).1.pos
     let nx:∀o8,_:=λo8=>eE [!(Ο ε),!(ay (.τ "chance" ds)),!(.loc kt),!dd,!(.lst ss),!(.int (Uo Ι (k7 ε tb ds[i]) (χ ds[i])).1),!(.int (Uo Ι (k7 ε tb ds[i]) (χ ds[i])).2),!(.int (i:Int)),o8,none,none] M' (rfl,i+1,m',_,_,o8,by rw[acF];rfl,(),by
      have:=ak.step v2 c2 t1 t2 c3 c4;rw[tk1,Ci];rw[v1]at this;let e:aA (λd=>cV d * (val d.2.1+val ε * val (tb.getD d.1.toNat (0, 1)))) [ds[i]]=cV ds[i] * (val ds[i].2.1+val ε * val (tb.getD ds[i].1.toNat (0, 1))):=by change cV ds[i] * (val ds[i].2.1+val ε * val (tb.getD ds[i].1.toNat (0, 1)))+0=_;grind
      rw[e];show this,rfl)
     let rs:∀(M':Ms) (q:DQ),q (Ο (k7 ε tb ds[i])) M'->bF (.lst ss) (.int (i:Int)) M' q:=λM' q hq=>Δ (d:=.lst ss) rfl (sat hi) hq;let rr:∀(M':Ms) (q:DQ),q (Ο (χ ds[i])) M'->bF (ay (.τ "chance" ds)) (.int 1) M' λd1 M1=>bF d1 (.int (i:Int)) M1 λd1 M1=>bF d1 (.int 2) M1 q:=λM' q hq=>AV (Δ (d:=.lst (ds.map fh)) rfl (Qm il) (Mx c1 hq));let at':=ak.t;let ab':=ak.b;generalize hs:k7 ε tb ds[i]=sv at *
     generalize hcv:χ ds[i]=cv at *
     let ba:fe Ι.1:=bg at' ();let bb:fe Ι.2:=bg ab' ();let b3:=cc t1 c3;let b4:=cc t2 c4;walk_at "vc";show rs _ _ ?_;show(kU ?_:bF (Ο sv) (.int 0) _ _);show rr _ _ ?_;show(kU ?_:bF (Ο cv) (.int 0) _ _);show((bg t1,bg c3),?_)
     try walk_at "vc"
     show rs _ _ ?_;show(ix ?_:bF (Ο sv) (.int 1) _ _);show rr _ _ ?_;show(ix ?_:bF (Ο cv) (.int 1) _ _);show((bg t2,bg c4),gV,?_)
     try walk_at "vc"
     show(Δ (d:=.tup [.int (sv.1 * cv.1),.int (sv.2 * cv.2)]) rfl (Θ (j:=1) rfl) ?_:bF (.tup [.int (sv.1 * cv.1),.int (sv.2 * cv.2)]) (.int 1) _ _);show((ba,bg b4),?_)
     try walk_at "vc"
     show(Δ (d:=.tup [.int (sv.1 * cv.1),.int (sv.2 * cv.2)]) rfl aw ?_:bF (.tup [.int (sv.1 * cv.1),.int (sv.2 * cv.2)]) (.int 0) _ _);show((bg b3,bb),?_)
     try walk_at "vc"
     dsimp only[sD];show(Δ (d:=.tup [.int (sv.1 * cv.1),.int (sv.2 * cv.2)]) rfl (Θ (j:=1) rfl) ?_:bF (.tup [.int (sv.1 * cv.1),.int (sv.2 * cv.2)]) (.int 1) _ _);show((bb,bg b4),nx _)
    .let(rfl,i,m,Ι,o7,o8,ex,im,ak,rfl):=hj;let m0:m=0:=by have:=abI List.length ex;rw[gP]at this;show this.symm
     let e:i=-ds:=()
     subst e;let v:=ak.val;rw[List.take_length]at v;show(gV,hc ds rfl Ι ak.pos (bg ak.t ()) (bg ak.b ()) v)
   .let z:k≠"chance":=abO z;let(rO,l1,hd):=dh z;rcases hd with rfl| ⟨j,rfl,jl⟩
    .show(rfl,nofun,λ_=>?_);let h0:ds[0]? =!ds[0]:=aaa l1;let s0':ku ss 0=!(Ο (k7 ε tb ds[0])):=sat (j:=0) h0;let vd:∀d∈ds,val (k7 ε tb d)=val d.2.1+val ε * val (tb.getD d.1.toNat (0, 1))/\0 < (k7 ε tb d).2:=λd hd=>Fc s0 (dl d hd).p2.1 (AR tk (dl d hd).to).1.pos;let bd:∀d∈ds,fe (k7 ε tb d).1/\fe (k7 ε tb d).2:=λd hd=>(bg (FR tk (dl d hd)).1,bg (FR tk (dl d hd)).2);show(Δ (d:=.lst ss) rfl s0' ?_:bF (.lst ss) (.int 0) _ _);dsimp only[k4,dE];walk_at "vc";show bz (λzs ρ' M'=>M'=M/\∃(f_ rest:List bW) (b:bW) (o9:Option Dt),ds=f_++rest/\zs=rest.map (λd=>Ο (k7 ε tb d))/\b∈ds/\(∀d∈f_,ij k * val (k7 ε tb d)<=ij k * val (k7 ε tb b))/\ρ'=[!(Ο ε),!(ay (.τ k ds)),!(.loc kt),some .bt,!(.lst ss),none,none,none,none,!(Ο (k7 ε tb b)),o9]) (λzs ρ' M' hj=>trivial) (λx zs ρ' M' hj eE=>?_) (λρ' M' hj=>?_) _ _ _ (rfl,[],ds,ds[0],none,rfl,Zv.symm,aa9 l1,λ_ z=>(nomatch z),rfl)
     .let(rfl,f_,rest,b,o9,ed,ex,bm,hb,rfl):=hj;cases rest with
      | nil=>cases ex
      | cons d rest=>
       cases ex;let dm:d∈ds:=by rw[ed];show aaP _ aaf
       let ub:=my (vd b bm).2 (vd d dm).2;let ud:=my (vd d dm).2 (vd b bm).2
       let keep:ij k * val (k7 ε tb d)<=ij k * val (k7 ε tb b)->_:=λhle=>eE [!(Ο ε),!(ay (.τ k ds)),!(.loc kt),some .bt,!(.lst ss),none,none,none,none,!(Ο (k7 ε tb b)),!(Ο (k7 ε tb d))] M' (rfl,f_++[d],rest,b,_,by rw[ed,ab6];rfl,rfl,bm,λy hy=>by
        rcases abt.mp hy with z| z
        .show hb y z
        .rw[abe.mp z];show hle,rfl)
       let take:ij k * val (k7 ε tb b)<=ij k * val (k7 ε tb d)->_:=λhle=>eE [!(Ο ε),!(ay (.τ k ds)),!(.loc kt),some .bt,!(.lst ss),none,none,none,none,!(Ο (k7 ε tb d)),!(Ο (k7 ε tb d))] M' (rfl,f_++[d],rest,d,_,by rw[ed,ab6];rfl,rfl,dm,λy hy=>by
        rcases abt.mp hy with z| z
        .show Rat.le_trans (hb y z) hle
        .rw[abe.mp z];show Rat.le_refl,rfl)
       walk_at "vc";show iX (r:=.τ k ds) ?_;let two:k="one"\/k="other":=RC.two k rO;show(λe1=>?_,λe1=>?_)
       .let e1:k="one":=aaH e1;show(_,_,rfl,((bd b bm).1,(bd b bm).2,(bd d dm).1,(bd d dm).2),λu=>(λ_=>take ?_,nofun),λu=>?_)
        .have:=ub.mp u;rw[e1,sg1];grind
        .let u:¬val (k7 ε tb b) < val (k7 ε tb d):=λz=>by rw[ub.mpr z]at u;cases u
         show iX (r:=.τ k ds) ?_;show(λe2=>abc (e1.symm.trans (aaH e2)) @_,λ_=>(nofun,λ_=>keep ?_));rw[e1,sg1];grind
       .let e1:k≠"one":=abO e1;let e2:k="other":=two.resolve_left e1;show(nofun,λ_=>?_);show iX (r:=.τ k ds) ?_;show(λ_=>?_,λz=>abc e2 (abO z));show(_,_,rfl,((bd d dm).1,(bd d dm).2,(bd b bm).1,(bd b bm).2),λu=>take ?_,λu=>keep ?_)
        .have:=ud.mp u;rw[e2,sg2];grind
        .let u:¬val (k7 ε tb d) < val (k7 ε tb b):=λz=>by rw[ud.mpr z]at u;cases u
         rw[e2,sg2];grind
     .let(rfl,f_,rest,b,o9,ed,ex,bm,hb,rfl):=hj;have:rest=[]:=by
       cases rest with
       | nil=>rfl
       | cons d r=>cases ex
      subst this;rw[abU]at ed;subst ed;show hh k _ rfl rO rfl _ (vd b bm).2 (bd b bm).1 (bd b bm).2 (b,bm,(vd b bm).1) λd hd=>by rw[<-(vd d hd).1];show hb d hd
    .let hj:ds[j]? =!ds[j]:=aaa jl;show(rfl,λ_=>?_,nofun);show(Δ (d:=.lst ss) rfl (sat hj) ?_:bF (.lst ss) (.int (j:Int)) _ _);show hn k ds j _ rfl z rfl hj
def B1{ε:Fr}{tb:List Fr}:∀ws:List bW,aA (λd=>cV d * (val d.2.1+val ε * val (tb.getD d.1.toNat (0, 1)))) ws=aA (λd=>cV d * val d.2.1) ws+val ε * aA (λd=>cV d * val (tb.getD d.1.toNat (0, 1))) ws
 | []=>by change(0:Rat)=0+val ε * 0;grind
 | d::ws=>by let ih:=B1 (ε:=ε) (tb:=tb) ws;change cV d * (val d.2.1+val ε * val (tb.getD d.1.toNat (0, 1)))+aA (λd=>cV d * (val d.2.1+val ε * val (tb.getD d.1.toNat (0, 1)))) ws=(cV d * val d.2.1+aA (λd=>cV d * val d.2.1) ws)+val ε * (cV d * val (tb.getD d.1.toNat (0, 1))+aA (λd=>cV d * val (tb.getD d.1.toNat (0, 1))) ws);rw[ih];grind
section
def nh.fin(h:nh ε γ Ι tb){p:Fr}(hi:γ[i]? =!(.fin p)):val (tb.getD i (0, 1))=val p:=by let e:=h.tab.eq i (aae.mp hi).1;unfold x8 xK at e;rw[i5 hi]at e;let e:val (tb.getD i (0, 1))=val p+val ε * 0:=e;grind
def nh.CW(h:nh ε γ Ι tb)(fw:FW ε γ X C)(dk:jn γ Ι){k:Str}(hi:γ[i]? =!(.τ k ds)):val (tb.getD i (0, 1))=aA (λd=>cV d * (val d.2.1+val ε * val (tb.getD d.1.toNat (0, 1)))) (aF Ι i (.τ k ds)):=by
 let e:=h.tab.eq i (aae.mp hi).1;unfold x8 xK at e;rw[i5 hi]at e;let(_,_,_,B,E,_,_,_,_,hw):=fw.Χ dk hi;let v:=x_ (aF Ι i (.τ k ds)) (0, 1) @_ λd hd=>((hw d hd).ch.pos,(hw d hd).py.red.pos);let e:val (tb.getD i (0, 1))=val (((aF Ι i (.τ k ds)).map χ|>.zip ((aF Ι i (.τ k ds)).map (·.2.1))).foldl (λw p=>ff w (aQ p.1 p.2)) (0, 1))+val ε * aA (λd=>cV d * val (tb.getD d.1.toNat (0, 1))) (aF Ι i (.τ k ds)):=e;rw[e,v,B1];have:val ((0, 1):Fr)=0:=by change((0:Int):Rat) / ((1:Int):Rat)=0;grind
 rw[this];grind
def Mc{f t:Fr}(h1:0 < f.2)(h2:0 < t.2)(e:val f=val t):f.1 * t.2=t.1 * f.2:=by
 let a:=aM (show f.2≠0 by omega);let b:=aM (show t.2≠0 by omega);unfold val at e;have:(f.1:Rat) * (t.2:Rat)=(t.1:Rat) * (f.2:Rat):=by
  generalize (f.1:Rat)=x1 at *
  generalize (f.2:Rat)=x2 at *
  generalize (t.1:Rat)=y1 at *
  generalize (t.2:Rat)=y2 at *
  grind
 rw[<-abq,<-abq]at this;show Rat.intCast_inj.mp this
def vK(h0:0<=b)(h:b<=1000000):b.natAbs < 2 ^ 20:=by
 have:b.natAbs<=1000000:=()
 show abz this @_
def FW.rl(fw:FW ε γ X C)(hi:γ[i]? =!r){dd:Dt}(hd:Ε (kindOf r)=true->dd= .bt\/∃j:Nat,dd= .int (j:Int)/\j < -(Ξ r)):RwL ε (-γ) r dd:=by
 let rm:r∈γ:=aao hi;show⟨λk ds e=>?_⟩;subst e;let dr:=dq fw.pl rm;let sh:=fw.pl.sh;unfold bc at sh;rw[aaW,aaW,aaD,aaD,aaD]at sh;let(h1,h2,h3):=sh;show(dr.l6,dr.ro.1,λd hm=>?_,λhk d hm=>?_,λhk=>?_)
 .let(py,p0):=dr.py d hm;let sp:=Fg py p0;show(dr.to d hm,sp.1,(p0,vK (Int.le_of_lt p0) (by unfold bH at py;rw[Bool.and_eq_true,decide_eq_true_iff,decide_eq_true_iff]at py;show py.2)),(),(),())
 .subst hk;let co:Ib (ds.map χ):=by
   rcases dr.kd with z| ⟨_,_,z⟩
   .show abc z @_
   .show z
  let(c0,cd,cu,_):=Gs co (aap.mpr (d,hm,rfl));let b1:=co.b1;let le:=ada co.b0 cd;let(u0,u1):=cu;show((dr.ro.2.2.1 rfl).1 d hm,c0,vK u0 (),vK () ())
 .let hh:Ε k=true:=by
   rcases dr.kd with z| ⟨_,z,_⟩
   .show z
   .show abc z hk
  show(hh,dr.l1,hd hh)
variable{k:Str}
def K9(fw:FW ε γ X C)(hs:fP hand rival)(fa:aa (eF γ rival) pa)(hi:γ[i]? =!r):(kindOf r=hand->Λ (br (aO γ hand p) pa) i=!((Λ p i).getD 0))/\(kindOf r=rival->Λ (br (aO γ hand p) pa) i=Λ pa i):=by
 let il:=(aae.mp hi).1;let g:=eO (i:=(i:Int)) (p:=aO γ hand p) (bq fa);let hh:Λ (aO γ hand p) i=((jB hand p (kindOf r)).map λpl=>(Λ pl i).getD 0):=by rw[mI,aa1 il,hi];rfl
 show(λe=>?_,λe=>?_)
 .rw[g,(bC (i:=i) fw hs.h2 fa).2 r hi λz=>hs.ne (e.symm.trans z)];change Λ (aO γ hand p) i=_;rw[hh];unfold jB;rw[aa1 e];rfl
 .cases r with
  | fin q=>show abc (show Ε (Str.ofString "end")=true by rw[<-hs.h2,<-e];rfl) @_
  | τ k ds=>
   let e:k=rival:=e;subst e;let(j,gj,_):=(bC (i:=i) fw hs.h2 fa).1 ds hi;rw[g,gj]
def nh.door(h:nh ε γ Ι tb)(fw:FW ε γ X C)(hi:γ[i]? =!(.τ k ds))(hh:Ε k=true)(gj:Λ Ι i=!(j:Int))(hj:ds[j]? =!d):val (k7 ε tb d)=val (tb.getD i (0, 1))/\0 < (k7 ε tb d).2:=by
 let hp:∀t,t < -γ->0 < (tb.getD t (0, 1)).2:=λt ht=>(h.tab.red t ht).pos;let il:=(aae.mp hi).1;let rm:=aao hi;let dm:=aao hj;let dr:=dq fw.pl rm;let jl:=(aae.mp hj).1;let(t0,t1):=dr.to d dm;let(v1,v2):=Fc (ε:=ε) (tb:=tb) (d:=d) fw.sh.1 (dr.py d dm).2 (hp _ ());show(?_,v2);let gd:ds.getD j d0=d:=by rw[aab,hj];rfl
 rw[v1,<-(g9 fw rm dm hp).1,<-h.kg il,jU fw hi hh gj jl hp,gd]
def nh.best(h:nh ε γ Ι tb)(fw:FW ε γ X C)(fa:aa (eF γ k) pa)(be:Γ ε γ tb pa=[])(hi:γ[i]? =!(.τ k ds))(hh:Ε k=true)(ga:Λ Ι i=Λ pa i)(h1:∃d∈ds,val u=val d.2.1+val ε * val (tb.getD d.1.toNat (0, 1)))(h2:∀d∈ds,ij k * (val d.2.1+val ε * val (tb.getD d.1.toNat (0, 1)))<=ij k * val u):val u=val (tb.getD i (0, 1)):=by let hp:∀t,t < -γ->0 < (tb.getD t (0, 1)).2:=λt ht=>(h.tab.red t ht).pos;let il:=(aae.mp hi).1;let rm:=aao hi;let l1:=(dq fw.pl rm).l1;let(j,gj,jl):=(bC (i:=i) fw hh fa).1 ds hi;let(_,es):=(jJ hh).mp (uL fw hh fa hp be hi gj);rw[<-h.kg il,jU fw hi hh (ga.trans gj) jl hp,es];let(_,al):=tG (tb:=tb) fw rm hp;let(d1,m1,e1):=h1;let a:=al d1 m1;rw[(g9 fw rm m1 hp).1,<-e1]at a;let(m,_):=qC (ε:=ε) (tb:=tb) (k:=k) (ds:=ds) (λz=>by rw[z]at l1;show abc l1 @_) λd hd=>(g9 fw rm hd hp).2.pos;let(d2,m2,e2):=aap.mp m;let b:=h2 d2 m2;rw[<-(g9 fw rm m2 hp).1,e2]at b;show Eh (Rat.le_antisymm a b)
end
def xZ{q:DQ}(h:q (.int (-γ)) M):e9 [Dt.lst (γ.map ay)] M q:=ag (xs:=γ.map ay) rfl (by rw[aac];show h)
def NN{dd:Dt}(wt:nh ε γ Ι tb)(fw:FW ε γ X C)(dk:jn γ Ι)(tk:BP tb (-γ))(hi:γ[i]? =!r)(hd:Ε (kindOf r)=true->(∃j:Nat,dd= .int (j:Int)/\Λ Ι i=!(j:Int)/\j < -(Ξ r))\/(dd= .bt/\∃pa,aa (eF γ (kindOf r)) pa/\Γ ε γ tb pa=[]/\Λ Ι i=Λ pa i)):RwL ε (-γ) r dd/\∀{Q:Fr->Prop},(∀u:Fr,0 < u.2->fe u.1->fe u.2->val u=val (tb.getD i (0, 1))->Q u)->(∀p,r= .fin p->Q p)/\(∀ds,r= .τ "chance" ds->∀f,0 < f.2->fe f.1->fe f.2->val f=aA (λd=>cV d * (val d.2.1+val ε * val (tb.getD d.1.toNat (0, 1)))) ds->Q f)/\(∀k ds (j:Nat) d,r= .τ k ds->k≠"chance"->dd= .int (j:Int)->ds[j]? =!d->Q (k7 ε tb d))/\∀k ds,r= .τ k ds->Ε k=true->dd= .bt->∀f,0 < f.2->fe f.1->fe f.2->(∃d∈ds,val f=val d.2.1+val ε * val (tb.getD d.1.toNat (0, 1)))->(∀d∈ds,ij k * (val d.2.1+val ε * val (tb.getD d.1.toNat (0, 1)))<=ij k * val f)->Q f:=by
 let rl:=fw.rl hi (dd:=dd) λhh=>(hd hh).elim (λ(j,e,_,l)=>.inr (j,e,l)) λ(e,_)=>.inl e;show(rl,λ{Q} go=>(λu e=>?_,λds e u u0 u1 u2 ev=>?_,λk ds j d e lu ej hj=>?_,λk ds e hh en u u0 u1 u2 h1 h2=>?_))
 .subst e;let py:=fw.pl.row _ (aao hi);let sp:=Fg py.2 py.1;show go u py.1 (gw sp @_) (dF sp @_) (wt.fin hi).symm
 .subst e;let e:=(wt.CW fw dk hi).symm;let ew:aF Ι i (.τ "chance" ds)=ds:=by unfold aF;rw[dk.AD i _ hi (show Ε (Str.ofString "chance")=false by decide)];rfl
  rw[ew,<-ev]at e;show go u u0 u1 u2 e
 .subst e;let(_,_,dl,_,dh):=rl.ds k ds rfl;let hh:=(dh lu).1;rcases hd hh with ⟨j',e',ga,l⟩| ⟨e',_⟩
  .rw[ej]at e';obtain rfl:j=j':=by have:=Dt.int.inj e';omega
   let(v,p0):=wt.door fw hi hh ga hj;let sz:=FR tk (dl d (aao hj));show go _ p0 (bg sz.1) (bg sz.2) v
  .rw[ej]at e';cases e'
 .subst e;rcases hd hh with ⟨j',e',_⟩| ⟨_,pa,fa,be,ga⟩
  .rw[en]at e';cases e'
  .show go u u0 u1 u2 (wt.best fw fa be hi hh ga h1 h2)
def vG{hand:Str}:∀γ:List Rw,(γ.map ay).filter (λx=>match x with| .tup (.str z::_)=>decide (z=hand)| _=>false)=(γ.filter λr=>decide (kindOf r=hand)).map ay
 | []=>rfl
 | r::γ=>by
  let e:(match ay r with| .tup (.str z::_)=>decide (z=hand)| _=>false)=decide (kindOf r=hand):=by cases r <;> rfl
  rw[aaX,List.filter_cons,List.filter_cons,vG γ];change(if (match ay r with| .tup (.str z::_)=>decide (z=hand)| _=>false)=true then _ else _)=_;rw[e];split <;> rfl
def va{hand:Str}:∀γ:List Rw,-((List.range (-γ)).filter λi=>decide (bR γ i=hand))=-(γ.filter λr=>decide (kindOf r=hand))
 | []=>rfl
 | r::γ=>by
  let ih:=va (hand:=hand) γ;rw[aaQ,acH,List.filter_cons,List.filter_cons,List.filter_map];let e:((λi=>decide (bR (r::γ) i=hand)) ∘ Nat.succ)=λi=>decide (bR γ i=hand):=rfl;rw[e];let e2:decide (bR (r::γ) 0=hand)=decide (kindOf r=hand):=rfl;rw[e2];split
  .rw[aaQ,aaQ,aac,ih]
  .rw[aac,ih]
def vq(fp:aa (eF γ hand) p):-p=-(γ.filter λr=>decide (kindOf r=hand)):=by have:=abI List.length (bU fp);rw[aac,gA,aac]at this;rw[this];show va γ
def Tz:DF:=λas M q _=>∃(k:Nat) (ε:Fr) (γ:List Rw) (hand:Str) (p:Pl) (X C:Int),as=[.loc k,.lst (γ.map ay),.str hand]/\M[k]? =!(dP p)/\FW ε γ X C/\Ε hand=true/\aa (eF γ hand) p/\q (.bl true) M
def gC:Ζ ["_law_plan_here","_law_rows","_law_hand","_law_k"] ["_law_plan_here","_law_rows","_law_hand"] (υ kI):=.of rfl
def uu(F:c_ K "_law_plan_told" "_law_plan_told" kI f fd)(E:Ev K mg w Cm)(dZ:av P w K mg base 1 "_law_whole" ["_law_number"] zN qm qx):aq P w K mg base (b9 P w) 2 f fd ["_law_plan_here","_law_rows","_law_hand"] (cM K Tz):=by
 show F.dX gC (λds M q x h=>?_) (λbf A outer s H E' hr=>(_,(ζ (ai (JW.jt (dJ (bM (aK (SX K E.bj (Μ (jv 0) (Μ (Bp E.lU vv) θ))))) (eD (j3 hr (EY E.bu (Μ (jv 0) θ)) (bQ E.bu (ι (Be (ys:=["_law_hand"]) (ae:=[2]) (.of gC rfl rfl rfl) (bo (jv 1)) (λC s H fp=>(cR hr (ω (jv 0) ν) (jv 1))) (λC s H fp=>(jv 0))) θ)))))) (μ (Β vc)) Ν)
   (ζ (gS (cn E.bX (ι (bQ E.bu (Μ (jv 1) θ)) θ aU)) (Ω (i:=3) gC.nd rfl (Or.inl rfl)) aH (μ (ai (cR hr (ω (ω (jv 1) (jv 3)) ν) (jv 2)) (μ (ai (JW.jt (dJ (qi hr (jv 3) (jv 0)) (dJ (bM (aK (Φ dZ hr ξ (ι (kE hr (jv 0) (jv 3)) θ aL)))) (dJ (tq (kE hr (jv 0) (jv 3)) ν) (eD (Xu (kE hr (jv 0) (jv 3)) (bQ E.bu (ι (ω (ω (jv 1) (jv 3)) ν) θ aL)))))))) (μ (Β vc)) Ν)) Ν)))
   (μ (Β (Q7 E.CB (ι (Pu (ys:=[]) (ae:=[]) (.of gC rfl rfl rfl) (jv 0) (λC s H fp=>(Φ dZ hr (g_ (P:=P) (w:=w)) (Μ (jv 0) θ)))) θ)))))),λds M q x h=>?_))
 .let(k,ε,γ,hand,p,X,C,rfl,_):=h;rfl
 .let(k,ε,γ,hand,p,X,C,rfl,hk,fw,hh,fp,h):=h;let ou:=fw.pl.len;let sl:∀{z:Nat},z<=1000->z<=sizeLine:=λh=>aaR h @_;let kl:-(kP p)=-p:=by unfold kP;rw[List.length_map]
  let pn:-p=-(γ.filter λr=>decide (kindOf r=hand)):=vq fp;walk_at "vc";show(k,_,_,_,_,true,rfl,hk,rfl,ot,nofun,λ_=>?_);show(k,_,_,rfl,hk,?_);rw[kl];dsimp only[zk,dE];walk_at "vc";show(by rw[aac];show sl (),?_);show fJ trivial (λx=>match x with| .tup (.str z::_)=>decide (z=hand)| _=>false) (λx=>x) _ _ (λx hx q' p' h1 h2=>?_) ?_
  .let(r,fb,rfl):=aap.mp hx;let(e0,er):=D3 (r:=r);rw[er]at h1 h2;let h1:decide (kindOf r=hand)=true->q' (.tup (.str (kindOf r)::[e0])) M:=h1;let h2:decide (kindOf r=hand)=false->p' M:=h2;rw[<-er]at h1;walk_at "vc";show iX ?_;change(match decide (kindOf r=hand) with| true=>q' (ay r) M| false=>p' M);cases hb:decide (kindOf r=hand) with
   | true=>show h1 hb
   | false=>show h2 hb
  rw[abB,List.map_id',vG];show(ag (xs:=(γ.filter λr=>decide (kindOf r=hand)).map ay) rfl ?_:e9 [Dt.lst ((γ.filter λr=>decide (kindOf r=hand)).map ay)] _ _);rw[aac,<-pn];show(λz=>?_,λ_=>?_)
  .let z:(! decide ((-p:Int)=(-p:Int)))=true:=z;rw[aaT rfl]at z;show nomatch z
  show(ag (xs:=γ.map ay) rfl ?_:e9 [Dt.lst (γ.map ay)] _ _);rw[aac];show((),?_);rw[show((-γ:Int)).toNat=-γ by omega];show cJ (λzs ρ' M'=>M'=M/\∃(i m:Nat) (o3:Option Dt),zs=dW (i:Int) m/\i+m=-γ/\ρ'=[!(.loc k),!(.lst (γ.map ay)),!(.str hand),o3]) (λx zs ρ' M' hj eE=>?_) (λρ' M' hj=>?_) _ _ _ (rfl,0,-γ,none,rfl,(),rfl)
  .let(rfl,i,m,o3,ex,im,rfl):=hj;let(m',rfl,rfl,rfl):=b8 ex;let il:i < -γ:=()
   let hi:γ[i]? =!γ[i]:=aaa il;generalize γ[i]=r at *
   let nx:=eE [!(.loc k),!(.lst (γ.map ay)),!(.str hand),!(.int (i:Int))] M' (rfl,i+1,m',_,by rw[acF];rfl,(),rfl);walk_at "vc";show tJ hi (iX ?_);show(λz=>?_,λ_=>nx);let z:kindOf r=hand:=aaH z;cases r with
   | fin q0=>show abc (show Ε (Str.ofString "end")=true by rw[<-hh,<-z];rfl) @_
   | τ k0 ds=>
    let z:k0=hand:=z;subst z;let(j,gj,jl):=(bC (i:=i) fw hh fp).1 ds hi;let gd:aV (kP p) (vP p) (Sum.inl (i:Int))=!(.int (j:Int)):=by rw[m8,gj];rfl
    let ik:KU (kP p) (Sum.inl (i:Int))=true:=by rw[HR,gj];rfl
    show(k,_,_,Sum.inl (i:Int),rfl,hk,rfl,?_);rw[ik];show(nofun,λ_=>?_);show(k,_,_,Sum.inl (i:Int),_,rfl,hk,rfl,gd,?_);show(_,rfl,nofun,λ_=>?_);show(k,_,_,Sum.inl (i:Int),_,rfl,hk,rfl,gd,?_);show(λz=>?_,λ_=>?_)
    .let z:(j:Int) < 0:=aaH z;omega
    show(k,_,_,Sum.inl (i:Int),_,rfl,hk,rfl,gd,?_);show tJ hi (AV ?_);show(ag (xs:=ds.map fh) rfl ?_:e9 [Dt.lst (ds.map fh)] _ _);rw[aac];show(λz=>?_,λ_=>nx);let z:(-ds:Int)<=(j:Int):=aaH z;omega
  .let(rfl,i,m,o3,ex,im,rfl):=hj;let I_:M'[k]? =!(.cZ (kP p) ((p.map (·.2)).map Dt.int)):=by rw[<-sM];show hk
   let klt:=(aae.mp hk).1;walk_at "vc";dsimp only[MQ];walk_at "vc";show(k,kP p,p.map (·.2),rfl,I_,by rw[kl];have:=vq fp;have:=adh (λr=>decide (kindOf r=hand)) γ;show sl (),λep=>?_);show fU (f:=λ_=>.bl true) (abH klt) (λy hy q0 hq=>?_) (abH klt,(kP p).map (λ_=>true),by rw[abf,abf];rfl,?_)
   .let(key,MP,rfl):=aap.mp hy;let(e,he,rfl):=aap.mp MP;show(e.1,rfl,hq)
   .rw[List.set_set,vX I_,show((kP p).map (λ_=>true)).all id=true by rw[List.all_map];show acy.mpr λ_ _=>rfl];show h
def Lw{d:Dt}:ku (xs++[d]) (- 1)=!d:=by
 let e:Fo (-(xs++[d])) (- 1)=!(-xs):=by unfold Fo;rw[aaj];simp;omega
 unfold ku;rw[e];simp
def Nt.tabs(rd:Nt ε γ hand rival p0 rs)(fw:FW ε γ X C)(b1:1<=lq X C)(hs:fP hand rival):∀r∈rs,aa (eF γ hand) r.1/\BP r.2.2 (-γ):=λr hr=>by let(f,b):=rd.fit r hr;show(f,b.2.1.ok fw (kz fw hs f b.1) b1)
def TRT:DF:=λas M q _=>∃(ε:Fr) (γ:List Rw) (hand rival:Str) (p0:Pl) (M0:Ms) (d:Dt) (X C:Int),as=[d,.lst (γ.map ay),.str hand]/\CS ε γ hand rival p0 M0 M d/\FW ε γ X C/\1<=lq X C/\fP hand rival/\q (.bl true) M
def kZ:Ζ ["_law_found","_law_rows","_law_hand","_law_one"] ["_law_found","_law_rows","_law_hand"] (υ ir):=.of rfl
def qN(F:c_ K "_law_rounds_told" "_law_rounds_told" ir f fd)(E:Ev K mg w Cm)(kK:av P w K mg base 2 "_law_table" ["_law_table_here","_law_many"] J' Ji IA)(cz:av P w K mg base 2 "_law_plan_told" ["_law_plan_here","_law_rows","_law_hand"] Tz kN j_):aq P w K mg base (b9 P w) 3 f fd ["_law_found","_law_rows","_law_hand"] (cM K TRT):=by
 show F.dX kZ (λds M q x h=>?_) (λbf A outer s H E' hr=>(_,(ζ (ai (JW.jt (dJ (bM (aK (oM K E.bj (Μ (jv 0) (Μ (Bp E.mG mn) θ))))) (dJ (j3 hr (bQ E.bu (Μ (jv 0) θ)) ν) (dJ (bM (aK (oM K E.bj (ι (ω (jv 0) ν) (Μ (Bp E.gR kM) θ) aL)))) (eD (Sx 1 hr (ω (jv 0) ν) (kT θ))))))) (μ (Β vc)) Ν)
   (ζ (ck (bo (ω (jv 0) ν)) (Ω (i:=3) kZ.nd rfl (Or.inl rfl)) aH (ζ (ai (JW.jt (dJ (bM (aK (oM K E.bj (Μ (jv 3) (Μ (Bp E.mG mn) θ))))) (eD (j3 hr (bQ E.bu (Μ (jv 3) θ)) ν)))) (μ (Β vc)) Ν)
   (μ (ai (JW.jt (dJ (bM (aK (Φ cz hr ξ (ι (ω (jv 3) ν) (Μ (jv 1) (Μ (jv 2) θ)) aL)))) (eD (bM (aK (Φ kK hr ξ (ι (ω (jv 3) ν) (ι (bQ E.bu (Μ (jv 1) θ)) θ aU) aL))))))) (μ (Β vc)) Ν))))
   (ζ (ai (JW.jt (dJ (bM (aK (Φ cz hr ξ (ι (ω (jv 0) ν) (Μ (jv 1) (Μ (jv 2) θ)) aL)))) (eD (bM (aK (Φ kK hr ξ (ι (ω (jv 0) ν) (ι (bQ E.bu (Μ (jv 1) θ)) θ aU) aL))))))) (μ (Β vc)) Ν)
   (μ (Β (fV (QG 1 hr (ω (jv 0) ν) (ω (ω (ω (jv 0) ν) (MF ν)) ν)) (jr (QH 2 hr (ω (jv 0) ν) (ω (ω (ω (jv 0) ν) (MF ν)) ν))))))))),λds M q x h=>?_))
 .let(ε,γ,hand,rival,p0,M0,d,X,C,rfl,_):=h;rfl
 .let(ε,γ,hand,rival,p0,M0,d,X,C,rfl,(kp,ka,kt,kr,lo,rs,tF,p,pa,tb,_,_,hp,_,ht,ra,rd,er,_,_),fw,b1,hs,h):=h;let(ls,hl,hx,el,_):=ra.at;let fit:=rd.tabs fw b1 hs;let hh:=hs.h1;let ou:=fw.pl.len;let lne:-ls≠0:=λe=>by have:=abI List.length el;rw[aac,er,aaj,e]at this;cases this
  walk_at "vc";show(_,_,_,_,true,rfl,rfl,rfl,ot,nofun,λ_=>?_);show(ag (d:=fo kp ka kt kr) (xs:=[.loc kp,.loc ka,.loc kt,.loc kr]) rfl ?_:e9 [fo kp ka kt kr] _ _);show(nofun,λ_=>?_);show(TM ?_);show(_,_,_,_,true,rfl,wQ (cU hl),rfl,ot,nofun,λ_=>?_);show(TM ?_);show(@_,?_);show(false,.inr (_,jo (cU hl)),.inr (_,rfl),.len (jo (cU hl)) rfl (by rw[aac];show lne),nofun,λ_=>?_);dsimp only[k4,dE];walk_at "vc";show(TM ?_);rw[pQ hl];show bz (λzs ρ' M'=>M'=M/\∃(rest:List ((Nat×Nat)×tP)) (o3:Option Dt),zs=rest.map gT/\(∀x∈rest,x∈ls)/\ρ'=[!(fo kp ka kt kr),!(.lst (γ.map ay)),!(.str hand),o3]) (λzs ρ' M' hj=>by let(rfl,_):=hj;show hl) (λx zs ρ' M' hj eE=>?_) (λρ' M' hj=>?_) _ _ _ (rfl,ls,none,rfl,λ_ h=>h,rfl)
  .let(rfl,rest,o3,ez,fb,rfl):=hj;cases rest with
   | nil=>cases ez
   | cons y rest=>
    cases ez;let ym:=fb y aaf;let(_,_,y1,y2):=hx y ym;let yr:y.2∈rs:=by rw[<-el];show aap.mpr (y,ym,rfl)
    let(yf,yt):=fit _ yr;walk_at "vc";show(_,_,_,_,true,rfl,rfl,rfl,ot,nofun,λ_=>?_);show(ag (d:=gT y) (xs:=[.loc y.1.1,.loc y.1.2]) rfl ?_:e9 [gT y] _ _);show(nofun,λ_=>?_);show(Δ (d:=gT y) (xs:=[.loc y.1.1,.loc y.1.2]) rfl aw ?_:bF (gT y) (.int 0) _ _);show(y.1.1,ε,γ,hand,y.2.1,X,C,rfl,y1,fw,hh,yf,nofun,λ_=>?_);show(Δ (d:=gT y) (xs:=[.loc y.1.1,.loc y.1.2]) rfl (Θ (j:=1) rfl) ?_:bF (gT y) (.int 1) _ _);show(ag (xs:=γ.map ay) rfl ?_:e9 [Dt.lst (γ.map ay)] _ _);rw[aac];show(.loc y.1.2,y.2.2.2,-γ,_,rfl,Cf y2,yt,nofun,λ_=>?_);show eE _ _ (rfl,rest,_,rfl,λx hx=>fb x (aah _ hx),rfl)
  .let(rfl,rest,o3,ez,fb,rfl):=hj;let lm:(p, pa,tb)∈rs:=by rw[er];show aaP _ (abe.mpr rfl)
   let(pf,pt):=fit _ lm;let(li,l2,rfl,_,e2):=List.map_eq_append_iff.mp (el.trans er);let(y,rfl,ey):=List.map_eq_singleton_iff.mp e2;let(_,_,y1,y2):=hx y (aaP _ (abe.mpr rfl));rw[ey]at y1 y2;let last:∀(q:DQ),q (gT y) M'->bF (.loc kr) (.int (- 1)) M' q:=λq hq=>Δ (d:=.loc kr) (iH hl) (by rw[abw];show Lw) hq;walk_at "vc";show(fo0 ?_);show(kp,ε,γ,hand,p,X,C,rfl,hp,fw,hh,pf,nofun,λ_=>?_);show(Ye ?_);show(ag (xs:=γ.map ay) rfl ?_:e9 [Dt.lst (γ.map ay)] _ _);rw[aac];show(.loc kt,tb,-γ,_,rfl,Cf ht,pt,nofun,λ_=>?_);show(fo0 ?_);show(TM ?_);dsimp only[N5];show(last _ ?_:bF (.loc kr) (.int (- 1)) _ _);show(Δ (d:=gT y) (xs:=[.loc y.1.1,.loc y.1.2]) rfl aw ?_:bF (gT y) (.int 0) _ _);show(kp,y.1.1,true,rfl,rfl,by have:=FX (n:=0) hp y1;rwa[oW (bq pf)]at this,λ_=>?_,nofun);show(Ye ?_);show(TM ?_);show(last _ ?_:bF (.loc kr) (.int (- 1)) _ _);show(Δ (d:=gT y) (xs:=[.loc y.1.1,.loc y.1.2]) rfl (Θ (j:=1) rfl) ?_:bF (gT y) (.int 1) _ _);show(true,.inr (_,jo (cU ht)),.inr (_,jo (cU y2)),yo (jo (cU ht)) (jo (cU y2)),h)
def Tr(ε:Fr)(γ:List Rw)(tb:List Fr)(Ι q0:Pl):Prop:=∀(i:Nat) (r:Rw),γ[i]? =!r->Ε (kindOf r)=true->(∃j:Nat,Λ q0 i=!(j:Int)/\Λ Ι i=!(j:Int)/\j < -(Ξ r))\/(Λ q0 i=none/\∃pa,aa (eF γ (kindOf r)) pa/\Γ ε γ tb pa=[]/\Λ Ι i=Λ pa i)
def Kz:DF:=λas M q _=>∃(ε:Fr) (γ:List Rw) (kt kq:Nat) (tb:List Fr) (Ι q0:Pl) (X C:Int),as=[Ο ε,.lst (γ.map ay),.loc kt,.loc kq]/\M[kt]? =!(.lst (tb.map Ο))/\M[kq]? =!(dP q0)/\FW ε γ X C/\1<=lq X C/\nh ε γ Ι tb/\jn γ Ι/\Tr ε γ tb Ι q0/\q (.bl true) M
def nN:Ζ ["_law_share","_law_rows","_law_table_here","_law_plan_here","_law_k","_law_due_here"] ["_law_share","_law_rows","_law_table_here","_law_plan_here"] (υ qY):=.of rfl
def Bj(F:c_ K "_law_meets" "_law_meets" qY f fd)(E:Ev K mg w Cm)(uX:av P w K mg base 2 "_law_due" ["_law_share","_law_row","_law_table_here","_law_door"] Q9 Pk P4):aq P w K mg base (b9 P w) 3 f fd ["_law_share","_law_rows","_law_table_here","_law_plan_here"] (cM K Kz):=by
 show F.dX nN (λds M q x h=>?_) (λbf A outer s H E' hr=>(_,(ζ (gS (cn E.bX (ι (bQ E.bu (Μ (jv 1) θ)) θ aU)) (Ω (i:=4) nN.nd rfl (Or.inl rfl)) aH (ζ (ψ 5 nN.nd (Φ uX hr ξ (Μ (jv 0) (ι (ω (jv 1) (jv 4)) (Μ (jv 2) (ι (J3 hr (jv 3) (jv 4)) θ aU)) aL))))
   (μ (ai (j3 hr (ax (ω (jv 5) ν) (ω (ω (jv 2) (jv 4)) ν)) (ax (ω (ω (jv 2) (jv 4)) ν) (ω (jv 5) ν))) (μ (Β vc)) Ν))))
   (μ (Β vc))),λds M q x h=>?_))
 .let(ε,γ,kt,kq,tb,Ι,q0,X,C,rfl,_):=h;rfl
 .let(ε,γ,kt,kq,tb,Ι,q0,X,C,rfl,ht,hkq,fw,b1,wt,dk,mt,h):=h;let tk:=wt.ok fw dk b1;let ou:=fw.pl.len;let s0:=fw.sh.1;walk_at "vc";show xZ ?_;show((),?_);show cJ (λzs ρ' M'=>M'=M/\∃(i m:Nat) (o4 o5:Option Dt),zs=dW (i:Int) m/\i+m=-γ/\ρ'=[!(Ο ε),!(.lst (γ.map ay)),!(.loc kt),!(.loc kq),o4,o5]) (λx zs ρ' M' hj eE=>?_) (λρ' M' hj=>?_) _ _ _ (rfl,0,-γ,none,none,rfl,(),rfl)
  .let(rfl,i,m,o4,o5,ex,im,rfl):=hj;let(m',rfl,rfl,rfl):=b8 ex;let il:i < -γ:=()
   let hi:γ[i]? =!γ[i]:=aaa il;generalize γ[i]=r at *
   let(rt,t2,t1,at_):=AR tk (t:=(i:Int)) ();rw[acJ]at rt t2 t1 at_;obtain⟨dd,VR⟩:∃dd,dd=((aV (kP q0) (vP q0) (Sum.inl (i:Int))).getD Dt.bt):=(_,rfl);let hd:Ε (kindOf r)=true->(∃j:Nat,dd= .int (j:Int)/\Λ Ι i=!(j:Int)/\j < -(Ξ r))\/(dd= .bt/\∃PY,aa (eF γ (kindOf r)) PY/\Γ ε γ tb PY=[]/\Λ Ι i=Λ PY i):=λhh=>by
    rcases mt i r hi hh with ⟨j,gj,ga,jl⟩| ⟨gn,pa,z⟩
    .show .inl (j,by rw[VR,m8,gj];rfl,ga,jl)
    .show .inr (by rw[VR,m8,gn];rfl,pa,z)
   let rd:∀(q:DQ),q (Ο (tb.getD i (0, 1))) M'->bF (.loc kt) (.int (i:Int)) M' q:=λq hq=>Δ (d:=.loc kt) (iH ht) at_ hq;walk_at "vc";dsimp only[Qx];walk_at "vc";show tJ hi ?_;show((kq,_,_,rfl,hkq),kq,_,_,Sum.inl (i:Int),rfl,hkq,rfl,?_);rw[<-VR];let(rl,df):=NN (dd:=dd) wt fw dk tk hi hd;show(ε,r,tb,-γ,kt,dd,rfl,ht,tk,rl,s0,df λv v0 v1 v2 e2=>?_);let nx:=eE [!(Ο ε),!(.lst (γ.map ay)),!(.loc kt),!(.loc kq),!(.int (i:Int)),!(Ο v)] M' (rfl,i+1,m',_,_,by rw[acF];rfl,(),rfl);generalize tb.getD i (0, 1)=t at *
   show(kU ?_:bF (Ο v) (.int 0) _ _);show rd _ ?_;show(ix ?_:bF (Ο t) (.int 1) _ _);show((v1,bg t2),?_);show rd _ ?_;show(kU ?_:bF (Ο t) (.int 0) _ _);show(ix ?_:bF (Ο v) (.int 1) _ _);show((bg t1,v2),λz=>?_,λ_=>nx);let z:(! decide (v.1 * t.2=t.1 * v.2))=true:=z;rw[aaT (Mc v0 rt.pos e2)]at z;show nomatch z
  .let(rfl,i,m,o4,o5,ex,im,rfl):=hj;show h
section
def qt(fw:FW ε γ X C)(hh:Ε hand=true)(fp:aa (eF γ hand) p)(hi:γ[i]? =!r)(e:kindOf r=hand):∃j:Nat,Λ p i=!(j:Int)/\j < -(Ξ r):=by
 cases r with
 | fin q=>show abc (show Ε (Str.ofString "end")=true by rw[<-hh,<-e];rfl) @_
 | τ k ds=>
  let e:k=hand:=e;subst e;show(bC (i:=i) fw hh fp).1 ds hi
def Dc.mt(b:Dc ε γ hand rival p pa tb)(fw:FW ε γ X C)(hs:fP hand rival)(fp:aa (eF γ hand) p):Tr ε γ tb (br (aO γ hand p) pa) p:=λi r hi hh=>by
 let(fa,wt,be):=b;let(a1,a2):=K9 (p:=p) fw hs fa hi;rcases hs.two _ hh with e| e
 .let(j,gj,jl):=qt fw hs.h1 fp hi e;show .inl (j,gj,by rw[a1 e,gj];rfl,jl)
 .show .inr ((bC (i:=i) fw hs.h1 fp).2 r hi λz=>hs.ne (z.symm.trans e),pa,by rw[e];show fa,be,a2 e)
def Dc.ma(b:Dc ε γ hand rival p pa tb)(fw:FW ε γ X C)(hs:fP hand rival)(fp:aa (eF γ hand) p)(bp:Γ ε γ tb p=[]):Tr ε γ tb (br (aO γ hand p) pa) pa:=λi r hi hh=>by
 let(fa,wt,be):=b;let(a1,a2):=K9 (p:=p) fw hs fa hi;rcases hs.two _ hh with e| e
 .let(j,gj,jl):=qt fw hs.h1 fp hi e;show .inr ((bC (i:=i) fw hs.h2 fa).2 r hi λz=>hs.ne (e.symm.trans z),p,by rw[e];show fp,bp,by rw[a1 e,gj];rfl)
 .let(j,gj,jl):=qt fw hs.h2 fa hi e;show .inl (j,gj,by rw[a2 e,gj],jl)
end
def K5:DF:=λas M q _=>∃(ε:Fr) (γ:List Rw) (hand rival:Str) (p0:Pl) (M0:Ms) (d:Dt) (X C:Int),as=[Ο ε,.lst (γ.map ay),d,.str rival]/\CS ε γ hand rival p0 M0 M d/\FW ε γ X C/\1<=lq X C/\fP hand rival/\q (.bl true) M
def p8:Ζ ["_law_share","_law_rows","_law_found","_law_rival","_law_plan_here","_law_table_here"] ["_law_share","_law_rows","_law_found","_law_rival"] (υ vj):=.of rfl
def EZ(F:c_ K "_law_held" "_law_held" vj f fd)(E:Ev K mg w Cm)(kJ:av P w K mg base 3 "_law_meets" ["_law_share","_law_rows","_law_table_here","_law_plan_here"] Kz II HN)(cz:av P w K mg base 2 "_law_plan_told" ["_law_plan_here","_law_rows","_law_hand"] Tz kN j_):aq P w K mg base (b9 P w) 4 f fd ["_law_share","_law_rows","_law_found","_law_rival"] (cM K K5):=by
 show F.dX p8 (λds M q x h=>?_) (λbf A outer s H E' hr=>(_,(ζ (ck (bo (ω (jv 2) ν)) (lX rfl (bG (Ω (i:=4) p8.nd rfl (Or.inl rfl)) (bG (Ω (i:=5) p8.nd rfl (Or.inl rfl)) iV))) lQ (μ (ai (bM (aK (Φ kJ hr ξ (Μ (jv 0) (Μ (jv 1) (Μ (jv 5) (Μ (jv 4) θ))))))) (μ (Β vc)) Ν)))
   (μ (Β (fV (Φ cz hr ξ (ι (ω (jv 2) ν) (Μ (jv 1) (Μ (jv 3) θ)) aL)) (jr (Φ kJ hr ξ (Μ (jv 0) (Μ (jv 1) (ι (ω (jv 2) ν) (ι (ω (jv 2) ν) θ aL) aL))))))))),λds M q x h=>?_))
 .let(ε,γ,hand,rival,p0,M0,d,X,C,rfl,_):=h;rfl
 .let(ε,γ,hand,rival,p0,M0,d,X,C,rfl,(kp,ka,kt,kr,lo,rs,tF,p,pa,tb,_,_,_,ha,ht,ra,rd,er,bp,_),fw,b1,hs,h):=h;let(ls,hl,hx,el,_):=ra.at;walk_at "vc";dsimp only[k4,dE];walk_at "vc";show(TM ?_);rw[pQ hl];show bz (λzs ρ' M'=>M'=M/\∃(rest:List ((Nat×Nat)×tP)) (o4 o5:Option Dt),zs=rest.map gT/\(∀x∈rest,x∈ls)/\ρ'=[!(Ο ε),!(.lst (γ.map ay)),!(fo kp ka kt kr),!(.str rival),o4,o5]) (λzs ρ' M' hj=>by let(rfl,_):=hj;show hl) (λx zs ρ' M' hj eE=>?_) (λρ' M' hj=>?_) _ _ _ (rfl,ls,none,none,rfl,λ_ h=>h,rfl)
  .let(rfl,rest,o4,o5,ez,fb,rfl):=hj;cases rest with
   | nil=>cases ez
   | cons y rest=>
    cases ez;let ym:=fb y aaf;let(_,_,y1,y2):=hx y ym;let yr:y.2∈rs:=by rw[<-el];show aap.mpr (y,ym,rfl)
    let(yf,yb):=rd.fit _ yr;dsimp only[g2];walk_at "vc";show(ε,γ,y.1.2,y.1.1,y.2.2.2,_,y.2.1,X,C,rfl,y2,y1,fw,b1,yb.2.1,kz fw hs yf yb.1,yb.mt fw hs yf,nofun,λ_=>?_);show eE _ _ (rfl,rest,_,_,rfl,λx hx=>fb x (aah _ hx),rfl)
  .let(rfl,rest,o4,o5,ez,fb,rfl):=hj;let lm:(p, pa,tb)∈rs:=by rw[er];show aaP _ (abe.mpr rfl)
   let(pf,pb):=rd.fit _ lm;walk_at "vc";show(fo1 ?_);show(ka,ε,γ,rival,pa,X,C,rfl,ha,fw,hs.h2,pb.1,λ_=>?_,nofun);show(Ye ?_);show(fo1 ?_);show(ε,γ,kt,ka,tb,_,pa,X,C,rfl,ht,ha,fw,b1,pb.2.1,kz fw hs pf pb.1,pb.ma fw hs pf bp,h)
def O7{ti:DK}{g:Dt->En->(En->Prop)->Prop}{tb u:DS}(h:ti ρ M (λxs ok M1=>r8 g tb {Dn with nx:=u Dn} ok xs ρ M1) Dn.x):ow (k4 ti g tb) u Dn ρ M:=h
def OD{t:DA}{q:List Dt->(Ms->Prop)->Ms->Prop}(h:t ρ M (λds M1=>-ds<=sizeLine/\q ds (λ_=>True) M1) x):dE (TU t) ρ M q x:=h
structure QK(ε:Fr)(γ:List Rw)(X C:Int):Prop where
 fw:FW ε γ X C
 lj:lq X C<=2 ^ 450
 vY:(12 * lq X C) ^ (-γ) < 2 ^ 1030
 b1:1<=lq X C
 np:∀z,Ε z=true->-(lB (eF γ z))<=1000
 dr:∀k ds,Rw.τ k ds∈γ->1<=-ds/\-ds<=6
def CD(A:Addr):DF:=λas M q _=>∃(ns:List Int) (ε:Fr) (γ:List Rw) (hand rival:Str) (X C:Int),as=[.jC ns,Ο ε,.lst (γ.map ay),aJ A ε γ,.str hand,.str rival]/\-ns<=63/\QK ε γ X C/\(hand="one"/\rival="other"\/hand="other"/\rival="one")/\∀M1,Xt M M1->q (.bl true) M1
def fA:Ζ ["_law_script","_law_share","_law_rows","_law_floor_here","_law_hand","_law_rival","_law_whose","_law_against_it","_law_at_here","_law_found"] ["_law_script","_law_share","_law_rows","_law_floor_here","_law_hand","_law_rival"] (υ lY):=.of rfl
def wy(F:c_ K "_law_between" "_law_between" lY f fd)(E:Ev K mg w Cm)(gm:N1 P w K mg base 10 "mended" ["floor","hand","start"] (Am Cm) [] Ao zo)(hX:av P w K mg base 2 "_law_plan" ["_law_script","_law_rows","_law_hand","_law_at_here"] E9 sV uC)(gf:av P w K mg base 4 "_law_held" ["_law_share","_law_rows","_law_found","_law_rival"] K5 uv uo)(bL:av P w K mg base 3 "_law_rounds_told" ["_law_found","_law_rows","_law_hand"] TRT iy iz):aq P w K mg base (b9 P w) 12 f fd ["_law_script","_law_share","_law_rows","_law_floor_here","_law_hand","_law_rival"] (cM K (CD Cm)):=by
 show F.dX fA (λds M q x h=>?_) (λbf A outer s H E' hr=>(_,(ζ (ck (bo (kT (ι (cP (Μ (jv 5) (Μ (jv 4) (ι ν θ dj)))) (ι (cP (Μ (jv 4) (Μ (jv 5) (ι ν θ dj)))) θ uh) uh))) (lX rfl (bG (Ω (i:=6) fA.nd rfl (Or.inl rfl)) (bG (Ω (i:=7) fA.nd rfl (Or.inl rfl)) (bG (Ω (i:=8) fA.nd rfl (Or.inl rfl)) iV)))) Kj (ζ (ψ 9 fA.nd (L6 gm hr ξ (Μ (jv 3) (Μ (jv 6) (ι (Φ hX hr ξ (Μ (jv 0) (Μ (jv 2) (Μ (jv 6) (Μ (jv 8) θ))))) θ aU)))))
   (μ (ai (JW.jt (dJ (bM (aK (Φ bL hr ξ (Μ (jv 9) (Μ (jv 2) (Μ (jv 6) θ)))))) (eD (bM (aK (Φ gf hr ξ (Μ (jv 1) (Μ (jv 2) (Μ (jv 9) (Μ (jv 7) θ)))))))))) (μ (Β vc)) Ν))))
   (μ (Β vc))),λds M q x h=>?_))
 .let(ns,ε,γ,hand,rival,X,C,rfl,_):=h;rfl
 .let(ns,ε,γ,hand,rival,X,C,rfl,nl,ok,fb,h):=h;let ou:=ok.fw.pl.len;let vZ:rival="one"/\hand="other"\/rival="other"/\hand="one":=fb.elim (λz=>.inr (z.2,z.1)) λz=>.inl (z.2,z.1);show O7 (OD ?_);show(by change 3<=sizeLine;decide,by change 3<=sizeLine;decide,gV,?_);change r8 _ _ _ _ [Dt.tup [.str rival,.str hand,.int 17],.tup [.str hand,.str rival,.int 18]] _ _;show bz (λzs ρ' M'=>Xt M M'/\∃(o6 o7 o8 o9:Option Dt),(∀z∈zs,∃(a b:Str) (i:Int),z= .tup [.str a,.str b,.int i]/\(a="one"/\b="other"\/a="other"/\b="one")/\0<=i/\i<=100)/\ρ'=[!(.jC ns),!(Ο ε),!(.lst (γ.map ay)),!(aJ Cm ε γ),!(.str hand),!(.str rival),o6,o7,o8,o9]) (λ_ _ _ _=>trivial) (λx zs ρ' M' hj eE=>?_) (λρ' M' hj=>?_) _ _ _ (Xt.refl,none,none,none,none,λz hz=>?_,rfl)
  .let(x1,o6,o7,o8,o9,hz,rfl):=hj;let(a,b,i,rfl,JG,i0,i1):=hz x aaf;let hs:=gJ JG;let fw:=ok.fw;show(ns,γ,a,i,rfl,nl,i0,i1,ou,hs.h1,ok.dr,λpf po=>?_);show(ε,γ,a,b,X,C,-M',pf,rfl,aB,xY fw hs.h1 po.fit,JG,fw,ok.lj,ok.vY,ok.b1,ok.np _ hs.h1,λM1 d td=>?_);show(ε,γ,a,b,_,_,d,X,C,rfl,td,fw,ok.b1,hs,nofun,λ_=>?_);show(ε,γ,a,b,_,_,d,X,C,rfl,td,fw,ok.b1,hs,nofun,λ_=>?_);show eE _ _ ((x1.trans Xt.app).trans td.xt,_,_,_,_,λz Qi=>hz z (aah _ Qi),rfl)
  .let(x1,o6,o7,o8,o9,hz,rfl):=hj;show h _ x1
  .have:z=Dt.tup [.str rival,.str hand,.int 17]\/z= .tup [.str hand,.str rival,.int 18]:=by simpa using hz
   rcases this with rfl| rfl
   .show(rival,hand,17,rfl,vZ,@_,@_)
   .show(hand,rival,18,rfl,fb,@_,@_)
def A3{M:Ms}:∀rs:List Rw,Paired (l' M) (rs.map ay) rs
 | []=>.nil
 | r::rs=>.cons (NU _ r) (A3 rs)
def K6{q:DQ}(h:q (aJ A ε γ) M):tS M q (.loc (-M)) ((M++[MO.ins A [] []]).set (-M) (.ins A ["kept_share","kept_rows"] [Ο ε,.lst (γ.map ay)])):=by rw[d8];show n9 (d':=aJ A ε γ) (.abi (Nat.le_refl _) (by simp) (.cons (.old (p9 ε)) (.cons (.old (tQ γ)) .nil))) h
def PH(n:Int):∃hand rival:Str,ku [Dt.str "one",Dt.str "other"] (n % 2)=!(.str hand)/\ku [Dt.str "other",Dt.str "one"] (n % 2)=!(.str rival)/\(hand="one"/\rival="other"\/hand="other"/\rival="one"):=by
 rcases(show n % 2=0\/n % 2=1 by omega) with e| e
 .rw[e];show("one","other",rfl,rfl,.inl (rfl,rfl))
 .rw[e];show("other","one",rfl,rfl,.inr (rfl,rfl))
def e7{k:Nat}{u:MO}(h:M[k]? =!u)(ne:i≠k):(M.set i o)[k]? =!u:=by rw[abL ne];show h
def r6{k:Nat}(h1:M[i]? =!(dP p))(h2:M[k]? =!(.lst xs)):i≠k:=λe=>by subst e;rw[h1]at h2;cases h2
def Hu(po:Le γ hand ps)(mo:qw ps pC n):∀i,i < -γ->fK γ (jB hand pC) i=true:=λi il=>by
 let hi:γ[i]? =!γ[i]:=aaa il;generalize γ[i]=r at *
 unfold fK;rw[hi];change kX (jB hand pC) i r=true;unfold kX jB;by_cases e:kindOf r=hand
 .rw[aa1 e];let(j,gj,jl):=po.has i r hi e;change eU pC i (-(Ξ r))=true;unfold eU;rw[mo.same _ _ gj];change(decide (0<=(j:Int))&&decide ((j:Int) < (-(Ξ r):Int)))=true;rw[aaT (show 0<=(j:Int) by omega),aaT (show(j:Int) < (-(Ξ r):Int) by omega)];rfl
 .rw[aa2 e]
def J8{k:Nat}{q:DQ}(h:M[k]? =!(.lst (tb.map Ο)))(hq:q (.lst (tb.map Ο)) M):pw [.loc k] M (tS M q):=by dsimp only[pw,fX];rw[h];show c8 (yy tb) hq
def pL(y:((Nat×Nat)×tP)×Nat):Dt:=.tup [.loc y.2,.lst (y.1.2.2.2.map Ο)]
def vf{ok:Ms->Prop}(aN:∀M',Xt M0 M'->ok M'):∀(ls:List ((Nat×Nat)×tP)) (Ι:List Dt) (M:Ms) (k:List Dt->Ms->Prop),Xt M0 M->(∀x∈ls,M0[x.1.1]? =!(dP x.2.1)/\M0[x.1.2]? =!(.lst (x.2.2.2.map Ο)))->(∀(ys:List (((Nat×Nat)×tP)×Nat)) (M':Ms),Xt M M'->ys.map (·.1)=ls->(∀y∈ys,-M<=y.2/\M'[y.2]? =!(dP y.1.2.1))->k (Ι++ys.map pL) M')->
  t_ (g2 0 1) (C6 (eK (sA GX (eK (jy 0) ly)) (eK (Nl (sA pw (eK (jy 1) ly))) ly))) [none,none] ok (ls.map gT) Ι M k
 | [],Ι,M,k,x0,_,h=>(aN M x0,by have:=h [] M Xt.refl rfl (λ_ z=>(nomatch z));rwa[ads,abU]at this)
 | x::ls,Ι,M,k,x0,hx,h=>by
  let(h1,h2):=hx x aaf;show(aN M x0,x.1.1,_,_,rfl,x0 _ _ h1,?_);show J8 (tb:=x.2.2.2) (aT (x0 _ _ h2)) (gV,?_);show vf aN ls _ _ k (x0.trans Xt.app) (λy hy=>hx y (aah _ hy)) λys M' x1 e hy=>?_;have:=h ((x, -M)::ys) M' (Xt.app.trans x1) (by rw[aaX,e]) λy U3=>by
   rcases aba.mp U3 with rfl| U3
   .show(aas _,x1 _ _ aB)
   .let(a,b):=hy y U3;rw[aaj]at a;show((),b)
  rw[ab6];show this
def KJ{f:En->Ms->Prop}{r:DQ}{b c:En->Ms->Prop}(h:f ρ M):Gq (f,r,b,c,x) ρ M:=h
def yC{s:DS}(J:En->Ms->Prop)(h:s {Dn with nx:=J} ρ M)(k:∀ρ' M',J ρ' M'->t Dn ρ' M'):ow (VT s) t Dn ρ M:=(J,h,k)
def ixE{te:DE}{q:DQ}{i:Int}(h:te ρ M (λd M1=>bF d (.int i) M1 q) x):fN bF te (dC (.int i)) ρ M q x:=h
def OC{q:DQ}{d:Dt}{i:Int}(hv:ρ[n]? =!(!(.tup L)))(e:ku L i=!d)(h:q d M):fN bF (jy n) (dC (.int i)) ρ M q x:=by dsimp only[fN,jy,dC];rw[hv];show Δ (d:=.tup L) rfl e h
def Ma{g:Dt->En->(En->Prop)->Prop}{tb:DS}(hv:ρ[2]? =!(!(.lst (γ.map ay))))(l:-γ<=12)(h:tH g tb Dn (dW 0 (-γ+1)) ρ M):NP (OM (eK (fN sD (sA e9 (eK (jy 2) ly)) (dC (.int 1))) ly)) g tb Dn ρ M:=by dsimp only[NP,OM,eK,ly,fN,sA,jy,dC];rw[hv];show xZ ?_;show((),?_);change tH _ _ _ (dW 0 ((-γ:Int)+1).toNat) _ _;rw[show((-γ:Int)+1).toNat=-γ+1 by omega];show h
def J0(hv:ρ[9]? =!(!(.tup L)))(e:ku L 3=!(.loc kr))(hl:M[kr]? =!(.lst xs))(lx:-xs<=sizeLine)(h:t_ (g2 0 1) te [none,none] (λM'=>M'[kr]? =!(.lst xs)) xs [] M (λys M2=>t Dn (ρ.set 10 (!(.lst ys))) M2)):ow (zx 10 (nU 2 (dE (fN bF (jy 9) (dC (.int 3)))) (g2 0 1) te [])) t Dn ρ M:=by dsimp only[ow,zx,nU,dE];show OC hv e ?_;rw[pQ hl];show(lx,h)
def Jp(hv:ρ[9]? =!(!(.tup L)))(e:ku L 2=!(.loc kt))(hl:M[kt]? =!(.lst (tb.map Ο)))(h:t Dn (ρ.set 11 (!(.lst (tb.map Ο)))) M):ow (zx 11 (Nl (sA pw (eK (fN bF (jy 9) (dC (.int 2))) ly)))) t Dn ρ M:=by dsimp only[ow,zx,Nl,sA,eK,ly];show OC hv e (J8 hl h)
def MB{g:Dt->En->(En->Prop)->Prop}{tb:DS}(hv:ρ[9]? =!(!(.tup L)))(e:ku L 0=!(.loc kp))(hl:M[kp]? =!(dP p))(h:r8 g tb Dn (λ_=>True) ((p.map (·.1)).map Dt.int) ρ M):k4 (dE (Nl (sA zX (eK (fN bF (jy 9) (dC (.int 0))) ly)))) g tb Dn ρ M:=by
 dsimp only[k4,dE,Nl,sA,eK,ly];let ek:(kP p).map oO=(p.map (·.1)).map Dt.int:=by unfold kP;rw[List.map_map,List.map_map];rfl
 show OC hv e (kp,_,_,rfl,hl,c8 ?_ ?_)
 .rw[ek];show gq _
 .rw[ek];show h
def Lc{tk:DE}{i:Int}(ho:∀(q:DQ) (x:DX),q (.loc kp) M->to ρ M q x)(hk:∀(q:DQ) (x:DX),q (.int i) M->tk ρ M q x)(hl:M[kp]? =!(dP p))(pl:-p < 1000)(h:Dn.nx ρ (M.set kp (dP (cK p i v)))):nR to tk (dC (.int v)) Dn ρ M:=by dsimp only[nR,dC];show ho _ _ (hk _ _ (kp,_,_,Sum.inl i,rfl,hl,rfl,by unfold kP;rw[List.length_map];show pl,?_));rw[rD (v:=v),vA];show h
def FO{tk:DE}{i:Int}(ho:∀(q:DQ) (x:DX),q (.loc kp) M->to ρ M q x)(hk:∀(q:DQ) (x:DX),q (.int i) M->tk ρ M q x)(hl:M[kp]? =!(dP p))(pl:-p < 1000)(h:t Dn ρ (M.set kp (dP (cK p i v)))):ow (nR to tk (dC (.int v))) t Dn ρ M:=Lc (Dn:={Dn with nx:=t Dn}) ho hk hl pl h
def GP{f0:Fr}(ho:∀(q:DQ) (x:DX),q (.loc kt) M->to ρ M q x)(hl:M[kt]? =!(.lst ((f0::tb).map Ο)))(h:∀xs,t Dn ρ (M.set kt (.lst xs))):ow (qf to (dC (.int 0)) (C6 (eK (fN sD (fN bF (fN bF to (dC (.int 0))) (dC (.int 0))) (dC (.int a))) (eK (dC (.int b)) ly)))) t Dn ρ M:=by dsimp only[ow,qf,C6,eK,ly,fN,dC];show ho _ _ ?_;show Δ (d:=.loc kt) (iH hl) aw ?_;show(kU ?_:bF (Ο f0) (.int 0) _ _);show(gV,?_);show ho _ _ (kt,0,_,0,rfl,rfl,hl,by unfold Fo;rw[if_pos @_,if_pos (by rw[List.map_cons,List.length_cons];omega)];rfl,h _)
def PM{r:DS}{ds:List Dt}(ho:∀(q:DQ) (x:DX),q (.loc kr) M->to ρ M q x)(hv:ρ[10]? =!(!(.lst es)))(hl:M[kr]? =!(.lst ds))(len:-ds=-es)(hp:∀(j:Nat) u v,ds[j]? =!u->es[j]? =!v->PrD M 2 u v)(h:t Dn ρ M):ow (Yn (jT (fN (Sf 2) to (jy 10))) r Gq) t Dn ρ M:=by dsimp only[ow,Yn,jT,fN,jy];show ho _ _ ?_;rw[hv];show(ds,es,jo (cU hl),rfl,len,hp,nofun,λ_=>h)
def R0{t3:DE}{d e:Dt}(ho:∀(q:DQ) (x:DX),q (.loc kr) M->to ρ M q x)(h3:∀(q:DQ) (x:DX),q d M->t3 ρ M q x)(hv:ρ[11]? =!(!e))(hl:M[kr]? =!(.lst xs))(len:-xs < sizeLine)(h:∀xs,t Dn ρ (M.set kr (.lst xs))):ow (B' (Oy to (eK (C6 (eK t3 (eK (jy 11) ly))) ly))) t Dn ρ M:=by dsimp only[ow,B',Oy,eK,ly,C6,jy];show ho _ _ ((kr,_,rfl,hl),h3 _ _ ?_);rw[hv];show(gV,kr,_,_,rfl,rfl,hl,len,h _)
def Nt.same{p2 Nv:Pl}{IB:List Fr}{tF qK:List tP}(a:Nt ε γ hand rival p0 (tF++[(p, pa,tb)]))(b:Nt ε γ hand rival p0 (qK++[(p2, Nv,IB)]))(fw:FW ε γ X C)(hs:fP hand rival)(b1:1<=lq X C)(ha:Γ ε γ tb p=[])(hb:Γ ε γ IB p2=[]):IB=tb:=by
 let tabs:∀r∈tF++[(p, pa,tb)],∀r2∈qK++[(p2, Nv,IB)],r.1=r2.1->r2.2.2=r.2.2:=λr hr r2 vZ e=>by
  let(f,c):=a.fit r hr;let(f2,c2):=b.fit r2 vZ;let l:=c.2.1.tab.len;let l2:=c2.2.1.tab.len;show acv () λi h1 h2=>?_;let il:i < -γ:=()
  let e1:=xy fw hs b1 f c il;let e2:=xy fw hs b1 f2 c2 il;rw[<-e,e1]at e2;have:=AB (c2.2.1.tab.red i il) (c.2.1.tab.red i il) e2.symm;rwa[aab,aab,aaa h1,aaa h2]at this
 let step:∀(i:Nat) (r r2:tP),(tF++[(p, pa,tb)])[i]? =!r->(qK++[(p2, Nv,IB)])[i]? =!r2->r.1=r2.1/\r2.2.2=r.2.2:=λi=>by
  induction i with
  | zero=>exactλr r2 h h2=>((a.first r h).trans (b.first r2 h2).symm,tabs r (aao h) r2 (aao h2) ((a.first r h).trans (b.first r2 h2).symm))
  | succ i ih=>
   intro r r2 h h2;let l:=(aae.mp h).1;let l2:=(aae.mp h2).1;let g:=aaa (Nat.lt_of_succ_lt l);let g2:=aaa (Nat.lt_of_succ_lt l2);let(e,et):=ih _ _ g g2;let n:=(a.next i _ r g h).2;let n2:=(b.next i _ r2 g2 h2).2;rw[<-e,et,<-n]at n2;show(n2.symm,tabs r (aao h) r2 (aao h2) n2.symm)
 let la:(tF++[(p, pa,tb)])[-tF]? =!(p, pa,tb):=by simp
 let lb:(qK++[(p2, Nv,IB)])[-qK]? =!(p2, Nv,IB):=by simp
 let lla:-(tF++[(p, pa,tb)])=-tF+1:=by simp
 let llb:-(qK++[(p2, Nv,IB)])=-qK+1:=by simp
 rcases Nat.lt_trichotomy (-tF) (-qK) with c| c| c
 .let g:=aaa (l:=qK++[(p2, Nv,IB)]) (i:=-tF) ();let g':=aaa (l:=qK++[(p2, Nv,IB)]) (i:=-tF+1) ();let(e,et):=step _ _ _ la g;have:=(b.next _ _ _ g g').1;rw[<-e,et]at this;show abc ha this
 .rw[<-c]at lb;show(step _ _ _ la lb).2
 .let g:=aaa (l:=tF++[(p, pa,tb)]) (i:=-qK) ();let g':=aaa (l:=tF++[(p, pa,tb)]) (i:=-qK+1) ();let(e,et):=step _ _ _ g lb;have:=(a.next _ _ _ g g').1;rw[e,<-et]at this;show abc hb this
abbrev Rh(ns:List Int)(ε:Fr)(γ:List Rw)(A:Addr)(hand rival:Str)(k:Nat)(a b c d e f:Option Dt):En:=[!(.jC ns),!(Ο ε),!(.lst (γ.map ay)),!(aJ A ε γ),!(.str hand),!(.str rival),!(.loc k),a,b,c,d,e,f]
def iK:Ζ ["_law_script","_law_share","_law_rows","_law_floor_here","_law_hand","_law_rival","_law_start","_law_k","_law_handed","_law_found","_law_kept","_law_worth","_law_again"] ["_law_script"] (υ Rv):=.of rfl
def Ul(F:c_ K "law" "law" Rv f fd)(E:Ev K mg w Cm)(nK:av P w K mg base 5 "_law_floor" ["_law_script"] Gz IZ Jj)(lN:Ua P w K mg base 5 "Floor" Cm ["self","share","rows"] (QS Cm) Fd D5)(qu:av P w K mg base 1 "_law_copy" ["_law_rows"] Ks Ka Kp)(cE:av P w K mg base 1 "_law_at" ["_law_script","_law_k"] X8 tm tO)(hX:av P w K mg base 2 "_law_plan" ["_law_script","_law_rows","_law_hand","_law_at_here"] E9 sV uC)(gm:N1 P w K mg base 10 "mended" ["floor","hand","start"] (Am Cm) [] Ao zo)(gf:av P w K mg base 4 "_law_held" ["_law_share","_law_rows","_law_found","_law_rival"] K5 uv uo)(bL:av P w K mg base 3 "_law_rounds_told" ["_law_found","_law_rows","_law_hand"] TRT iy iz)(kS:av P w K mg base 12 "_law_between" ["_law_script","_law_share","_law_rows","_law_floor_here","_law_hand","_law_rival"] (CD Cm) Bs Cs):aq P w K mg base (b9 P w) 13 f fd ["_law_script"] (cM K RY):=by
 show F.dX iK (λds M q x h=>?_) (λbf A outer s H E' hr=>(_,(ζ (Ov (cL (Φ nK hr ξ (Μ (jv 0) θ))) (lX rfl (bG (Ω (i:=1) iK.nd rfl (Or.inl rfl)) (bG (Ω (i:=2) iK.nd rfl (Or.inl rfl)) iV))))
   (ζ (ψ 3 iK.nd (cL (RA lN hr ξ (Μ (jv 1) (ι (Φ qu hr ξ (Μ (jv 2) θ)) θ aU)))))
   (ζ (ψ 4 iK.nd (ω (eA 3 (d:=.lst [.str "one",.str "other"]) (by rfl)) (bI (Φ cE hr ξ (Μ (jv 0) (ι ν θ dj))) ν)))
   (ζ (ψ 5 iK.nd (ω (eA 3 (d:=.lst [.str "other",.str "one"]) (by rfl)) (bI (Φ cE hr ξ (Μ (jv 0) (ι ν θ dj))) ν)))
   (ζ (ψ 6 iK.nd (Φ hX hr ξ (Μ (jv 0) (Μ (jv 2) (Μ (jv 4) (ι ν θ dj))))))
   (ζ (fB (ai (cR hr (bI (Φ cE hr ξ (Μ (jv 0) (ι ν θ dj))) ν) ν) (μ (gS (cn E.bX (ι (bY (bQ E.bu (Μ (jv 2) θ)) ν) θ bO)) (Ω (i:=7) iK.nd rfl (Or.inl rfl)) aH (μ (ai (qi hr (jv 7) (jv 6)) (μ (iU hr (jv 6) (jv 7) (xS (bI (bI (ax (Φ cE hr ξ (Μ (jv 0) (ι ν θ dj))) (bY ν (ax (jv 7) (jv 7)))) ν) ν) ν))) Ν)))) Ν))
   (ζ (ψ 8 iK.nd (zD E.lU (Μ (jv 6) θ)))
   (ζ (fB (ψ 9 iK.nd (L6 gm hr ξ (Μ (jv 3) (Μ (jv 4) (Μ (jv 8) θ))))))
   (ζ (ai (JW.jt (dJ (R1 1 hr (jv 8) (jv 6)) (dJ (bM (aK (Φ bL hr ξ (Μ (jv 9) (Μ (jv 2) (Μ (jv 4) θ)))))) (eD (bM (aK (Φ gf hr ξ (Μ (jv 1) (Μ (jv 2) (Μ (jv 9) (Μ (jv 5) θ))))))))))) (μ (Β vc)) Ν)
   (ζ (Bh (i:=10) iK.nd rfl (Or.inl rfl) (ys:=[]) (ae:=[]) (.of iK rfl rfl rfl) (bo (ω (jv 9) ν)) (λC s H fp=>(cP (ι (zD E.lU (Μ (jv 0) θ)) (ι (cL (qH E.gR (Μ (jv 1) θ))) θ aU) aU))))
   (ζ (ψ 11 iK.nd (cL (qH E.gR (ι (ω (jv 9) ν) θ aL))))
   (ζ (fB (ai (JW.jt (D8 (j3 hr (bI (Φ cE hr ξ (Μ (jv 0) (ι ν θ dj))) ν) ν) (z7 (j3 hr (bI (Φ cE hr ξ (Μ (jv 0) (ι ν θ dj))) ν) ν)))) (μ (ai (bM (aK (Φ kS hr ξ (Μ (jv 0) (Μ (jv 1) (Μ (jv 2) (Μ (jv 3) (Μ (jv 4) (Μ (jv 5) θ))))))))) (μ (Β vc)) Ν)) Ν))
   (ζ (fB (ck (bo (cL (PV E.gR (ι (ω (jv 9) ν) θ aL)))) (Ω (i:=7) iK.nd rfl (Or.inl rfl)) aH (μ (iU hr (ω (jv 9) ν) (jv 7) ν))))
   (ζ (iU hr (ω (jv 9) ν) ν ν)
   (ζ (jS (ω (jv 9) ν) ν (cP (ι (bY (ω (ω (ω (jv 9) ν) ν) ν) ν) (ι ν θ dj) bO)))
   (ζ (ai (Sw 2 hr (ω (jv 9) ν) (jv 10)) (μ (Β vc)) Ν)
   (ζ (iU hr (ω (ω (ω (jv 9) ν) ν) ν) ν ν)
   (ζ (jS (ω (ω (ω (jv 9) ν) ν) ν) ν (cP (ι (bY (ω (ω (ω (ω (ω (jv 9) ν) ν) ν) ν) ν) ν) (ι ν θ dj) bO)))
   (ζ (eQ (fL (ω (jv 9) ν) (ι (cP (ι (ω (ω (ω (jv 9) ν) ν) ν) (Μ (jv 11) θ) aL)) θ uh)))
   (ζ (fB (ψ 12 iK.nd (L6 gm hr ξ (Μ (jv 3) (Μ (jv 4) (Μ (jv 8) θ))))))
   (ζ (ai (JW.jt (dJ (bM (aK (Φ bL hr ξ (Μ (jv 12) (Μ (jv 2) (Μ (jv 4) θ)))))) (eD (bM (aK (Φ gf hr ξ (Μ (jv 1) (Μ (jv 2) (Μ (jv 12) (Μ (jv 5) θ)))))))))) (μ (Β vc)) Ν)
   (μ (Β (fV (QG 1 hr (ω (ω (ω (jv 12) ν) ν) ν) (ω (ω (jv 10) ν) ν)) (jr (QH 2 hr (ω (jv 12) ν) (jv 11))))))))))))))))))))))))))),λds M q x h=>?_))
 .let(ns,rfl,_):=h;rfl
 .let(ns,rfl,nl,hq):=h;show(ns,rfl,nl,λε γ cG lf=>n9 (d':=.tup [Ο ε,.lst (γ.map ay)]) (.tup (.cons (.old (p9 ε)) (.cons (.L7 (Nat.le_refl _) (by simp) (kH.old (tQ γ))) .nil))) ?_);let fw:=lf.fw;let(lj,vY):=lf.sz;let b1:1<=lq (xF cG) (cF cG):=by cases cG <;> decide
  let ou:=lf.EC;let n1:=lf.n1;let ro:∀r∈γ,g6 r/\gB r (-γ)=true:=λr hr=>(lf.row r hr).1.1;let ok:QK ε γ (xF cG) (cF cG):=(fw,lj,vY,b1,λz hz=>aaR (MD fw hz) (aaR lf.pr @_),λk ds hm=>((dq fw.pl hm).l1,(dq fw.pl hm).l6));clear lj vY b1;generalize xF cG=X at *
  generalize cF cG=C at *
  show(γ,rfl,ou,λr hr=>(ro r hr).1,?_);show(-M,.lst (γ.map ay),ε,γ.map ay,γ,λ_=>True,rfl,aB,rfl,A3 γ,lf.sh,n1,ou,ro,rfl,K6 ?_);show(ns,14,rfl,nl,@_,@_,fun n (hn,en)=>(@_,?_));let(hand,rival,eh,ev,fb):=PH n;let hs:=gJ fb;show(Δ (d:=.lst [Dt.str "one",Dt.str "other"]) rfl eh ?_:bF (.lst [Dt.str "one",Dt.str "other"]) (.int (n % 2)) _ _);show(ns,14,rfl,nl,@_,@_,fun n2 (U_,en2)=>(@_,?_));obtain rfl:n2=n:=en2.trans en.symm;show(Δ (d:=.lst [Dt.str "other",Dt.str "one"]) rfl ev ?_:bF (.lst [Dt.str "other",Dt.str "one"]) (.int (n2 % 2)) _ _);show(ns,γ,hand,15,rfl,nl,@_,@_,ou,hs.h1,ok.dr,λps po=>?_);show⟨λρ' M'=>∃(pC:Pl) (o7:Option Dt),qw ps pC 30/\M'=M++[dP pC]/\ρ'=Rh ns ε γ Cm hand rival (-M) o7 none none none none none,?_,?_⟩
  .show(ns,16,rfl,nl,@_,@_,fun n3 (hn3,_)=>(@_,λz=>?_,λz=>?_))
   .show Ma (γ:=γ) rfl ou ?_;show cJ (λzs ρ' M'=>∃(i m:Nat) (p':Pl) (o7:Option Dt),zs=dW (i:Int) m/\i+m=-γ+1/\qw ps p' (12+i)/\M'=M++[dP p']/\ρ'=Rh ns ε γ Cm hand rival (-M) o7 none none none none none) (λx zs ρ' M' hj eE=>?_) (λρ' M' hj=>?_) _ _ _ (0,-γ+1,ps,none,rfl,(),(po.nd,po.len,λi v h=>h),rfl,rfl)
    .let(i,m,p',o7,ex,im,mo,rfl,rfl):=hj;let(m',rfl,rfl,rfl):=b8 ex;show(-M,_,_,Sum.inl (i:Int),rfl,aB,rfl,?_);rw[HR];show(λz=>?_,λ_=>?_)
     .let z:Λ p' i=none:=by
       cases e:Λ p' i with
       | none=>rfl
       | some v=>rw[e]at z;show(nomatch z)
      let z0:Λ ps i=none:=by
       cases e:Λ ps i with
       | none=>rfl
       | some v=>rw[mo.same _ _ e]at z;cases z
      show(ns,16,rfl,nl,@_,@_,λn4 xz=>?_);let(hn4,_):=xz;show((bg (k:=5) (),bg (k:=5) ()),(rj hn4,?_),@_,@_,-M,_,_,Sum.inl (i:Int),rfl,aB,rfl,?_,?_)
      .change fe (48271+(i:Int) * (i:Int));show bg (k:=17) ?_;have:(i:Int) * (i:Int)<=12 * 12:=acC () () () ();have:0<=(i:Int) * (i:Int):=ab9 () ();omega
      .unfold kP;rw[List.length_map];have:=mo.len;omega
      .rw[rD (v:=n4 * (48271+(i:Int) * (i:Int)) % 65537 % 9 - 2),vA,d8];show eE _ _ (i+1,m',_,_,by rw[acF];rfl,(),mo.put z0,rfl,rfl)
     .show eE _ _ (i+1,m',p',_,by rw[acF];rfl,(),(mo.nd,by have:=mo.len;omega,mo.same),rfl,rfl)
    .let(i,m,p',o7,ex,im,mo,rfl,rfl):=hj;show(p',_,(mo.nd,by have:=mo.len;omega,mo.same),rfl,rfl)
   .show(ps,_,(po.nd,aaR po.len @_,λi v h=>h),rfl,rfl)
  rintro ρ1 M1 ⟨pC,o7,mo,rfl,rfl⟩;show(-M,_,_,rfl,aB,?_);let kl:-(M++[dP pC])=-M+1:=by rw[aaj];rfl
  let h6:(M++[dP pC]++[MO.cZ (kP pC) (vP pC)])[-M]? =!(dP pC):=aT aB;let h8:(M++[dP pC]++[MO.cZ (kP pC) (vP pC)])[-M+1]? =!(dP pC):=by rw[<-kl];show aB
  let hB:-(M++[dP pC]++[MO.cZ (kP pC) (vP pC)])=-M+2:=by rw[aaj,kl];rfl
  rw[kl];generalize M++[dP pC]++[MO.cZ (kP pC) (vP pC)]=Mh at h6 h8 hB⊢;let good:=Hu po mo;show⟨λρ' M1=>∃d,CS ε γ hand rival (aO γ hand pC) Mh M1 d/\ρ'=Rh ns ε γ Cm hand rival (-M) o7 (!(.loc (-M+1))) (!d) none none none,?_,?_⟩
  .show(ε,γ,hand,rival,X,C,-M+1,pC,rfl,h8,good,fb,fw,ok.lj,ok.vY,ok.b1,ok.np _ hs.h1,λM1 d td=>(d,td,rfl))
  rintro ρ2 M2 ⟨d,td,rfl⟩;let a8:=td.xt _ _ h8;show(-M+1,-M,true,rfl,rfl,by have:=FX (n:=0) a8 (td.xt _ _ h6);rwa[oW mo.nd]at this,nofun,λ_=>?_);show(ε,γ,hand,rival,_,_,d,X,C,rfl,td,fw,ok.b1,hs,nofun,λ_=>?_);show(ε,γ,hand,rival,_,_,d,X,C,rfl,td,fw,ok.b1,hs,nofun,λ_=>?_);let(kp,ka,kt,kr,lo,rs,tF,p,pa,tb,xh,lows,hp,ha,ht,ra,rd,er,be,Nu):=td;let Nu:=aaR Nu (ok.np _ hs.h1);let(ls,hl,hx,el,lnd):=ra;let lll:-ls=-rs:=by rw[<-el,aac]
  show KJ ?_;show J0 (L:=[.loc kp,.loc ka,.loc kt,.loc kr]) rfl (Θ (j:=3) rfl) hl (by rw[aac,lll];show aaR Nu @_) ?_;show vf (M0:=M2) (λM' x'=>x' _ _ hl) ls [] M2 _ Xt.refl (λx h=>((hx x h).2.2.1,(hx x h).2.2.2.1)) λys M3 x3 ey hy=>?_;let le2:=lows.2;show Jp (L:=[.loc kp,.loc ka,.loc kt,.loc kr]) rfl (Θ (j:=2) rfl) (x3 _ _ ht) ?_;rw[abB];show yC (λρ' M'=>Xt M3 M'/\ρ'=Rh ns ε γ Cm hand rival (-M) o7 (!(.loc (-M+1))) (!(fo kp ka kt kr)) (!(.lst (ys.map pL))) (!(.lst (tb.map Ο))) none) ?_ ?_
  .show(ns,0,rfl,nl,@_,@_,λn5 _=>(@_,λ_=>?_,λ_=>(nofun,λ_=>(Xt.refl,rfl))));show(ns,0,rfl,nl,@_,@_,λn6 _=>(@_,λ_=>?_,λ_=>(Xt.refl,rfl)));show(ns,ε,γ,hand,rival,X,C,rfl,nl,ok,fb,λM1 x1=>(nofun,λ_=>(x1,rfl)))
  rintro ρ4 M4 ⟨x4,rfl⟩;let lm:(p, pa,tb)∈rs:=by rw[er];show aaP _ (abe.mpr rfl)
  let(pf,pb):=rd.fit _ lm;let pl:-p<=-γ:=oY pf;let lp:=(aae.mp hp).1;let la:=(aae.mp ha).1;let lt:=(aae.mp ht).1;let lr:=(aae.mp hl).1;let Od:=x3.trans x4;let JC:=Od _ _ hp;let Us:=Od _ _ ha;let Tg:=Od _ _ ht;let YK:=Od _ _ hl;let h84:=Od _ _ a8;let npt:=r6 JC Tg;let ZC:=r6 Us Tg;let npr:=r6 JC YK;let nar:=r6 Us YK;let apl:-pa<=-γ:=oY pb.1;obtain⟨x0,Uy,rfl⟩:∃x0 Uy,ls=x0::Uy:=by
   cases ls with
   | nil=>rw[ads]at el;rw[<-el]at lm;cases lm
   | cons a b=>show(a,b,rfl)
  obtain⟨y0,yr,rfl⟩:∃y0 yr,ys=y0::yr:=by
   cases ys with
   | nil=>cases ey
   | cons a b=>show(a,b,rfl)
  rw[aaX]at ey;let(YE,eyr):=List.cons.inj ey;let YE:y0.1=x0:=YE;let(xa,xb,xp,xt',xn1,xn2):=hx x0 aaf;let xp4:=Od _ _ xp;let xt4:=Od _ _ xt';let l1:=(aae.mp xp).1;let l2:=(aae.mp xt').1;let x0r:x0.2∈rs:=by rw[<-el];show aap.mpr (x0,aaf,rfl)
  let(xf,aa6):=rd.fit _ x0r;let p0e:x0.2.1=aO γ hand pC:=rd.first x0.2 (by rw[<-el];rfl);obtain⟨t0,tr,et⟩:∃t0 tr,tb=t0::tr:=by
   have:=pb.2.1.tab.len;cases tb with
   | nil=>have:0=-γ:=this;omega
   | cons a b=>show(a,b,rfl)
  obtain⟨s0,sr,es⟩:∃s0 sr,x0.2.2.2=s0::sr:=by
   have:=aa6.2.1.tab.len;cases e:x0.2.2.2 with
   | nil=>rw[e]at this;have:0=-γ:=this;omega
   | cons a b=>show(a,b,rfl)
  let(yl,yk):=hy y0 aaf;let yk4:=x4 _ _ yk;show yC (λρ' M'=>∃(p':Pl) (o:Option Dt),M'=M4.set kp (dP p')/\ρ'=Rh ns ε γ Cm hand rival (-M) o (!(.loc (-M+1))) (!(fo kp ka kt kr)) (!(.lst ((y0::yr).map pL))) (!(.lst (tb.map Ο))) none) ?_ ?_
  .show MB (L:=[.loc kp,.loc ka,.loc kt,.loc kr]) rfl (Θ (j:=0) rfl) JC ?_;show bz (λzs ρ' M'=>∃(rest:List Int) (p':Pl) (o:Option Dt),zs=rest.map Dt.int/\-p'+-rest<=24/\M'=M4.set kp (dP p')/\ρ'=Rh ns ε γ Cm hand rival (-M) o (!(.loc (-M+1))) (!(fo kp ka kt kr)) (!(.lst ((y0::yr).map pL))) (!(.lst (tb.map Ο))) none) (λ_ _ _ _=>trivial) (λx zs ρ' M' hj eE=>?_) (λρ' M' hj=>?_) _ _ _ (p.map (·.1),p,o7,rfl,by rw[aac];omega,(vX JC).symm,rfl)
   .let(rest,p',o,ez,lz,rfl,rfl):=hj;cases rest with
    | nil=>cases ez
    | cons i rest=>
     cases ez;rw[aaQ]at lz;dsimp only[gN];show Lc (i:=i) (p:=p') (λq x h=>OC rfl (Θ (j:=0) rfl) h) (λq x h=>h) (abH (aae.mp JC).1) () ?_;show eE _ _ (rest,cK p' i 9,_,rfl,by have:=yK (p:=p') (i:=i) (v:=9) (aas _);omega,by rw[List.set_set],rfl)
   .let(rest,p',o,ez,lz,rfl,rfl):=hj;show(p',o,rfl,rfl)
  rintro ρ5 M5 ⟨p',o,rfl,rfl⟩;show FO (kp:=ka) (p:=pa) (i:=0) (λq x h=>OC rfl (Θ (j:=1) rfl) h) (λq x h=>h) (e7 Us lows.2.2.2.2.2.2.1) () ?_;show GP (kt:=kt) (f0:=t0) (tb:=tr) (λq x h=>OC rfl (Θ (j:=2) rfl) h) (by rw[<-et];show e7 (e7 Tg npt) ZC) λxs1=>?_;let s5:∀{k:Nat} {u:MO},M4[k]? =!u->kp≠k->ka≠k->kt≠k->(((M4.set kp (dP p')).set ka (dP (cK pa 0 7))).set kt (.lst xs1))[k]? =!u:=λh a b c=>e7 (e7 (e7 h a) b) c;generalize ((M4.set kp (dP p')).set ka (dP (cK pa 0 7))).set kt (.lst xs1)=M5 at s5⊢;let Ut:=s5 YK npr nar lows.2.2.2.2.2.2.2;let h85:=s5 h84 () () ();let Vu:∀y∈y0::yr,M5[y.2]? =!(dP y.1.2.1):=λy U3=>by let(a,b):=hy y U3;show s5 (x4 _ _ b) () () ()
  let NY:∀x∈x0::Uy,M5[x.1.1]? =!(dP x.2.1)/\M5[x.1.2]? =!(.lst (x.2.2.2.map Ο)):=λx Uk=>by let(c1,c2,c3,c4,c5,c6):=hx x Uk;let c3:=Od _ _ c3;let c4:=Od _ _ c4;show(s5 c3 () (Ne.symm c5) (Ne.symm (r6 c3 Tg)),s5 c4 () (r6 Us c4) (Ne.symm c6))
  let ell:-(x0::Uy)=-(y0::yr):=by rw[aaQ,aaQ,<-eyr,aac]
  show PM (kr:=kr) (λq x h=>OC rfl (Θ (j:=3) rfl) h) rfl Ut (by rw[aac,aac];show ell) (λj u v hu hv=>?_) ?_
  .rw[aaw]at hu hv;cases eu:(x0::Uy)[j]? with
   | none=>rw[eu]at hu;cases hu
   | some x1=>
    cases ew:(y0::yr)[j]? with
    | none=>rw[ew]at hv;cases hv
    | some y1=>
     rw[eu]at hu;rw[ew]at hv;cases hu;cases hv;let e1:y1.1=x1:=by
      have:((y0::yr).map (·.1))[j]? =!y1.1:=by rw[aaw,ew];rfl
      rw[aaX,YE,eyr,eu]at this;show(aaI this).symm
     let xm:=aao eu;let xr:x1.2∈rs:=by rw[<-el];show aap.mpr (x1,xm,rfl)
     let y1h:=Vu y1 (aao ew);rw[e1]at y1h;show(.loc x1.1.1,.loc x1.1.2,.loc y1.2,.lst (x1.2.2.2.map Ο),rfl,by rw[<-e1];rfl,?_,yo (jo (cU (NY x1 xm).2)) rfl);have:=FX (n:=1) (NY x1 xm).1 y1h;rwa[oW (bq (rd.fit _ xr).1)]at this
  let xp5:=(NY x0 aaf).1;let xt5:=(NY x0 aaf).2;let ho:∀{M':Ms} {d:Dt} {i:Int} {ρ:En} (q:DQ) (x:DX),ρ[9]? =!(!(fo kp ka kt kr))->M'[kr]? =!(.lst ((x0::Uy).map gT))->ku [Dt.loc x0.1.1,.loc x0.1.2] i=!d->q d M'->fN bF (fN bF (fN bF (jy 9) (dC (.int 3))) (dC (.int 0))) (dC (.int i)) ρ M' q x:=λq x hv hk e hq=>ixE (ixE (OC hv (Θ (j:=3) rfl) (Δ (d:=.loc kr) (iH hk) aw (Δ (d:=gT x0) (xs:=[.loc x0.1.1,.loc x0.1.2]) rfl e hq))));let ab:=r6 xp5 xt5;let xfl:-x0.2.1<=-γ:=oY xf;show FO (kp:=x0.1.1) (p:=x0.2.1) (i:=98) (λq x h=>ho q x rfl Ut aw h) (λq x h=>h) xp5 () ?_;let na:=r6 xp5 Ut;let nb:x0.1.2≠kr:=()
  show GP (kt:=x0.1.2) (f0:=s0) (tb:=sr) (λq x h=>ho q x rfl (e7 Ut na) (Θ (j:=1) rfl) h) (by rw[<-es];show e7 xt5 ab) λxs2=>?_;show R0 (kr:=kr) (d:=.loc x0.1.1) (λq x h=>OC rfl (Θ (j:=3) rfl) h) (λq x h=>ho q x rfl (e7 (e7 Ut na) nb) aw h) rfl (e7 (e7 Ut na) nb) (by rw[aac,lll];show abz Nu @_) λxs3=>?_;let s8:∀{k:Nat} {u:MO},M5[k]? =!u->x0.1.1≠k->x0.1.2≠k->kr≠k->(((M5.set x0.1.1 (dP (cK x0.2.1 98 3))).set x0.1.2 (.lst xs2)).set kr (.lst xs3))[k]? =!u:=λh a b c=>e7 (e7 (e7 h a) b) c;generalize ((M5.set x0.1.1 (dP (cK x0.2.1 98 3))).set x0.1.2 (.lst xs2)).set kr (.lst xs3)=M8 at s8⊢;let h88:=s8 h85 () () ();let y08:=s8 (Vu y0 aaf) () () ();show yC (λρ' M1=>∃d,CS ε γ hand rival (aO γ hand pC) M8 M1 d/\ρ'=Rh ns ε γ Cm hand rival (-M) o (!(.loc (-M+1))) (!(fo kp ka kt kr)) (!(.lst ((y0::yr).map pL))) (!(.lst (tb.map Ο))) (!d)) ?_ ?_
  .show(ε,γ,hand,rival,X,C,-M+1,pC,rfl,h88,good,fb,fw,ok.lj,ok.vY,ok.b1,ok.np _ hs.h1,λM1 d td=>(d,td,rfl))
  rintro ρ9 M9 ⟨d,td,rfl⟩;show(ε,γ,hand,rival,_,_,d,X,C,rfl,td,fw,ok.b1,hs,nofun,λ_=>?_);show(ε,γ,hand,rival,_,_,d,X,C,rfl,td,fw,ok.b1,hs,nofun,λ_=>?_);let(kp2,ka2,kt2,kr2,lo2,rs2,qK,p2,Nv,IB,x9,_,hp9,ha9,ht9,ra9,Ys,er9,be9,_):=td;show KJ ?_;let(ls2,D7,YD,XT,_):=ra9.at;let lm2:(p2, Nv,IB)∈rs2:=by rw[er9];show aaP _ (abe.mpr rfl)
  let(pf2,pb2):=Ys.fit _ lm2;obtain⟨z0,lz,rfl⟩:∃z0 lz,ls2=z0::lz:=by
   cases ls2 with
   | nil=>rw[ads]at XT;rw[<-XT]at lm2;cases lm2
   | cons a b=>show(a,b,rfl)
  let z0e:z0.2.1=aO γ hand pC:=Ys.first z0.2 (by rw[<-XT];rfl);let z0r:z0.2∈rs2:=by rw[<-XT];show aap.mpr (z0,aaf,rfl)
  let(_,_,zp,_):=YD z0 aaf;rw[er]at rd;let et2:IB=tb:=rd.same (er9▸Ys) fw hs ok.b1 be be9;let y09:=x9 _ _ y08;rw[YE,p0e,<-z0e]at y09;walk_at "vc";show(TM ?_);show(Δ (d:=.loc kr2) (iH D7) aw ?_:bF (.loc kr2) (.int 0) _ _);show(Δ (d:=gT z0) (xs:=[.loc z0.1.1,.loc z0.1.2]) rfl aw ?_:bF (gT z0) (.int 0) _ _);show(Δ (d:=.lst ((y0::yr).map pL)) rfl aw ?_:bF (.lst ((y0::yr).map pL)) (.int 0) _ _);show(Δ (d:=pL y0) (xs:=[.loc y0.2,.lst (y0.1.2.2.2.map Ο)]) rfl aw ?_:bF (pL y0) (.int 0) _ _);show(z0.1.1,y0.2,true,rfl,rfl,by have:=FX (n:=0) zp y09;rwa[oW (bq (Ys.fit _ z0r).1)]at this,λ_=>?_,nofun);show(Ye ?_);rw[et2]at ht9;show(true,.inr (_,jo (cU ht9)),.inr (_,rfl),yo (jo (cU ht9)) rfl,hq _)
structure FT(K:fI)(f:Addr)(x:Str)(st:Stmt):Prop where
 a:PySem.W.nsIn K mainGlobals x=!(!(.ref f))
 e:∃fd,c_ K x x st f fd
structure FM(K:fI)(C f:Addr)(m x:Str)(st:Stmt):Prop where
 a:PySem.W.findIn K (.ref C) m=!(!(.ref f))
 i:PySem.W.isFn K (.ref f)=true
 e:∃fd,c_ K m x st f fd
structure FV(K:fI)(f:Addr)(x:Str)(st:Stmt)(U:Addr)(its:Array Value):Prop where
 a:PySem.W.nsIn K mainGlobals x=!(!(.ref f))
 e:∃fd,HU K x st U its f fd
section
variable{K:fI}{C:Addr}{m x:Str}{st:Stmt}{oc:Value}{od an:Option Addr}{CY:Array (Option Value)}{kV doc pm bf ct:Value}
def FT.of(a:PySem.W.nsIn K mainGlobals x=!(!(.ref f)))(l:K.lookup f=!(oc,od,.func (PySem.W.fnOf x x (hI st) (eP st) (υ st) .none kV doc pm an bf ct),CY))(c:PySem.W.codeIn K bf x=true)(k:PySem.W.keepIn K (.ref f)=true):FT K f x st:=(a,_,KO l c k)
def FM.of(a:PySem.W.findIn K (.ref C) m=!(!(.ref f)))(i:PySem.W.isFn K (.ref f)=true)(l:K.lookup f=!(oc,od,.func (PySem.W.fnOf m x (hI st) (eP st) (υ st) .none kV doc pm an bf ct),CY))(c:PySem.W.codeIn K bf x=true)(k:PySem.W.keepIn K (.ref f)=true):FM K C f m x st:=(a,i,_,KO l c k)
def FV.of{tc:Value}{td:Option Addr}{ts:Array (Option Value)}(a:PySem.W.nsIn K mainGlobals x=!(!(.ref f)))(l:K.lookup f=!(oc,od,.func (PySem.W.fnOf x x (hI st) (eP st) (υ st) (.ref U) kV doc pm an bf ct),CY))(c:PySem.W.codeIn K bf x=true)(k:PySem.W.keepIn K (.ref f)=true)(t:K.lookup U=!(tc,td,.seq its tn,ts)):FV K f x st U its:=(a,_,(_,_,_,_,_,_,_,_,_,rfl,l,c),(_,_,t,rfl),k)
end
section
variable{P:List Value->Prop}
def Wc(h:P []):∀us:List Value,-us=0->P us
 | [],_=>h
 | _::_,e=>nomatch e
def gK(h:∀a0:Value,P [a0]):∀us:List Value,-us=1->P us
 | [],e=>nomatch e
 | a::us,e=>Wc (P:=λus=>P (a::us)) (h a) us (adL e)
def cQ(h:∀a0 a1:Value,P [a0,a1]):∀us:List Value,-us=2->P us
 | [],e=>nomatch e
 | a::us,e=>gK (P:=λus=>P (a::us)) (h a) us (adL e)
def fQ(h:∀a0 a1 a2:Value,P [a0,a1,a2]):∀us:List Value,-us=3->P us
 | [],e=>nomatch e
 | a::us,e=>cQ (P:=λus=>P (a::us)) (h a) us (adL e)
def mS(h:∀a0 a1 a2 a3:Value,P [a0,a1,a2,a3]):∀us:List Value,-us=4->P us
 | [],e=>nomatch e
 | a::us,e=>fQ (P:=λus=>P (a::us)) (h a) us (adL e)
def Q1(h:∀a0 a1 a2 a3 a4:Value,P [a0,a1,a2,a3,a4]):∀us:List Value,-us=5->P us
 | [],e=>nomatch e
 | a::us,e=>mS (P:=λus=>P (a::us)) (h a) us (adL e)
def Vr(h:∀a0 a1 a2 a3 a4 a5:Value,P [a0,a1,a2,a3,a4,a5]):∀us:List Value,-us=6->P us
 | [],e=>nomatch e
 | a::us,e=>Q1 (P:=λus=>P (a::us)) (h a) us (adL e)
end
def Aw{K:fI}(h:PySem.W.subIn K (.type "int") (.type "bool")=!false):PySem.W.kitOne K (.type "int") (.type "bool")=!false:=by unfold PySem.W.kitOne PySem.W.kitCls;rw[aa2 (by decide+kernel)];change(if PySem.W.kitMeta "bool"=true then _ else _)=_;rw[aa1 (by decide+kernel)];show h
set_option tactic.hygienic true in
def Ri{K:fI}{a:Addr}(h1:PySem.W.nsIn K a "one"=!(!(.str "other" t1)))(h2:PySem.W.nsIn K a "other"=!(!(.str "one" t2)))(h3:PySem.W.nsIn K a "chance"=!(!(.str "chance" t3)))(h:([("one", "other"),("other", "one"),("chance", "chance")]:List (Str×Str)).lookup z=!y):∃tk,PySem.W.nsIn K a z=!(!(.str y tk)):=by
 rw[acx]at h;split at h
 .rename_i e;cases acU.mp e;cases h;show(_,h1)
 rw[acx]at h;split at h
 .rename_i e;cases acU.mp e;cases h;show(_,h2)
 rw[acx]at h;split at h
 .rename_i e;cases acU.mp e;cases h;show(_,h3)
 cases h
open PySem.W in
def all_mk{l:OpenLaw}{w:World}{K:Frag}{h:Heap}{fa Cm Ga XF f1 f2 f3 f4 f5 f6 f7 f8 f9 f10 f11 f12 f13 f14 f15 f16 f17 f18 f19 f20 f21 f22 f23 f24 f25 f26 f27 f28 f29 f30 f31 f32 f33 f34 f35 f36 f37 f38 f39 f40 f41 f42 f43 f44 f45 f46 f47 f48 f49 f50 f51 f52 f53 f54 f55 f56 f57 f58 f59 f60 f61 f62 f63 f64 f65 f66 f67 f68 f69 f70:Addr}(X:K.In h)(G:h.Ns mainGlobals mg)(hfa:mg "law"=!(.ref fa))
  {Aq wu wA mO:Tok}
  (z_:nsIn K mainGlobals "MOST_DOORS"=!(!(.int (6) Aq)))
  (wK:nsIn K mainGlobals "MOST_BOTTOM"=!(!(.int (1000000) wu)))
  (v9:nsIn K mainGlobals "MOST_PLACES"=!(!(.int (12) wA)))
  (mM:nsIn K mainGlobals "MOST_SHARE_BOTTOM"=!(!(.int (1000) mO)))
  (P6:nsIn K mainGlobals "Floor"=!(!(.ref Cm))) (gs:plainGet K Cm Str.empty=true) (gF:hasDictIn K Cm=true) (gz:plainOver K Cm=true) (gG:findIn K (.ref Cm) "__setattr__"=!(!(.builtin "object.__setattr__"))) (Pe:makesIn K Cm=true) (OB:keepIn K (.ref Cm)=true)
  (z6:findIn K (.ref Cm) "kept_rows"=!none)
  (wD:findIn K (.ref Cm) "kept_share"=!none)
  {Ke Kq:Tok} {Mg:Option Addr} {Mp:Array (Option Value)} {JZ:Nat} (LJ:nsIn K mainGlobals "HANDS"=!(!(.ref Ga))) (Mw:K.lookup Ga=!(.type "tuple",Mg,.seq #[(.str "one" Ke),(.str "other" Kq)] JZ,Mp))
  (BG:subIn K (.type "int") (.type "bool")=!false)
  (t1:FT K f1 "_law_at" Du)
  (t2:FT K f2 "_law_by_digits" j9)
  (t3:FT K f3 "_law_lowest" oz)
  (t4:FT K f4 "_law_share_of" lT)
  (t5:FT K f5 "_law_pay" yp)
  (t6:FT K f6 "_law_stream" oi)
  (t7:FT K f7 "_law_things" nA)
  (t8:FT K f8 "_law_doors" qg)
  (t9:FT K f9 "_law_floor" q5)
  (t10:FT K f10 "fits_share" nQ)
  (t11:FT K f11 "fits_pay" ui)
  (t12:FT K f12 "fits_door" qB)
  (t13:FT K f13 "fits_doors" oq)
  (t14:FT K f14 "common_divisor" iE)
  (t15:FT K f15 "common_bottom" jf)
  (t16:FT K f16 "fits_chances" kF)
  (t17:FT K f17 "fits_row" uP)
  (t18:FT K f18 "copied_row" om)
  (t19:FM K Cm f19 "__init__" "Floor.__init__" nL)
  (t20:FT K f20 "_law_copy" tT)
  (t21:FT K f21 "_law_plan" vm)
  (t22:FM K Cm f22 "size" "Floor.size" nY)
  (t23:FM K Cm f23 "kind" "Floor.kind" oh)
  (t24:FT K f24 "places_of" qT)
  (t25:FT K f25 "first_plan" oI)
  (t26:FM K Cm f26 "doors" "Floor.doors" lJ)
  (t27:FT K f27 "has_door" tM)
  (t28:FT K f28 "doors_of" vi)
  (t29:FT K f29 "started" uU)
  (t30:FT K f30 "with_weights" ki)
  (t31:FT K f31 "number_of_head" ji)
  (t32:FT K f32 "moved_ahead" lC)
  (t33:FT K f33 "cleared_line" kC)
  (t34:FT K f34 "cleared" ua)
  (t35:FT K f35 "fraction" qP)
  (t36:FT K f36 "quotients" nH)
  (t37:FT K f37 "answer_of" qF)
  (t38:FT K f38 "minus" C4)
  (t39:FT K f39 "times" EI)
  (t40:FT K f40 "whole_row" qz)
  (t41:FT K f41 "led_row" zK)
  (t42:FM K Cm f42 "pay" "Floor.pay" p_)
  (t43:FM K Cm f43 "share" "Floor.share" me)
  (t44:FT K f44 "ways_from" qp)
  (t45:FT K f45 "plus" LD)
  (t46:FT K f46 "weighed" vt)
  (t47:FT K f47 "row_of" Dp)
  (t48:FT K f48 "worths_by" rB)
  (t49:FT K f49 "worths_against" iI)
  (t50:FM K Cm f50 "shown" "Floor.shown" l9)
  (t51:FM K Cm f51 "all_shown" "Floor.all_shown" ie)
  (t52:FT K f52 "under" Eu)
  (t53:FT K f53 "greatest" rq)
  (t54:FT K f54 "least" DV)
  (t55:FM K Cm f55 "look" "Floor.look" n_)
  (t56:FM K Cm f56 "best" "Floor.best" nv)
  (t57:FT K f57 "better_doors" j7)
  (t58:FT K f58 "against" uS)
  {U59:Addr} {Rj:Tok} (t59:FV K f59 "mended" yD U59 #[.str "one" Rj,.none])
  (t60:FT K f60 "_law_shown" qA)
  (t61:FT K f61 "_law_less" uK)
  (t62:FT K f62 "_law_due" yW)
  (t63:FT K f63 "_law_meets" qY)
  (t64:FT K f64 "_law_whole" rA)
  (t65:FT K f65 "_law_plan_told" kI)
  (t66:FT K f66 "_law_held" vj)
  (t67:FT K f67 "_law_table" pZ)
  (t68:FT K f68 "_law_rounds_told" ir)
  (t69:FT K f69 "_law_between" lY)
  (t70:FT K f70 "law" Rv)
  (W9:nsIn K mainGlobals "len"=!none)
  (V7:nsIn K mainGlobals "abs"=!none)
  (yQ:nsIn K mainGlobals "isinstance"=!none)
  (Vi:nsIn K mainGlobals "int"=!none)
  (Ts:nsIn K mainGlobals "bool"=!none)
  (N0:nsIn K mainGlobals "tuple"=!none)
  (Tv:nsIn K mainGlobals "list"=!none)
  (PD:nsIn K mainGlobals "range"=!none)
  (A1:nsIn K mainGlobals "enumerate"=!none)
  (VH:nsIn K mainGlobals "any"=!none)
  (Va:nsIn K mainGlobals "all"=!none)
  (Vx:nsIn K mainGlobals "sum"=!none)
  (XA:nsIn K mainGlobals "zip"=!none)
  (Rf:nsIn K mainGlobals "dict"=!none)
  (Wk:nsIn K mainGlobals "min"=!none)
  {Xy:Array DictEntry} {nTK:Nat} {ZO YU Zn:Tok}
  (abv:nsIn K mainGlobals "TURNED_KINDS"=!(!(.ref XF)))
  (Zm:K.lookup XF=!(.type "dict",none,.dict Xy nTK,#[]))
  (ZJ:KeysLit w.params Xy.toList)
  (ab2:nsIn K XF "one"=!(!(.str "other" ZO)))
  (abg:nsIn K XF "other"=!(!(.str "one" YU)))
  (aaz:nsIn K XF "chance"=!(!(.str "chance" Zn)))
  :∃fd:FuncData,(∀(s:Shared) (v:Value),BindsTo s fd ([v],[]) [("_law_script", v)])/\∀base:Heap,K.In base->base.Ns mainGlobals mg->aq l.prog w K mg base X6 13 fa fd ["_law_script"] (Cz K):=by
 let(a1,_,F1):=t1;let(a2,_,F2):=t2;let(a3,_,F3):=t3;let(a4,_,F4):=t4;let(a5,_,F5):=t5;let(a6,_,F6):=t6;let(a7,_,F7):=t7;let(a8,_,F8):=t8;let(a9,_,F9):=t9;let(YG,_,Zi):=t10;let(a11,_,F11):=t11;let(a12,_,F12):=t12;let(a13,_,ZD):=t13;let(a14,_,F14):=t14;let(a15,_,F15):=t15;let(a16,_,Y4):=t16;let(a17,_,YQ):=t17;let(a18,_,F18):=t18;let(a19,i19,_,F19):=t19;let(a20,_,ZM):=t20;let(a21,_,F21):=t21;let(a22,i22,_,F22):=t22;let(a23,i23,_,F23):=t23;let(a24,_,Ze):=t24;let(a25,_,F25):=t25;let(a26,i26,_,F26):=t26;let(a27,_,YR):=t27;let(a28,_,F28):=t28;let(a29,_,Zs):=t29;let(a30,_,Y0):=t30;let(a31,_,F31):=t31;let(a32,_,F32):=t32;let(a33,_,F33):=t33;let(a34,_,F34):=t34;let(a35,_,ZZ):=t35;let(a36,_,YY):=t36;let(a37,_,F37):=t37;let(a38,_,YX):=t38;let(a39,_,F39):=t39;let(a40,_,F40):=t40;let(a41,_,Zg):=t41;let(a42,i42,_,YW):=t42;let(a43,i43,_,F43):=t43;let(a44,_,Zr):=t44;let(a45,_,ZY):=t45;let(a46,_,Zy):=t46;let(a47,_,ZP):=t47;let(a48,_,F48):=t48;let(a49,_,F49):=t49;let(a50,i50,_,F50):=t50;let(a51,i51,_,Zz):=t51;let(a52,_,F52):=t52;let(a53,_,F53):=t53;let(a54,_,ZV):=t54;let(a55,i55,_,F55):=t55;let(a56,i56,_,F56):=t56;let(a57,_,F57):=t57;let(a58,_,Z2):=t58;let(a59,_,Y3):=t59;let(a60,_,F60):=t60;let(a61,_,Zx):=t61;let(a62,_,F62):=t62;let(a63,_,F63):=t63;let(a64,_,F64):=t64;let(a65,_,Z_):=t65;let(a66,_,Z7):=t66;let(a67,_,F67):=t67;let(a68,_,F68):=t68;let(a69,_,Zd):=t69;let(a70,dL,F70):=t70;let e:=hfa.symm.trans (mg_of X G a70);cases e;let zz:=mg_of X G z_;let wq:=mg_of X G wK;let wI:=mg_of X G v9;let mQ:=mg_of X G mM;let bu:=mg_none_of X G W9;let tW:=mg_none_of X G V7;let bj:=mg_none_of X G yQ;let xc:=mg_none_of X G Vi;let Ac:=mg_none_of X G Ts;let mG:=mg_none_of X G N0;let gR:=mg_none_of X G Tv;let bX:=mg_none_of X G PD;let fq:=mg_none_of X G A1;let FC:=mg_none_of X G VH;let CB:=mg_none_of X G Va;let BR:=mg_none_of X G Vx;let xu:=mg_none_of X G XA;let lU:=mg_none_of X G Rf;let G9:=mg_none_of X G Wk;let E:Ev K mg w Cm:={bu:=bu,tW:=tW,bj:=bj,xc:=xc,Ac:=Ac,mG:=mG,gR:=gR,bX:=bX,fq:=fq,FC:=FC,CB:=CB,BR:=BR,xu:=xu,lU:=lU,G9:=G9,ib:=Aw BG,eI:=(gs,gF,gz,gG),cW:=z6,gy:=wD,y6:=(_,_,_,_,mg_of X G LJ,Mw,rfl,rfl,gV,.cons (_,rfl) (.cons (_,rfl) .nil)),mV:=(_,_,_,mg_of X G abv,Zm,ZJ,λz y h=>Ri ab2 abg aaz h),rW:=(_,zz),kG:=(_,wq),pA:=(_,wI),iF:=(_,mQ)};show(dL,λs v=>by let(_,_,_,_,_,_,_,_,_,rfl,_):=F70.ex;show .of_eq rfl,λbase _ _=>?_);let mc:=@av.mk l.prog w K mg base;let cE:=(M7 F1 E)&&&(F1, a1,cQ λ_ _=>rfl);let aE:=(vk F2 E)&&&(F2, a2,gK λ_=>rfl);let a_:=(Al F3 E)&&&(F3, a3,cQ λ_ _=>rfl);let ky:=(wd F4 E aE a_)&&&(F4, a4,cQ λ_ _=>rfl);let jR:=(Hq F5 E a_)&&&(F5, a5,cQ λ_ _=>rfl);let fi:=(yY F6 E)&&&(F6, a6,cQ λ_ _=>rfl);let i7:=(yE F7 E aE fi)&&&(F7, a7,mS λ_ _ _ _=>rfl);let nV:=(BY F8 E jR a_)&&&(F8, a8,mS λ_ _ _ _=>rfl);let nK:=(Ba F9 E cE aE ky jR i7 nV)&&&(F9, a9,gK λ_=>rfl);let l7:=(yu Zi E)&&&(Zi, YG,gK λ_=>rfl);let h_:=(ED F11 E)&&&(F11, a11,gK λ_=>rfl);let nF:=(A' F12 E h_)&&&(F12, a12,cQ λ_ _=>rfl);let i_:=(zP ZD E nF)&&&(ZD, a13,cQ λ_ _=>rfl);let b7:=(qL F14 E)&&&(F14, a14,cQ λ_ _=>rfl);let cI:=(sx F15 E b7)&&&(F15, a15,gK λ_=>rfl);let jx:=(uY Y4 E cI)&&&(Y4, a16,gK λ_=>rfl);let p7:=(Ey YQ E h_ i_ jx)&&&(YQ, a17,cQ λ_ _=>rfl);let mh:=(yH F18 E)&&&(F18, a18,gK λ_=>rfl);let lN:Ua l.prog w K mg base _ "Floor" Cm _ _ _ _:=(yx F19 E l7 p7 mh,(F19.binds λ_ _ _ _ _ _=>fQ λ_ _ _=>rfl),(Pe,a19,i19,OB),mg_of X G P6);let qu:=(Fb ZM E)&&&(ZM, a20,gK λ_=>rfl);let hX:=(Eo F21 E cE aE fi)&&&(F21, a21,mS λ_ _ _ _=>rfl);let bw:dU l.prog w K mg base _ Cm "size" _ _ _ _:=(y_ F22 E)|||(F22, a22,i22,gK λ_=>rfl);let Τ:dU l.prog w K mg base _ Cm "kind" _ _ _ _:=(yG F23 E)|||(F23, a23,i23,cQ λ_ _=>rfl);let nB:=(Bt Ze E bw Τ)&&&(Ze, a24,cQ λ_ _=>rfl);let fm:=(zj F25 E nB)&&&(F25, a25,cQ λ_ _=>rfl);let aW:dU l.prog w K mg base _ Cm "doors" _ _ _ _:=(we F26 E Τ)|||(F26, a26,i26,cQ λ_ _=>rfl);let qj:=(EJ YR E aW)&&&(YR, a27,fQ λ_ _ _=>rfl);let hW:=(ER F28 E bw Τ qj)&&&(F28, a28,cQ λ_ _=>rfl);let qE:=(E5 Zs E fm hW)&&&(Zs, a29,fQ λ_ _ _=>rfl);let jk:=(uk Y0 E)&&&(Y0, a30,gK λ_=>rfl);let iG:=(r_ F31 E)&&&(F31, a31,fQ λ_ _ _=>rfl);let kL:=(wb F32 E)&&&(F32, a32,fQ λ_ _ _=>rfl);let gu:=(tE F33 E)&&&(F33, a33,mS λ_ _ _ _=>rfl);let qV:=(Dj F34 E jk iG kL gu)&&&(F34, a34,cQ λ_ _=>rfl);let bN:=(CC ZZ E b7)&&&(ZZ, a35,cQ λ_ _=>rfl);let lG:=(zt YY E bN)&&&(YY, a36,mS λ_ _ _ _=>rfl);let nC:=(BZ F37 E qV lG)&&&(F37, a37,gK λ_=>rfl);let yA:=(KC YX E bN)&&&(YX, a38,cQ λ_ _=>rfl);let hJ:=(MK F39 E bN)&&&(F39, a39,cQ λ_ _=>rfl);let oa:=(B8 F40 E cI)&&&(F40, a40,gK λ_=>rfl);let pj:=(IC Zg E bw yA hJ oa)&&&(Zg, a41,Q1 λ_ _ _ _ _=>rfl);let gc:dU l.prog w K mg base _ Cm "pay" _ _ _ _:=(CH YW E Τ)|||(YW, a42,i42,cQ λ_ _=>rfl);let hG:dU l.prog w K mg base _ Cm "share" _ _ _ _:=(wa F43 E)|||(F43, a43,i43,gK λ_=>rfl);let og:=(Bx Zr E aW Τ)&&&(Zr, a44,fQ λ_ _ _=>rfl);let rz:=(N7 ZY E bN)&&&(ZY, a45,cQ λ_ _=>rfl);let h9:=(Ew Zy E rz hJ)&&&(Zy, a46,cQ λ_ _=>rfl);let zf:=(MG ZP E Τ pj gc hG og h9)&&&(ZP, a47,fQ λ_ _ _=>rfl);let oE:=(Cq F48 E nC bw zf)&&&(F48, a48,cQ λ_ _=>rfl);let eR:=(q_ F49 E oE)&&&(F49, a49,fQ λ_ _ _=>rfl);let kQ:dU l.prog w K mg base _ Cm "shown" _ _ _ _:=(wk F50 E rz hJ)|||(F50, a50,i50,mS λ_ _ _ _=>rfl);let bx:dU l.prog w K mg base _ Cm "all_shown" _ _ _ _:=(qQ Zz E aW kQ)|||(Zz, a51,i51,fQ λ_ _ _=>rfl);let mB:=(J9 F52 E)&&&(F52, a52,cQ λ_ _=>rfl);let oG:=(CL F53 E mB)&&&(F53, a53,gK λ_=>rfl);let Ax:=(KN ZV E mB)&&&(ZV, a54,gK λ_=>rfl);let lP:dU l.prog w K mg base _ Cm "look" _ _ _ _:=(Aj F55 E Τ gc h9 bx aW oG Ax)|||(F55, a55,i55,fQ λ_ _ _=>rfl);let lO:dU l.prog w K mg base _ Cm "best" _ _ _ _:=(yh F56 E Τ lP bx)|||(F56, a56,i56,fQ λ_ _ _=>rfl);let cw:=(tU F57 E lO)&&&(F57, a57,fQ λ_ _ _=>rfl);let qy:=(D0 Z2 E hW fm eR cw)&&&(Z2, a58,fQ λ_ _ _=>rfl);let Kn:=Iz Y3 E (P:=l.prog) (base:=base) qE qy cw
 let gm:N1 l.prog w K mg base _ "mended" _ _ [] _ _:=(Kn,([],[],Y3.binds (λ_ _ _ _ _ _ us hl=>by
  obtain⟨a0,a1,a2,rfl⟩:∃a0 a1 a2,us=[a0,a1,a2]:=fQ (P:=λus=>∃a0 a1 a2,us=[a0,a1,a2]) (λa0 a1 a2=>(a0,a1,a2,rfl)) us (by simpa using hl)
  show(_,rfl,rfl)),.nil,λ_ _=>rfl),mg_of X G a59,Y3.kp)
 let ni:=(AN F60 E)&&&(F60, a60,fQ λ_ _ _=>rfl);let mH:=(Eb Zx E)&&&(Zx, a61,cQ λ_ _=>rfl);let uX:=(Jk F62 E ni mH)&&&(F62, a62,mS λ_ _ _ _=>rfl);let kJ:=(Bj F63 E uX)&&&(F63, a63,mS λ_ _ _ _=>rfl);let dZ:=(AL F64 E)&&&(F64, a64,gK λ_=>rfl);let cz:=(uu Z_ E dZ)&&&(Z_, a65,fQ λ_ _ _=>rfl);let gf:=(EZ Z7 E kJ cz)&&&(Z7, a66,mS λ_ _ _ _=>rfl);let kK:=(Bb F67 E dZ a_)&&&(F67, a67,cQ λ_ _=>rfl);let bL:=(qN F68 E kK cz)&&&(F68, a68,fQ λ_ _ _=>rfl);let kS:=(wy Zd E gm hX gf bL)&&&(Zd, a69,Vr λ_ _ _ _ _ _=>rfl);show SA (Ul F70 E nK lN qu cE hX gm gf bL kS)
def walk{l:PySem.W.OpenLaw}{q:Program}{YP:World->Heap->Prop}{d:DefRec}{K:Params->fI}(hn:l.most=!63)(W5:d.params.defaults=[])
  (hY:∀(w:World) (h:Heap),YP w h->(K w.params).In h)
  (F:∀(w:World) (mg:Str->Option Value) (fa:Addr) (h:Heap),(K w.params).In h->h.Ns mainGlobals mg->mg d.name=!(.ref fa)->
   ∃fd:FuncData,(∀(s:Shared) (u:Value),BindsTo s fd ([u],[]) [("_law_script", u)])/\∀base:Heap,(K w.params).In base->base.Ns mainGlobals mg->aq l.prog w (K w.params) mg base X6 13 fa fd ["_law_script"] (Cz (K w.params))):
  PySem.W.WalkO q loose XP YP l.row.toRowW d [] (λf vs=>PySem.call f vs):=
 L2.Az (n:=63) (k:=13) (x:="_law_script") (CX:=λ_=>X6) (sp:=λw=>Cz (K w.params)) hn @_ W5 (rfl,@_,@_) hY F (λ_ _ a ns hl _ hS=>(a,ns,rfl,hS,hl,λ_=>rfl)) λ_ _ _ _ _ z=>z
end
end Pg
end
open PySem PySem.W PyProof.Rows
set_option maxRecDepth 100000 in
set_option maxHeartbeats 0 in
theorem PySem.Challenge.cw_chanceduel_k32_worths_of_rounds_holds : PySem.Challenge.rw_chanceduel_k32_worths_of_rounds.Holds := by
 w_on;o_law
 refine holds_open (q:=Hd.q) (loose:=["TURNED_KINDS","mended"]) (Xt:=Hd.Xt) (XP:=XL Hd.q [])
  (Yf:=Hd.H.obs) (Ya:=Hd.H.val) (YP:=Hd.H.says) Hd.left Hd.H.of Hd.H.keeps
  (λs e=>xl_of s (Bool.and_eq_true_iff.mp e).1) XL.keeps (by rfl) (by rfl) (by rfl)
  (λs e=>recFacts_of (Bool.and_eq_true_iff.mp e).2) (by rfl) (by assumption) (by decide+kernel)
  ⟨rfl,rfl,rfl,rfl,rfl,by decide+kernel⟩ ?hw ?hc
 (case hw=>w_witness2)
 refine Pg.walk (l:=PySem.Challenge.rw_chanceduel_k32_worths_of_rounds) rfl rfl (fun w h Y=>PySem.W.kIn_of Y) ?F
 case F=>
  k_fill
  intro w mg fa h KX G PC
  refine' Pg.all_mk KX G PC ?_ ?_ ?_ ?_ ?_ ?_ ?_ ?_ ?_ ?_ ?_ ?_ ?_ ?_ ?_ ?_ ?_ ?_ ?_ ?_ ?_ ?_ ?_ ?_ ?_ ?_ ?_ ?_ ?_ ?_ ?_ ?_ ?_ ?_ ?_ ?_ ?_ ?_ ?_ ?_ ?_ ?_ ?_ ?_ ?_ ?_ ?_ ?_ ?_ ?_ ?_ ?_ ?_ ?_ ?_ ?_ ?_ ?_ ?_ ?_ ?_ ?_ ?_ ?_ ?_ ?_ ?_ ?_ ?_ ?_ ?_ ?_ ?_ ?_ ?_ ?_ ?_ ?_ ?_ ?_ ?_ ?_ ?_ ?_ ?_ ?_ ?_ ?_ ?_ ?_ ?_ ?_ ?_ ?_ ?_ ?_ ?_ ?_ ?_ ?_ ?_ ?_ ?_ ?_ ?_ ?_ ?_
  all_goals try first| (refine' Pg.FT.of ?_ ?_ ?_ ?_ <;> try k_is)| (refine' Pg.FM.of ?_ ?_ ?_ ?_ ?_ <;> try k_is)| (refine' Pg.FV.of ?_ ?_ ?_ ?_ ?_ <;> try k_is)| k_is| k_exc| kernel_rfl
  all_goals try exact⟨⟨_,_,rfl,rfl⟩,⟨_,_,rfl,rfl⟩,⟨_,_,rfl,rfl⟩,trivial⟩
